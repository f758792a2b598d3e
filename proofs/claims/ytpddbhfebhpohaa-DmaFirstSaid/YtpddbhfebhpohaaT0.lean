import Derived.Test.YtpddbhfebhpohaaS
set_option linter.unusedVariables false
set_option linter.unusedSimpArgs false
namespace Go.Proofs.Ytpddbhfebhpohaa
open Go Go.Proofs Go.Proofs.Ytpddbhfebhpohaa.Ev Go.Proofs.Ytpddbhfebhpohaa.Ev.Ho
set_option maxRecDepth 100000
theorem wd0_p (E : World) (S : SW) (z : PX)  :
    (hoPr false uMs S (.c (.r .i64 2 4)) (fun z y => y.n 90000 = wd 0 (z.n 4)) z (fnTree (pe E) (orcA E) (tabL fns) 20000 Try.f28 [.c (.p 0 0)] (mkM z S uMs 0))) =
    (((bits BinOp.and IntKind.u16 (z.n 4) (1024 : Int) != (0 : Int)) = true → (((2 : Int) ≤ (4 : Int) ∧ (4 : Int) ≤ (4 : Int)) ∧ True) ∧ mkM z S uMs (0 : Nat) = mkM z S uMs (0
      : Nat) ∧ (4 : Int) = wd (0 : Int) (z.n 4)) ∧ ((bits BinOp.and IntKind.u16 (z.n 4) (1024 : Int) != (0 : Int)) = false → ((wo (z.n 4)) = true → ((w3 (z.n 4) 4096 == (3 :
      Int)) = true → (((2 : Int) ≤ (2 : Int) ∧ (2 : Int) ≤ (4 : Int)) ∧ True) ∧ mkM z S uMs (0 : Nat) = mkM z S uMs (0 : Nat) ∧ (2 : Int) = wd (0 : Int) (z.n 4)) ∧ ((w3 (z.n 4)
      4096 == (3 : Int)) = false → (((2 : Int) ≤ (2 : Int) ∧ (2 : Int) ≤ (4 : Int)) ∧ True) ∧ mkM z S uMs (0 : Nat) = mkM z S uMs (0 : Nat) ∧ (2 : Int) = wd (0 : Int) (z.n 4)))
      ∧ ((wo (z.n 4)) = false → (((2 : Int) ≤ (2 : Int) ∧ (2 : Int) ≤ (4 : Int)) ∧ True) ∧ mkM z S uMs (0 : Nat) = mkM z S uMs (0 : Nat) ∧ (2 : Int) = wd (0 : Int) (z.n 4)))) := by kernel_rfl
theorem wd0_c (E : World) (S : SW)  (z : PX) (hz : rgM z uMs 0) (hp : (fun _ => True) z) : HR (pe E) 28 [.c (.p 0 0)] uMs S (.c (.r .i64 2 4)) (fun z y => y.n 90000 = wd 0 (z.n 4)) z := by
  refine HR.mk false (by rfl) (by rfl) (fnTree_sound (P := pe E) orcA_ok tab_ok tab_sz mixed 20000 Try.func28 (by decide) [.c (.p 0 0)] _) ⟨?_⟩
  rw [wd0_p]
  obtain ⟨h1, h2, h3, h4, h5, h6, h10, h12, h13, h14, h15, h16, h17, h21, h23, h24, h25, h26, h27, h28, h32, h34, h35, h36, h37, h38, h39, h43, _⟩ := rg_u hz
  have o1 := and15 _ h4.1 h4.2
  have o2 := tmu (z.n 4)
  have o3 := and10 _ h4.1 h4.2
  simp only [fw, lw, vsr, px, w3, wo, ro, r3, o1, o2, o3]
  clear o1 o2 o3
  (repeat' (first | exact trivial | with_reducible rfl | assumption | apply And.intro | intro h)) <;> first | omega | (simp_all [wd, fds, TU, TR, cu0, cu1, cu2, cu3, cr0, cr1, cr2, cr3]; done)
theorem ad0_p (E : World) (S : SW) (z : PX) (w : Int) :
    (hoP false uMs S (.t []) (fun z y => (U4.mk (Ch.mk (y.n 1) (y.n 2) (y.n 3) (y.n 4) (y.n 5) (y.n 6) (y.n 7) (y.b 8) (y.b 9) (y.n 10)) (Ch.mk (y.n 12) (y.n 13) (y.n 14) (y.n 15) (y.n 16) (y.n 17) (y.n 18) (y.b 19) (y.b 20) (y.n 21)) (Ch.mk (y.n 23) (y.n 24) (y.n 25) (y.n 26) (y.n 27) (y.n 28) (y.n 29) (y.b 30) (y.b 31) (y.n 32)) (Ch.mk (y.n 34) (y.n 35) (y.n 36) (y.n 37) (y.n 38) (y.n 39) (y.n 40) (y.b 41) (y.b 42) (y.n 43))) = setC (U4.mk (Ch.mk (z.n 1) (z.n 2) (z.n 3) (z.n 4) (z.n 5) (z.n 6) (z.n 7) (z.b 8) (z.b 9) (z.n 10)) (Ch.mk (z.n 12) (z.n 13) (z.n 14) (z.n 15) (z.n 16) (z.n 17) (z.n 18) (z.b 19) (z.b 20) (z.n 21)) (Ch.mk (z.n 23) (z.n 24) (z.n 25) (z.n 26) (z.n 27) (z.n 28) (z.n 29) (z.b 30) (z.b 31) (z.n 32)) (Ch.mk (z.n 34) (z.n 35) (z.n 36) (z.n 37) (z.n 38) (z.n 39) (z.n 40) (z.b 41) (z.b 42) (z.n 43))) 0 (advC w 0)) z (fnTree (pe E) (orcA E) (tabL fns) 20000 Try.f30 [.c (.p 0 0), .c (.i false .i64 w)] (mkM z S uMs 0))) =
    (((w3 (z.n 4) 128 == (1 : Int)) = true → ((wo (z.n 4)) = true → ((w3 (z.n 4) 4096 == (3 : Int)) = true → ((w3 (z.n 4) 32 == (1 : Int)) = true → True ∧ ((62 : Nat) = (62 :
      Nat) ∧ (tp4 z (q32 (IntKind.u32.wrap (z.n 5 - IntKind.u32.wrap w)) ∧ q32 (IntKind.u32.wrap (z.n 6 - IntKind.u32.wrap w)) ∧ tt6 z)) ∧ S = S) ∧ U4.mk (Ch.mk (z.n 1) (z.n 2)
      (z.n 3) (z.n 4) (IntKind.u32.wrap (z.n 5 - IntKind.u32.wrap w)) (IntKind.u32.wrap (z.n 6 - IntKind.u32.wrap w)) (z.n 7) (z.b 8) (z.b 9) (z.n 10)) (cu1 z) (cu2 z) (cu3 z) =
      setC (TU z) (0 : Int) (advC w (0 : Int))) ∧ ((w3 (z.n 4) 32 == (1 : Int)) = false → ((w3 (z.n 4) 32 == (2 : Int)) = true → True ∧ ((62 : Nat) = (62 : Nat) ∧ (tp4 z (q32
      (IntKind.u32.wrap (z.n 5 - IntKind.u32.wrap w)) ∧ tt5 z)) ∧ S = S) ∧ U4.mk (Ch.mk (z.n 1) (z.n 2) (z.n 3) (z.n 4) (IntKind.u32.wrap (z.n 5 - IntKind.u32.wrap w)) (z.n 6)
      (z.n 7) (z.b 8) (z.b 9) (z.n 10)) (cu1 z) (cu2 z) (cu3 z) = setC (TU z) (0 : Int) (advC w (0 : Int))) ∧ ((w3 (z.n 4) 32 == (2 : Int)) = false → True ∧ ((62 : Nat) = (62 :
      Nat) ∧ (tp4 z (q32 (IntKind.u32.wrap (z.n 5 - IntKind.u32.wrap w)) ∧ q32 (IntKind.u32.wrap (z.n 6 + IntKind.u32.wrap w)) ∧ tt6 z)) ∧ S = S) ∧ U4.mk (Ch.mk (z.n 1) (z.n 2)
      (z.n 3) (z.n 4) (IntKind.u32.wrap (z.n 5 - IntKind.u32.wrap w)) (IntKind.u32.wrap (z.n 6 + IntKind.u32.wrap w)) (z.n 7) (z.b 8) (z.b 9) (z.n 10)) (cu1 z) (cu2 z) (cu3 z) =
      setC (TU z) (0 : Int) (advC w (0 : Int))))) ∧ ((w3 (z.n 4) 4096 == (3 : Int)) = false → ((w3 (z.n 4) 32 == (1 : Int)) = true → True ∧ ((62 : Nat) = (62 : Nat) ∧ (tp4 z
      (q32 (IntKind.u32.wrap (z.n 5 - IntKind.u32.wrap w)) ∧ q32 (IntKind.u32.wrap (z.n 6 - IntKind.u32.wrap w)) ∧ tt6 z)) ∧ S = S) ∧ U4.mk (Ch.mk (z.n 1) (z.n 2) (z.n 3) (z.n
      4) (IntKind.u32.wrap (z.n 5 - IntKind.u32.wrap w)) (IntKind.u32.wrap (z.n 6 - IntKind.u32.wrap w)) (z.n 7) (z.b 8) (z.b 9) (z.n 10)) (cu1 z) (cu2 z) (cu3 z) = setC (TU z)
      (0 : Int) (advC w (0 : Int))) ∧ ((w3 (z.n 4) 32 == (1 : Int)) = false → ((w3 (z.n 4) 32 == (2 : Int)) = true → True ∧ ((62 : Nat) = (62 : Nat) ∧ (tp4 z (q32
      (IntKind.u32.wrap (z.n 5 - IntKind.u32.wrap w)) ∧ tt5 z)) ∧ S = S) ∧ U4.mk (Ch.mk (z.n 1) (z.n 2) (z.n 3) (z.n 4) (IntKind.u32.wrap (z.n 5 - IntKind.u32.wrap w)) (z.n 6)
      (z.n 7) (z.b 8) (z.b 9) (z.n 10)) (cu1 z) (cu2 z) (cu3 z) = setC (TU z) (0 : Int) (advC w (0 : Int))) ∧ ((w3 (z.n 4) 32 == (2 : Int)) = false → True ∧ ((62 : Nat) = (62 :
      Nat) ∧ (tp4 z (q32 (IntKind.u32.wrap (z.n 5 - IntKind.u32.wrap w)) ∧ q32 (IntKind.u32.wrap (z.n 6 + IntKind.u32.wrap w)) ∧ tt6 z)) ∧ S = S) ∧ U4.mk (Ch.mk (z.n 1) (z.n 2)
      (z.n 3) (z.n 4) (IntKind.u32.wrap (z.n 5 - IntKind.u32.wrap w)) (IntKind.u32.wrap (z.n 6 + IntKind.u32.wrap w)) (z.n 7) (z.b 8) (z.b 9) (z.n 10)) (cu1 z) (cu2 z) (cu3 z) =
      setC (TU z) (0 : Int) (advC w (0 : Int)))))) ∧ ((wo (z.n 4)) = false → ((w3 (z.n 4) 32 == (1 : Int)) = true → True ∧ ((62 : Nat) = (62 : Nat) ∧ (tp4 z (q32
      (IntKind.u32.wrap (z.n 5 - IntKind.u32.wrap w)) ∧ q32 (IntKind.u32.wrap (z.n 6 - IntKind.u32.wrap w)) ∧ tt6 z)) ∧ S = S) ∧ U4.mk (Ch.mk (z.n 1) (z.n 2) (z.n 3) (z.n 4)
      (IntKind.u32.wrap (z.n 5 - IntKind.u32.wrap w)) (IntKind.u32.wrap (z.n 6 - IntKind.u32.wrap w)) (z.n 7) (z.b 8) (z.b 9) (z.n 10)) (cu1 z) (cu2 z) (cu3 z) = setC (TU z) (0
      : Int) (advC w (0 : Int))) ∧ ((w3 (z.n 4) 32 == (1 : Int)) = false → ((w3 (z.n 4) 32 == (2 : Int)) = true → True ∧ ((62 : Nat) = (62 : Nat) ∧ (tp4 z (q32 (IntKind.u32.wrap
      (z.n 5 - IntKind.u32.wrap w)) ∧ tt5 z)) ∧ S = S) ∧ U4.mk (Ch.mk (z.n 1) (z.n 2) (z.n 3) (z.n 4) (IntKind.u32.wrap (z.n 5 - IntKind.u32.wrap w)) (z.n 6) (z.n 7) (z.b 8)
      (z.b 9) (z.n 10)) (cu1 z) (cu2 z) (cu3 z) = setC (TU z) (0 : Int) (advC w (0 : Int))) ∧ ((w3 (z.n 4) 32 == (2 : Int)) = false → True ∧ ((62 : Nat) = (62 : Nat) ∧ (tp4 z
      (q32 (IntKind.u32.wrap (z.n 5 - IntKind.u32.wrap w)) ∧ q32 (IntKind.u32.wrap (z.n 6 + IntKind.u32.wrap w)) ∧ tt6 z)) ∧ S = S) ∧ U4.mk (Ch.mk (z.n 1) (z.n 2) (z.n 3) (z.n
      4) (IntKind.u32.wrap (z.n 5 - IntKind.u32.wrap w)) (IntKind.u32.wrap (z.n 6 + IntKind.u32.wrap w)) (z.n 7) (z.b 8) (z.b 9) (z.n 10)) (cu1 z) (cu2 z) (cu3 z) = setC (TU z)
      (0 : Int) (advC w (0 : Int)))))) ∧ ((w3 (z.n 4) 128 == (1 : Int)) = false → ((w3 (z.n 4) 128 == (2 : Int)) = true → ((wo (z.n 4)) = true → ((w3 (z.n 4) 4096 == (3 : Int))
      = true → ((w3 (z.n 4) 32 == (1 : Int)) = true → True ∧ ((62 : Nat) = (62 : Nat) ∧ (tp5 z (q32 (IntKind.u32.wrap (z.n 6 - IntKind.u32.wrap w)) ∧ tt6 z)) ∧ S = S) ∧ U4.mk
      (Ch.mk (z.n 1) (z.n 2) (z.n 3) (z.n 4) (z.n 5) (IntKind.u32.wrap (z.n 6 - IntKind.u32.wrap w)) (z.n 7) (z.b 8) (z.b 9) (z.n 10)) (cu1 z) (cu2 z) (cu3 z) = setC (TU z) (0 :
      Int) (advC w (0 : Int))) ∧ ((w3 (z.n 4) 32 == (1 : Int)) = false → ((w3 (z.n 4) 32 == (2 : Int)) = true → True ∧ ((62 : Nat) = (62 : Nat) ∧ (RGu z) ∧ S = S) ∧ TU z = setC
      (TU z) (0 : Int) (advC w (0 : Int))) ∧ ((w3 (z.n 4) 32 == (2 : Int)) = false → True ∧ ((62 : Nat) = (62 : Nat) ∧ (tp5 z (q32 (IntKind.u32.wrap (z.n 6 + IntKind.u32.wrap
      w)) ∧ tt6 z)) ∧ S = S) ∧ U4.mk (Ch.mk (z.n 1) (z.n 2) (z.n 3) (z.n 4) (z.n 5) (IntKind.u32.wrap (z.n 6 + IntKind.u32.wrap w)) (z.n 7) (z.b 8) (z.b 9) (z.n 10)) (cu1 z)
      (cu2 z) (cu3 z) = setC (TU z) (0 : Int) (advC w (0 : Int))))) ∧ ((w3 (z.n 4) 4096 == (3 : Int)) = false → ((w3 (z.n 4) 32 == (1 : Int)) = true → True ∧ ((62 : Nat) = (62 :
      Nat) ∧ (tp5 z (q32 (IntKind.u32.wrap (z.n 6 - IntKind.u32.wrap w)) ∧ tt6 z)) ∧ S = S) ∧ U4.mk (Ch.mk (z.n 1) (z.n 2) (z.n 3) (z.n 4) (z.n 5) (IntKind.u32.wrap (z.n 6 -
      IntKind.u32.wrap w)) (z.n 7) (z.b 8) (z.b 9) (z.n 10)) (cu1 z) (cu2 z) (cu3 z) = setC (TU z) (0 : Int) (advC w (0 : Int))) ∧ ((w3 (z.n 4) 32 == (1 : Int)) = false → ((w3
      (z.n 4) 32 == (2 : Int)) = true → True ∧ ((62 : Nat) = (62 : Nat) ∧ (RGu z) ∧ S = S) ∧ TU z = setC (TU z) (0 : Int) (advC w (0 : Int))) ∧ ((w3 (z.n 4) 32 == (2 : Int)) =
      false → True ∧ ((62 : Nat) = (62 : Nat) ∧ (tp5 z (q32 (IntKind.u32.wrap (z.n 6 + IntKind.u32.wrap w)) ∧ tt6 z)) ∧ S = S) ∧ U4.mk (Ch.mk (z.n 1) (z.n 2) (z.n 3) (z.n 4)
      (z.n 5) (IntKind.u32.wrap (z.n 6 + IntKind.u32.wrap w)) (z.n 7) (z.b 8) (z.b 9) (z.n 10)) (cu1 z) (cu2 z) (cu3 z) = setC (TU z) (0 : Int) (advC w (0 : Int)))))) ∧ ((wo
      (z.n 4)) = false → ((w3 (z.n 4) 32 == (1 : Int)) = true → True ∧ ((62 : Nat) = (62 : Nat) ∧ (tp5 z (q32 (IntKind.u32.wrap (z.n 6 - IntKind.u32.wrap w)) ∧ tt6 z)) ∧ S = S)
      ∧ U4.mk (Ch.mk (z.n 1) (z.n 2) (z.n 3) (z.n 4) (z.n 5) (IntKind.u32.wrap (z.n 6 - IntKind.u32.wrap w)) (z.n 7) (z.b 8) (z.b 9) (z.n 10)) (cu1 z) (cu2 z) (cu3 z) = setC (TU
      z) (0 : Int) (advC w (0 : Int))) ∧ ((w3 (z.n 4) 32 == (1 : Int)) = false → ((w3 (z.n 4) 32 == (2 : Int)) = true → True ∧ ((62 : Nat) = (62 : Nat) ∧ (RGu z) ∧ S = S) ∧ TU z
      = setC (TU z) (0 : Int) (advC w (0 : Int))) ∧ ((w3 (z.n 4) 32 == (2 : Int)) = false → True ∧ ((62 : Nat) = (62 : Nat) ∧ (tp5 z (q32 (IntKind.u32.wrap (z.n 6 +
      IntKind.u32.wrap w)) ∧ tt6 z)) ∧ S = S) ∧ U4.mk (Ch.mk (z.n 1) (z.n 2) (z.n 3) (z.n 4) (z.n 5) (IntKind.u32.wrap (z.n 6 + IntKind.u32.wrap w)) (z.n 7) (z.b 8) (z.b 9) (z.n
      10)) (cu1 z) (cu2 z) (cu3 z) = setC (TU z) (0 : Int) (advC w (0 : Int)))))) ∧ ((w3 (z.n 4) 128 == (2 : Int)) = false → ((wo (z.n 4)) = true → ((w3 (z.n 4) 4096 == (3 :
      Int)) = true → ((w3 (z.n 4) 32 == (1 : Int)) = true → True ∧ ((62 : Nat) = (62 : Nat) ∧ (tp4 z (q32 (IntKind.u32.wrap (z.n 5 + IntKind.u32.wrap w)) ∧ q32 (IntKind.u32.wrap
      (z.n 6 - IntKind.u32.wrap w)) ∧ tt6 z)) ∧ S = S) ∧ U4.mk (Ch.mk (z.n 1) (z.n 2) (z.n 3) (z.n 4) (IntKind.u32.wrap (z.n 5 + IntKind.u32.wrap w)) (IntKind.u32.wrap (z.n 6 -
      IntKind.u32.wrap w)) (z.n 7) (z.b 8) (z.b 9) (z.n 10)) (cu1 z) (cu2 z) (cu3 z) = setC (TU z) (0 : Int) (advC w (0 : Int))) ∧ ((w3 (z.n 4) 32 == (1 : Int)) = false → ((w3
      (z.n 4) 32 == (2 : Int)) = true → True ∧ ((62 : Nat) = (62 : Nat) ∧ (tp4 z (q32 (IntKind.u32.wrap (z.n 5 + IntKind.u32.wrap w)) ∧ tt5 z)) ∧ S = S) ∧ U4.mk (Ch.mk (z.n 1)
      (z.n 2) (z.n 3) (z.n 4) (IntKind.u32.wrap (z.n 5 + IntKind.u32.wrap w)) (z.n 6) (z.n 7) (z.b 8) (z.b 9) (z.n 10)) (cu1 z) (cu2 z) (cu3 z) = setC (TU z) (0 : Int) (advC w
      (0 : Int))) ∧ ((w3 (z.n 4) 32 == (2 : Int)) = false → True ∧ ((62 : Nat) = (62 : Nat) ∧ (tp4 z (q32 (IntKind.u32.wrap (z.n 5 + IntKind.u32.wrap w)) ∧ q32 (IntKind.u32.wrap
      (z.n 6 + IntKind.u32.wrap w)) ∧ tt6 z)) ∧ S = S) ∧ U4.mk (Ch.mk (z.n 1) (z.n 2) (z.n 3) (z.n 4) (IntKind.u32.wrap (z.n 5 + IntKind.u32.wrap w)) (IntKind.u32.wrap (z.n 6 +
      IntKind.u32.wrap w)) (z.n 7) (z.b 8) (z.b 9) (z.n 10)) (cu1 z) (cu2 z) (cu3 z) = setC (TU z) (0 : Int) (advC w (0 : Int))))) ∧ ((w3 (z.n 4) 4096 == (3 : Int)) = false →
      ((w3 (z.n 4) 32 == (1 : Int)) = true → True ∧ ((62 : Nat) = (62 : Nat) ∧ (tp4 z (q32 (IntKind.u32.wrap (z.n 5 + IntKind.u32.wrap w)) ∧ q32 (IntKind.u32.wrap (z.n 6 -
      IntKind.u32.wrap w)) ∧ tt6 z)) ∧ S = S) ∧ U4.mk (Ch.mk (z.n 1) (z.n 2) (z.n 3) (z.n 4) (IntKind.u32.wrap (z.n 5 + IntKind.u32.wrap w)) (IntKind.u32.wrap (z.n 6 -
      IntKind.u32.wrap w)) (z.n 7) (z.b 8) (z.b 9) (z.n 10)) (cu1 z) (cu2 z) (cu3 z) = setC (TU z) (0 : Int) (advC w (0 : Int))) ∧ ((w3 (z.n 4) 32 == (1 : Int)) = false → ((w3
      (z.n 4) 32 == (2 : Int)) = true → True ∧ ((62 : Nat) = (62 : Nat) ∧ (tp4 z (q32 (IntKind.u32.wrap (z.n 5 + IntKind.u32.wrap w)) ∧ tt5 z)) ∧ S = S) ∧ U4.mk (Ch.mk (z.n 1)
      (z.n 2) (z.n 3) (z.n 4) (IntKind.u32.wrap (z.n 5 + IntKind.u32.wrap w)) (z.n 6) (z.n 7) (z.b 8) (z.b 9) (z.n 10)) (cu1 z) (cu2 z) (cu3 z) = setC (TU z) (0 : Int) (advC w
      (0 : Int))) ∧ ((w3 (z.n 4) 32 == (2 : Int)) = false → True ∧ ((62 : Nat) = (62 : Nat) ∧ (tp4 z (q32 (IntKind.u32.wrap (z.n 5 + IntKind.u32.wrap w)) ∧ q32 (IntKind.u32.wrap
      (z.n 6 + IntKind.u32.wrap w)) ∧ tt6 z)) ∧ S = S) ∧ U4.mk (Ch.mk (z.n 1) (z.n 2) (z.n 3) (z.n 4) (IntKind.u32.wrap (z.n 5 + IntKind.u32.wrap w)) (IntKind.u32.wrap (z.n 6 +
      IntKind.u32.wrap w)) (z.n 7) (z.b 8) (z.b 9) (z.n 10)) (cu1 z) (cu2 z) (cu3 z) = setC (TU z) (0 : Int) (advC w (0 : Int)))))) ∧ ((wo (z.n 4)) = false → ((w3 (z.n 4) 32 ==
      (1 : Int)) = true → True ∧ ((62 : Nat) = (62 : Nat) ∧ (tp4 z (q32 (IntKind.u32.wrap (z.n 5 + IntKind.u32.wrap w)) ∧ q32 (IntKind.u32.wrap (z.n 6 - IntKind.u32.wrap w)) ∧
      tt6 z)) ∧ S = S) ∧ U4.mk (Ch.mk (z.n 1) (z.n 2) (z.n 3) (z.n 4) (IntKind.u32.wrap (z.n 5 + IntKind.u32.wrap w)) (IntKind.u32.wrap (z.n 6 - IntKind.u32.wrap w)) (z.n 7)
      (z.b 8) (z.b 9) (z.n 10)) (cu1 z) (cu2 z) (cu3 z) = setC (TU z) (0 : Int) (advC w (0 : Int))) ∧ ((w3 (z.n 4) 32 == (1 : Int)) = false → ((w3 (z.n 4) 32 == (2 : Int)) =
      true → True ∧ ((62 : Nat) = (62 : Nat) ∧ (tp4 z (q32 (IntKind.u32.wrap (z.n 5 + IntKind.u32.wrap w)) ∧ tt5 z)) ∧ S = S) ∧ U4.mk (Ch.mk (z.n 1) (z.n 2) (z.n 3) (z.n 4)
      (IntKind.u32.wrap (z.n 5 + IntKind.u32.wrap w)) (z.n 6) (z.n 7) (z.b 8) (z.b 9) (z.n 10)) (cu1 z) (cu2 z) (cu3 z) = setC (TU z) (0 : Int) (advC w (0 : Int))) ∧ ((w3 (z.n
      4) 32 == (2 : Int)) = false → True ∧ ((62 : Nat) = (62 : Nat) ∧ (tp4 z (q32 (IntKind.u32.wrap (z.n 5 + IntKind.u32.wrap w)) ∧ q32 (IntKind.u32.wrap (z.n 6 +
      IntKind.u32.wrap w)) ∧ tt6 z)) ∧ S = S) ∧ U4.mk (Ch.mk (z.n 1) (z.n 2) (z.n 3) (z.n 4) (IntKind.u32.wrap (z.n 5 + IntKind.u32.wrap w)) (IntKind.u32.wrap (z.n 6 +
      IntKind.u32.wrap w)) (z.n 7) (z.b 8) (z.b 9) (z.n 10)) (cu1 z) (cu2 z) (cu3 z) = setC (TU z) (0 : Int) (advC w (0 : Int)))))))) := by kernel_rfl
set_option maxHeartbeats 2000000 in
theorem ad0_c (E : World) (S : SW) (w : Int) (z : PX) (hz : rgM z uMs 0) (hp : (fun _ => w = 2 ∨ w = 4) z) : HC (pe E) 30 [.c (.p 0 0), .c (.i false .i64 w)] uMs S (.t []) (fun z y => (U4.mk (Ch.mk (y.n 1) (y.n 2) (y.n 3) (y.n 4) (y.n 5) (y.n 6) (y.n 7) (y.b 8) (y.b 9) (y.n 10)) (Ch.mk (y.n 12) (y.n 13) (y.n 14) (y.n 15) (y.n 16) (y.n 17) (y.n 18) (y.b 19) (y.b 20) (y.n 21)) (Ch.mk (y.n 23) (y.n 24) (y.n 25) (y.n 26) (y.n 27) (y.n 28) (y.n 29) (y.b 30) (y.b 31) (y.n 32)) (Ch.mk (y.n 34) (y.n 35) (y.n 36) (y.n 37) (y.n 38) (y.n 39) (y.n 40) (y.b 41) (y.b 42) (y.n 43))) = setC (U4.mk (Ch.mk (z.n 1) (z.n 2) (z.n 3) (z.n 4) (z.n 5) (z.n 6) (z.n 7) (z.b 8) (z.b 9) (z.n 10)) (Ch.mk (z.n 12) (z.n 13) (z.n 14) (z.n 15) (z.n 16) (z.n 17) (z.n 18) (z.b 19) (z.b 20) (z.n 21)) (Ch.mk (z.n 23) (z.n 24) (z.n 25) (z.n 26) (z.n 27) (z.n 28) (z.n 29) (z.b 30) (z.b 31) (z.n 32)) (Ch.mk (z.n 34) (z.n 35) (z.n 36) (z.n 37) (z.n 38) (z.n 39) (z.n 40) (z.b 41) (z.b 42) (z.n 43))) 0 (advC w 0)) z := by
  refine HC.mk false (by rfl) (by rfl) (by rfl) (by rfl) (fnTree_sound (P := pe E) orcA_ok tab_ok tab_sz mixed 20000 Try.func30 (by decide) [.c (.p 0 0), .c (.i false .i64 w)] _) ⟨?_⟩
  rw [ad0_p]
  obtain ⟨h1, h2, h3, h4, h5, h6, h10, h12, h13, h14, h15, h16, h17, h21, h23, h24, h25, h26, h27, h28, h32, h34, h35, h36, h37, h38, h39, h43, _⟩ := rg_u hz
  have o1 := and15 _ h4.1 h4.2
  have o2 := tmu (z.n 4)
  have o3 := s7 (z.n 4)
  have o4 := s5 (z.n 4)
  have kw : IntKind.u32.wrap w = w := by have hp : w = 2 ∨ w = 4 := hp; rw [wu32]; omega
  simp only [fw, lw, vsr, px, w3, wo, ro, r3, o1, o2, o3, o4, kw]
  clear o1 o2 o3 o4 kw
  (repeat' (first | exact trivial | with_reducible rfl | assumption | exact (wr32 _).1 | exact (wr32 _).2 | apply And.intro | intro h)) <;> first | omega | (simp_all [setC, advC, mov, fds, TU, TR, cu0, cu1, cu2, cu3, cr0, cr1, cr2, cr3]; done)
theorem en0_p (E : World) (S : SW) (z : PX)  :
    (hoP false uMs S (.t []) (fun z y => (U4.mk (Ch.mk (y.n 1) (y.n 2) (y.n 3) (y.n 4) (y.n 5) (y.n 6) (y.n 7) (y.b 8) (y.b 9) (y.n 10)) (Ch.mk (y.n 12) (y.n 13) (y.n 14) (y.n 15) (y.n 16) (y.n 17) (y.n 18) (y.b 19) (y.b 20) (y.n 21)) (Ch.mk (y.n 23) (y.n 24) (y.n 25) (y.n 26) (y.n 27) (y.n 28) (y.n 29) (y.b 30) (y.b 31) (y.n 32)) (Ch.mk (y.n 34) (y.n 35) (y.n 36) (y.n 37) (y.n 38) (y.n 39) (y.n 40) (y.b 41) (y.b 42) (y.n 43))) = setC (U4.mk (Ch.mk (z.n 1) (z.n 2) (z.n 3) (z.n 4) (z.n 5) (z.n 6) (z.n 7) (z.b 8) (z.b 9) (z.n 10)) (Ch.mk (z.n 12) (z.n 13) (z.n 14) (z.n 15) (z.n 16) (z.n 17) (z.n 18) (z.b 19) (z.b 20) (z.n 21)) (Ch.mk (z.n 23) (z.n 24) (z.n 25) (z.n 26) (z.n 27) (z.n 28) (z.n 29) (z.b 30) (z.b 31) (z.n 32)) (Ch.mk (z.n 34) (z.n 35) (z.n 36) (z.n 37) (z.n 38) (z.n 39) (z.n 40) (z.b 41) (z.b 42) (z.n 43))) 0 (endC 0)) z (fnTree (pe E) (orcA E) (tabL fns) 20000 Try.f31 [.c (.p 0 0)] (mkM z S uMs 0))) =
    (((bits BinOp.and IntKind.u16 (z.n 4) (512 : Int) == (0 : Int)) = true → True ∧ ((62 : Nat) = (62 : Nat) ∧ (tp3 z (q16 (bits BinOp.andNot IntKind.u16 (z.n 4) (32768 : Int))
      ∧ tt4 z)) ∧ S = S) ∧ U4.mk (Ch.mk (z.n 1) (z.n 2) (z.n 3) (bits BinOp.andNot IntKind.u16 (z.n 4) (32768 : Int)) (z.n 5) (z.n 6) (z.n 7) false (z.b 9) (z.n 10)) (cu1 z)
      (cu2 z) (cu3 z) = setC (TU z) (0 : Int) (endC (0 : Int))) ∧ ((bits BinOp.and IntKind.u16 (z.n 4) (512 : Int) == (0 : Int)) = false → ((w3 (z.n 4) 4096 == (0 : Int)) = true
      → True ∧ ((62 : Nat) = (62 : Nat) ∧ (tp3 z (q16 (bits BinOp.andNot IntKind.u16 (z.n 4) (32768 : Int)) ∧ tt4 z)) ∧ S = S) ∧ U4.mk (Ch.mk (z.n 1) (z.n 2) (z.n 3) (bits
      BinOp.andNot IntKind.u16 (z.n 4) (32768 : Int)) (z.n 5) (z.n 6) (z.n 7) false (z.b 9) (z.n 10)) (cu1 z) (cu2 z) (cu3 z) = setC (TU z) (0 : Int) (endC (0 : Int))) ∧ ((w3
      (z.n 4) 4096 == (0 : Int)) = false → ((wo (z.n 4)) = true → ((w3 (z.n 4) 4096 == (3 : Int)) = true → ((z.n 3 == (0 : Int)) = true → ((bits BinOp.and IntKind.u16 ((z.n
      4).fdiv (32 : Int)) (3 : Int) == (3 : Int)) = true → True ∧ ((62 : Nat) = (62 : Nat) ∧ (tp5 z (q32 (z.n 2) ∧ tt6 z)) ∧ S = S) ∧ U4.mk (Ch.mk (z.n 1) (z.n 2) (z.n 3) (z.n
      4) (z.n 5) (z.n 2) (16384 : Int) false true (z.n 10)) (cu1 z) (cu2 z) (cu3 z) = setC (TU z) (0 : Int) (endC (0 : Int))) ∧ ((bits BinOp.and IntKind.u16 ((z.n 4).fdiv (32 :
      Int)) (3 : Int) == (3 : Int)) = false → True ∧ ((62 : Nat) = (62 : Nat) ∧ (RGu z) ∧ S = S) ∧ U4.mk (Ch.mk (z.n 1) (z.n 2) (z.n 3) (z.n 4) (z.n 5) (z.n 6) (16384 : Int)
      false true (z.n 10)) (cu1 z) (cu2 z) (cu3 z) = setC (TU z) (0 : Int) (endC (0 : Int)))) ∧ ((z.n 3 == (0 : Int)) = false → ((bits BinOp.and IntKind.u16 ((z.n 4).fdiv (32 :
      Int)) (3 : Int) == (3 : Int)) = true → True ∧ ((62 : Nat) = (62 : Nat) ∧ (tp5 z (q32 (z.n 2) ∧ tt6 z)) ∧ S = S) ∧ U4.mk (Ch.mk (z.n 1) (z.n 2) (z.n 3) (z.n 4) (z.n 5) (z.n
      2) (IntKind.i64.wrap (z.n 3)) false true (z.n 10)) (cu1 z) (cu2 z) (cu3 z) = setC (TU z) (0 : Int) (endC (0 : Int))) ∧ ((bits BinOp.and IntKind.u16 ((z.n 4).fdiv (32 :
      Int)) (3 : Int) == (3 : Int)) = false → True ∧ ((62 : Nat) = (62 : Nat) ∧ (RGu z) ∧ S = S) ∧ U4.mk (Ch.mk (z.n 1) (z.n 2) (z.n 3) (z.n 4) (z.n 5) (z.n 6) (IntKind.i64.wrap
      (z.n 3)) false true (z.n 10)) (cu1 z) (cu2 z) (cu3 z) = setC (TU z) (0 : Int) (endC (0 : Int))))) ∧ ((w3 (z.n 4) 4096 == (3 : Int)) = false → ((z.n 3 == (0 : Int)) = true
      → ((bits BinOp.and IntKind.u16 ((z.n 4).fdiv (32 : Int)) (3 : Int) == (3 : Int)) = true → True ∧ ((62 : Nat) = (62 : Nat) ∧ (tp5 z (q32 (z.n 2) ∧ tt6 z)) ∧ S = S) ∧ U4.mk
      (Ch.mk (z.n 1) (z.n 2) (z.n 3) (z.n 4) (z.n 5) (z.n 2) (16384 : Int) false true (z.n 10)) (cu1 z) (cu2 z) (cu3 z) = setC (TU z) (0 : Int) (endC (0 : Int))) ∧ ((bits
      BinOp.and IntKind.u16 ((z.n 4).fdiv (32 : Int)) (3 : Int) == (3 : Int)) = false → True ∧ ((62 : Nat) = (62 : Nat) ∧ (RGu z) ∧ S = S) ∧ U4.mk (Ch.mk (z.n 1) (z.n 2) (z.n 3)
      (z.n 4) (z.n 5) (z.n 6) (16384 : Int) false true (z.n 10)) (cu1 z) (cu2 z) (cu3 z) = setC (TU z) (0 : Int) (endC (0 : Int)))) ∧ ((z.n 3 == (0 : Int)) = false → ((bits
      BinOp.and IntKind.u16 ((z.n 4).fdiv (32 : Int)) (3 : Int) == (3 : Int)) = true → True ∧ ((62 : Nat) = (62 : Nat) ∧ (tp5 z (q32 (z.n 2) ∧ tt6 z)) ∧ S = S) ∧ U4.mk (Ch.mk
      (z.n 1) (z.n 2) (z.n 3) (z.n 4) (z.n 5) (z.n 2) (IntKind.i64.wrap (z.n 3)) false true (z.n 10)) (cu1 z) (cu2 z) (cu3 z) = setC (TU z) (0 : Int) (endC (0 : Int))) ∧ ((bits
      BinOp.and IntKind.u16 ((z.n 4).fdiv (32 : Int)) (3 : Int) == (3 : Int)) = false → True ∧ ((62 : Nat) = (62 : Nat) ∧ (RGu z) ∧ S = S) ∧ U4.mk (Ch.mk (z.n 1) (z.n 2) (z.n 3)
      (z.n 4) (z.n 5) (z.n 6) (IntKind.i64.wrap (z.n 3)) false true (z.n 10)) (cu1 z) (cu2 z) (cu3 z) = setC (TU z) (0 : Int) (endC (0 : Int)))))) ∧ ((wo (z.n 4)) = false →
      ((z.n 3 == (0 : Int)) = true → ((bits BinOp.and IntKind.u16 ((z.n 4).fdiv (32 : Int)) (3 : Int) == (3 : Int)) = true → True ∧ ((62 : Nat) = (62 : Nat) ∧ (tp5 z (q32 (z.n
      2) ∧ tt6 z)) ∧ S = S) ∧ U4.mk (Ch.mk (z.n 1) (z.n 2) (z.n 3) (z.n 4) (z.n 5) (z.n 2) (16384 : Int) false true (z.n 10)) (cu1 z) (cu2 z) (cu3 z) = setC (TU z) (0 : Int)
      (endC (0 : Int))) ∧ ((bits BinOp.and IntKind.u16 ((z.n 4).fdiv (32 : Int)) (3 : Int) == (3 : Int)) = false → True ∧ ((62 : Nat) = (62 : Nat) ∧ (RGu z) ∧ S = S) ∧ U4.mk
      (Ch.mk (z.n 1) (z.n 2) (z.n 3) (z.n 4) (z.n 5) (z.n 6) (16384 : Int) false true (z.n 10)) (cu1 z) (cu2 z) (cu3 z) = setC (TU z) (0 : Int) (endC (0 : Int)))) ∧ ((z.n 3 ==
      (0 : Int)) = false → ((bits BinOp.and IntKind.u16 ((z.n 4).fdiv (32 : Int)) (3 : Int) == (3 : Int)) = true → True ∧ ((62 : Nat) = (62 : Nat) ∧ (tp5 z (q32 (z.n 2) ∧ tt6
      z)) ∧ S = S) ∧ U4.mk (Ch.mk (z.n 1) (z.n 2) (z.n 3) (z.n 4) (z.n 5) (z.n 2) (IntKind.i64.wrap (z.n 3)) false true (z.n 10)) (cu1 z) (cu2 z) (cu3 z) = setC (TU z) (0 : Int)
      (endC (0 : Int))) ∧ ((bits BinOp.and IntKind.u16 ((z.n 4).fdiv (32 : Int)) (3 : Int) == (3 : Int)) = false → True ∧ ((62 : Nat) = (62 : Nat) ∧ (RGu z) ∧ S = S) ∧ U4.mk
      (Ch.mk (z.n 1) (z.n 2) (z.n 3) (z.n 4) (z.n 5) (z.n 6) (IntKind.i64.wrap (z.n 3)) false true (z.n 10)) (cu1 z) (cu2 z) (cu3 z) = setC (TU z) (0 : Int) (endC (0 :
      Int)))))))) := by kernel_rfl
set_option maxHeartbeats 2000000 in
theorem en0_c (E : World) (S : SW)  (z : PX) (hz : rgM z uMs 0) (hp : (fun _ => True) z) : HC (pe E) 31 [.c (.p 0 0)] uMs S (.t []) (fun z y => (U4.mk (Ch.mk (y.n 1) (y.n 2) (y.n 3) (y.n 4) (y.n 5) (y.n 6) (y.n 7) (y.b 8) (y.b 9) (y.n 10)) (Ch.mk (y.n 12) (y.n 13) (y.n 14) (y.n 15) (y.n 16) (y.n 17) (y.n 18) (y.b 19) (y.b 20) (y.n 21)) (Ch.mk (y.n 23) (y.n 24) (y.n 25) (y.n 26) (y.n 27) (y.n 28) (y.n 29) (y.b 30) (y.b 31) (y.n 32)) (Ch.mk (y.n 34) (y.n 35) (y.n 36) (y.n 37) (y.n 38) (y.n 39) (y.n 40) (y.b 41) (y.b 42) (y.n 43))) = setC (U4.mk (Ch.mk (z.n 1) (z.n 2) (z.n 3) (z.n 4) (z.n 5) (z.n 6) (z.n 7) (z.b 8) (z.b 9) (z.n 10)) (Ch.mk (z.n 12) (z.n 13) (z.n 14) (z.n 15) (z.n 16) (z.n 17) (z.n 18) (z.b 19) (z.b 20) (z.n 21)) (Ch.mk (z.n 23) (z.n 24) (z.n 25) (z.n 26) (z.n 27) (z.n 28) (z.n 29) (z.b 30) (z.b 31) (z.n 32)) (Ch.mk (z.n 34) (z.n 35) (z.n 36) (z.n 37) (z.n 38) (z.n 39) (z.n 40) (z.b 41) (z.b 42) (z.n 43))) 0 (endC 0)) z := by
  refine HC.mk false (by rfl) (by rfl) (by rfl) (by rfl) (fnTree_sound (P := pe E) orcA_ok tab_ok tab_sz mixed 20000 Try.func31 (by decide) [.c (.p 0 0)] _) ⟨?_⟩
  rw [en0_p]
  obtain ⟨h1, h2, h3, h4, h5, h6, h10, h12, h13, h14, h15, h16, h17, h21, h23, h24, h25, h26, h27, h28, h32, h34, h35, h36, h37, h38, h39, h43, _⟩ := rg_u hz
  have o1 := and15 _ h4.1 h4.2
  have o2 := tmu (z.n 4)
  have o3 := and09 _ h4.1 h4.2
  have o4 := s5' (z.n 4)
  have o5 := an15 _ h4.1 h4.2
  have c1 : IntKind.i64.wrap (z.n 3) = z.n 3 := by rw [wi64]; omega
  have g0 : 0 ≤ z.n 4 % 32768 ∧ z.n 4 % 32768 ≤ 65535 := by omega
  simp only [fw, lw, vsr, px, w3, wo, ro, r3, o1, o2, o3, o4, o5, c1]
  clear o1 o2 o3 o4 o5 c1
  (repeat' (first | exact trivial | with_reducible rfl | assumption | apply And.intro | intro h)) <;> first | omega | (simp_all [setC, endC, rep, ld, fds, TU, TR, cu0, cu1, cu2, cu3, cr0, cr1, cr2, cr3]; done)
theorem wd1_p (E : World) (S : SW) (z : PX)  :
    (hoPr false uMs S (.c (.r .i64 2 4)) (fun z y => y.n 90000 = wd 1 (z.n 15)) z (fnTree (pe E) (orcA E) (tabL fns) 20000 Try.f28 [.c (.p 0 11)] (mkM z S uMs 0))) =
    (((bits BinOp.and IntKind.u16 (z.n 15) (1024 : Int) != (0 : Int)) = true → (((2 : Int) ≤ (4 : Int) ∧ (4 : Int) ≤ (4 : Int)) ∧ True) ∧ mkM z S uMs (0 : Nat) = mkM z S uMs (0
      : Nat) ∧ (4 : Int) = wd (1 : Int) (z.n 15)) ∧ ((bits BinOp.and IntKind.u16 (z.n 15) (1024 : Int) != (0 : Int)) = false → ((wo (z.n 15)) = true → ((w3 (z.n 15) 4096 == (3 :
      Int)) = true → (((2 : Int) ≤ (4 : Int) ∧ (4 : Int) ≤ (4 : Int)) ∧ True) ∧ mkM z S uMs (0 : Nat) = mkM z S uMs (0 : Nat) ∧ (4 : Int) = wd (1 : Int) (z.n 15)) ∧ ((w3 (z.n
      15) 4096 == (3 : Int)) = false → (((2 : Int) ≤ (2 : Int) ∧ (2 : Int) ≤ (4 : Int)) ∧ True) ∧ mkM z S uMs (0 : Nat) = mkM z S uMs (0 : Nat) ∧ (2 : Int) = wd (1 : Int) (z.n
      15))) ∧ ((wo (z.n 15)) = false → (((2 : Int) ≤ (2 : Int) ∧ (2 : Int) ≤ (4 : Int)) ∧ True) ∧ mkM z S uMs (0 : Nat) = mkM z S uMs (0 : Nat) ∧ (2 : Int) = wd (1 : Int) (z.n
      15)))) := by kernel_rfl
theorem wd1_c (E : World) (S : SW)  (z : PX) (hz : rgM z uMs 0) (hp : (fun _ => True) z) : HR (pe E) 28 [.c (.p 0 11)] uMs S (.c (.r .i64 2 4)) (fun z y => y.n 90000 = wd 1 (z.n 15)) z := by
  refine HR.mk false (by rfl) (by rfl) (fnTree_sound (P := pe E) orcA_ok tab_ok tab_sz mixed 20000 Try.func28 (by decide) [.c (.p 0 11)] _) ⟨?_⟩
  rw [wd1_p]
  obtain ⟨h1, h2, h3, h4, h5, h6, h10, h12, h13, h14, h15, h16, h17, h21, h23, h24, h25, h26, h27, h28, h32, h34, h35, h36, h37, h38, h39, h43, _⟩ := rg_u hz
  have o1 := and15 _ h15.1 h15.2
  have o2 := tmu (z.n 15)
  have o3 := and10 _ h15.1 h15.2
  simp only [fw, lw, vsr, px, w3, wo, ro, r3, o1, o2, o3]
  clear o1 o2 o3
  (repeat' (first | exact trivial | with_reducible rfl | assumption | apply And.intro | intro h)) <;> first | omega | (simp_all [wd, fds, TU, TR, cu0, cu1, cu2, cu3, cr0, cr1, cr2, cr3]; done)
theorem ad1_p (E : World) (S : SW) (z : PX) (w : Int) :
    (hoP false uMs S (.t []) (fun z y => (U4.mk (Ch.mk (y.n 1) (y.n 2) (y.n 3) (y.n 4) (y.n 5) (y.n 6) (y.n 7) (y.b 8) (y.b 9) (y.n 10)) (Ch.mk (y.n 12) (y.n 13) (y.n 14) (y.n 15) (y.n 16) (y.n 17) (y.n 18) (y.b 19) (y.b 20) (y.n 21)) (Ch.mk (y.n 23) (y.n 24) (y.n 25) (y.n 26) (y.n 27) (y.n 28) (y.n 29) (y.b 30) (y.b 31) (y.n 32)) (Ch.mk (y.n 34) (y.n 35) (y.n 36) (y.n 37) (y.n 38) (y.n 39) (y.n 40) (y.b 41) (y.b 42) (y.n 43))) = setC (U4.mk (Ch.mk (z.n 1) (z.n 2) (z.n 3) (z.n 4) (z.n 5) (z.n 6) (z.n 7) (z.b 8) (z.b 9) (z.n 10)) (Ch.mk (z.n 12) (z.n 13) (z.n 14) (z.n 15) (z.n 16) (z.n 17) (z.n 18) (z.b 19) (z.b 20) (z.n 21)) (Ch.mk (z.n 23) (z.n 24) (z.n 25) (z.n 26) (z.n 27) (z.n 28) (z.n 29) (z.b 30) (z.b 31) (z.n 32)) (Ch.mk (z.n 34) (z.n 35) (z.n 36) (z.n 37) (z.n 38) (z.n 39) (z.n 40) (z.b 41) (z.b 42) (z.n 43))) 1 (advC w 1)) z (fnTree (pe E) (orcA E) (tabL fns) 20000 Try.f30 [.c (.p 0 11), .c (.i false .i64 w)] (mkM z S uMs 0))) =
    (((w3 (z.n 15) 128 == (1 : Int)) = true → ((wo (z.n 15)) = true → ((w3 (z.n 15) 4096 == (3 : Int)) = true → True ∧ ((62 : Nat) = (62 : Nat) ∧ (tp11 z (q32 (IntKind.u32.wrap
      (z.n 16 - IntKind.u32.wrap w)) ∧ tt12 z)) ∧ S = S) ∧ U4.mk (cu0 z) (Ch.mk (z.n 12) (z.n 13) (z.n 14) (z.n 15) (IntKind.u32.wrap (z.n 16 - IntKind.u32.wrap w)) (z.n 17)
      (z.n 18) (z.b 19) (z.b 20) (z.n 21)) (cu2 z) (cu3 z) = setC (TU z) (1 : Int) (advC w (1 : Int))) ∧ ((w3 (z.n 15) 4096 == (3 : Int)) = false → ((w3 (z.n 15) 32 == (1 :
      Int)) = true → True ∧ ((62 : Nat) = (62 : Nat) ∧ (tp11 z (q32 (IntKind.u32.wrap (z.n 16 - IntKind.u32.wrap w)) ∧ q32 (IntKind.u32.wrap (z.n 17 - IntKind.u32.wrap w)) ∧
      tt13 z)) ∧ S = S) ∧ U4.mk (cu0 z) (Ch.mk (z.n 12) (z.n 13) (z.n 14) (z.n 15) (IntKind.u32.wrap (z.n 16 - IntKind.u32.wrap w)) (IntKind.u32.wrap (z.n 17 - IntKind.u32.wrap
      w)) (z.n 18) (z.b 19) (z.b 20) (z.n 21)) (cu2 z) (cu3 z) = setC (TU z) (1 : Int) (advC w (1 : Int))) ∧ ((w3 (z.n 15) 32 == (1 : Int)) = false → ((w3 (z.n 15) 32 == (2 :
      Int)) = true → True ∧ ((62 : Nat) = (62 : Nat) ∧ (tp11 z (q32 (IntKind.u32.wrap (z.n 16 - IntKind.u32.wrap w)) ∧ tt12 z)) ∧ S = S) ∧ U4.mk (cu0 z) (Ch.mk (z.n 12) (z.n 13)
      (z.n 14) (z.n 15) (IntKind.u32.wrap (z.n 16 - IntKind.u32.wrap w)) (z.n 17) (z.n 18) (z.b 19) (z.b 20) (z.n 21)) (cu2 z) (cu3 z) = setC (TU z) (1 : Int) (advC w (1 :
      Int))) ∧ ((w3 (z.n 15) 32 == (2 : Int)) = false → True ∧ ((62 : Nat) = (62 : Nat) ∧ (tp11 z (q32 (IntKind.u32.wrap (z.n 16 - IntKind.u32.wrap w)) ∧ q32 (IntKind.u32.wrap
      (z.n 17 + IntKind.u32.wrap w)) ∧ tt13 z)) ∧ S = S) ∧ U4.mk (cu0 z) (Ch.mk (z.n 12) (z.n 13) (z.n 14) (z.n 15) (IntKind.u32.wrap (z.n 16 - IntKind.u32.wrap w))
      (IntKind.u32.wrap (z.n 17 + IntKind.u32.wrap w)) (z.n 18) (z.b 19) (z.b 20) (z.n 21)) (cu2 z) (cu3 z) = setC (TU z) (1 : Int) (advC w (1 : Int)))))) ∧ ((wo (z.n 15)) =
      false → ((w3 (z.n 15) 32 == (1 : Int)) = true → True ∧ ((62 : Nat) = (62 : Nat) ∧ (tp11 z (q32 (IntKind.u32.wrap (z.n 16 - IntKind.u32.wrap w)) ∧ q32 (IntKind.u32.wrap
      (z.n 17 - IntKind.u32.wrap w)) ∧ tt13 z)) ∧ S = S) ∧ U4.mk (cu0 z) (Ch.mk (z.n 12) (z.n 13) (z.n 14) (z.n 15) (IntKind.u32.wrap (z.n 16 - IntKind.u32.wrap w))
      (IntKind.u32.wrap (z.n 17 - IntKind.u32.wrap w)) (z.n 18) (z.b 19) (z.b 20) (z.n 21)) (cu2 z) (cu3 z) = setC (TU z) (1 : Int) (advC w (1 : Int))) ∧ ((w3 (z.n 15) 32 == (1
      : Int)) = false → ((w3 (z.n 15) 32 == (2 : Int)) = true → True ∧ ((62 : Nat) = (62 : Nat) ∧ (tp11 z (q32 (IntKind.u32.wrap (z.n 16 - IntKind.u32.wrap w)) ∧ tt12 z)) ∧ S =
      S) ∧ U4.mk (cu0 z) (Ch.mk (z.n 12) (z.n 13) (z.n 14) (z.n 15) (IntKind.u32.wrap (z.n 16 - IntKind.u32.wrap w)) (z.n 17) (z.n 18) (z.b 19) (z.b 20) (z.n 21)) (cu2 z) (cu3
      z) = setC (TU z) (1 : Int) (advC w (1 : Int))) ∧ ((w3 (z.n 15) 32 == (2 : Int)) = false → True ∧ ((62 : Nat) = (62 : Nat) ∧ (tp11 z (q32 (IntKind.u32.wrap (z.n 16 -
      IntKind.u32.wrap w)) ∧ q32 (IntKind.u32.wrap (z.n 17 + IntKind.u32.wrap w)) ∧ tt13 z)) ∧ S = S) ∧ U4.mk (cu0 z) (Ch.mk (z.n 12) (z.n 13) (z.n 14) (z.n 15)
      (IntKind.u32.wrap (z.n 16 - IntKind.u32.wrap w)) (IntKind.u32.wrap (z.n 17 + IntKind.u32.wrap w)) (z.n 18) (z.b 19) (z.b 20) (z.n 21)) (cu2 z) (cu3 z) = setC (TU z) (1 :
      Int) (advC w (1 : Int)))))) ∧ ((w3 (z.n 15) 128 == (1 : Int)) = false → ((w3 (z.n 15) 128 == (2 : Int)) = true → ((wo (z.n 15)) = true → ((w3 (z.n 15) 4096 == (3 : Int)) =
      true → True ∧ ((62 : Nat) = (62 : Nat) ∧ (RGu z) ∧ S = S) ∧ TU z = setC (TU z) (1 : Int) (advC w (1 : Int))) ∧ ((w3 (z.n 15) 4096 == (3 : Int)) = false → ((w3 (z.n 15) 32
      == (1 : Int)) = true → True ∧ ((62 : Nat) = (62 : Nat) ∧ (tp12 z (q32 (IntKind.u32.wrap (z.n 17 - IntKind.u32.wrap w)) ∧ tt13 z)) ∧ S = S) ∧ U4.mk (cu0 z) (Ch.mk (z.n 12)
      (z.n 13) (z.n 14) (z.n 15) (z.n 16) (IntKind.u32.wrap (z.n 17 - IntKind.u32.wrap w)) (z.n 18) (z.b 19) (z.b 20) (z.n 21)) (cu2 z) (cu3 z) = setC (TU z) (1 : Int) (advC w
      (1 : Int))) ∧ ((w3 (z.n 15) 32 == (1 : Int)) = false → ((w3 (z.n 15) 32 == (2 : Int)) = true → True ∧ ((62 : Nat) = (62 : Nat) ∧ (RGu z) ∧ S = S) ∧ TU z = setC (TU z) (1 :
      Int) (advC w (1 : Int))) ∧ ((w3 (z.n 15) 32 == (2 : Int)) = false → True ∧ ((62 : Nat) = (62 : Nat) ∧ (tp12 z (q32 (IntKind.u32.wrap (z.n 17 + IntKind.u32.wrap w)) ∧ tt13
      z)) ∧ S = S) ∧ U4.mk (cu0 z) (Ch.mk (z.n 12) (z.n 13) (z.n 14) (z.n 15) (z.n 16) (IntKind.u32.wrap (z.n 17 + IntKind.u32.wrap w)) (z.n 18) (z.b 19) (z.b 20) (z.n 21)) (cu2
      z) (cu3 z) = setC (TU z) (1 : Int) (advC w (1 : Int)))))) ∧ ((wo (z.n 15)) = false → ((w3 (z.n 15) 32 == (1 : Int)) = true → True ∧ ((62 : Nat) = (62 : Nat) ∧ (tp12 z (q32
      (IntKind.u32.wrap (z.n 17 - IntKind.u32.wrap w)) ∧ tt13 z)) ∧ S = S) ∧ U4.mk (cu0 z) (Ch.mk (z.n 12) (z.n 13) (z.n 14) (z.n 15) (z.n 16) (IntKind.u32.wrap (z.n 17 -
      IntKind.u32.wrap w)) (z.n 18) (z.b 19) (z.b 20) (z.n 21)) (cu2 z) (cu3 z) = setC (TU z) (1 : Int) (advC w (1 : Int))) ∧ ((w3 (z.n 15) 32 == (1 : Int)) = false → ((w3 (z.n
      15) 32 == (2 : Int)) = true → True ∧ ((62 : Nat) = (62 : Nat) ∧ (RGu z) ∧ S = S) ∧ TU z = setC (TU z) (1 : Int) (advC w (1 : Int))) ∧ ((w3 (z.n 15) 32 == (2 : Int)) =
      false → True ∧ ((62 : Nat) = (62 : Nat) ∧ (tp12 z (q32 (IntKind.u32.wrap (z.n 17 + IntKind.u32.wrap w)) ∧ tt13 z)) ∧ S = S) ∧ U4.mk (cu0 z) (Ch.mk (z.n 12) (z.n 13) (z.n
      14) (z.n 15) (z.n 16) (IntKind.u32.wrap (z.n 17 + IntKind.u32.wrap w)) (z.n 18) (z.b 19) (z.b 20) (z.n 21)) (cu2 z) (cu3 z) = setC (TU z) (1 : Int) (advC w (1 : Int))))))
      ∧ ((w3 (z.n 15) 128 == (2 : Int)) = false → ((wo (z.n 15)) = true → ((w3 (z.n 15) 4096 == (3 : Int)) = true → True ∧ ((62 : Nat) = (62 : Nat) ∧ (tp11 z (q32
      (IntKind.u32.wrap (z.n 16 + IntKind.u32.wrap w)) ∧ tt12 z)) ∧ S = S) ∧ U4.mk (cu0 z) (Ch.mk (z.n 12) (z.n 13) (z.n 14) (z.n 15) (IntKind.u32.wrap (z.n 16 +
      IntKind.u32.wrap w)) (z.n 17) (z.n 18) (z.b 19) (z.b 20) (z.n 21)) (cu2 z) (cu3 z) = setC (TU z) (1 : Int) (advC w (1 : Int))) ∧ ((w3 (z.n 15) 4096 == (3 : Int)) = false →
      ((w3 (z.n 15) 32 == (1 : Int)) = true → True ∧ ((62 : Nat) = (62 : Nat) ∧ (tp11 z (q32 (IntKind.u32.wrap (z.n 16 + IntKind.u32.wrap w)) ∧ q32 (IntKind.u32.wrap (z.n 17 -
      IntKind.u32.wrap w)) ∧ tt13 z)) ∧ S = S) ∧ U4.mk (cu0 z) (Ch.mk (z.n 12) (z.n 13) (z.n 14) (z.n 15) (IntKind.u32.wrap (z.n 16 + IntKind.u32.wrap w)) (IntKind.u32.wrap (z.n
      17 - IntKind.u32.wrap w)) (z.n 18) (z.b 19) (z.b 20) (z.n 21)) (cu2 z) (cu3 z) = setC (TU z) (1 : Int) (advC w (1 : Int))) ∧ ((w3 (z.n 15) 32 == (1 : Int)) = false → ((w3
      (z.n 15) 32 == (2 : Int)) = true → True ∧ ((62 : Nat) = (62 : Nat) ∧ (tp11 z (q32 (IntKind.u32.wrap (z.n 16 + IntKind.u32.wrap w)) ∧ tt12 z)) ∧ S = S) ∧ U4.mk (cu0 z)
      (Ch.mk (z.n 12) (z.n 13) (z.n 14) (z.n 15) (IntKind.u32.wrap (z.n 16 + IntKind.u32.wrap w)) (z.n 17) (z.n 18) (z.b 19) (z.b 20) (z.n 21)) (cu2 z) (cu3 z) = setC (TU z) (1
      : Int) (advC w (1 : Int))) ∧ ((w3 (z.n 15) 32 == (2 : Int)) = false → True ∧ ((62 : Nat) = (62 : Nat) ∧ (tp11 z (q32 (IntKind.u32.wrap (z.n 16 + IntKind.u32.wrap w)) ∧ q32
      (IntKind.u32.wrap (z.n 17 + IntKind.u32.wrap w)) ∧ tt13 z)) ∧ S = S) ∧ U4.mk (cu0 z) (Ch.mk (z.n 12) (z.n 13) (z.n 14) (z.n 15) (IntKind.u32.wrap (z.n 16 +
      IntKind.u32.wrap w)) (IntKind.u32.wrap (z.n 17 + IntKind.u32.wrap w)) (z.n 18) (z.b 19) (z.b 20) (z.n 21)) (cu2 z) (cu3 z) = setC (TU z) (1 : Int) (advC w (1 : Int)))))) ∧
      ((wo (z.n 15)) = false → ((w3 (z.n 15) 32 == (1 : Int)) = true → True ∧ ((62 : Nat) = (62 : Nat) ∧ (tp11 z (q32 (IntKind.u32.wrap (z.n 16 + IntKind.u32.wrap w)) ∧ q32
      (IntKind.u32.wrap (z.n 17 - IntKind.u32.wrap w)) ∧ tt13 z)) ∧ S = S) ∧ U4.mk (cu0 z) (Ch.mk (z.n 12) (z.n 13) (z.n 14) (z.n 15) (IntKind.u32.wrap (z.n 16 +
      IntKind.u32.wrap w)) (IntKind.u32.wrap (z.n 17 - IntKind.u32.wrap w)) (z.n 18) (z.b 19) (z.b 20) (z.n 21)) (cu2 z) (cu3 z) = setC (TU z) (1 : Int) (advC w (1 : Int))) ∧
      ((w3 (z.n 15) 32 == (1 : Int)) = false → ((w3 (z.n 15) 32 == (2 : Int)) = true → True ∧ ((62 : Nat) = (62 : Nat) ∧ (tp11 z (q32 (IntKind.u32.wrap (z.n 16 +
      IntKind.u32.wrap w)) ∧ tt12 z)) ∧ S = S) ∧ U4.mk (cu0 z) (Ch.mk (z.n 12) (z.n 13) (z.n 14) (z.n 15) (IntKind.u32.wrap (z.n 16 + IntKind.u32.wrap w)) (z.n 17) (z.n 18) (z.b
      19) (z.b 20) (z.n 21)) (cu2 z) (cu3 z) = setC (TU z) (1 : Int) (advC w (1 : Int))) ∧ ((w3 (z.n 15) 32 == (2 : Int)) = false → True ∧ ((62 : Nat) = (62 : Nat) ∧ (tp11 z
      (q32 (IntKind.u32.wrap (z.n 16 + IntKind.u32.wrap w)) ∧ q32 (IntKind.u32.wrap (z.n 17 + IntKind.u32.wrap w)) ∧ tt13 z)) ∧ S = S) ∧ U4.mk (cu0 z) (Ch.mk (z.n 12) (z.n 13)
      (z.n 14) (z.n 15) (IntKind.u32.wrap (z.n 16 + IntKind.u32.wrap w)) (IntKind.u32.wrap (z.n 17 + IntKind.u32.wrap w)) (z.n 18) (z.b 19) (z.b 20) (z.n 21)) (cu2 z) (cu3 z) =
      setC (TU z) (1 : Int) (advC w (1 : Int)))))))) := by kernel_rfl
set_option maxHeartbeats 2000000 in
theorem ad1_c (E : World) (S : SW) (w : Int) (z : PX) (hz : rgM z uMs 0) (hp : (fun _ => w = 2 ∨ w = 4) z) : HC (pe E) 30 [.c (.p 0 11), .c (.i false .i64 w)] uMs S (.t []) (fun z y => (U4.mk (Ch.mk (y.n 1) (y.n 2) (y.n 3) (y.n 4) (y.n 5) (y.n 6) (y.n 7) (y.b 8) (y.b 9) (y.n 10)) (Ch.mk (y.n 12) (y.n 13) (y.n 14) (y.n 15) (y.n 16) (y.n 17) (y.n 18) (y.b 19) (y.b 20) (y.n 21)) (Ch.mk (y.n 23) (y.n 24) (y.n 25) (y.n 26) (y.n 27) (y.n 28) (y.n 29) (y.b 30) (y.b 31) (y.n 32)) (Ch.mk (y.n 34) (y.n 35) (y.n 36) (y.n 37) (y.n 38) (y.n 39) (y.n 40) (y.b 41) (y.b 42) (y.n 43))) = setC (U4.mk (Ch.mk (z.n 1) (z.n 2) (z.n 3) (z.n 4) (z.n 5) (z.n 6) (z.n 7) (z.b 8) (z.b 9) (z.n 10)) (Ch.mk (z.n 12) (z.n 13) (z.n 14) (z.n 15) (z.n 16) (z.n 17) (z.n 18) (z.b 19) (z.b 20) (z.n 21)) (Ch.mk (z.n 23) (z.n 24) (z.n 25) (z.n 26) (z.n 27) (z.n 28) (z.n 29) (z.b 30) (z.b 31) (z.n 32)) (Ch.mk (z.n 34) (z.n 35) (z.n 36) (z.n 37) (z.n 38) (z.n 39) (z.n 40) (z.b 41) (z.b 42) (z.n 43))) 1 (advC w 1)) z := by
  refine HC.mk false (by rfl) (by rfl) (by rfl) (by rfl) (fnTree_sound (P := pe E) orcA_ok tab_ok tab_sz mixed 20000 Try.func30 (by decide) [.c (.p 0 11), .c (.i false .i64 w)] _) ⟨?_⟩
  rw [ad1_p]
  obtain ⟨h1, h2, h3, h4, h5, h6, h10, h12, h13, h14, h15, h16, h17, h21, h23, h24, h25, h26, h27, h28, h32, h34, h35, h36, h37, h38, h39, h43, _⟩ := rg_u hz
  have o1 := and15 _ h15.1 h15.2
  have o2 := tmu (z.n 15)
  have o3 := s7 (z.n 15)
  have o4 := s5 (z.n 15)
  have kw : IntKind.u32.wrap w = w := by have hp : w = 2 ∨ w = 4 := hp; rw [wu32]; omega
  simp only [fw, lw, vsr, px, w3, wo, ro, r3, o1, o2, o3, o4, kw]
  clear o1 o2 o3 o4 kw
  (repeat' (first | exact trivial | with_reducible rfl | assumption | exact (wr32 _).1 | exact (wr32 _).2 | apply And.intro | intro h)) <;> first | omega | (simp_all [setC, advC, mov, fds, TU, TR, cu0, cu1, cu2, cu3, cr0, cr1, cr2, cr3]; done)
theorem en1_p (E : World) (S : SW) (z : PX)  :
    (hoP false uMs S (.t []) (fun z y => (U4.mk (Ch.mk (y.n 1) (y.n 2) (y.n 3) (y.n 4) (y.n 5) (y.n 6) (y.n 7) (y.b 8) (y.b 9) (y.n 10)) (Ch.mk (y.n 12) (y.n 13) (y.n 14) (y.n 15) (y.n 16) (y.n 17) (y.n 18) (y.b 19) (y.b 20) (y.n 21)) (Ch.mk (y.n 23) (y.n 24) (y.n 25) (y.n 26) (y.n 27) (y.n 28) (y.n 29) (y.b 30) (y.b 31) (y.n 32)) (Ch.mk (y.n 34) (y.n 35) (y.n 36) (y.n 37) (y.n 38) (y.n 39) (y.n 40) (y.b 41) (y.b 42) (y.n 43))) = setC (U4.mk (Ch.mk (z.n 1) (z.n 2) (z.n 3) (z.n 4) (z.n 5) (z.n 6) (z.n 7) (z.b 8) (z.b 9) (z.n 10)) (Ch.mk (z.n 12) (z.n 13) (z.n 14) (z.n 15) (z.n 16) (z.n 17) (z.n 18) (z.b 19) (z.b 20) (z.n 21)) (Ch.mk (z.n 23) (z.n 24) (z.n 25) (z.n 26) (z.n 27) (z.n 28) (z.n 29) (z.b 30) (z.b 31) (z.n 32)) (Ch.mk (z.n 34) (z.n 35) (z.n 36) (z.n 37) (z.n 38) (z.n 39) (z.n 40) (z.b 41) (z.b 42) (z.n 43))) 1 (endC 1)) z (fnTree (pe E) (orcA E) (tabL fns) 20000 Try.f31 [.c (.p 0 11)] (mkM z S uMs 0))) =
    (((bits BinOp.and IntKind.u16 (z.n 15) (512 : Int) == (0 : Int)) = true → True ∧ ((62 : Nat) = (62 : Nat) ∧ (tp10 z (q16 (bits BinOp.andNot IntKind.u16 (z.n 15) (32768 :
      Int)) ∧ tt11 z)) ∧ S = S) ∧ U4.mk (cu0 z) (Ch.mk (z.n 12) (z.n 13) (z.n 14) (bits BinOp.andNot IntKind.u16 (z.n 15) (32768 : Int)) (z.n 16) (z.n 17) (z.n 18) false (z.b
      20) (z.n 21)) (cu2 z) (cu3 z) = setC (TU z) (1 : Int) (endC (1 : Int))) ∧ ((bits BinOp.and IntKind.u16 (z.n 15) (512 : Int) == (0 : Int)) = false → ((w3 (z.n 15) 4096 ==
      (0 : Int)) = true → True ∧ ((62 : Nat) = (62 : Nat) ∧ (tp10 z (q16 (bits BinOp.andNot IntKind.u16 (z.n 15) (32768 : Int)) ∧ tt11 z)) ∧ S = S) ∧ U4.mk (cu0 z) (Ch.mk (z.n
      12) (z.n 13) (z.n 14) (bits BinOp.andNot IntKind.u16 (z.n 15) (32768 : Int)) (z.n 16) (z.n 17) (z.n 18) false (z.b 20) (z.n 21)) (cu2 z) (cu3 z) = setC (TU z) (1 : Int)
      (endC (1 : Int))) ∧ ((w3 (z.n 15) 4096 == (0 : Int)) = false → ((wo (z.n 15)) = true → ((w3 (z.n 15) 4096 == (3 : Int)) = true → ((bits BinOp.and IntKind.u16 ((z.n
      15).fdiv (32 : Int)) (3 : Int) == (3 : Int)) = true → True ∧ ((62 : Nat) = (62 : Nat) ∧ (tp12 z (q32 (z.n 13) ∧ tt13 z)) ∧ S = S) ∧ U4.mk (cu0 z) (Ch.mk (z.n 12) (z.n 13)
      (z.n 14) (z.n 15) (z.n 16) (z.n 13) (4 : Int) false true (z.n 21)) (cu2 z) (cu3 z) = setC (TU z) (1 : Int) (endC (1 : Int))) ∧ ((bits BinOp.and IntKind.u16 ((z.n 15).fdiv
      (32 : Int)) (3 : Int) == (3 : Int)) = false → True ∧ ((62 : Nat) = (62 : Nat) ∧ (RGu z) ∧ S = S) ∧ U4.mk (cu0 z) (Ch.mk (z.n 12) (z.n 13) (z.n 14) (z.n 15) (z.n 16) (z.n
      17) (4 : Int) false true (z.n 21)) (cu2 z) (cu3 z) = setC (TU z) (1 : Int) (endC (1 : Int)))) ∧ ((w3 (z.n 15) 4096 == (3 : Int)) = false → ((z.n 14 == (0 : Int)) = true →
      ((bits BinOp.and IntKind.u16 ((z.n 15).fdiv (32 : Int)) (3 : Int) == (3 : Int)) = true → True ∧ ((62 : Nat) = (62 : Nat) ∧ (tp12 z (q32 (z.n 13) ∧ tt13 z)) ∧ S = S) ∧
      U4.mk (cu0 z) (Ch.mk (z.n 12) (z.n 13) (z.n 14) (z.n 15) (z.n 16) (z.n 13) (16384 : Int) false true (z.n 21)) (cu2 z) (cu3 z) = setC (TU z) (1 : Int) (endC (1 : Int))) ∧
      ((bits BinOp.and IntKind.u16 ((z.n 15).fdiv (32 : Int)) (3 : Int) == (3 : Int)) = false → True ∧ ((62 : Nat) = (62 : Nat) ∧ (RGu z) ∧ S = S) ∧ U4.mk (cu0 z) (Ch.mk (z.n
      12) (z.n 13) (z.n 14) (z.n 15) (z.n 16) (z.n 17) (16384 : Int) false true (z.n 21)) (cu2 z) (cu3 z) = setC (TU z) (1 : Int) (endC (1 : Int)))) ∧ ((z.n 14 == (0 : Int)) =
      false → ((bits BinOp.and IntKind.u16 ((z.n 15).fdiv (32 : Int)) (3 : Int) == (3 : Int)) = true → True ∧ ((62 : Nat) = (62 : Nat) ∧ (tp12 z (q32 (z.n 13) ∧ tt13 z)) ∧ S =
      S) ∧ U4.mk (cu0 z) (Ch.mk (z.n 12) (z.n 13) (z.n 14) (z.n 15) (z.n 16) (z.n 13) (IntKind.i64.wrap (z.n 14)) false true (z.n 21)) (cu2 z) (cu3 z) = setC (TU z) (1 : Int)
      (endC (1 : Int))) ∧ ((bits BinOp.and IntKind.u16 ((z.n 15).fdiv (32 : Int)) (3 : Int) == (3 : Int)) = false → True ∧ ((62 : Nat) = (62 : Nat) ∧ (RGu z) ∧ S = S) ∧ U4.mk
      (cu0 z) (Ch.mk (z.n 12) (z.n 13) (z.n 14) (z.n 15) (z.n 16) (z.n 17) (IntKind.i64.wrap (z.n 14)) false true (z.n 21)) (cu2 z) (cu3 z) = setC (TU z) (1 : Int) (endC (1 :
      Int)))))) ∧ ((wo (z.n 15)) = false → ((z.n 14 == (0 : Int)) = true → ((bits BinOp.and IntKind.u16 ((z.n 15).fdiv (32 : Int)) (3 : Int) == (3 : Int)) = true → True ∧ ((62 :
      Nat) = (62 : Nat) ∧ (tp12 z (q32 (z.n 13) ∧ tt13 z)) ∧ S = S) ∧ U4.mk (cu0 z) (Ch.mk (z.n 12) (z.n 13) (z.n 14) (z.n 15) (z.n 16) (z.n 13) (16384 : Int) false true (z.n
      21)) (cu2 z) (cu3 z) = setC (TU z) (1 : Int) (endC (1 : Int))) ∧ ((bits BinOp.and IntKind.u16 ((z.n 15).fdiv (32 : Int)) (3 : Int) == (3 : Int)) = false → True ∧ ((62 :
      Nat) = (62 : Nat) ∧ (RGu z) ∧ S = S) ∧ U4.mk (cu0 z) (Ch.mk (z.n 12) (z.n 13) (z.n 14) (z.n 15) (z.n 16) (z.n 17) (16384 : Int) false true (z.n 21)) (cu2 z) (cu3 z) = setC
      (TU z) (1 : Int) (endC (1 : Int)))) ∧ ((z.n 14 == (0 : Int)) = false → ((bits BinOp.and IntKind.u16 ((z.n 15).fdiv (32 : Int)) (3 : Int) == (3 : Int)) = true → True ∧ ((62
      : Nat) = (62 : Nat) ∧ (tp12 z (q32 (z.n 13) ∧ tt13 z)) ∧ S = S) ∧ U4.mk (cu0 z) (Ch.mk (z.n 12) (z.n 13) (z.n 14) (z.n 15) (z.n 16) (z.n 13) (IntKind.i64.wrap (z.n 14))
      false true (z.n 21)) (cu2 z) (cu3 z) = setC (TU z) (1 : Int) (endC (1 : Int))) ∧ ((bits BinOp.and IntKind.u16 ((z.n 15).fdiv (32 : Int)) (3 : Int) == (3 : Int)) = false →
      True ∧ ((62 : Nat) = (62 : Nat) ∧ (RGu z) ∧ S = S) ∧ U4.mk (cu0 z) (Ch.mk (z.n 12) (z.n 13) (z.n 14) (z.n 15) (z.n 16) (z.n 17) (IntKind.i64.wrap (z.n 14)) false true (z.n
      21)) (cu2 z) (cu3 z) = setC (TU z) (1 : Int) (endC (1 : Int)))))))) := by kernel_rfl
set_option maxHeartbeats 2000000 in
theorem en1_c (E : World) (S : SW)  (z : PX) (hz : rgM z uMs 0) (hp : (fun _ => True) z) : HC (pe E) 31 [.c (.p 0 11)] uMs S (.t []) (fun z y => (U4.mk (Ch.mk (y.n 1) (y.n 2) (y.n 3) (y.n 4) (y.n 5) (y.n 6) (y.n 7) (y.b 8) (y.b 9) (y.n 10)) (Ch.mk (y.n 12) (y.n 13) (y.n 14) (y.n 15) (y.n 16) (y.n 17) (y.n 18) (y.b 19) (y.b 20) (y.n 21)) (Ch.mk (y.n 23) (y.n 24) (y.n 25) (y.n 26) (y.n 27) (y.n 28) (y.n 29) (y.b 30) (y.b 31) (y.n 32)) (Ch.mk (y.n 34) (y.n 35) (y.n 36) (y.n 37) (y.n 38) (y.n 39) (y.n 40) (y.b 41) (y.b 42) (y.n 43))) = setC (U4.mk (Ch.mk (z.n 1) (z.n 2) (z.n 3) (z.n 4) (z.n 5) (z.n 6) (z.n 7) (z.b 8) (z.b 9) (z.n 10)) (Ch.mk (z.n 12) (z.n 13) (z.n 14) (z.n 15) (z.n 16) (z.n 17) (z.n 18) (z.b 19) (z.b 20) (z.n 21)) (Ch.mk (z.n 23) (z.n 24) (z.n 25) (z.n 26) (z.n 27) (z.n 28) (z.n 29) (z.b 30) (z.b 31) (z.n 32)) (Ch.mk (z.n 34) (z.n 35) (z.n 36) (z.n 37) (z.n 38) (z.n 39) (z.n 40) (z.b 41) (z.b 42) (z.n 43))) 1 (endC 1)) z := by
  refine HC.mk false (by rfl) (by rfl) (by rfl) (by rfl) (fnTree_sound (P := pe E) orcA_ok tab_ok tab_sz mixed 20000 Try.func31 (by decide) [.c (.p 0 11)] _) ⟨?_⟩
  rw [en1_p]
  obtain ⟨h1, h2, h3, h4, h5, h6, h10, h12, h13, h14, h15, h16, h17, h21, h23, h24, h25, h26, h27, h28, h32, h34, h35, h36, h37, h38, h39, h43, _⟩ := rg_u hz
  have o1 := and15 _ h15.1 h15.2
  have o2 := tmu (z.n 15)
  have o3 := and09 _ h15.1 h15.2
  have o4 := s5' (z.n 15)
  have o5 := an15 _ h15.1 h15.2
  have c1 : IntKind.i64.wrap (z.n 14) = z.n 14 := by rw [wi64]; omega
  have g0 : 0 ≤ z.n 15 % 32768 ∧ z.n 15 % 32768 ≤ 65535 := by omega
  simp only [fw, lw, vsr, px, w3, wo, ro, r3, o1, o2, o3, o4, o5, c1]
  clear o1 o2 o3 o4 o5 c1
  (repeat' (first | exact trivial | with_reducible rfl | assumption | apply And.intro | intro h)) <;> first | omega | (simp_all [setC, endC, rep, ld, fds, TU, TR, cu0, cu1, cu2, cu3, cr0, cr1, cr2, cr3]; done)
end Go.Proofs.Ytpddbhfebhpohaa

