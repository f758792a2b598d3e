import Derived.Test.YtpddbhfebhpohaaC
set_option linter.unusedVariables false
set_option linter.unusedSimpArgs false
namespace Go.Proofs.Ytpddbhfebhpohaa
open Go Go.Proofs Go.Proofs.Ytpddbhfebhpohaa.Ev Go.Proofs.Ytpddbhfebhpohaa.Ev.Ho
set_option maxRecDepth 100000
theorem wu2_p (E : World) (S : SW) (z : PX) (part x : Int) :
    (hoP false uMs S (.t []) (fun z y => (U4.mk (Ch.mk (y.n 1) (y.n 2) (y.n 3) (y.n 4) (y.n 5) (y.n 6) (y.n 7) (y.b 8) (y.b 9) (y.n 10)) (Ch.mk (y.n 12) (y.n 13) (y.n 14) (y.n 15) (y.n 16) (y.n 17) (y.n 18) (y.b 19) (y.b 20) (y.n 21)) (Ch.mk (y.n 23) (y.n 24) (y.n 25) (y.n 26) (y.n 27) (y.n 28) (y.n 29) (y.b 30) (y.b 31) (y.n 32)) (Ch.mk (y.n 34) (y.n 35) (y.n 36) (y.n 37) (y.n 38) (y.n 39) (y.n 40) (y.b 41) (y.b 42) (y.n 43))) = uW 2 part x (U4.mk (Ch.mk (z.n 1) (z.n 2) (z.n 3) (z.n 4) (z.n 5) (z.n 6) (z.n 7) (z.b 8) (z.b 9) (z.n 10)) (Ch.mk (z.n 12) (z.n 13) (z.n 14) (z.n 15) (z.n 16) (z.n 17) (z.n 18) (z.b 19) (z.b 20) (z.n 21)) (Ch.mk (z.n 23) (z.n 24) (z.n 25) (z.n 26) (z.n 27) (z.n 28) (z.n 29) (z.b 30) (z.b 31) (z.n 32)) (Ch.mk (z.n 34) (z.n 35) (z.n 36) (z.n 37) (z.n 38) (z.n 39) (z.n 40) (z.b 41) (z.b 42) (z.n 43)))) z (fnTree (pe E) (orcA E) (tabL fns) 20000 Try.f11 [.c (.p 0 0), .c (.i true .i64 2), .c (.i false .i64 part), .c (.i false .u16 x)] (mkM z S uMs 0))) =
    (((part == (0 : Int)) = true → True ∧ ((62 : Nat) = (62 : Nat) ∧ (tp14 z (q32 (bits BinOp.or IntKind.u32 (bits BinOp.andNot IntKind.u32 (z.n 23) (65535 : Int))
      (IntKind.u32.wrap x)) ∧ tt15 z)) ∧ S = S) ∧ U4.mk (cu0 z) (cu1 z) (Ch.mk (bits BinOp.or IntKind.u32 (bits BinOp.andNot IntKind.u32 (z.n 23) (65535 : Int))
      (IntKind.u32.wrap x)) (z.n 24) (z.n 25) (z.n 26) (z.n 27) (z.n 28) (z.n 29) (z.b 30) (z.b 31) (z.n 32)) (cu3 z) = uW (2 : Int) part x (TU z)) ∧ ((part == (0 : Int)) =
      false → ((part == (1 : Int)) = true → True ∧ ((62 : Nat) = (62 : Nat) ∧ (tp14 z (q32 (bits BinOp.or IntKind.u32 (bits BinOp.and IntKind.u32 (z.n 23) (65535 : Int))
      (IntKind.u32.wrap (IntKind.u32.wrap (bits BinOp.and IntKind.u16 x (4095 : Int)) * (65536 : Int)))) ∧ tt15 z)) ∧ S = S) ∧ U4.mk (cu0 z) (cu1 z) (Ch.mk (bits BinOp.or
      IntKind.u32 (bits BinOp.and IntKind.u32 (z.n 23) (65535 : Int)) (IntKind.u32.wrap (IntKind.u32.wrap (bits BinOp.and IntKind.u16 x (4095 : Int)) * (65536 : Int)))) (z.n 24)
      (z.n 25) (z.n 26) (z.n 27) (z.n 28) (z.n 29) (z.b 30) (z.b 31) (z.n 32)) (cu3 z) = uW (2 : Int) part x (TU z)) ∧ ((part == (1 : Int)) = false → ((part == (2 : Int)) = true
      → True ∧ ((62 : Nat) = (62 : Nat) ∧ (tp15 z (q32 (bits BinOp.or IntKind.u32 (bits BinOp.andNot IntKind.u32 (z.n 24) (65535 : Int)) (IntKind.u32.wrap x)) ∧ tt16 z)) ∧ S =
      S) ∧ U4.mk (cu0 z) (cu1 z) (Ch.mk (z.n 23) (bits BinOp.or IntKind.u32 (bits BinOp.andNot IntKind.u32 (z.n 24) (65535 : Int)) (IntKind.u32.wrap x)) (z.n 25) (z.n 26) (z.n
      27) (z.n 28) (z.n 29) (z.b 30) (z.b 31) (z.n 32)) (cu3 z) = uW (2 : Int) part x (TU z)) ∧ ((part == (2 : Int)) = false → ((part == (3 : Int)) = true → True ∧ ((62 : Nat) =
      (62 : Nat) ∧ (tp15 z (q32 (bits BinOp.or IntKind.u32 (bits BinOp.and IntKind.u32 (z.n 24) (65535 : Int)) (IntKind.u32.wrap (IntKind.u32.wrap (bits BinOp.and IntKind.u16
      (bits BinOp.and IntKind.u16 x (4095 : Int)) (2047 : Int)) * (65536 : Int)))) ∧ tt16 z)) ∧ S = S) ∧ U4.mk (cu0 z) (cu1 z) (Ch.mk (z.n 23) (bits BinOp.or IntKind.u32 (bits
      BinOp.and IntKind.u32 (z.n 24) (65535 : Int)) (IntKind.u32.wrap (IntKind.u32.wrap (bits BinOp.and IntKind.u16 (bits BinOp.and IntKind.u16 x (4095 : Int)) (2047 : Int)) *
      (65536 : Int)))) (z.n 25) (z.n 26) (z.n 27) (z.n 28) (z.n 29) (z.b 30) (z.b 31) (z.n 32)) (cu3 z) = uW (2 : Int) part x (TU z)) ∧ ((part == (3 : Int)) = false → ((part ==
      (4 : Int)) = true → True ∧ ((62 : Nat) = (62 : Nat) ∧ (tp16 z (q16 (bits BinOp.and IntKind.u16 x (16383 : Int)) ∧ tt17 z)) ∧ S = S) ∧ U4.mk (cu0 z) (cu1 z) (Ch.mk (z.n 23)
      (z.n 24) (bits BinOp.and IntKind.u16 x (16383 : Int)) (z.n 26) (z.n 27) (z.n 28) (z.n 29) (z.b 30) (z.b 31) (z.n 32)) (cu3 z) = uW (2 : Int) part x (TU z)) ∧ ((part == (4
      : Int)) = false → ((part == (5 : Int)) = true → ((!bits BinOp.and IntKind.u16 (bits BinOp.and IntKind.u16 x (63456 : Int)) (32768 : Int) != (0 : Int)) = true → True ∧ ((62
      : Nat) = (62 : Nat) ∧ (tp17 z (q16 (bits BinOp.and IntKind.u16 x (63456 : Int)) ∧ tt18 z)) ∧ S = S) ∧ U4.mk (cu0 z) (cu1 z) (Ch.mk (z.n 23) (z.n 24) (z.n 25) (bits
      BinOp.and IntKind.u16 x (63456 : Int)) (z.n 27) (z.n 28) (z.n 29) false (z.b 31) (z.n 32)) (cu3 z) = uW (2 : Int) part x (TU z)) ∧ ((!bits BinOp.and IntKind.u16 (bits
      BinOp.and IntKind.u16 x (63456 : Int)) (32768 : Int) != (0 : Int)) = false → ((!wo (z.n 26)) = true → ((bits BinOp.and IntKind.u16 (bits BinOp.and IntKind.u16 x (63456 :
      Int)) (32768 : Int) != (0 : Int)) = true → ((IntKind.i64.wrap (bits BinOp.and IntKind.u16 ((bits BinOp.and IntKind.u16 x (63456 : Int)).fdiv (4096 : Int)) (3 : Int)) == (3
      : Int)) = true → True ∧ ((62 : Nat) = (62 : Nat) ∧ (tp17 z (q16 (bits BinOp.and IntKind.u16 x (63456 : Int)) ∧ q32 (z.n 23) ∧ q32 (z.n 24) ∧ tt20 z)) ∧ S = S) ∧ U4.mk (cu0
      z) (cu1 z) (Ch.mk (z.n 23) (z.n 24) (z.n 25) (bits BinOp.and IntKind.u16 x (63456 : Int)) (z.n 23) (z.n 24) (4 : Int) (IntKind.i64.wrap (bits BinOp.and IntKind.u16 ((bits
      BinOp.and IntKind.u16 x (63456 : Int)).fdiv (4096 : Int)) (3 : Int)) == (0 : Int)) true (z.n 32)) (cu3 z) = uW (2 : Int) part x (TU z)) ∧ ((IntKind.i64.wrap (bits
      BinOp.and IntKind.u16 ((bits BinOp.and IntKind.u16 x (63456 : Int)).fdiv (4096 : Int)) (3 : Int)) == (3 : Int)) = false → ((z.n 25 == (0 : Int)) = true → True ∧ ((62 :
      Nat) = (62 : Nat) ∧ (tp17 z (q16 (bits BinOp.and IntKind.u16 x (63456 : Int)) ∧ q32 (z.n 23) ∧ q32 (z.n 24) ∧ tt20 z)) ∧ S = S) ∧ U4.mk (cu0 z) (cu1 z) (Ch.mk (z.n 23)
      (z.n 24) (z.n 25) (bits BinOp.and IntKind.u16 x (63456 : Int)) (z.n 23) (z.n 24) (16384 : Int) (IntKind.i64.wrap (bits BinOp.and IntKind.u16 ((bits BinOp.and IntKind.u16 x
      (63456 : Int)).fdiv (4096 : Int)) (3 : Int)) == (0 : Int)) true (z.n 32)) (cu3 z) = uW (2 : Int) part x (TU z)) ∧ ((z.n 25 == (0 : Int)) = false → True ∧ ((62 : Nat) = (62
      : Nat) ∧ (tp17 z (q16 (bits BinOp.and IntKind.u16 x (63456 : Int)) ∧ q32 (z.n 23) ∧ q32 (z.n 24) ∧ tt20 z)) ∧ S = S) ∧ U4.mk (cu0 z) (cu1 z) (Ch.mk (z.n 23) (z.n 24) (z.n
      25) (bits BinOp.and IntKind.u16 x (63456 : Int)) (z.n 23) (z.n 24) (IntKind.i64.wrap (z.n 25)) (IntKind.i64.wrap (bits BinOp.and IntKind.u16 ((bits BinOp.and IntKind.u16 x
      (63456 : Int)).fdiv (4096 : Int)) (3 : Int)) == (0 : Int)) true (z.n 32)) (cu3 z) = uW (2 : Int) part x (TU z)))) ∧ ((bits BinOp.and IntKind.u16 (bits BinOp.and
      IntKind.u16 x (63456 : Int)) (32768 : Int) != (0 : Int)) = false → ((z.n 25 == (0 : Int)) = true → True ∧ ((62 : Nat) = (62 : Nat) ∧ (tp17 z (q16 (bits BinOp.and
      IntKind.u16 x (63456 : Int)) ∧ q32 (z.n 23) ∧ q32 (z.n 24) ∧ tt20 z)) ∧ S = S) ∧ U4.mk (cu0 z) (cu1 z) (Ch.mk (z.n 23) (z.n 24) (z.n 25) (bits BinOp.and IntKind.u16 x
      (63456 : Int)) (z.n 23) (z.n 24) (16384 : Int) (IntKind.i64.wrap (bits BinOp.and IntKind.u16 ((bits BinOp.and IntKind.u16 x (63456 : Int)).fdiv (4096 : Int)) (3 : Int)) ==
      (0 : Int)) true (z.n 32)) (cu3 z) = uW (2 : Int) part x (TU z)) ∧ ((z.n 25 == (0 : Int)) = false → True ∧ ((62 : Nat) = (62 : Nat) ∧ (tp17 z (q16 (bits BinOp.and
      IntKind.u16 x (63456 : Int)) ∧ q32 (z.n 23) ∧ q32 (z.n 24) ∧ tt20 z)) ∧ S = S) ∧ U4.mk (cu0 z) (cu1 z) (Ch.mk (z.n 23) (z.n 24) (z.n 25) (bits BinOp.and IntKind.u16 x
      (63456 : Int)) (z.n 23) (z.n 24) (IntKind.i64.wrap (z.n 25)) (IntKind.i64.wrap (bits BinOp.and IntKind.u16 ((bits BinOp.and IntKind.u16 x (63456 : Int)).fdiv (4096 : Int))
      (3 : Int)) == (0 : Int)) true (z.n 32)) (cu3 z) = uW (2 : Int) part x (TU z)))) ∧ ((!wo (z.n 26)) = false → True ∧ ((62 : Nat) = (62 : Nat) ∧ (tp17 z (q16 (bits BinOp.and
      IntKind.u16 x (63456 : Int)) ∧ tt18 z)) ∧ S = S) ∧ U4.mk (cu0 z) (cu1 z) (Ch.mk (z.n 23) (z.n 24) (z.n 25) (bits BinOp.and IntKind.u16 x (63456 : Int)) (z.n 27) (z.n 28)
      (z.n 29) (z.b 30) (z.b 31) (z.n 32)) (cu3 z) = uW (2 : Int) part x (TU z)))) ∧ ((part == (5 : Int)) = false → True ∧ ((62 : Nat) = (62 : Nat) ∧ (RGu z) ∧ S = S) ∧ TU z =
      uW (2 : Int) part x (TU z)))))))) := by kernel_rfl
set_option maxHeartbeats 2000000 in
theorem wu2_c (E : World) (S : SW) (part x : Int) (z : PX) (hz : rgM z uMs 0) (hp : (fun _ => 0 ≤ x ∧ x ≤ 65535) z) : HC (pe E) 11 [.c (.p 0 0), .c (.i true .i64 2), .c (.i false .i64 part), .c (.i false .u16 x)] uMs S (.t []) (fun z y => (U4.mk (Ch.mk (y.n 1) (y.n 2) (y.n 3) (y.n 4) (y.n 5) (y.n 6) (y.n 7) (y.b 8) (y.b 9) (y.n 10)) (Ch.mk (y.n 12) (y.n 13) (y.n 14) (y.n 15) (y.n 16) (y.n 17) (y.n 18) (y.b 19) (y.b 20) (y.n 21)) (Ch.mk (y.n 23) (y.n 24) (y.n 25) (y.n 26) (y.n 27) (y.n 28) (y.n 29) (y.b 30) (y.b 31) (y.n 32)) (Ch.mk (y.n 34) (y.n 35) (y.n 36) (y.n 37) (y.n 38) (y.n 39) (y.n 40) (y.b 41) (y.b 42) (y.n 43))) = uW 2 part x (U4.mk (Ch.mk (z.n 1) (z.n 2) (z.n 3) (z.n 4) (z.n 5) (z.n 6) (z.n 7) (z.b 8) (z.b 9) (z.n 10)) (Ch.mk (z.n 12) (z.n 13) (z.n 14) (z.n 15) (z.n 16) (z.n 17) (z.n 18) (z.b 19) (z.b 20) (z.n 21)) (Ch.mk (z.n 23) (z.n 24) (z.n 25) (z.n 26) (z.n 27) (z.n 28) (z.n 29) (z.b 30) (z.b 31) (z.n 32)) (Ch.mk (z.n 34) (z.n 35) (z.n 36) (z.n 37) (z.n 38) (z.n 39) (z.n 40) (z.b 41) (z.b 42) (z.n 43)))) z := by
  refine HC.mk false (by rfl) (by rfl) (by rfl) (by rfl) (fnTree_sound (P := pe E) orcA_ok tab_ok tab_sz mixed 20000 Try.func11 (by decide) [.c (.p 0 0), .c (.i true .i64 2), .c (.i false .i64 part), .c (.i false .u16 x)] _) ⟨?_⟩
  rw [wu2_p]
  obtain ⟨h1, h2, h3, h4, h5, h6, h10, h12, h13, h14, h15, h16, h17, h21, h23, h24, h25, h26, h27, h28, h32, h34, h35, h36, h37, h38, h39, h43, _⟩ := rg_u hz
  obtain ⟨p1, p2⟩ := hp
  obtain ⟨n0, n1, n2⟩ := msk x p1 p2
  have a0 := lo_u (z.n 23) x h23.1 h23.2 p1 p2
  have a1 := hi_u (z.n 23) (x % 4096) (by omega) (by omega)
  have a2 := lo_u (z.n 24) x h24.1 h24.2 p1 p2
  have a3 := hi_u (z.n 24) (x % 2048) (by omega) (by omega)
  have k1 : x % 4096 % 2048 = x % 2048 := by omega
  have k2 : x % 2048 % 4096 = x % 2048 := by omega
  have o1 := and15 _ n0 n1
  have o2 := and15 _ h26.1 h26.2
  have o3 := tmu (bits .and .u16 x 63456)
  have c1 : IntKind.i64.wrap (z.n 25) = z.n 25 := by rw [wi64]; omega
  simp only [fw, lw, vsr, px, w3, wo, ro, r3, m11, m12, m14, k1, k2, a0, a1, a2, a3, o1, o2, o3, c1]
  clear a0 a1 a2 a3 o1 o2 o3 c1
  have g0 : 0 ≤ z.n 23 / 65536 * 65536 + x ∧ z.n 23 / 65536 * 65536 + x ≤ 4294967295 := by omega
  have g1 : 0 ≤ z.n 23 % 65536 + x % 4096 * 65536 ∧ z.n 23 % 65536 + x % 4096 * 65536 ≤ 4294967295 := by omega
  have g2 : 0 ≤ z.n 24 / 65536 * 65536 + x ∧ z.n 24 / 65536 * 65536 + x ≤ 4294967295 := by omega
  have g3 : 0 ≤ z.n 24 % 65536 + x % 2048 * 65536 ∧ z.n 24 % 65536 + x % 2048 * 65536 ≤ 4294967295 := by omega
  (repeat' (first | exact trivial | with_reducible rfl | assumption | apply And.intro | intro h)) <;> first | omega | (simp_all [uW, setC, chW, ctlC, ld, fds, TU, TR, cu0, cu1, cu2, cu3, cr0, cr1, cr2, cr3]; done)
theorem wu3_p (E : World) (S : SW) (z : PX) (part x : Int) :
    (hoP false uMs S (.t []) (fun z y => (U4.mk (Ch.mk (y.n 1) (y.n 2) (y.n 3) (y.n 4) (y.n 5) (y.n 6) (y.n 7) (y.b 8) (y.b 9) (y.n 10)) (Ch.mk (y.n 12) (y.n 13) (y.n 14) (y.n 15) (y.n 16) (y.n 17) (y.n 18) (y.b 19) (y.b 20) (y.n 21)) (Ch.mk (y.n 23) (y.n 24) (y.n 25) (y.n 26) (y.n 27) (y.n 28) (y.n 29) (y.b 30) (y.b 31) (y.n 32)) (Ch.mk (y.n 34) (y.n 35) (y.n 36) (y.n 37) (y.n 38) (y.n 39) (y.n 40) (y.b 41) (y.b 42) (y.n 43))) = uW 3 part x (U4.mk (Ch.mk (z.n 1) (z.n 2) (z.n 3) (z.n 4) (z.n 5) (z.n 6) (z.n 7) (z.b 8) (z.b 9) (z.n 10)) (Ch.mk (z.n 12) (z.n 13) (z.n 14) (z.n 15) (z.n 16) (z.n 17) (z.n 18) (z.b 19) (z.b 20) (z.n 21)) (Ch.mk (z.n 23) (z.n 24) (z.n 25) (z.n 26) (z.n 27) (z.n 28) (z.n 29) (z.b 30) (z.b 31) (z.n 32)) (Ch.mk (z.n 34) (z.n 35) (z.n 36) (z.n 37) (z.n 38) (z.n 39) (z.n 40) (z.b 41) (z.b 42) (z.n 43)))) z (fnTree (pe E) (orcA E) (tabL fns) 20000 Try.f11 [.c (.p 0 0), .c (.i true .i64 3), .c (.i false .i64 part), .c (.i false .u16 x)] (mkM z S uMs 0))) =
    (((part == (0 : Int)) = true → True ∧ ((62 : Nat) = (62 : Nat) ∧ (tp21 z (q32 (bits BinOp.or IntKind.u32 (bits BinOp.andNot IntKind.u32 (z.n 34) (65535 : Int))
      (IntKind.u32.wrap x)) ∧ tt22 z)) ∧ S = S) ∧ U4.mk (cu0 z) (cu1 z) (cu2 z) (Ch.mk (bits BinOp.or IntKind.u32 (bits BinOp.andNot IntKind.u32 (z.n 34) (65535 : Int))
      (IntKind.u32.wrap x)) (z.n 35) (z.n 36) (z.n 37) (z.n 38) (z.n 39) (z.n 40) (z.b 41) (z.b 42) (z.n 43)) = uW (3 : Int) part x (TU z)) ∧ ((part == (0 : Int)) = false →
      ((part == (1 : Int)) = true → True ∧ ((62 : Nat) = (62 : Nat) ∧ (tp21 z (q32 (bits BinOp.or IntKind.u32 (bits BinOp.and IntKind.u32 (z.n 34) (65535 : Int))
      (IntKind.u32.wrap (IntKind.u32.wrap (bits BinOp.and IntKind.u16 x (4095 : Int)) * (65536 : Int)))) ∧ tt22 z)) ∧ S = S) ∧ U4.mk (cu0 z) (cu1 z) (cu2 z) (Ch.mk (bits
      BinOp.or IntKind.u32 (bits BinOp.and IntKind.u32 (z.n 34) (65535 : Int)) (IntKind.u32.wrap (IntKind.u32.wrap (bits BinOp.and IntKind.u16 x (4095 : Int)) * (65536 : Int))))
      (z.n 35) (z.n 36) (z.n 37) (z.n 38) (z.n 39) (z.n 40) (z.b 41) (z.b 42) (z.n 43)) = uW (3 : Int) part x (TU z)) ∧ ((part == (1 : Int)) = false → ((part == (2 : Int)) =
      true → True ∧ ((62 : Nat) = (62 : Nat) ∧ (tp22 z (q32 (bits BinOp.or IntKind.u32 (bits BinOp.andNot IntKind.u32 (z.n 35) (65535 : Int)) (IntKind.u32.wrap x)) ∧ tt23 z)) ∧
      S = S) ∧ U4.mk (cu0 z) (cu1 z) (cu2 z) (Ch.mk (z.n 34) (bits BinOp.or IntKind.u32 (bits BinOp.andNot IntKind.u32 (z.n 35) (65535 : Int)) (IntKind.u32.wrap x)) (z.n 36)
      (z.n 37) (z.n 38) (z.n 39) (z.n 40) (z.b 41) (z.b 42) (z.n 43)) = uW (3 : Int) part x (TU z)) ∧ ((part == (2 : Int)) = false → ((part == (3 : Int)) = true → True ∧ ((62 :
      Nat) = (62 : Nat) ∧ (tp22 z (q32 (bits BinOp.or IntKind.u32 (bits BinOp.and IntKind.u32 (z.n 35) (65535 : Int)) (IntKind.u32.wrap (IntKind.u32.wrap (bits BinOp.and
      IntKind.u16 x (4095 : Int)) * (65536 : Int)))) ∧ tt23 z)) ∧ S = S) ∧ U4.mk (cu0 z) (cu1 z) (cu2 z) (Ch.mk (z.n 34) (bits BinOp.or IntKind.u32 (bits BinOp.and IntKind.u32
      (z.n 35) (65535 : Int)) (IntKind.u32.wrap (IntKind.u32.wrap (bits BinOp.and IntKind.u16 x (4095 : Int)) * (65536 : Int)))) (z.n 36) (z.n 37) (z.n 38) (z.n 39) (z.n 40)
      (z.b 41) (z.b 42) (z.n 43)) = uW (3 : Int) part x (TU z)) ∧ ((part == (3 : Int)) = false → ((part == (4 : Int)) = true → True ∧ ((62 : Nat) = (62 : Nat) ∧ (tp23 z (q16 (x)
      ∧ tt24 z)) ∧ S = S) ∧ U4.mk (cu0 z) (cu1 z) (cu2 z) (Ch.mk (z.n 34) (z.n 35) x (z.n 37) (z.n 38) (z.n 39) (z.n 40) (z.b 41) (z.b 42) (z.n 43)) = uW (3 : Int) part x (TU
      z)) ∧ ((part == (4 : Int)) = false → ((part == (5 : Int)) = true → ((!bits BinOp.and IntKind.u16 (bits BinOp.and IntKind.u16 x (63456 : Int)) (32768 : Int) != (0 : Int)) =
      true → True ∧ ((62 : Nat) = (62 : Nat) ∧ (tp24 z (q16 (bits BinOp.and IntKind.u16 x (63456 : Int)) ∧ q32 (z.n 38) ∧ q32 (z.n 39) ∧ q32 (z.n 43) ∧ True)) ∧ S = S) ∧ U4.mk
      (cu0 z) (cu1 z) (cu2 z) (Ch.mk (z.n 34) (z.n 35) (z.n 36) (bits BinOp.and IntKind.u16 x (63456 : Int)) (z.n 38) (z.n 39) (z.n 40) false (z.b 42) (z.n 43)) = uW (3 : Int)
      part x (TU z)) ∧ ((!bits BinOp.and IntKind.u16 (bits BinOp.and IntKind.u16 x (63456 : Int)) (32768 : Int) != (0 : Int)) = false → ((!wo (z.n 37)) = true → ((bits BinOp.and
      IntKind.u16 (bits BinOp.and IntKind.u16 x (63456 : Int)) (32768 : Int) != (0 : Int)) = true → ((IntKind.i64.wrap (bits BinOp.and IntKind.u16 ((bits BinOp.and IntKind.u16 x
      (63456 : Int)).fdiv (4096 : Int)) (3 : Int)) == (3 : Int)) = true → ((bif z.n 36 == (0 : Int) then true else false) = true → True ∧ ((62 : Nat) = (62 : Nat) ∧ (tp24 z (q16
      (bits BinOp.and IntKind.u16 x (63456 : Int)) ∧ q32 (z.n 34) ∧ q32 (z.n 35) ∧ q32 (z.n 43) ∧ True)) ∧ S = S) ∧ U4.mk (cu0 z) (cu1 z) (cu2 z) (Ch.mk (z.n 34) (z.n 35) (z.n
      36) (bits BinOp.and IntKind.u16 x (63456 : Int)) (z.n 34) (z.n 35) (65536 : Int) (IntKind.i64.wrap (bits BinOp.and IntKind.u16 ((bits BinOp.and IntKind.u16 x (63456 :
      Int)).fdiv (4096 : Int)) (3 : Int)) == (0 : Int)) true (z.n 43)) = uW (3 : Int) part x (TU z)) ∧ ((bif z.n 36 == (0 : Int) then true else false) = false → ((z.n 36 == (0 :
      Int)) = true → True ∧ ((62 : Nat) = (62 : Nat) ∧ (tp24 z (q16 (bits BinOp.and IntKind.u16 x (63456 : Int)) ∧ q32 (z.n 34) ∧ q32 (z.n 35) ∧ q32 (z.n 43) ∧ True)) ∧ S = S) ∧
      U4.mk (cu0 z) (cu1 z) (cu2 z) (Ch.mk (z.n 34) (z.n 35) (z.n 36) (bits BinOp.and IntKind.u16 x (63456 : Int)) (z.n 34) (z.n 35) (16384 : Int) (IntKind.i64.wrap (bits
      BinOp.and IntKind.u16 ((bits BinOp.and IntKind.u16 x (63456 : Int)).fdiv (4096 : Int)) (3 : Int)) == (0 : Int)) true (z.n 43)) = uW (3 : Int) part x (TU z)) ∧ ((z.n 36 ==
      (0 : Int)) = false → True ∧ ((62 : Nat) = (62 : Nat) ∧ (tp24 z (q16 (bits BinOp.and IntKind.u16 x (63456 : Int)) ∧ q32 (z.n 34) ∧ q32 (z.n 35) ∧ q32 (z.n 43) ∧ True)) ∧ S
      = S) ∧ U4.mk (cu0 z) (cu1 z) (cu2 z) (Ch.mk (z.n 34) (z.n 35) (z.n 36) (bits BinOp.and IntKind.u16 x (63456 : Int)) (z.n 34) (z.n 35) (IntKind.i64.wrap (z.n 36))
      (IntKind.i64.wrap (bits BinOp.and IntKind.u16 ((bits BinOp.and IntKind.u16 x (63456 : Int)).fdiv (4096 : Int)) (3 : Int)) == (0 : Int)) true (z.n 43)) = uW (3 : Int) part
      x (TU z)))) ∧ ((IntKind.i64.wrap (bits BinOp.and IntKind.u16 ((bits BinOp.and IntKind.u16 x (63456 : Int)).fdiv (4096 : Int)) (3 : Int)) == (3 : Int)) = false → ((bif z.n
      36 == (0 : Int) then true else false) = true → True ∧ ((62 : Nat) = (62 : Nat) ∧ (tp24 z (q16 (bits BinOp.and IntKind.u16 x (63456 : Int)) ∧ q32 (z.n 34) ∧ q32 (z.n 35) ∧
      q32 (z.n 43) ∧ True)) ∧ S = S) ∧ U4.mk (cu0 z) (cu1 z) (cu2 z) (Ch.mk (z.n 34) (z.n 35) (z.n 36) (bits BinOp.and IntKind.u16 x (63456 : Int)) (z.n 34) (z.n 35) (65536 :
      Int) (IntKind.i64.wrap (bits BinOp.and IntKind.u16 ((bits BinOp.and IntKind.u16 x (63456 : Int)).fdiv (4096 : Int)) (3 : Int)) == (0 : Int)) true (z.n 43)) = uW (3 : Int)
      part x (TU z)) ∧ ((bif z.n 36 == (0 : Int) then true else false) = false → ((z.n 36 == (0 : Int)) = true → True ∧ ((62 : Nat) = (62 : Nat) ∧ (tp24 z (q16 (bits BinOp.and
      IntKind.u16 x (63456 : Int)) ∧ q32 (z.n 34) ∧ q32 (z.n 35) ∧ q32 (z.n 43) ∧ True)) ∧ S = S) ∧ U4.mk (cu0 z) (cu1 z) (cu2 z) (Ch.mk (z.n 34) (z.n 35) (z.n 36) (bits
      BinOp.and IntKind.u16 x (63456 : Int)) (z.n 34) (z.n 35) (16384 : Int) (IntKind.i64.wrap (bits BinOp.and IntKind.u16 ((bits BinOp.and IntKind.u16 x (63456 : Int)).fdiv
      (4096 : Int)) (3 : Int)) == (0 : Int)) true (z.n 43)) = uW (3 : Int) part x (TU z)) ∧ ((z.n 36 == (0 : Int)) = false → True ∧ ((62 : Nat) = (62 : Nat) ∧ (tp24 z (q16 (bits
      BinOp.and IntKind.u16 x (63456 : Int)) ∧ q32 (z.n 34) ∧ q32 (z.n 35) ∧ q32 (z.n 43) ∧ True)) ∧ S = S) ∧ U4.mk (cu0 z) (cu1 z) (cu2 z) (Ch.mk (z.n 34) (z.n 35) (z.n 36)
      (bits BinOp.and IntKind.u16 x (63456 : Int)) (z.n 34) (z.n 35) (IntKind.i64.wrap (z.n 36)) (IntKind.i64.wrap (bits BinOp.and IntKind.u16 ((bits BinOp.and IntKind.u16 x
      (63456 : Int)).fdiv (4096 : Int)) (3 : Int)) == (0 : Int)) true (z.n 43)) = uW (3 : Int) part x (TU z))))) ∧ ((bits BinOp.and IntKind.u16 (bits BinOp.and IntKind.u16 x
      (63456 : Int)) (32768 : Int) != (0 : Int)) = false → ((bif z.n 36 == (0 : Int) then true else false) = true → True ∧ ((62 : Nat) = (62 : Nat) ∧ (tp24 z (q16 (bits
      BinOp.and IntKind.u16 x (63456 : Int)) ∧ q32 (z.n 34) ∧ q32 (z.n 35) ∧ q32 (z.n 43) ∧ True)) ∧ S = S) ∧ U4.mk (cu0 z) (cu1 z) (cu2 z) (Ch.mk (z.n 34) (z.n 35) (z.n 36)
      (bits BinOp.and IntKind.u16 x (63456 : Int)) (z.n 34) (z.n 35) (65536 : Int) (IntKind.i64.wrap (bits BinOp.and IntKind.u16 ((bits BinOp.and IntKind.u16 x (63456 :
      Int)).fdiv (4096 : Int)) (3 : Int)) == (0 : Int)) true (z.n 43)) = uW (3 : Int) part x (TU z)) ∧ ((bif z.n 36 == (0 : Int) then true else false) = false → ((z.n 36 == (0 :
      Int)) = true → True ∧ ((62 : Nat) = (62 : Nat) ∧ (tp24 z (q16 (bits BinOp.and IntKind.u16 x (63456 : Int)) ∧ q32 (z.n 34) ∧ q32 (z.n 35) ∧ q32 (z.n 43) ∧ True)) ∧ S = S) ∧
      U4.mk (cu0 z) (cu1 z) (cu2 z) (Ch.mk (z.n 34) (z.n 35) (z.n 36) (bits BinOp.and IntKind.u16 x (63456 : Int)) (z.n 34) (z.n 35) (16384 : Int) (IntKind.i64.wrap (bits
      BinOp.and IntKind.u16 ((bits BinOp.and IntKind.u16 x (63456 : Int)).fdiv (4096 : Int)) (3 : Int)) == (0 : Int)) true (z.n 43)) = uW (3 : Int) part x (TU z)) ∧ ((z.n 36 ==
      (0 : Int)) = false → True ∧ ((62 : Nat) = (62 : Nat) ∧ (tp24 z (q16 (bits BinOp.and IntKind.u16 x (63456 : Int)) ∧ q32 (z.n 34) ∧ q32 (z.n 35) ∧ q32 (z.n 43) ∧ True)) ∧ S
      = S) ∧ U4.mk (cu0 z) (cu1 z) (cu2 z) (Ch.mk (z.n 34) (z.n 35) (z.n 36) (bits BinOp.and IntKind.u16 x (63456 : Int)) (z.n 34) (z.n 35) (IntKind.i64.wrap (z.n 36))
      (IntKind.i64.wrap (bits BinOp.and IntKind.u16 ((bits BinOp.and IntKind.u16 x (63456 : Int)).fdiv (4096 : Int)) (3 : Int)) == (0 : Int)) true (z.n 43)) = uW (3 : Int) part
      x (TU z))))) ∧ ((!wo (z.n 37)) = false → True ∧ ((62 : Nat) = (62 : Nat) ∧ (tp24 z (q16 (bits BinOp.and IntKind.u16 x (63456 : Int)) ∧ q32 (z.n 38) ∧ q32 (z.n 39) ∧ q32
      (z.n 43) ∧ True)) ∧ S = S) ∧ U4.mk (cu0 z) (cu1 z) (cu2 z) (Ch.mk (z.n 34) (z.n 35) (z.n 36) (bits BinOp.and IntKind.u16 x (63456 : Int)) (z.n 38) (z.n 39) (z.n 40) (z.b
      41) (z.b 42) (z.n 43)) = uW (3 : Int) part x (TU z)))) ∧ ((part == (5 : Int)) = false → True ∧ ((62 : Nat) = (62 : Nat) ∧ (RGu z) ∧ S = S) ∧ TU z = uW (3 : Int) part x (TU
      z)))))))) := by kernel_rfl
set_option maxHeartbeats 2000000 in
theorem wu3_c (E : World) (S : SW) (part x : Int) (z : PX) (hz : rgM z uMs 0) (hp : (fun _ => 0 ≤ x ∧ x ≤ 65535) z) : HC (pe E) 11 [.c (.p 0 0), .c (.i true .i64 3), .c (.i false .i64 part), .c (.i false .u16 x)] uMs S (.t []) (fun z y => (U4.mk (Ch.mk (y.n 1) (y.n 2) (y.n 3) (y.n 4) (y.n 5) (y.n 6) (y.n 7) (y.b 8) (y.b 9) (y.n 10)) (Ch.mk (y.n 12) (y.n 13) (y.n 14) (y.n 15) (y.n 16) (y.n 17) (y.n 18) (y.b 19) (y.b 20) (y.n 21)) (Ch.mk (y.n 23) (y.n 24) (y.n 25) (y.n 26) (y.n 27) (y.n 28) (y.n 29) (y.b 30) (y.b 31) (y.n 32)) (Ch.mk (y.n 34) (y.n 35) (y.n 36) (y.n 37) (y.n 38) (y.n 39) (y.n 40) (y.b 41) (y.b 42) (y.n 43))) = uW 3 part x (U4.mk (Ch.mk (z.n 1) (z.n 2) (z.n 3) (z.n 4) (z.n 5) (z.n 6) (z.n 7) (z.b 8) (z.b 9) (z.n 10)) (Ch.mk (z.n 12) (z.n 13) (z.n 14) (z.n 15) (z.n 16) (z.n 17) (z.n 18) (z.b 19) (z.b 20) (z.n 21)) (Ch.mk (z.n 23) (z.n 24) (z.n 25) (z.n 26) (z.n 27) (z.n 28) (z.n 29) (z.b 30) (z.b 31) (z.n 32)) (Ch.mk (z.n 34) (z.n 35) (z.n 36) (z.n 37) (z.n 38) (z.n 39) (z.n 40) (z.b 41) (z.b 42) (z.n 43)))) z := by
  refine HC.mk false (by rfl) (by rfl) (by rfl) (by rfl) (fnTree_sound (P := pe E) orcA_ok tab_ok tab_sz mixed 20000 Try.func11 (by decide) [.c (.p 0 0), .c (.i true .i64 3), .c (.i false .i64 part), .c (.i false .u16 x)] _) ⟨?_⟩
  rw [wu3_p]
  obtain ⟨h1, h2, h3, h4, h5, h6, h10, h12, h13, h14, h15, h16, h17, h21, h23, h24, h25, h26, h27, h28, h32, h34, h35, h36, h37, h38, h39, h43, _⟩ := rg_u hz
  obtain ⟨p1, p2⟩ := hp
  obtain ⟨n0, n1, n2⟩ := msk x p1 p2
  have a0 := lo_u (z.n 34) x h34.1 h34.2 p1 p2
  have a1 := hi_u (z.n 34) (x % 4096) (by omega) (by omega)
  have a2 := lo_u (z.n 35) x h35.1 h35.2 p1 p2
  have a3 := hi_u (z.n 35) (x % 4096) (by omega) (by omega)
  have k1 : x % 4096 % 2048 = x % 2048 := by omega
  have k2 : x % 2048 % 4096 = x % 2048 := by omega
  have o1 := and15 _ n0 n1
  have o2 := and15 _ h37.1 h37.2
  have o3 := tmu (bits .and .u16 x 63456)
  have c1 : IntKind.i64.wrap (z.n 36) = z.n 36 := by rw [wi64]; omega
  simp only [fw, lw, vsr, px, w3, wo, ro, r3, m11, m12, m14, k1, k2, a0, a1, a2, a3, o1, o2, o3, c1]
  clear a0 a1 a2 a3 o1 o2 o3 c1
  have g0 : 0 ≤ z.n 34 / 65536 * 65536 + x ∧ z.n 34 / 65536 * 65536 + x ≤ 4294967295 := by omega
  have g1 : 0 ≤ z.n 34 % 65536 + x % 4096 * 65536 ∧ z.n 34 % 65536 + x % 4096 * 65536 ≤ 4294967295 := by omega
  have g2 : 0 ≤ z.n 35 / 65536 * 65536 + x ∧ z.n 35 / 65536 * 65536 + x ≤ 4294967295 := by omega
  have g3 : 0 ≤ z.n 35 % 65536 + x % 4096 * 65536 ∧ z.n 35 % 65536 + x % 4096 * 65536 ≤ 4294967295 := by omega
  (repeat' (first | exact trivial | with_reducible rfl | assumption | apply And.intro | intro h)) <;> first | omega | (simp_all [uW, setC, chW, ctlC, ld, fds, TU, TR, cu0, cu1, cu2, cu3, cr0, cr1, cr2, cr3]; done)
end Go.Proofs.Ytpddbhfebhpohaa

