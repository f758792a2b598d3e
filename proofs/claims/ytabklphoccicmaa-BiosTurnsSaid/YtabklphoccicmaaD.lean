import Derived.Test.YtabklphoccicmaaB
set_option linter.unusedVariables false
set_option linter.unusedSimpArgs false
namespace Go.Proofs.Ytabklphoccicmaa
open Go Go.Proofs Go.Proofs.Ytabklphoccicmaa.Ev Go.Proofs.Ytabklphoccicmaa.Ev.Ho
set_option maxRecDepth 100000
theorem wr2_p (E : World) (z : PX) (a x : Int) :
    (hdP ([mB 2, rowB, rowN] : List MB).length [mB 3, rowB, .g HOLE, rowN] (.t []) (fun z y => grM (Mm.mk (z.n 0) (z.n 1) (z.n 2) (z.l 1) (z.l 2)) (Mm.mk (y.n 0) (y.n 1) (y.n 2) (y.l 1) (y.l 3))) z (fnTree (pe E) (orcA E) (tabL fns) 20000 Try.f32 [.c (.p 0 0), .c (.i false .u32 a), .c (.i true .i64 2), .c (.i false .u32 x)] (mkM z [] [mB 2, rowB, rowN] 0))) =
    (decide ((z.n (2 : Nat)).toNat * (3 : Nat) ≤ (z.l (2 : Nat)).length) = true ∧ decide ((z.n (2 : Nat)).toNat + (1 : Nat) ≤ (1099511627776 : Nat)) = true ∧ decide (((z.n (2 :
      Nat)).toNat + (1 : Nat)) * (24 : Nat) ≤ (1099511627776 : Nat)) = true ∧ (decide (IntKind.i64.wrap (IntKind.u32.wrap (IntKind.u32.wrap (a + (0 : Int)) - z.n (0 : Nat))) <
      (↑(z.n (1 : Nat)).toNat : Int)) = true → inB (IntKind.i64.wrap (IntKind.u32.wrap (IntKind.u32.wrap (a + (0 : Int)) - z.n (0 : Nat)))) (z.n (1 : Nat)).toNat = true ∧ decide
      ((IntKind.i64.wrap (IntKind.u32.wrap (IntKind.u32.wrap (a + (0 : Int)) - z.n (0 : Nat)))).toNat + (1 : Nat) ≤ (z.l (1 : Nat)).length) = true ∧ (decide (IntKind.i64.wrap
      (IntKind.u32.wrap (IntKind.u32.wrap (a + (1 : Int)) - z.n (0 : Nat))) < (↑(z.n (1 : Nat)).toNat : Int)) = true → inB (IntKind.i64.wrap (IntKind.u32.wrap (IntKind.u32.wrap
      (a + (1 : Int)) - z.n (0 : Nat)))) (z.n (1 : Nat)).toNat = true ∧ decide ((IntKind.i64.wrap (IntKind.u32.wrap (IntKind.u32.wrap (a + (1 : Int)) - z.n (0 : Nat)))).toNat +
      (1 : Nat) ≤ (rSet (z.l (1 : Nat)) (IntKind.i64.wrap (IntKind.u32.wrap (IntKind.u32.wrap (a + (0 : Int)) - z.n (0 : Nat)))).toNat [C.i false IntKind.u8 (IntKind.u8.wrap
      x)]).length) = true ∧ ((44 : Nat) = (44 : Nat) ∧ True ∧ (5 : Nat) = (5 : Nat) ∧ (flat [Sp.r IntKind.u8 (0 : Int) (255 : Int)] = true ∧ Row [Sp.r IntKind.u8 (0 : Int) (255
      : Int)] (rSet (rSet (z.l (1 : Nat)) (IntKind.i64.wrap (IntKind.u32.wrap (IntKind.u32.wrap (a + (0 : Int)) - z.n (0 : Nat)))).toNat [C.i false IntKind.u8 (IntKind.u8.wrap
      x)]) (IntKind.i64.wrap (IntKind.u32.wrap (IntKind.u32.wrap (a + (1 : Int)) - z.n (0 : Nat)))).toNat [C.i false IntKind.u8 (IntKind.u8.wrap (IntKind.u32.wrap (x.tdiv (256 :
      Int))))])) ∧ (4294967295 : Nat) = (4294967295 : Nat) ∧ (59 : Nat) = (59 : Nat) ∧ (flat [Sp.i IntKind.u32, Sp.i IntKind.i64, Sp.i IntKind.u32] = true ∧ Row [Sp.i
      IntKind.u32, Sp.i IntKind.i64, Sp.i IntKind.u32] (rApp (z.l (2 : Nat)) ((z.n (2 : Nat)).toNat * (3 : Nat)) [C.i false IntKind.u32 a, C.i true IntKind.i64 (2 : Int), C.i
      false IntKind.u32 x])) ∧ ([] : SW) = []) ∧ True ∧ grM (Mm.mk (z.n (0 : Nat)) (z.n (1 : Nat)) (z.n (2 : Nat)) (z.l (1 : Nat)) (z.l (2 : Nat))) (Mm.mk (z.n (0 : Nat)) (↑(z.n
      (1 : Nat)).toNat : Int) (↑((z.n (2 : Nat)).toNat + (1 : Nat)) : Int) (rSet (rSet (z.l (1 : Nat)) (IntKind.i64.wrap (IntKind.u32.wrap (IntKind.u32.wrap (a + (0 : Int)) -
      z.n (0 : Nat)))).toNat [C.i false IntKind.u8 (IntKind.u8.wrap x)]) (IntKind.i64.wrap (IntKind.u32.wrap (IntKind.u32.wrap (a + (1 : Int)) - z.n (0 : Nat)))).toNat [C.i
      false IntKind.u8 (IntKind.u8.wrap (IntKind.u32.wrap (x.tdiv (256 : Int))))]) (rApp (z.l (2 : Nat)) ((z.n (2 : Nat)).toNat * (3 : Nat)) [C.i false IntKind.u32 a, C.i true
      IntKind.i64 (2 : Int), C.i false IntKind.u32 x]))) ∧ (decide (IntKind.i64.wrap (IntKind.u32.wrap (IntKind.u32.wrap (a + (1 : Int)) - z.n (0 : Nat))) < (↑(z.n (1 :
      Nat)).toNat : Int)) = false → ((44 : Nat) = (44 : Nat) ∧ True ∧ (5 : Nat) = (5 : Nat) ∧ (flat [Sp.r IntKind.u8 (0 : Int) (255 : Int)] = true ∧ Row [Sp.r IntKind.u8 (0 :
      Int) (255 : Int)] (rSet (z.l (1 : Nat)) (IntKind.i64.wrap (IntKind.u32.wrap (IntKind.u32.wrap (a + (0 : Int)) - z.n (0 : Nat)))).toNat [C.i false IntKind.u8
      (IntKind.u8.wrap x)])) ∧ (4294967295 : Nat) = (4294967295 : Nat) ∧ (59 : Nat) = (59 : Nat) ∧ (flat [Sp.i IntKind.u32, Sp.i IntKind.i64, Sp.i IntKind.u32] = true ∧ Row
      [Sp.i IntKind.u32, Sp.i IntKind.i64, Sp.i IntKind.u32] (rApp (z.l (2 : Nat)) ((z.n (2 : Nat)).toNat * (3 : Nat)) [C.i false IntKind.u32 a, C.i true IntKind.i64 (2 : Int),
      C.i false IntKind.u32 x])) ∧ ([] : SW) = []) ∧ True ∧ grM (Mm.mk (z.n (0 : Nat)) (z.n (1 : Nat)) (z.n (2 : Nat)) (z.l (1 : Nat)) (z.l (2 : Nat))) (Mm.mk (z.n (0 : Nat))
      (↑(z.n (1 : Nat)).toNat : Int) (↑((z.n (2 : Nat)).toNat + (1 : Nat)) : Int) (rSet (z.l (1 : Nat)) (IntKind.i64.wrap (IntKind.u32.wrap (IntKind.u32.wrap (a + (0 : Int)) -
      z.n (0 : Nat)))).toNat [C.i false IntKind.u8 (IntKind.u8.wrap x)]) (rApp (z.l (2 : Nat)) ((z.n (2 : Nat)).toNat * (3 : Nat)) [C.i false IntKind.u32 a, C.i true IntKind.i64
      (2 : Int), C.i false IntKind.u32 x])))) ∧ (decide (IntKind.i64.wrap (IntKind.u32.wrap (IntKind.u32.wrap (a + (0 : Int)) - z.n (0 : Nat))) < (↑(z.n (1 : Nat)).toNat : Int))
      = false → (decide (IntKind.i64.wrap (IntKind.u32.wrap (IntKind.u32.wrap (a + (1 : Int)) - z.n (0 : Nat))) < (↑(z.n (1 : Nat)).toNat : Int)) = true → inB (IntKind.i64.wrap
      (IntKind.u32.wrap (IntKind.u32.wrap (a + (1 : Int)) - z.n (0 : Nat)))) (z.n (1 : Nat)).toNat = true ∧ decide ((IntKind.i64.wrap (IntKind.u32.wrap (IntKind.u32.wrap (a + (1
      : Int)) - z.n (0 : Nat)))).toNat + (1 : Nat) ≤ (z.l (1 : Nat)).length) = true ∧ ((44 : Nat) = (44 : Nat) ∧ True ∧ (5 : Nat) = (5 : Nat) ∧ (flat [Sp.r IntKind.u8 (0 : Int)
      (255 : Int)] = true ∧ Row [Sp.r IntKind.u8 (0 : Int) (255 : Int)] (rSet (z.l (1 : Nat)) (IntKind.i64.wrap (IntKind.u32.wrap (IntKind.u32.wrap (a + (1 : Int)) - z.n (0 :
      Nat)))).toNat [C.i false IntKind.u8 (IntKind.u8.wrap (IntKind.u32.wrap (x.tdiv (256 : Int))))])) ∧ (4294967295 : Nat) = (4294967295 : Nat) ∧ (59 : Nat) = (59 : Nat) ∧
      (flat [Sp.i IntKind.u32, Sp.i IntKind.i64, Sp.i IntKind.u32] = true ∧ Row [Sp.i IntKind.u32, Sp.i IntKind.i64, Sp.i IntKind.u32] (rApp (z.l (2 : Nat)) ((z.n (2 :
      Nat)).toNat * (3 : Nat)) [C.i false IntKind.u32 a, C.i true IntKind.i64 (2 : Int), C.i false IntKind.u32 x])) ∧ ([] : SW) = []) ∧ True ∧ grM (Mm.mk (z.n (0 : Nat)) (z.n (1
      : Nat)) (z.n (2 : Nat)) (z.l (1 : Nat)) (z.l (2 : Nat))) (Mm.mk (z.n (0 : Nat)) (↑(z.n (1 : Nat)).toNat : Int) (↑((z.n (2 : Nat)).toNat + (1 : Nat)) : Int) (rSet (z.l (1 :
      Nat)) (IntKind.i64.wrap (IntKind.u32.wrap (IntKind.u32.wrap (a + (1 : Int)) - z.n (0 : Nat)))).toNat [C.i false IntKind.u8 (IntKind.u8.wrap (IntKind.u32.wrap (x.tdiv (256
      : Int))))]) (rApp (z.l (2 : Nat)) ((z.n (2 : Nat)).toNat * (3 : Nat)) [C.i false IntKind.u32 a, C.i true IntKind.i64 (2 : Int), C.i false IntKind.u32 x]))) ∧ (decide
      (IntKind.i64.wrap (IntKind.u32.wrap (IntKind.u32.wrap (a + (1 : Int)) - z.n (0 : Nat))) < (↑(z.n (1 : Nat)).toNat : Int)) = false → ((44 : Nat) = (44 : Nat) ∧ True ∧ (5 :
      Nat) = (5 : Nat) ∧ (flat [Sp.r IntKind.u8 (0 : Int) (255 : Int)] = true ∧ Row [Sp.r IntKind.u8 (0 : Int) (255 : Int)] (z.l (1 : Nat))) ∧ (4294967295 : Nat) = (4294967295 :
      Nat) ∧ (59 : Nat) = (59 : Nat) ∧ (flat [Sp.i IntKind.u32, Sp.i IntKind.i64, Sp.i IntKind.u32] = true ∧ Row [Sp.i IntKind.u32, Sp.i IntKind.i64, Sp.i IntKind.u32] (rApp
      (z.l (2 : Nat)) ((z.n (2 : Nat)).toNat * (3 : Nat)) [C.i false IntKind.u32 a, C.i true IntKind.i64 (2 : Int), C.i false IntKind.u32 x])) ∧ ([] : SW) = []) ∧ True ∧ grM
      (Mm.mk (z.n (0 : Nat)) (z.n (1 : Nat)) (z.n (2 : Nat)) (z.l (1 : Nat)) (z.l (2 : Nat))) (Mm.mk (z.n (0 : Nat)) (↑(z.n (1 : Nat)).toNat : Int) (↑((z.n (2 : Nat)).toNat + (1
      : Nat)) : Int) (z.l (1 : Nat)) (rApp (z.l (2 : Nat)) ((z.n (2 : Nat)).toNat * (3 : Nat)) [C.i false IntKind.u32 a, C.i true IntKind.i64 (2 : Int), C.i false IntKind.u32
      x]))))) := by kernel_rfl
set_option maxHeartbeats 4000000 in
theorem wr2_c (E : World) (a x : Int) (z : PX) (hz : rgM z [mB 2, rowB, rowN] 0) (hp : (fun z => okM (Mm.mk (z.n 0) (z.n 1) (z.n 2) (z.l 1) (z.l 2))) z) : HD (pe E) 32 [.c (.p 0 0), .c (.i false .u32 a), .c (.i true .i64 2), .c (.i false .u32 x)] [mB 2, rowB, rowN] [mB 3, rowB, .g HOLE, rowN] (.t []) (fun z y => grM (Mm.mk (z.n 0) (z.n 1) (z.n 2) (z.l 1) (z.l 2)) (Mm.mk (y.n 0) (y.n 1) (y.n 2) (y.l 1) (y.l 3))) z := by
  refine HD.mk (by rfl) (fnTree_sound (P := pe E) orcA_ok tab_ok tab_sz mixed 20000 Try.func32 (by decide) [.c (.p 0 0), .c (.i false .u32 a), .c (.i true .i64 2), .c (.i false .u32 x)] _) ⟨?_⟩
  rw [wr2_p]
  have hR : Row [.r .u8 0 255] (z.l 1) := hz.2.1.2
  have hN : Row [.i .u32, .i .i64, .i .u32] (z.l 2) := hz.2.2.1.2
  have hf1 : flat [Sp.r .u8 0 255] = true := rfl
  have hf2 : flat [Sp.i .u32, Sp.i .i64, Sp.i .u32] = true := rfl
  obtain ⟨k1, k2, k3, k4, k5⟩ := hp
  replace k1 : 0 ≤ z.n 1 := k1
  replace k2 : 0 ≤ z.n 2 := k2
  replace k3 : z.n 2 ≤ 1000000 := k3
  replace k4 : (z.l 1).length = (z.n 1).toNat := k4
  replace k5 : (z.l 2).length = (z.n 2).toNat * 3 := k5
  have t1 : ((z.n 1).toNat : Int) = z.n 1 := Int.toNat_of_nonneg k1
  have t2 : ((z.n 2).toNat : Int) = z.n 2 := Int.toNat_of_nonneg k2
  simp only [t1, t2, len_set]
  have q1 : decide ((z.n 2).toNat * 3 ≤ (z.l 2).length) = true := decide_eq_true (by omega)
  have q2 : decide ((z.n 2).toNat + 1 ≤ 1099511627776) = true := decide_eq_true (by omega)
  have q3 : decide (((z.n 2).toNat + 1) * 24 ≤ 1099511627776) = true := decide_eq_true (by omega)
  repeat' (first | exact trivial | with_reducible rfl | assumption | exact (ndR hR k4 (by assumption) (iu _)).1 | exact pd k4 (by assumption) (iu _) | exact sN hN k5 _ _ _ | exact gr k2 k5 rfl (by simp only [len_set]) | apply sB | exact pl k4 (by assumption) (iu _) | (simp only [len_set]; exact pl k4 (by assumption) (iu _)) | apply And.intro | intro h)
end Go.Proofs.Ytabklphoccicmaa

