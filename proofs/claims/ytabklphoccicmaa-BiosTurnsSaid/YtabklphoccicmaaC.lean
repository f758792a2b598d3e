import Derived.Test.YtabklphoccicmaaB
set_option linter.unusedVariables false
set_option linter.unusedSimpArgs false
namespace Go.Proofs.Ytabklphoccicmaa
open Go Go.Proofs Go.Proofs.Ytabklphoccicmaa.Ev Go.Proofs.Ytabklphoccicmaa.Ev.Ho
set_option maxRecDepth 100000
theorem rd1_p (E : World) (z : PX) (a : Int) :
    (hdP ([mB 2, rowB, rowN] : List MB).length [mB 2, rowB, rowN] (.c (.r .u32 0 255)) (fun z y => (Mm.mk (y.n 0) (y.n 1) (y.n 2) (y.l 1) (y.l 2)) = (Mm.mk (z.n 0) (z.n 1) (z.n 2) (z.l 1) (z.l 2))) z (fnTree (pe E) (orcA E) (tabL fns) 20000 Try.f27 [.c (.p 0 0), .c (.i false .u32 a), .c (.i true .i64 1)] (mkM z [] [mB 2, rowB, rowN] 0))) =
    ((decide (IntKind.i64.wrap (IntKind.u32.wrap (IntKind.u32.wrap (a + (0 : Int)) - z.n (0 : Nat))) < (↑(z.n (1 : Nat)).toNat : Int)) = true → inB (IntKind.i64.wrap
      (IntKind.u32.wrap (IntKind.u32.wrap (a + (0 : Int)) - z.n (0 : Nat)))) (z.n (1 : Nat)).toNat = true ∧ rOk (z.l (1 : Nat)) (IntKind.i64.wrap (IntKind.u32.wrap
      (IntKind.u32.wrap (a + (0 : Int)) - z.n (0 : Nat)))).toNat (EK.i IntKind.u8) = true ∧ ((44 : Nat) = (44 : Nat) ∧ True ∧ (5 : Nat) = (5 : Nat) ∧ (flat [Sp.r IntKind.u8 (0 :
      Int) (255 : Int)] = true ∧ Row [Sp.r IntKind.u8 (0 : Int) (255 : Int)] (z.l (1 : Nat))) ∧ (59 : Nat) = (59 : Nat) ∧ (flat [Sp.i IntKind.u32, Sp.i IntKind.i64, Sp.i
      IntKind.u32] = true ∧ Row [Sp.i IntKind.u32, Sp.i IntKind.i64, Sp.i IntKind.u32] (z.l (2 : Nat))) ∧ ([] : SW) = []) ∧ (((0 : Int) ≤ IntKind.u32.wrap ((0 : Int) +
      IntKind.u32.wrap (rI (z.l (1 : Nat)) (IntKind.i64.wrap (IntKind.u32.wrap (IntKind.u32.wrap (a + (0 : Int)) - z.n (0 : Nat)))).toNat)) ∧ IntKind.u32.wrap ((0 : Int) +
      IntKind.u32.wrap (rI (z.l (1 : Nat)) (IntKind.i64.wrap (IntKind.u32.wrap (IntKind.u32.wrap (a + (0 : Int)) - z.n (0 : Nat)))).toNat)) ≤ (255 : Int)) ∧ True) ∧ Mm.mk (z.n
      (0 : Nat)) (↑(z.n (1 : Nat)).toNat : Int) (↑(z.n (2 : Nat)).toNat : Int) (z.l (1 : Nat)) (z.l (2 : Nat)) = Mm.mk (z.n (0 : Nat)) (z.n (1 : Nat)) (z.n (2 : Nat)) (z.l (1 :
      Nat)) (z.l (2 : Nat))) ∧ (decide (IntKind.i64.wrap (IntKind.u32.wrap (IntKind.u32.wrap (a + (0 : Int)) - z.n (0 : Nat))) < (↑(z.n (1 : Nat)).toNat : Int)) = false → ((44 :
      Nat) = (44 : Nat) ∧ True ∧ (5 : Nat) = (5 : Nat) ∧ (flat [Sp.r IntKind.u8 (0 : Int) (255 : Int)] = true ∧ Row [Sp.r IntKind.u8 (0 : Int) (255 : Int)] (z.l (1 : Nat))) ∧
      (59 : Nat) = (59 : Nat) ∧ (flat [Sp.i IntKind.u32, Sp.i IntKind.i64, Sp.i IntKind.u32] = true ∧ Row [Sp.i IntKind.u32, Sp.i IntKind.i64, Sp.i IntKind.u32] (z.l (2 : Nat)))
      ∧ ([] : SW) = []) ∧ (((0 : Int) ≤ (0 : Int) ∧ (0 : Int) ≤ (255 : Int)) ∧ True) ∧ Mm.mk (z.n (0 : Nat)) (↑(z.n (1 : Nat)).toNat : Int) (↑(z.n (2 : Nat)).toNat : Int) (z.l
      (1 : Nat)) (z.l (2 : Nat)) = Mm.mk (z.n (0 : Nat)) (z.n (1 : Nat)) (z.n (2 : Nat)) (z.l (1 : Nat)) (z.l (2 : Nat)))) := by kernel_rfl
set_option maxHeartbeats 4000000 in
theorem rd1_c (E : World) (a : Int) (z : PX) (hz : rgM z [mB 2, rowB, rowN] 0) (hp : (fun z => okM (Mm.mk (z.n 0) (z.n 1) (z.n 2) (z.l 1) (z.l 2))) z) : HD (pe E) 27 [.c (.p 0 0), .c (.i false .u32 a), .c (.i true .i64 1)] [mB 2, rowB, rowN] [mB 2, rowB, rowN] (.c (.r .u32 0 255)) (fun z y => (Mm.mk (y.n 0) (y.n 1) (y.n 2) (y.l 1) (y.l 2)) = (Mm.mk (z.n 0) (z.n 1) (z.n 2) (z.l 1) (z.l 2))) z := by
  refine HD.mk (by rfl) (fnTree_sound (P := pe E) orcA_ok tab_ok tab_sz mixed 20000 Try.func27 (by decide) [.c (.p 0 0), .c (.i false .u32 a), .c (.i true .i64 1)] _) ⟨?_⟩
  rw [rd1_p]
  have hR : Row [.r .u8 0 255] (z.l 1) := hz.2.1.2
  have hN : Row [.i .u32, .i .i64, .i .u32] (z.l 2) := hz.2.2.1.2
  have hf1 : flat [Sp.r .u8 0 255] = true := rfl
  have hf2 : flat [Sp.i .u32, Sp.i .i64, Sp.i .u32] = true := rfl
  obtain ⟨k1, k2, k3, k4, k5⟩ := hp
  replace k1 : 0 ≤ z.n 1 := k1
  replace k2 : 0 ≤ z.n 2 := k2
  replace k3 : z.n 2 ≤ 1000000 := k3
  replace k4 : (z.l 1).length = (z.n 1).toNat := k4
  replace k5 : (z.l 2).length = (z.n 2).toNat * 3 := k5
  have t1 : ((z.n 1).toNat : Int) = z.n 1 := Int.toNat_of_nonneg k1
  have t2 : ((z.n 2).toNat : Int) = z.n 2 := Int.toNat_of_nonneg k2
  simp only [t1, t2]
  repeat' (first | exact trivial | with_reducible rfl | assumption | with_reducible exact v1 hR _ | with_reducible exact v01 hR _ | with_reducible exact v10 hR _ | with_reducible exact v11 hR _ _ | exact (ndR hR k4 (by assumption) (iu _)).1 | exact (ndR hR k4 (by assumption) (iu _)).2 | exact ⟨by decide, by decide⟩ | apply And.intro | intro h)
theorem rd2_p (E : World) (z : PX) (a : Int) :
    (hdP ([mB 2, rowB, rowN] : List MB).length [mB 2, rowB, rowN] (.c (.r .u32 0 65535)) (fun z y => (Mm.mk (y.n 0) (y.n 1) (y.n 2) (y.l 1) (y.l 2)) = (Mm.mk (z.n 0) (z.n 1) (z.n 2) (z.l 1) (z.l 2))) z (fnTree (pe E) (orcA E) (tabL fns) 20000 Try.f27 [.c (.p 0 0), .c (.i false .u32 a), .c (.i true .i64 2)] (mkM z [] [mB 2, rowB, rowN] 0))) =
    ((decide (IntKind.i64.wrap (IntKind.u32.wrap (IntKind.u32.wrap (a + (1 : Int)) - z.n (0 : Nat))) < (↑(z.n (1 : Nat)).toNat : Int)) = true → inB (IntKind.i64.wrap
      (IntKind.u32.wrap (IntKind.u32.wrap (a + (1 : Int)) - z.n (0 : Nat)))) (z.n (1 : Nat)).toNat = true ∧ rOk (z.l (1 : Nat)) (IntKind.i64.wrap (IntKind.u32.wrap
      (IntKind.u32.wrap (a + (1 : Int)) - z.n (0 : Nat)))).toNat (EK.i IntKind.u8) = true ∧ (decide (IntKind.i64.wrap (IntKind.u32.wrap (IntKind.u32.wrap (a + (0 : Int)) - z.n
      (0 : Nat))) < (↑(z.n (1 : Nat)).toNat : Int)) = true → inB (IntKind.i64.wrap (IntKind.u32.wrap (IntKind.u32.wrap (a + (0 : Int)) - z.n (0 : Nat)))) (z.n (1 : Nat)).toNat =
      true ∧ rOk (z.l (1 : Nat)) (IntKind.i64.wrap (IntKind.u32.wrap (IntKind.u32.wrap (a + (0 : Int)) - z.n (0 : Nat)))).toNat (EK.i IntKind.u8) = true ∧ ((44 : Nat) = (44 :
      Nat) ∧ True ∧ (5 : Nat) = (5 : Nat) ∧ (flat [Sp.r IntKind.u8 (0 : Int) (255 : Int)] = true ∧ Row [Sp.r IntKind.u8 (0 : Int) (255 : Int)] (z.l (1 : Nat))) ∧ (59 : Nat) =
      (59 : Nat) ∧ (flat [Sp.i IntKind.u32, Sp.i IntKind.i64, Sp.i IntKind.u32] = true ∧ Row [Sp.i IntKind.u32, Sp.i IntKind.i64, Sp.i IntKind.u32] (z.l (2 : Nat))) ∧ ([] : SW)
      = []) ∧ (((0 : Int) ≤ IntKind.u32.wrap (IntKind.u32.wrap (IntKind.u32.wrap ((0 : Int) + IntKind.u32.wrap (rI (z.l (1 : Nat)) (IntKind.i64.wrap (IntKind.u32.wrap
      (IntKind.u32.wrap (a + (1 : Int)) - z.n (0 : Nat)))).toNat)) * (256 : Int)) + IntKind.u32.wrap (rI (z.l (1 : Nat)) (IntKind.i64.wrap (IntKind.u32.wrap (IntKind.u32.wrap (a
      + (0 : Int)) - z.n (0 : Nat)))).toNat)) ∧ IntKind.u32.wrap (IntKind.u32.wrap (IntKind.u32.wrap ((0 : Int) + IntKind.u32.wrap (rI (z.l (1 : Nat)) (IntKind.i64.wrap
      (IntKind.u32.wrap (IntKind.u32.wrap (a + (1 : Int)) - z.n (0 : Nat)))).toNat)) * (256 : Int)) + IntKind.u32.wrap (rI (z.l (1 : Nat)) (IntKind.i64.wrap (IntKind.u32.wrap
      (IntKind.u32.wrap (a + (0 : Int)) - z.n (0 : Nat)))).toNat)) ≤ (65535 : Int)) ∧ True) ∧ Mm.mk (z.n (0 : Nat)) (↑(z.n (1 : Nat)).toNat : Int) (↑(z.n (2 : Nat)).toNat : Int)
      (z.l (1 : Nat)) (z.l (2 : Nat)) = Mm.mk (z.n (0 : Nat)) (z.n (1 : Nat)) (z.n (2 : Nat)) (z.l (1 : Nat)) (z.l (2 : Nat))) ∧ (decide (IntKind.i64.wrap (IntKind.u32.wrap
      (IntKind.u32.wrap (a + (0 : Int)) - z.n (0 : Nat))) < (↑(z.n (1 : Nat)).toNat : Int)) = false → ((44 : Nat) = (44 : Nat) ∧ True ∧ (5 : Nat) = (5 : Nat) ∧ (flat [Sp.r
      IntKind.u8 (0 : Int) (255 : Int)] = true ∧ Row [Sp.r IntKind.u8 (0 : Int) (255 : Int)] (z.l (1 : Nat))) ∧ (59 : Nat) = (59 : Nat) ∧ (flat [Sp.i IntKind.u32, Sp.i
      IntKind.i64, Sp.i IntKind.u32] = true ∧ Row [Sp.i IntKind.u32, Sp.i IntKind.i64, Sp.i IntKind.u32] (z.l (2 : Nat))) ∧ ([] : SW) = []) ∧ (((0 : Int) ≤ IntKind.u32.wrap
      (IntKind.u32.wrap ((0 : Int) + IntKind.u32.wrap (rI (z.l (1 : Nat)) (IntKind.i64.wrap (IntKind.u32.wrap (IntKind.u32.wrap (a + (1 : Int)) - z.n (0 : Nat)))).toNat)) * (256
      : Int)) ∧ IntKind.u32.wrap (IntKind.u32.wrap ((0 : Int) + IntKind.u32.wrap (rI (z.l (1 : Nat)) (IntKind.i64.wrap (IntKind.u32.wrap (IntKind.u32.wrap (a + (1 : Int)) - z.n
      (0 : Nat)))).toNat)) * (256 : Int)) ≤ (65535 : Int)) ∧ True) ∧ Mm.mk (z.n (0 : Nat)) (↑(z.n (1 : Nat)).toNat : Int) (↑(z.n (2 : Nat)).toNat : Int) (z.l (1 : Nat)) (z.l (2
      : Nat)) = Mm.mk (z.n (0 : Nat)) (z.n (1 : Nat)) (z.n (2 : Nat)) (z.l (1 : Nat)) (z.l (2 : Nat)))) ∧ (decide (IntKind.i64.wrap (IntKind.u32.wrap (IntKind.u32.wrap (a + (1 :
      Int)) - z.n (0 : Nat))) < (↑(z.n (1 : Nat)).toNat : Int)) = false → (decide (IntKind.i64.wrap (IntKind.u32.wrap (IntKind.u32.wrap (a + (0 : Int)) - z.n (0 : Nat))) <
      (↑(z.n (1 : Nat)).toNat : Int)) = true → inB (IntKind.i64.wrap (IntKind.u32.wrap (IntKind.u32.wrap (a + (0 : Int)) - z.n (0 : Nat)))) (z.n (1 : Nat)).toNat = true ∧ rOk
      (z.l (1 : Nat)) (IntKind.i64.wrap (IntKind.u32.wrap (IntKind.u32.wrap (a + (0 : Int)) - z.n (0 : Nat)))).toNat (EK.i IntKind.u8) = true ∧ ((44 : Nat) = (44 : Nat) ∧ True ∧
      (5 : Nat) = (5 : Nat) ∧ (flat [Sp.r IntKind.u8 (0 : Int) (255 : Int)] = true ∧ Row [Sp.r IntKind.u8 (0 : Int) (255 : Int)] (z.l (1 : Nat))) ∧ (59 : Nat) = (59 : Nat) ∧
      (flat [Sp.i IntKind.u32, Sp.i IntKind.i64, Sp.i IntKind.u32] = true ∧ Row [Sp.i IntKind.u32, Sp.i IntKind.i64, Sp.i IntKind.u32] (z.l (2 : Nat))) ∧ ([] : SW) = []) ∧ (((0
      : Int) ≤ IntKind.u32.wrap ((0 : Int) + IntKind.u32.wrap (rI (z.l (1 : Nat)) (IntKind.i64.wrap (IntKind.u32.wrap (IntKind.u32.wrap (a + (0 : Int)) - z.n (0 :
      Nat)))).toNat)) ∧ IntKind.u32.wrap ((0 : Int) + IntKind.u32.wrap (rI (z.l (1 : Nat)) (IntKind.i64.wrap (IntKind.u32.wrap (IntKind.u32.wrap (a + (0 : Int)) - z.n (0 :
      Nat)))).toNat)) ≤ (65535 : Int)) ∧ True) ∧ Mm.mk (z.n (0 : Nat)) (↑(z.n (1 : Nat)).toNat : Int) (↑(z.n (2 : Nat)).toNat : Int) (z.l (1 : Nat)) (z.l (2 : Nat)) = Mm.mk (z.n
      (0 : Nat)) (z.n (1 : Nat)) (z.n (2 : Nat)) (z.l (1 : Nat)) (z.l (2 : Nat))) ∧ (decide (IntKind.i64.wrap (IntKind.u32.wrap (IntKind.u32.wrap (a + (0 : Int)) - z.n (0 :
      Nat))) < (↑(z.n (1 : Nat)).toNat : Int)) = false → ((44 : Nat) = (44 : Nat) ∧ True ∧ (5 : Nat) = (5 : Nat) ∧ (flat [Sp.r IntKind.u8 (0 : Int) (255 : Int)] = true ∧ Row
      [Sp.r IntKind.u8 (0 : Int) (255 : Int)] (z.l (1 : Nat))) ∧ (59 : Nat) = (59 : Nat) ∧ (flat [Sp.i IntKind.u32, Sp.i IntKind.i64, Sp.i IntKind.u32] = true ∧ Row [Sp.i
      IntKind.u32, Sp.i IntKind.i64, Sp.i IntKind.u32] (z.l (2 : Nat))) ∧ ([] : SW) = []) ∧ (((0 : Int) ≤ (0 : Int) ∧ (0 : Int) ≤ (65535 : Int)) ∧ True) ∧ Mm.mk (z.n (0 : Nat))
      (↑(z.n (1 : Nat)).toNat : Int) (↑(z.n (2 : Nat)).toNat : Int) (z.l (1 : Nat)) (z.l (2 : Nat)) = Mm.mk (z.n (0 : Nat)) (z.n (1 : Nat)) (z.n (2 : Nat)) (z.l (1 : Nat)) (z.l
      (2 : Nat))))) := by kernel_rfl
set_option maxHeartbeats 4000000 in
theorem rd2_c (E : World) (a : Int) (z : PX) (hz : rgM z [mB 2, rowB, rowN] 0) (hp : (fun z => okM (Mm.mk (z.n 0) (z.n 1) (z.n 2) (z.l 1) (z.l 2))) z) : HD (pe E) 27 [.c (.p 0 0), .c (.i false .u32 a), .c (.i true .i64 2)] [mB 2, rowB, rowN] [mB 2, rowB, rowN] (.c (.r .u32 0 65535)) (fun z y => (Mm.mk (y.n 0) (y.n 1) (y.n 2) (y.l 1) (y.l 2)) = (Mm.mk (z.n 0) (z.n 1) (z.n 2) (z.l 1) (z.l 2))) z := by
  refine HD.mk (by rfl) (fnTree_sound (P := pe E) orcA_ok tab_ok tab_sz mixed 20000 Try.func27 (by decide) [.c (.p 0 0), .c (.i false .u32 a), .c (.i true .i64 2)] _) ⟨?_⟩
  rw [rd2_p]
  have hR : Row [.r .u8 0 255] (z.l 1) := hz.2.1.2
  have hN : Row [.i .u32, .i .i64, .i .u32] (z.l 2) := hz.2.2.1.2
  have hf1 : flat [Sp.r .u8 0 255] = true := rfl
  have hf2 : flat [Sp.i .u32, Sp.i .i64, Sp.i .u32] = true := rfl
  obtain ⟨k1, k2, k3, k4, k5⟩ := hp
  replace k1 : 0 ≤ z.n 1 := k1
  replace k2 : 0 ≤ z.n 2 := k2
  replace k3 : z.n 2 ≤ 1000000 := k3
  replace k4 : (z.l 1).length = (z.n 1).toNat := k4
  replace k5 : (z.l 2).length = (z.n 2).toNat * 3 := k5
  have t1 : ((z.n 1).toNat : Int) = z.n 1 := Int.toNat_of_nonneg k1
  have t2 : ((z.n 2).toNat : Int) = z.n 2 := Int.toNat_of_nonneg k2
  simp only [t1, t2]
  repeat' (first | exact trivial | with_reducible rfl | assumption | with_reducible exact v1 hR _ | with_reducible exact v01 hR _ | with_reducible exact v10 hR _ | with_reducible exact v11 hR _ _ | exact (ndR hR k4 (by assumption) (iu _)).1 | exact (ndR hR k4 (by assumption) (iu _)).2 | exact ⟨by decide, by decide⟩ | apply And.intro | intro h)
theorem rd4_p (E : World) (z : PX) (a : Int) :
    (hdP ([mB 2, rowB, rowN] : List MB).length [mB 2, rowB, rowN] (.c (.i .u32)) (fun z y => (Mm.mk (y.n 0) (y.n 1) (y.n 2) (y.l 1) (y.l 2)) = (Mm.mk (z.n 0) (z.n 1) (z.n 2) (z.l 1) (z.l 2))) z (fnTree (pe E) (orcA E) (tabL fns) 20000 Try.f27 [.c (.p 0 0), .c (.i false .u32 a), .c (.i true .i64 4)] (mkM z [] [mB 2, rowB, rowN] 0))) =
    ((decide (IntKind.i64.wrap (IntKind.u32.wrap (IntKind.u32.wrap (a + (3 : Int)) - z.n (0 : Nat))) < (↑(z.n (1 : Nat)).toNat : Int)) = true → inB (IntKind.i64.wrap
      (IntKind.u32.wrap (IntKind.u32.wrap (a + (3 : Int)) - z.n (0 : Nat)))) (z.n (1 : Nat)).toNat = true ∧ rOk (z.l (1 : Nat)) (IntKind.i64.wrap (IntKind.u32.wrap
      (IntKind.u32.wrap (a + (3 : Int)) - z.n (0 : Nat)))).toNat (EK.i IntKind.u8) = true ∧ (decide (IntKind.i64.wrap (IntKind.u32.wrap (IntKind.u32.wrap (a + (2 : Int)) - z.n
      (0 : Nat))) < (↑(z.n (1 : Nat)).toNat : Int)) = true → inB (IntKind.i64.wrap (IntKind.u32.wrap (IntKind.u32.wrap (a + (2 : Int)) - z.n (0 : Nat)))) (z.n (1 : Nat)).toNat =
      true ∧ rOk (z.l (1 : Nat)) (IntKind.i64.wrap (IntKind.u32.wrap (IntKind.u32.wrap (a + (2 : Int)) - z.n (0 : Nat)))).toNat (EK.i IntKind.u8) = true ∧ (decide
      (IntKind.i64.wrap (IntKind.u32.wrap (IntKind.u32.wrap (a + (1 : Int)) - z.n (0 : Nat))) < (↑(z.n (1 : Nat)).toNat : Int)) = true → inB (IntKind.i64.wrap (IntKind.u32.wrap
      (IntKind.u32.wrap (a + (1 : Int)) - z.n (0 : Nat)))) (z.n (1 : Nat)).toNat = true ∧ rOk (z.l (1 : Nat)) (IntKind.i64.wrap (IntKind.u32.wrap (IntKind.u32.wrap (a + (1 :
      Int)) - z.n (0 : Nat)))).toNat (EK.i IntKind.u8) = true ∧ (decide (IntKind.i64.wrap (IntKind.u32.wrap (IntKind.u32.wrap (a + (0 : Int)) - z.n (0 : Nat))) < (↑(z.n (1 :
      Nat)).toNat : Int)) = true → inB (IntKind.i64.wrap (IntKind.u32.wrap (IntKind.u32.wrap (a + (0 : Int)) - z.n (0 : Nat)))) (z.n (1 : Nat)).toNat = true ∧ rOk (z.l (1 :
      Nat)) (IntKind.i64.wrap (IntKind.u32.wrap (IntKind.u32.wrap (a + (0 : Int)) - z.n (0 : Nat)))).toNat (EK.i IntKind.u8) = true ∧ ((44 : Nat) = (44 : Nat) ∧ True ∧ (5 : Nat)
      = (5 : Nat) ∧ (flat [Sp.r IntKind.u8 (0 : Int) (255 : Int)] = true ∧ Row [Sp.r IntKind.u8 (0 : Int) (255 : Int)] (z.l (1 : Nat))) ∧ (59 : Nat) = (59 : Nat) ∧ (flat [Sp.i
      IntKind.u32, Sp.i IntKind.i64, Sp.i IntKind.u32] = true ∧ Row [Sp.i IntKind.u32, Sp.i IntKind.i64, Sp.i IntKind.u32] (z.l (2 : Nat))) ∧ ([] : SW) = []) ∧ True ∧ Mm.mk (z.n
      (0 : Nat)) (↑(z.n (1 : Nat)).toNat : Int) (↑(z.n (2 : Nat)).toNat : Int) (z.l (1 : Nat)) (z.l (2 : Nat)) = Mm.mk (z.n (0 : Nat)) (z.n (1 : Nat)) (z.n (2 : Nat)) (z.l (1 :
      Nat)) (z.l (2 : Nat))) ∧ (decide (IntKind.i64.wrap (IntKind.u32.wrap (IntKind.u32.wrap (a + (0 : Int)) - z.n (0 : Nat))) < (↑(z.n (1 : Nat)).toNat : Int)) = false → ((44 :
      Nat) = (44 : Nat) ∧ True ∧ (5 : Nat) = (5 : Nat) ∧ (flat [Sp.r IntKind.u8 (0 : Int) (255 : Int)] = true ∧ Row [Sp.r IntKind.u8 (0 : Int) (255 : Int)] (z.l (1 : Nat))) ∧
      (59 : Nat) = (59 : Nat) ∧ (flat [Sp.i IntKind.u32, Sp.i IntKind.i64, Sp.i IntKind.u32] = true ∧ Row [Sp.i IntKind.u32, Sp.i IntKind.i64, Sp.i IntKind.u32] (z.l (2 : Nat)))
      ∧ ([] : SW) = []) ∧ True ∧ Mm.mk (z.n (0 : Nat)) (↑(z.n (1 : Nat)).toNat : Int) (↑(z.n (2 : Nat)).toNat : Int) (z.l (1 : Nat)) (z.l (2 : Nat)) = Mm.mk (z.n (0 : Nat)) (z.n
      (1 : Nat)) (z.n (2 : Nat)) (z.l (1 : Nat)) (z.l (2 : Nat)))) ∧ (decide (IntKind.i64.wrap (IntKind.u32.wrap (IntKind.u32.wrap (a + (1 : Int)) - z.n (0 : Nat))) < (↑(z.n (1
      : Nat)).toNat : Int)) = false → (decide (IntKind.i64.wrap (IntKind.u32.wrap (IntKind.u32.wrap (a + (0 : Int)) - z.n (0 : Nat))) < (↑(z.n (1 : Nat)).toNat : Int)) = true →
      inB (IntKind.i64.wrap (IntKind.u32.wrap (IntKind.u32.wrap (a + (0 : Int)) - z.n (0 : Nat)))) (z.n (1 : Nat)).toNat = true ∧ rOk (z.l (1 : Nat)) (IntKind.i64.wrap
      (IntKind.u32.wrap (IntKind.u32.wrap (a + (0 : Int)) - z.n (0 : Nat)))).toNat (EK.i IntKind.u8) = true ∧ ((44 : Nat) = (44 : Nat) ∧ True ∧ (5 : Nat) = (5 : Nat) ∧ (flat
      [Sp.r IntKind.u8 (0 : Int) (255 : Int)] = true ∧ Row [Sp.r IntKind.u8 (0 : Int) (255 : Int)] (z.l (1 : Nat))) ∧ (59 : Nat) = (59 : Nat) ∧ (flat [Sp.i IntKind.u32, Sp.i
      IntKind.i64, Sp.i IntKind.u32] = true ∧ Row [Sp.i IntKind.u32, Sp.i IntKind.i64, Sp.i IntKind.u32] (z.l (2 : Nat))) ∧ ([] : SW) = []) ∧ True ∧ Mm.mk (z.n (0 : Nat)) (↑(z.n
      (1 : Nat)).toNat : Int) (↑(z.n (2 : Nat)).toNat : Int) (z.l (1 : Nat)) (z.l (2 : Nat)) = Mm.mk (z.n (0 : Nat)) (z.n (1 : Nat)) (z.n (2 : Nat)) (z.l (1 : Nat)) (z.l (2 :
      Nat))) ∧ (decide (IntKind.i64.wrap (IntKind.u32.wrap (IntKind.u32.wrap (a + (0 : Int)) - z.n (0 : Nat))) < (↑(z.n (1 : Nat)).toNat : Int)) = false → ((44 : Nat) = (44 :
      Nat) ∧ True ∧ (5 : Nat) = (5 : Nat) ∧ (flat [Sp.r IntKind.u8 (0 : Int) (255 : Int)] = true ∧ Row [Sp.r IntKind.u8 (0 : Int) (255 : Int)] (z.l (1 : Nat))) ∧ (59 : Nat) =
      (59 : Nat) ∧ (flat [Sp.i IntKind.u32, Sp.i IntKind.i64, Sp.i IntKind.u32] = true ∧ Row [Sp.i IntKind.u32, Sp.i IntKind.i64, Sp.i IntKind.u32] (z.l (2 : Nat))) ∧ ([] : SW)
      = []) ∧ True ∧ Mm.mk (z.n (0 : Nat)) (↑(z.n (1 : Nat)).toNat : Int) (↑(z.n (2 : Nat)).toNat : Int) (z.l (1 : Nat)) (z.l (2 : Nat)) = Mm.mk (z.n (0 : Nat)) (z.n (1 : Nat))
      (z.n (2 : Nat)) (z.l (1 : Nat)) (z.l (2 : Nat))))) ∧ (decide (IntKind.i64.wrap (IntKind.u32.wrap (IntKind.u32.wrap (a + (2 : Int)) - z.n (0 : Nat))) < (↑(z.n (1 :
      Nat)).toNat : Int)) = false → (decide (IntKind.i64.wrap (IntKind.u32.wrap (IntKind.u32.wrap (a + (1 : Int)) - z.n (0 : Nat))) < (↑(z.n (1 : Nat)).toNat : Int)) = true →
      inB (IntKind.i64.wrap (IntKind.u32.wrap (IntKind.u32.wrap (a + (1 : Int)) - z.n (0 : Nat)))) (z.n (1 : Nat)).toNat = true ∧ rOk (z.l (1 : Nat)) (IntKind.i64.wrap
      (IntKind.u32.wrap (IntKind.u32.wrap (a + (1 : Int)) - z.n (0 : Nat)))).toNat (EK.i IntKind.u8) = true ∧ (decide (IntKind.i64.wrap (IntKind.u32.wrap (IntKind.u32.wrap (a +
      (0 : Int)) - z.n (0 : Nat))) < (↑(z.n (1 : Nat)).toNat : Int)) = true → inB (IntKind.i64.wrap (IntKind.u32.wrap (IntKind.u32.wrap (a + (0 : Int)) - z.n (0 : Nat)))) (z.n
      (1 : Nat)).toNat = true ∧ rOk (z.l (1 : Nat)) (IntKind.i64.wrap (IntKind.u32.wrap (IntKind.u32.wrap (a + (0 : Int)) - z.n (0 : Nat)))).toNat (EK.i IntKind.u8) = true ∧
      ((44 : Nat) = (44 : Nat) ∧ True ∧ (5 : Nat) = (5 : Nat) ∧ (flat [Sp.r IntKind.u8 (0 : Int) (255 : Int)] = true ∧ Row [Sp.r IntKind.u8 (0 : Int) (255 : Int)] (z.l (1 :
      Nat))) ∧ (59 : Nat) = (59 : Nat) ∧ (flat [Sp.i IntKind.u32, Sp.i IntKind.i64, Sp.i IntKind.u32] = true ∧ Row [Sp.i IntKind.u32, Sp.i IntKind.i64, Sp.i IntKind.u32] (z.l (2
      : Nat))) ∧ ([] : SW) = []) ∧ True ∧ Mm.mk (z.n (0 : Nat)) (↑(z.n (1 : Nat)).toNat : Int) (↑(z.n (2 : Nat)).toNat : Int) (z.l (1 : Nat)) (z.l (2 : Nat)) = Mm.mk (z.n (0 :
      Nat)) (z.n (1 : Nat)) (z.n (2 : Nat)) (z.l (1 : Nat)) (z.l (2 : Nat))) ∧ (decide (IntKind.i64.wrap (IntKind.u32.wrap (IntKind.u32.wrap (a + (0 : Int)) - z.n (0 : Nat))) <
      (↑(z.n (1 : Nat)).toNat : Int)) = false → ((44 : Nat) = (44 : Nat) ∧ True ∧ (5 : Nat) = (5 : Nat) ∧ (flat [Sp.r IntKind.u8 (0 : Int) (255 : Int)] = true ∧ Row [Sp.r
      IntKind.u8 (0 : Int) (255 : Int)] (z.l (1 : Nat))) ∧ (59 : Nat) = (59 : Nat) ∧ (flat [Sp.i IntKind.u32, Sp.i IntKind.i64, Sp.i IntKind.u32] = true ∧ Row [Sp.i IntKind.u32,
      Sp.i IntKind.i64, Sp.i IntKind.u32] (z.l (2 : Nat))) ∧ ([] : SW) = []) ∧ True ∧ Mm.mk (z.n (0 : Nat)) (↑(z.n (1 : Nat)).toNat : Int) (↑(z.n (2 : Nat)).toNat : Int) (z.l (1
      : Nat)) (z.l (2 : Nat)) = Mm.mk (z.n (0 : Nat)) (z.n (1 : Nat)) (z.n (2 : Nat)) (z.l (1 : Nat)) (z.l (2 : Nat)))) ∧ (decide (IntKind.i64.wrap (IntKind.u32.wrap
      (IntKind.u32.wrap (a + (1 : Int)) - z.n (0 : Nat))) < (↑(z.n (1 : Nat)).toNat : Int)) = false → (decide (IntKind.i64.wrap (IntKind.u32.wrap (IntKind.u32.wrap (a + (0 :
      Int)) - z.n (0 : Nat))) < (↑(z.n (1 : Nat)).toNat : Int)) = true → inB (IntKind.i64.wrap (IntKind.u32.wrap (IntKind.u32.wrap (a + (0 : Int)) - z.n (0 : Nat)))) (z.n (1 :
      Nat)).toNat = true ∧ rOk (z.l (1 : Nat)) (IntKind.i64.wrap (IntKind.u32.wrap (IntKind.u32.wrap (a + (0 : Int)) - z.n (0 : Nat)))).toNat (EK.i IntKind.u8) = true ∧ ((44 :
      Nat) = (44 : Nat) ∧ True ∧ (5 : Nat) = (5 : Nat) ∧ (flat [Sp.r IntKind.u8 (0 : Int) (255 : Int)] = true ∧ Row [Sp.r IntKind.u8 (0 : Int) (255 : Int)] (z.l (1 : Nat))) ∧
      (59 : Nat) = (59 : Nat) ∧ (flat [Sp.i IntKind.u32, Sp.i IntKind.i64, Sp.i IntKind.u32] = true ∧ Row [Sp.i IntKind.u32, Sp.i IntKind.i64, Sp.i IntKind.u32] (z.l (2 : Nat)))
      ∧ ([] : SW) = []) ∧ True ∧ Mm.mk (z.n (0 : Nat)) (↑(z.n (1 : Nat)).toNat : Int) (↑(z.n (2 : Nat)).toNat : Int) (z.l (1 : Nat)) (z.l (2 : Nat)) = Mm.mk (z.n (0 : Nat)) (z.n
      (1 : Nat)) (z.n (2 : Nat)) (z.l (1 : Nat)) (z.l (2 : Nat))) ∧ (decide (IntKind.i64.wrap (IntKind.u32.wrap (IntKind.u32.wrap (a + (0 : Int)) - z.n (0 : Nat))) < (↑(z.n (1 :
      Nat)).toNat : Int)) = false → ((44 : Nat) = (44 : Nat) ∧ True ∧ (5 : Nat) = (5 : Nat) ∧ (flat [Sp.r IntKind.u8 (0 : Int) (255 : Int)] = true ∧ Row [Sp.r IntKind.u8 (0 :
      Int) (255 : Int)] (z.l (1 : Nat))) ∧ (59 : Nat) = (59 : Nat) ∧ (flat [Sp.i IntKind.u32, Sp.i IntKind.i64, Sp.i IntKind.u32] = true ∧ Row [Sp.i IntKind.u32, Sp.i
      IntKind.i64, Sp.i IntKind.u32] (z.l (2 : Nat))) ∧ ([] : SW) = []) ∧ True ∧ Mm.mk (z.n (0 : Nat)) (↑(z.n (1 : Nat)).toNat : Int) (↑(z.n (2 : Nat)).toNat : Int) (z.l (1 :
      Nat)) (z.l (2 : Nat)) = Mm.mk (z.n (0 : Nat)) (z.n (1 : Nat)) (z.n (2 : Nat)) (z.l (1 : Nat)) (z.l (2 : Nat)))))) ∧ (decide (IntKind.i64.wrap (IntKind.u32.wrap
      (IntKind.u32.wrap (a + (3 : Int)) - z.n (0 : Nat))) < (↑(z.n (1 : Nat)).toNat : Int)) = false → (decide (IntKind.i64.wrap (IntKind.u32.wrap (IntKind.u32.wrap (a + (2 :
      Int)) - z.n (0 : Nat))) < (↑(z.n (1 : Nat)).toNat : Int)) = true → inB (IntKind.i64.wrap (IntKind.u32.wrap (IntKind.u32.wrap (a + (2 : Int)) - z.n (0 : Nat)))) (z.n (1 :
      Nat)).toNat = true ∧ rOk (z.l (1 : Nat)) (IntKind.i64.wrap (IntKind.u32.wrap (IntKind.u32.wrap (a + (2 : Int)) - z.n (0 : Nat)))).toNat (EK.i IntKind.u8) = true ∧ (decide
      (IntKind.i64.wrap (IntKind.u32.wrap (IntKind.u32.wrap (a + (1 : Int)) - z.n (0 : Nat))) < (↑(z.n (1 : Nat)).toNat : Int)) = true → inB (IntKind.i64.wrap (IntKind.u32.wrap
      (IntKind.u32.wrap (a + (1 : Int)) - z.n (0 : Nat)))) (z.n (1 : Nat)).toNat = true ∧ rOk (z.l (1 : Nat)) (IntKind.i64.wrap (IntKind.u32.wrap (IntKind.u32.wrap (a + (1 :
      Int)) - z.n (0 : Nat)))).toNat (EK.i IntKind.u8) = true ∧ (decide (IntKind.i64.wrap (IntKind.u32.wrap (IntKind.u32.wrap (a + (0 : Int)) - z.n (0 : Nat))) < (↑(z.n (1 :
      Nat)).toNat : Int)) = true → inB (IntKind.i64.wrap (IntKind.u32.wrap (IntKind.u32.wrap (a + (0 : Int)) - z.n (0 : Nat)))) (z.n (1 : Nat)).toNat = true ∧ rOk (z.l (1 :
      Nat)) (IntKind.i64.wrap (IntKind.u32.wrap (IntKind.u32.wrap (a + (0 : Int)) - z.n (0 : Nat)))).toNat (EK.i IntKind.u8) = true ∧ ((44 : Nat) = (44 : Nat) ∧ True ∧ (5 : Nat)
      = (5 : Nat) ∧ (flat [Sp.r IntKind.u8 (0 : Int) (255 : Int)] = true ∧ Row [Sp.r IntKind.u8 (0 : Int) (255 : Int)] (z.l (1 : Nat))) ∧ (59 : Nat) = (59 : Nat) ∧ (flat [Sp.i
      IntKind.u32, Sp.i IntKind.i64, Sp.i IntKind.u32] = true ∧ Row [Sp.i IntKind.u32, Sp.i IntKind.i64, Sp.i IntKind.u32] (z.l (2 : Nat))) ∧ ([] : SW) = []) ∧ True ∧ Mm.mk (z.n
      (0 : Nat)) (↑(z.n (1 : Nat)).toNat : Int) (↑(z.n (2 : Nat)).toNat : Int) (z.l (1 : Nat)) (z.l (2 : Nat)) = Mm.mk (z.n (0 : Nat)) (z.n (1 : Nat)) (z.n (2 : Nat)) (z.l (1 :
      Nat)) (z.l (2 : Nat))) ∧ (decide (IntKind.i64.wrap (IntKind.u32.wrap (IntKind.u32.wrap (a + (0 : Int)) - z.n (0 : Nat))) < (↑(z.n (1 : Nat)).toNat : Int)) = false → ((44 :
      Nat) = (44 : Nat) ∧ True ∧ (5 : Nat) = (5 : Nat) ∧ (flat [Sp.r IntKind.u8 (0 : Int) (255 : Int)] = true ∧ Row [Sp.r IntKind.u8 (0 : Int) (255 : Int)] (z.l (1 : Nat))) ∧
      (59 : Nat) = (59 : Nat) ∧ (flat [Sp.i IntKind.u32, Sp.i IntKind.i64, Sp.i IntKind.u32] = true ∧ Row [Sp.i IntKind.u32, Sp.i IntKind.i64, Sp.i IntKind.u32] (z.l (2 : Nat)))
      ∧ ([] : SW) = []) ∧ True ∧ Mm.mk (z.n (0 : Nat)) (↑(z.n (1 : Nat)).toNat : Int) (↑(z.n (2 : Nat)).toNat : Int) (z.l (1 : Nat)) (z.l (2 : Nat)) = Mm.mk (z.n (0 : Nat)) (z.n
      (1 : Nat)) (z.n (2 : Nat)) (z.l (1 : Nat)) (z.l (2 : Nat)))) ∧ (decide (IntKind.i64.wrap (IntKind.u32.wrap (IntKind.u32.wrap (a + (1 : Int)) - z.n (0 : Nat))) < (↑(z.n (1
      : Nat)).toNat : Int)) = false → (decide (IntKind.i64.wrap (IntKind.u32.wrap (IntKind.u32.wrap (a + (0 : Int)) - z.n (0 : Nat))) < (↑(z.n (1 : Nat)).toNat : Int)) = true →
      inB (IntKind.i64.wrap (IntKind.u32.wrap (IntKind.u32.wrap (a + (0 : Int)) - z.n (0 : Nat)))) (z.n (1 : Nat)).toNat = true ∧ rOk (z.l (1 : Nat)) (IntKind.i64.wrap
      (IntKind.u32.wrap (IntKind.u32.wrap (a + (0 : Int)) - z.n (0 : Nat)))).toNat (EK.i IntKind.u8) = true ∧ ((44 : Nat) = (44 : Nat) ∧ True ∧ (5 : Nat) = (5 : Nat) ∧ (flat
      [Sp.r IntKind.u8 (0 : Int) (255 : Int)] = true ∧ Row [Sp.r IntKind.u8 (0 : Int) (255 : Int)] (z.l (1 : Nat))) ∧ (59 : Nat) = (59 : Nat) ∧ (flat [Sp.i IntKind.u32, Sp.i
      IntKind.i64, Sp.i IntKind.u32] = true ∧ Row [Sp.i IntKind.u32, Sp.i IntKind.i64, Sp.i IntKind.u32] (z.l (2 : Nat))) ∧ ([] : SW) = []) ∧ True ∧ Mm.mk (z.n (0 : Nat)) (↑(z.n
      (1 : Nat)).toNat : Int) (↑(z.n (2 : Nat)).toNat : Int) (z.l (1 : Nat)) (z.l (2 : Nat)) = Mm.mk (z.n (0 : Nat)) (z.n (1 : Nat)) (z.n (2 : Nat)) (z.l (1 : Nat)) (z.l (2 :
      Nat))) ∧ (decide (IntKind.i64.wrap (IntKind.u32.wrap (IntKind.u32.wrap (a + (0 : Int)) - z.n (0 : Nat))) < (↑(z.n (1 : Nat)).toNat : Int)) = false → ((44 : Nat) = (44 :
      Nat) ∧ True ∧ (5 : Nat) = (5 : Nat) ∧ (flat [Sp.r IntKind.u8 (0 : Int) (255 : Int)] = true ∧ Row [Sp.r IntKind.u8 (0 : Int) (255 : Int)] (z.l (1 : Nat))) ∧ (59 : Nat) =
      (59 : Nat) ∧ (flat [Sp.i IntKind.u32, Sp.i IntKind.i64, Sp.i IntKind.u32] = true ∧ Row [Sp.i IntKind.u32, Sp.i IntKind.i64, Sp.i IntKind.u32] (z.l (2 : Nat))) ∧ ([] : SW)
      = []) ∧ True ∧ Mm.mk (z.n (0 : Nat)) (↑(z.n (1 : Nat)).toNat : Int) (↑(z.n (2 : Nat)).toNat : Int) (z.l (1 : Nat)) (z.l (2 : Nat)) = Mm.mk (z.n (0 : Nat)) (z.n (1 : Nat))
      (z.n (2 : Nat)) (z.l (1 : Nat)) (z.l (2 : Nat))))) ∧ (decide (IntKind.i64.wrap (IntKind.u32.wrap (IntKind.u32.wrap (a + (2 : Int)) - z.n (0 : Nat))) < (↑(z.n (1 :
      Nat)).toNat : Int)) = false → (decide (IntKind.i64.wrap (IntKind.u32.wrap (IntKind.u32.wrap (a + (1 : Int)) - z.n (0 : Nat))) < (↑(z.n (1 : Nat)).toNat : Int)) = true →
      inB (IntKind.i64.wrap (IntKind.u32.wrap (IntKind.u32.wrap (a + (1 : Int)) - z.n (0 : Nat)))) (z.n (1 : Nat)).toNat = true ∧ rOk (z.l (1 : Nat)) (IntKind.i64.wrap
      (IntKind.u32.wrap (IntKind.u32.wrap (a + (1 : Int)) - z.n (0 : Nat)))).toNat (EK.i IntKind.u8) = true ∧ (decide (IntKind.i64.wrap (IntKind.u32.wrap (IntKind.u32.wrap (a +
      (0 : Int)) - z.n (0 : Nat))) < (↑(z.n (1 : Nat)).toNat : Int)) = true → inB (IntKind.i64.wrap (IntKind.u32.wrap (IntKind.u32.wrap (a + (0 : Int)) - z.n (0 : Nat)))) (z.n
      (1 : Nat)).toNat = true ∧ rOk (z.l (1 : Nat)) (IntKind.i64.wrap (IntKind.u32.wrap (IntKind.u32.wrap (a + (0 : Int)) - z.n (0 : Nat)))).toNat (EK.i IntKind.u8) = true ∧
      ((44 : Nat) = (44 : Nat) ∧ True ∧ (5 : Nat) = (5 : Nat) ∧ (flat [Sp.r IntKind.u8 (0 : Int) (255 : Int)] = true ∧ Row [Sp.r IntKind.u8 (0 : Int) (255 : Int)] (z.l (1 :
      Nat))) ∧ (59 : Nat) = (59 : Nat) ∧ (flat [Sp.i IntKind.u32, Sp.i IntKind.i64, Sp.i IntKind.u32] = true ∧ Row [Sp.i IntKind.u32, Sp.i IntKind.i64, Sp.i IntKind.u32] (z.l (2
      : Nat))) ∧ ([] : SW) = []) ∧ True ∧ Mm.mk (z.n (0 : Nat)) (↑(z.n (1 : Nat)).toNat : Int) (↑(z.n (2 : Nat)).toNat : Int) (z.l (1 : Nat)) (z.l (2 : Nat)) = Mm.mk (z.n (0 :
      Nat)) (z.n (1 : Nat)) (z.n (2 : Nat)) (z.l (1 : Nat)) (z.l (2 : Nat))) ∧ (decide (IntKind.i64.wrap (IntKind.u32.wrap (IntKind.u32.wrap (a + (0 : Int)) - z.n (0 : Nat))) <
      (↑(z.n (1 : Nat)).toNat : Int)) = false → ((44 : Nat) = (44 : Nat) ∧ True ∧ (5 : Nat) = (5 : Nat) ∧ (flat [Sp.r IntKind.u8 (0 : Int) (255 : Int)] = true ∧ Row [Sp.r
      IntKind.u8 (0 : Int) (255 : Int)] (z.l (1 : Nat))) ∧ (59 : Nat) = (59 : Nat) ∧ (flat [Sp.i IntKind.u32, Sp.i IntKind.i64, Sp.i IntKind.u32] = true ∧ Row [Sp.i IntKind.u32,
      Sp.i IntKind.i64, Sp.i IntKind.u32] (z.l (2 : Nat))) ∧ ([] : SW) = []) ∧ True ∧ Mm.mk (z.n (0 : Nat)) (↑(z.n (1 : Nat)).toNat : Int) (↑(z.n (2 : Nat)).toNat : Int) (z.l (1
      : Nat)) (z.l (2 : Nat)) = Mm.mk (z.n (0 : Nat)) (z.n (1 : Nat)) (z.n (2 : Nat)) (z.l (1 : Nat)) (z.l (2 : Nat)))) ∧ (decide (IntKind.i64.wrap (IntKind.u32.wrap
      (IntKind.u32.wrap (a + (1 : Int)) - z.n (0 : Nat))) < (↑(z.n (1 : Nat)).toNat : Int)) = false → (decide (IntKind.i64.wrap (IntKind.u32.wrap (IntKind.u32.wrap (a + (0 :
      Int)) - z.n (0 : Nat))) < (↑(z.n (1 : Nat)).toNat : Int)) = true → inB (IntKind.i64.wrap (IntKind.u32.wrap (IntKind.u32.wrap (a + (0 : Int)) - z.n (0 : Nat)))) (z.n (1 :
      Nat)).toNat = true ∧ rOk (z.l (1 : Nat)) (IntKind.i64.wrap (IntKind.u32.wrap (IntKind.u32.wrap (a + (0 : Int)) - z.n (0 : Nat)))).toNat (EK.i IntKind.u8) = true ∧ ((44 :
      Nat) = (44 : Nat) ∧ True ∧ (5 : Nat) = (5 : Nat) ∧ (flat [Sp.r IntKind.u8 (0 : Int) (255 : Int)] = true ∧ Row [Sp.r IntKind.u8 (0 : Int) (255 : Int)] (z.l (1 : Nat))) ∧
      (59 : Nat) = (59 : Nat) ∧ (flat [Sp.i IntKind.u32, Sp.i IntKind.i64, Sp.i IntKind.u32] = true ∧ Row [Sp.i IntKind.u32, Sp.i IntKind.i64, Sp.i IntKind.u32] (z.l (2 : Nat)))
      ∧ ([] : SW) = []) ∧ True ∧ Mm.mk (z.n (0 : Nat)) (↑(z.n (1 : Nat)).toNat : Int) (↑(z.n (2 : Nat)).toNat : Int) (z.l (1 : Nat)) (z.l (2 : Nat)) = Mm.mk (z.n (0 : Nat)) (z.n
      (1 : Nat)) (z.n (2 : Nat)) (z.l (1 : Nat)) (z.l (2 : Nat))) ∧ (decide (IntKind.i64.wrap (IntKind.u32.wrap (IntKind.u32.wrap (a + (0 : Int)) - z.n (0 : Nat))) < (↑(z.n (1 :
      Nat)).toNat : Int)) = false → ((44 : Nat) = (44 : Nat) ∧ True ∧ (5 : Nat) = (5 : Nat) ∧ (flat [Sp.r IntKind.u8 (0 : Int) (255 : Int)] = true ∧ Row [Sp.r IntKind.u8 (0 :
      Int) (255 : Int)] (z.l (1 : Nat))) ∧ (59 : Nat) = (59 : Nat) ∧ (flat [Sp.i IntKind.u32, Sp.i IntKind.i64, Sp.i IntKind.u32] = true ∧ Row [Sp.i IntKind.u32, Sp.i
      IntKind.i64, Sp.i IntKind.u32] (z.l (2 : Nat))) ∧ ([] : SW) = []) ∧ True ∧ Mm.mk (z.n (0 : Nat)) (↑(z.n (1 : Nat)).toNat : Int) (↑(z.n (2 : Nat)).toNat : Int) (z.l (1 :
      Nat)) (z.l (2 : Nat)) = Mm.mk (z.n (0 : Nat)) (z.n (1 : Nat)) (z.n (2 : Nat)) (z.l (1 : Nat)) (z.l (2 : Nat))))))) := by kernel_rfl
set_option maxHeartbeats 4000000 in
theorem rd4_c (E : World) (a : Int) (z : PX) (hz : rgM z [mB 2, rowB, rowN] 0) (hp : (fun z => okM (Mm.mk (z.n 0) (z.n 1) (z.n 2) (z.l 1) (z.l 2))) z) : HD (pe E) 27 [.c (.p 0 0), .c (.i false .u32 a), .c (.i true .i64 4)] [mB 2, rowB, rowN] [mB 2, rowB, rowN] (.c (.i .u32)) (fun z y => (Mm.mk (y.n 0) (y.n 1) (y.n 2) (y.l 1) (y.l 2)) = (Mm.mk (z.n 0) (z.n 1) (z.n 2) (z.l 1) (z.l 2))) z := by
  refine HD.mk (by rfl) (fnTree_sound (P := pe E) orcA_ok tab_ok tab_sz mixed 20000 Try.func27 (by decide) [.c (.p 0 0), .c (.i false .u32 a), .c (.i true .i64 4)] _) ⟨?_⟩
  rw [rd4_p]
  have hR : Row [.r .u8 0 255] (z.l 1) := hz.2.1.2
  have hN : Row [.i .u32, .i .i64, .i .u32] (z.l 2) := hz.2.2.1.2
  have hf1 : flat [Sp.r .u8 0 255] = true := rfl
  have hf2 : flat [Sp.i .u32, Sp.i .i64, Sp.i .u32] = true := rfl
  obtain ⟨k1, k2, k3, k4, k5⟩ := hp
  replace k1 : 0 ≤ z.n 1 := k1
  replace k2 : 0 ≤ z.n 2 := k2
  replace k3 : z.n 2 ≤ 1000000 := k3
  replace k4 : (z.l 1).length = (z.n 1).toNat := k4
  replace k5 : (z.l 2).length = (z.n 2).toNat * 3 := k5
  have t1 : ((z.n 1).toNat : Int) = z.n 1 := Int.toNat_of_nonneg k1
  have t2 : ((z.n 2).toNat : Int) = z.n 2 := Int.toNat_of_nonneg k2
  simp only [t1, t2]
  repeat' (first | exact trivial | with_reducible rfl | assumption | with_reducible exact v1 hR _ | with_reducible exact v01 hR _ | with_reducible exact v10 hR _ | with_reducible exact v11 hR _ _ | exact (ndR hR k4 (by assumption) (iu _)).1 | exact (ndR hR k4 (by assumption) (iu _)).2 | exact ⟨by decide, by decide⟩ | apply And.intro | intro h)
end Go.Proofs.Ytabklphoccicmaa

