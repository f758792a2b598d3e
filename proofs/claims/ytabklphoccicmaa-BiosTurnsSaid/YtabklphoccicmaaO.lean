import Derived.Test.YtabklphoccicmaaL
set_option linter.unusedVariables false
set_option linter.unusedSimpArgs false
namespace Go.Proofs.Ytabklphoccicmaa
open Go Go.Proofs Go.Proofs.Ytabklphoccicmaa.Ev Go.Proofs.Ytabklphoccicmaa.Ev.Ho
set_option maxRecDepth 100000
theorem c23_pro (E : World) (f t c : Int) (fast : Bool) (z : PX) :
    (loopP (pe E) Try.f23 (endR ([mB 2, rowB, rowN] : List MB).length [mB 3, rowB, .g HOLE, rowN] (.c (.r .i64 0 65536)) (fun z y => ((Mm.mk (y.n 0) (y.n 1) (y.n 2) (y.l 1) (y.l 3)) = cpR E c fast f t (Mm.mk (z.n 0) (z.n 1) (z.n 2) (z.l 1) (z.l 2)) ∧ y.n 90000 = cnt c fast) ∧ okM (Mm.mk (y.n 0) (y.n 1) (y.n 2) (y.l 1) (y.l 3)) ∧ y.n 2 = z.n 2 + cnt c fast) z) (headR ([mB 2, rowB, rowN] : List MB).length Try.f23.ntmps none (c23_hs E f t c fast z)) (run (pe E) (orcM E) (tabL fns) 20000 (2 ^ 200 - 1) [.code (Try.f23.body.getD .skip)] ⟨Try.f23.ntmps, mkFrGo (Tr.mk 12) 0 [.c (.p 0 0), .c (.i false .u32 f), .c (.i false .u32 t), .c (.i false .u32 c), .c (.b false fast)]⟩ (mkM z [] [mB 2, rowB, rowN] 0))) =
    ((fast = true → c23_td E = c23_td E ∧ (68 : Nat) = (68 : Nat) ∧ (True ∧ (renC (posN [(0 : Nat), (1 : Nat), (2 : Nat)]) (C.i false IntKind.u32 f) = C.i false IntKind.u32 f ∧
      True) ∧ (renC (posN [(0 : Nat), (1 : Nat), (2 : Nat)]) (C.i false IntKind.u32 t) = C.i false IntKind.u32 t ∧ True) ∧ (renC (posN [(0 : Nat), (1 : Nat), (2 : Nat)]) (C.i
      false IntKind.u32 c) = C.i false IntKind.u32 c ∧ True) ∧ (renC (posN [(0 : Nat), (1 : Nat), (2 : Nat)]) (C.b false fast) = C.b false fast ∧ True) ∧ (((0 : Int) ≤
      IntKind.i64.wrap (c.tmod (65536 : Int)) ∧ IntKind.i64.wrap (c.tmod (65536 : Int)) ≤ (65536 : Int)) ∧ True) ∧ True ∧ True) ∧ ((44 : Nat) = (44 : Nat) ∧ True ∧ (5 : Nat) =
      (5 : Nat) ∧ (flat [Sp.r IntKind.u8 (0 : Int) (255 : Int)] = true ∧ Row [Sp.r IntKind.u8 (0 : Int) (255 : Int)] (z.l (1 : Nat))) ∧ (59 : Nat) = (59 : Nat) ∧ (flat [Sp.i
      IntKind.u32, Sp.i IntKind.i64, Sp.i IntKind.u32] = true ∧ Row [Sp.i IntKind.u32, Sp.i IntKind.i64, Sp.i IntKind.u32] (z.l (2 : Nat))) ∧ ([] : SW) = []) ∧ ((Mm.mk (z.n (0 :
      Nat)) (↑(z.n (1 : Nat)).toNat : Int) (↑(z.n (2 : Nat)).toNat : Int) (z.l (1 : Nat)) (z.l (2 : Nat)) = Mm.mk (z.n (0 : Nat)) (z.n (1 : Nat)) (z.n (2 : Nat)) (z.l (1 : Nat))
      (z.l (2 : Nat)) ∧ wdt c fast = (4 : Int)) ∧ IntKind.i64.wrap (c.tmod (65536 : Int)) ≤ cnt c fast ∧ cnt c fast < IntKind.i64.wrap (c.tmod (65536 : Int)) + (8 : Int) ∧ (fast
      = false → IntKind.i64.wrap (c.tmod (65536 : Int)) = cnt c fast)) ∧ True) ∧ (fast = false → (((c.fdiv (67108864 : Int)).tmod (2 : Int) == (1 : Int)) = true → c23_td E =
      c23_td E ∧ (68 : Nat) = (68 : Nat) ∧ (True ∧ (renC (posN [(0 : Nat), (1 : Nat), (2 : Nat)]) (C.i false IntKind.u32 f) = C.i false IntKind.u32 f ∧ True) ∧ (renC (posN [(0 :
      Nat), (1 : Nat), (2 : Nat)]) (C.i false IntKind.u32 t) = C.i false IntKind.u32 t ∧ True) ∧ (renC (posN [(0 : Nat), (1 : Nat), (2 : Nat)]) (C.i false IntKind.u32 c) = C.i
      false IntKind.u32 c ∧ True) ∧ (renC (posN [(0 : Nat), (1 : Nat), (2 : Nat)]) (C.b false fast) = C.b false fast ∧ True) ∧ (((0 : Int) ≤ IntKind.i64.wrap (c.tmod (65536 :
      Int)) ∧ IntKind.i64.wrap (c.tmod (65536 : Int)) ≤ (65536 : Int)) ∧ True) ∧ True ∧ True) ∧ ((44 : Nat) = (44 : Nat) ∧ True ∧ (5 : Nat) = (5 : Nat) ∧ (flat [Sp.r IntKind.u8
      (0 : Int) (255 : Int)] = true ∧ Row [Sp.r IntKind.u8 (0 : Int) (255 : Int)] (z.l (1 : Nat))) ∧ (59 : Nat) = (59 : Nat) ∧ (flat [Sp.i IntKind.u32, Sp.i IntKind.i64, Sp.i
      IntKind.u32] = true ∧ Row [Sp.i IntKind.u32, Sp.i IntKind.i64, Sp.i IntKind.u32] (z.l (2 : Nat))) ∧ ([] : SW) = []) ∧ ((Mm.mk (z.n (0 : Nat)) (↑(z.n (1 : Nat)).toNat :
      Int) (↑(z.n (2 : Nat)).toNat : Int) (z.l (1 : Nat)) (z.l (2 : Nat)) = Mm.mk (z.n (0 : Nat)) (z.n (1 : Nat)) (z.n (2 : Nat)) (z.l (1 : Nat)) (z.l (2 : Nat)) ∧ wdt c fast =
      (4 : Int)) ∧ IntKind.i64.wrap (c.tmod (65536 : Int)) ≤ cnt c fast ∧ cnt c fast < IntKind.i64.wrap (c.tmod (65536 : Int)) + (8 : Int) ∧ (fast = false → IntKind.i64.wrap
      (c.tmod (65536 : Int)) = cnt c fast)) ∧ True) ∧ (((c.fdiv (67108864 : Int)).tmod (2 : Int) == (1 : Int)) = false → c23_td E = c23_td E ∧ (68 : Nat) = (68 : Nat) ∧ (True ∧
      (renC (posN [(0 : Nat), (1 : Nat), (2 : Nat)]) (C.i false IntKind.u32 f) = C.i false IntKind.u32 f ∧ True) ∧ (renC (posN [(0 : Nat), (1 : Nat), (2 : Nat)]) (C.i false
      IntKind.u32 t) = C.i false IntKind.u32 t ∧ True) ∧ (renC (posN [(0 : Nat), (1 : Nat), (2 : Nat)]) (C.i false IntKind.u32 c) = C.i false IntKind.u32 c ∧ True) ∧ (renC (posN
      [(0 : Nat), (1 : Nat), (2 : Nat)]) (C.b false fast) = C.b false fast ∧ True) ∧ (((0 : Int) ≤ IntKind.i64.wrap (c.tmod (65536 : Int)) ∧ IntKind.i64.wrap (c.tmod (65536 :
      Int)) ≤ (65536 : Int)) ∧ True) ∧ True ∧ True) ∧ ((44 : Nat) = (44 : Nat) ∧ True ∧ (5 : Nat) = (5 : Nat) ∧ (flat [Sp.r IntKind.u8 (0 : Int) (255 : Int)] = true ∧ Row [Sp.r
      IntKind.u8 (0 : Int) (255 : Int)] (z.l (1 : Nat))) ∧ (59 : Nat) = (59 : Nat) ∧ (flat [Sp.i IntKind.u32, Sp.i IntKind.i64, Sp.i IntKind.u32] = true ∧ Row [Sp.i IntKind.u32,
      Sp.i IntKind.i64, Sp.i IntKind.u32] (z.l (2 : Nat))) ∧ ([] : SW) = []) ∧ ((Mm.mk (z.n (0 : Nat)) (↑(z.n (1 : Nat)).toNat : Int) (↑(z.n (2 : Nat)).toNat : Int) (z.l (1 :
      Nat)) (z.l (2 : Nat)) = Mm.mk (z.n (0 : Nat)) (z.n (1 : Nat)) (z.n (2 : Nat)) (z.l (1 : Nat)) (z.l (2 : Nat)) ∧ wdt c fast = (2 : Int)) ∧ IntKind.i64.wrap (c.tmod (65536 :
      Int)) ≤ cnt c fast ∧ cnt c fast < IntKind.i64.wrap (c.tmod (65536 : Int)) + (8 : Int) ∧ (fast = false → IntKind.i64.wrap (c.tmod (65536 : Int)) = cnt c fast)) ∧ True))) := by kernel_rfl
set_option maxHeartbeats 8000000 in
theorem c23_c (E : World) (f t c : Int) (fast : Bool) (z : PX) (hz : rgM z [mB 2, rowB, rowN] 0) (hp : (fun z => okM (Mm.mk (z.n 0) (z.n 1) (z.n 2) (z.l 1) (z.l 2)) ∧ z.n 2 ≤ 100000 ∧ (0 ≤ f ∧ f ≤ 4294967295) ∧ (0 ≤ t ∧ t ≤ 4294967295) ∧ (0 ≤ c ∧ c ≤ 4294967295)) z) : HD (pe E) 23 [.c (.p 0 0), .c (.i false .u32 f), .c (.i false .u32 t), .c (.i false .u32 c), .c (.b false fast)] [mB 2, rowB, rowN] [mB 3, rowB, .g HOLE, rowN] (.c (.r .i64 0 65536)) (fun z y => ((Mm.mk (y.n 0) (y.n 1) (y.n 2) (y.l 1) (y.l 3)) = cpR E c fast f t (Mm.mk (z.n 0) (z.n 1) (z.n 2) (z.l 1) (z.l 2)) ∧ y.n 90000 = cnt c fast) ∧ okM (Mm.mk (y.n 0) (y.n 1) (y.n 2) (y.l 1) (y.l 3)) ∧ y.n 2 = z.n 2 + cnt c fast) z := by
  refine HD.loop (P := pe E) orcM_ok tab_ok tab_sz mixed Try.func23 (c := Try.f23.body.getD .skip) rfl (by decide) (Nat.le_of_ble_eq_true rfl) (by rfl) 20000 (2 ^ 200 - 1) (c23_hs E f t c fast z) (by rfl) (loopP_lfH ⟨?_⟩) ?_
  · rw [c23_pro]
    obtain ⟨hK, hz2, hf0, ht0, hc0⟩ := hp
    have hR1 := hz.2.1.2
    have hR2 := hz.2.2.1.2
    have hf1 : flat [Sp.r .u8 0 255] = true := rfl
    have hf2 : flat [Sp.i .u32, Sp.i .i64, Sp.i .u32] = true := rfl
    have T1 : ((z.n 1).toNat : Int) = z.n 1 := Int.toNat_of_nonneg hK.b0
    have T2 : ((z.n 2).toNat : Int) = z.n 2 := Int.toNat_of_nonneg hK.n0
    have e1 : IntKind.i64.wrap (c.tmod 65536) = c % 65536 := by rw [tmod_n _ _ hc0.1, wi64]; omega
    have e2 : (c.fdiv 67108864).tmod 2 = c / 67108864 % 2 := by rw [fdiv_lit _ _ (by decide), tmod_n _ _ (by omega)]
    simp only [T1, T2, e1, e2]
    cases fast
    · have hn : cnt c false = c % 65536 := by unfold cnt; simp
      simp only [Bool.false_eq_true, false_implies, true_implies, true_and, forall_const, hn]
      refine ⟨fun h => ?_, fun h => ?_⟩
      · have hw : wdt c false = 4 := by unfold wdt; simp only [beq_iff_eq] at h; simp [h]
        ((repeat' (first | exact trivial | with_reducible rfl | assumption | exact rfl | apply And.intro)) <;> omega)
      · have hw : wdt c false = 2 := by unfold wdt; simp only [beq_eq_false_iff_ne, ne_eq] at h; simp [h]
        ((repeat' (first | exact trivial | with_reducible rfl | assumption | exact rfl | apply And.intro)) <;> omega)
    · have hn : cnt c true = (c % 65536 + 7) / 8 * 8 := by unfold cnt; simp
      have hw : wdt c true = 4 := by unfold wdt; simp
      simp only [Bool.true_eq_false, false_implies, true_implies, and_true, forall_const, hn]
      ((repeat' (first | exact trivial | with_reducible rfl | assumption | exact rfl | apply And.intro)) <;> omega)
  · intro h hmem y hy1 hy2 hy3
    simp only [c23_hs, List.mem_cons, List.not_mem_nil, or_false] at hmem
    rcases hmem with rfl | rfl | rfl | rfl
    · exact c23_q0 E f t c fast z hp y hy1 hy2 hy3
    · exact c23_q1 E f t c fast z hp y hy1 hy2 hy3
    · exact c23_q2 E f t c fast z hp y hy1 hy2 hy3
    · exact c23_q3 E f t c fast z hp y hy1 hy2 hy3
end Go.Proofs.Ytabklphoccicmaa

