import Derived.Test.YtabklphoccicmaaQ
set_option linter.unusedVariables false
set_option linter.unusedSimpArgs false
namespace Go.Proofs.Ytabklphoccicmaa
open Go Go.Proofs Go.Proofs.Ytabklphoccicmaa.Ev Go.Proofs.Ytabklphoccicmaa.Ev.Ho Go.IntKind
set_option maxRecDepth 100000
noncomputable def same_h0 (E : World) (n1 n2 : Nat) (z : PX) : Hd := ⟨4, anyH, (c24_td E), [(0, .v 0 3), (1, .v 1 3), (5, .r .i64 (0) (1000000))], [rowN, rowN], fun y => (y.n 91000 = y.n 91001 ∧ EqL (y.l 0) (y.l 1)) ∧ (y.l 0).length = (y.n 91000).toNat * 3 ∧ y.n 91000 ≤ 1000000, fun y => (y.n 91000 - y.n 91005).toNat⟩
noncomputable def same_hs (E : World) (n1 n2 : Nat) (z : PX) : List Hd := [same_h0 E n1 n2 z]
theorem same_pro (E : World) (n1 n2 : Nat) (z : PX) :
    (loopP (pe E) Try.f24 (endR ([rowN, rowN] : List MB).length [rowN, rowN] (.c .b) (fun z y => y.b 90000 = true) z) (headR ([rowN, rowN] : List MB).length Try.f24.ntmps none (same_hs E n1 n2 z)) (run (pe E) (orcM E) (tabL fns) 20000 (2 ^ 200 - 1) [.code (Try.f24.body.getD .skip)] ⟨Try.f24.ntmps, mkFrGo (Tr.mk 12) 0 [.c (.rn 0 3 n1), .c (.rn 1 3 n2)]⟩ (mkM z [] [rowN, rowN] 0))) =
     ((((↑n1 : Int) != (↑n2 : Int)) = true → (59 = 59 ∧ (flat [Sp.i u32, Sp.i i64, Sp.i u32] = true ∧ Row [Sp.i u32, Sp.i i64, Sp.i u32] (z.l 0)) ∧ 59 = 59 ∧ (flat [Sp.i u32, Sp.i i64, Sp.i u32] = true ∧ Row [Sp.i u32, Sp.i i64, Sp.i u32] (z.l 1)) ∧ ([] : SW) = []) ∧ True ∧ false = true) ∧ (((↑n1 : Int) != (↑n2 : Int)) = false → c24_td E = c24_td E ∧ 26 = 26 ∧ (True ∧ True ∧ (((0 : Int) ≤ (0 : Int) ∧ (0 : Int) ≤ 1000000) ∧ True) ∧ True) ∧ (59 = 59 ∧ (flat [Sp.i u32, Sp.i i64, Sp.i u32] = true ∧ Row [Sp.i u32, Sp.i i64, Sp.i u32] (z.l 0)) ∧ 59 = 59 ∧ (flat [Sp.i u32, Sp.i i64, Sp.i u32] = true ∧ Row [Sp.i u32, Sp.i i64, Sp.i u32] (z.l 1)) ∧ ([] : SW) = []) ∧ (((↑n1 : Int) = (↑n2 : Int) ∧ EqL (z.l 0) (z.l 1)) ∧ (z.l 0).length = (↑n1 : Int).toNat * (3 : Nat) ∧ (↑n1 : Int) ≤ 1000000) ∧ True)) := by kernel_rfl
theorem same_r0 (E : World) (n1 n2 : Nat) (z : PX) (y : PX) :
    (loopP (pe E) Try.f24 (endR ([rowN, rowN] : List MB).length [rowN, rowN] (.c .b) (fun z y => y.b 90000 = true) z) (headR ([rowN, rowN] : List MB).length Try.f24.ntmps (some ((fun y => (y.n 91000 - y.n 91005).toNat) y)) (same_hs E n1 n2 z))  (run (pe E) (orcM E) (tabL fns) 20000 (2 ^ 200 - 1) (c24_td E) (mkL Try.f24.ntmps (slC y [(0, .v 0 3), (1, .v 1 3), (5, .r .i64 (0) (1000000))])) (mkM y [] [rowN, rowN] 0))) =
     ((decide (y.n 91005 < (↑(y.n 91000).toNat : Int)) = true → inB (y.n 91005) (y.n 91000).toNat = true ∧ inB (y.n 91005) (y.n 91001).toNat = true ∧ rRow (y.l 0) ((y.n 91005).toNat * (3 : Nat) + (0 : Nat)) ([EK.i u32] ++ ([EK.i i64] ++ ([EK.i u32] ++ []))) = true ∧ rRow (y.l 1) ((y.n 91005).toNat * (3 : Nat) + (0 : Nat)) ([EK.i u32] ++ ([EK.i i64] ++ ([EK.i u32] ++ []))) = true ∧ ((true ^^ rI (y.l 0) ((y.n 91005).toNat * (3 : Nat) + (0 : Nat)) == rI (y.l 1) ((y.n 91005).toNat * (3 : Nat) + (0 : Nat)) && (rI (y.l 0) ((y.n 91005).toNat * (3 : Nat) + (1 : Nat)) == rI (y.l 1) ((y.n 91005).toNat * (3 : Nat) + (1 : Nat)) && (rI (y.l 0) ((y.n 91005).toNat * (3 : Nat) + (2 : Nat)) == rI (y.l 1) ((y.n 91005).toNat * (3 : Nat) + (2 : Nat)) && true))) = true → (59 = 59 ∧ (flat [Sp.i u32, Sp.i i64, Sp.i u32] = true ∧ Row [Sp.i u32, Sp.i i64, Sp.i u32] (y.l 0)) ∧ 59 = 59 ∧ (flat [Sp.i u32, Sp.i i64, Sp.i u32] = true ∧ Row [Sp.i u32, Sp.i i64, Sp.i u32] (y.l 1)) ∧ ([] : SW) = []) ∧ True ∧ false = true) ∧ ((true ^^ rI (y.l 0) ((y.n 91005).toNat * (3 : Nat) + (0 : Nat)) == rI (y.l 1) ((y.n 91005).toNat * (3 : Nat) + (0 : Nat)) && (rI (y.l 0) ((y.n 91005).toNat * (3 : Nat) + (1 : Nat)) == rI (y.l 1) ((y.n 91005).toNat * (3 : Nat) + (1 : Nat)) && (rI (y.l 0) ((y.n 91005).toNat * (3 : Nat) + (2 : Nat)) == rI (y.l 1) ((y.n 91005).toNat * (3 : Nat) + (2 : Nat)) && true))) = false → c24_td E = c24_td E ∧ 26 = 26 ∧ (True ∧ True ∧ ((0 ≤ i64.wrap (y.n 91005 + 1) ∧ i64.wrap (y.n 91005 + 1) ≤ 1000000) ∧ True) ∧ True) ∧ (59 = 59 ∧ (flat [Sp.i u32, Sp.i i64, Sp.i u32] = true ∧ Row [Sp.i u32, Sp.i i64, Sp.i u32] (y.l 0)) ∧ 59 = 59 ∧ (flat [Sp.i u32, Sp.i i64, Sp.i u32] = true ∧ Row [Sp.i u32, Sp.i i64, Sp.i u32] (y.l 1)) ∧ ([] : SW) = []) ∧ (((↑(y.n 91000).toNat : Int) = (↑(y.n 91001).toNat : Int) ∧ EqL (y.l 0) (y.l 1)) ∧ (y.l 0).length = (↑(y.n 91000).toNat : Int).toNat * (3 : Nat) ∧ (↑(y.n 91000).toNat : Int) ≤ 1000000) ∧ ((↑(y.n 91000).toNat : Int) - i64.wrap (y.n 91005 + 1)).toNat < (y.n 91000 - y.n 91005).toNat ∧ True)) ∧ (decide (y.n 91005 < (↑(y.n 91000).toNat : Int)) = false → (59 = 59 ∧ (flat [Sp.i u32, Sp.i i64, Sp.i u32] = true ∧ Row [Sp.i u32, Sp.i i64, Sp.i u32] (y.l 0)) ∧ 59 = 59 ∧ (flat [Sp.i u32, Sp.i i64, Sp.i u32] = true ∧ Row [Sp.i u32, Sp.i i64, Sp.i u32] (y.l 1)) ∧ ([] : SW) = []) ∧ True ∧ true = true)) := by kernel_rfl
set_option maxHeartbeats 8000000 in
theorem same_q0 (E : World) (n1 n2 : Nat) (z : PX) (hp : (fun z => (n1 = n2 ∧ EqL (z.l 0) (z.l 1)) ∧ (z.l 0).length = n1 * 3 ∧ n1 ≤ 1000000) z) (y : PX) (hy1 : rgM y [rowN, rowN] 0) (hy2 : rgF y [(0, .v 0 3), (1, .v 1 3), (5, .r .i64 (0) (1000000))]) (hy3 : (fun y => (y.n 91000 = y.n 91001 ∧ EqL (y.l 0) (y.l 1)) ∧ (y.l 0).length = (y.n 91000).toNat * 3 ∧ y.n 91000 ≤ 1000000) y) : Holds ((run (pe E) (orcM E) (tabL fns) 20000 (2 ^ 200 - 1) (c24_td E) (mkL Try.f24.ntmps (slC y [(0, .v 0 3), (1, .v 1 3), (5, .r .i64 (0) (1000000))])) (mkM y [] [rowN, rowN] 0)).OK (lfP (pe E) Try.f24 (endR ([rowN, rowN] : List MB).length [rowN, rowN] (.c .b) (fun z y => y.b 90000 = true) z) (headR ([rowN, rowN] : List MB).length Try.f24.ntmps (some ((fun y => (y.n 91000 - y.n 91005).toNat) y)) (same_hs E n1 n2 z)))) := by
  refine loopP_lfH ⟨?_⟩
  rw [same_r0]
  have hf : (0 ≤ y.n 91000 ∧ True) ∧ (0 ≤ y.n 91001 ∧ True) ∧ (((0) ≤ y.n 91005 ∧ y.n 91005 ≤ (1000000)) ∧ True) ∧ True := hy2
  obtain ⟨⟨g0, _⟩, ⟨g1, _⟩, ⟨g5, _⟩, _⟩ := hf
  obtain ⟨⟨e1, ⟨e2⟩⟩, hl, hb⟩ := hy3
  have hR0 : Row [.i .u32, .i .i64, .i .u32] (y.l 0) := hy1.1.2
  have hR1 : Row [.i .u32, .i .i64, .i .u32] (y.l 1) := hy1.2.1.2
  have hf2 : flat [Sp.i .u32, Sp.i .i64, Sp.i .u32] = true := rfl
  have T1 : ((y.n 91000).toNat : Int) = y.n 91000 := Int.toNat_of_nonneg g0
  have T2 : ((y.n 91001).toNat : Int) = y.n 91001 := Int.toNat_of_nonneg g1
  have w1 : IntKind.i64.wrap (y.n 91005 + 1) = y.n 91005 + 1 := by rw [wi64]; omega
  simp only [T1, T2, w1]
  refine ⟨fun h => ?_, fun h => ?_⟩
  · have h := of_decide_eq_true h
    have hin : inB (y.n 91005) (y.n 91000).toNat = true := by simp only [inB, Bool.and_eq_true, decide_eq_true_eq]; omega
    have hr := rRow3 hR0 (k := (y.n 91005).toNat) (by omega)
    have hq : EqL (y.l 0) (y.l 1) := ⟨e2⟩
    rw [← e1, ← e2]
    have hb3 : (true ^^ (rI (y.l 0) ((y.n 91005).toNat * 3 + 0) == rI (y.l 0) ((y.n 91005).toNat * 3 + 0) && (rI (y.l 0) ((y.n 91005).toNat * 3 + 1) == rI (y.l 0) ((y.n 91005).toNat * 3 + 1) && (rI (y.l 0) ((y.n 91005).toNat * 3 + 2) == rI (y.l 0) ((y.n 91005).toNat * 3 + 2) && true)))) = false := by simp
    have hq0 : EqL (y.l 0) (y.l 0) := ⟨rfl⟩
    rw [hb3]
    refine ⟨hin, hin, hr, hr, fun h => (by cases h), fun _ => ?_⟩
    ((repeat' (first | exact trivial | with_reducible rfl | assumption | exact rfl | apply And.intro)) <;> omega)
  · ((repeat' (first | exact trivial | with_reducible rfl | assumption | exact rfl | apply And.intro)) <;> omega)
set_option maxHeartbeats 8000000 in
theorem same_c (E : World) (n1 n2 : Nat) (z : PX) (hz : rgM z [rowN, rowN] 0) (hp : (fun z => (n1 = n2 ∧ EqL (z.l 0) (z.l 1)) ∧ (z.l 0).length = n1 * 3 ∧ n1 ≤ 1000000) z) : HD (pe E) 24 [.c (.rn 0 3 n1), .c (.rn 1 3 n2)] [rowN, rowN] [rowN, rowN] (.c .b) (fun z y => y.b 90000 = true) z := by
  refine HD.loop (P := pe E) orcM_ok tab_ok tab_sz mixed Try.func24 (c := Try.f24.body.getD .skip) rfl (by decide) (Nat.le_of_ble_eq_true rfl) (by rfl) 20000 (2 ^ 200 - 1) (same_hs E n1 n2 z) (by rfl) (loopP_lfH ⟨?_⟩) ?_
  · rw [same_pro]
    obtain ⟨⟨rfl, ⟨e2⟩⟩, hl, hb⟩ := hp
    have hR0 : Row [.i .u32, .i .i64, .i .u32] (z.l 0) := hz.1.2
    have hR1 : Row [.i .u32, .i .i64, .i .u32] (z.l 1) := hz.2.1.2
    have hf2 : flat [Sp.i .u32, Sp.i .i64, Sp.i .u32] = true := rfl
    have hq0 : EqL (z.l 0) (z.l 1) := ⟨e2⟩
    have hT : ((n1 : Int)).toNat = n1 := rfl
    rw [bne_self_eq_false]
    refine ⟨fun h => (by cases h), fun _ => ?_⟩
    ((repeat' (first | exact trivial | with_reducible rfl | assumption | exact rfl | apply And.intro)) <;> omega)
  · intro h hmem y hy1 hy2 hy3
    simp only [same_hs, List.mem_cons, List.not_mem_nil, or_false] at hmem
    rcases hmem with rfl
    · exact same_q0 E n1 n2 z hp y hy1 hy2 hy3
end Go.Proofs.Ytabklphoccicmaa

