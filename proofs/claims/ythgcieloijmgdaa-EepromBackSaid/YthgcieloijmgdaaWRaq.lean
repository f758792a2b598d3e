import Derived.Test.YthgcieloijmgdaaWRa
import Derived.Test.YthgcieloijmgdaaWL
set_option linter.unusedVariables false
set_option linter.unusedSimpArgs false
namespace Go.Proofs.Ythgcieloijmgdaa
open Go Go.Proofs Go.Proofs.Ythgcieloijmgdaa.Ev Go.Proofs.Ythgcieloijmgdaa.Ev.Ho
set_option maxRecDepth 100000
set_option maxHeartbeats 8000000 in
theorem sRa_q0 (E : World) (t : ByteArray) (z : PX) (hp : (fun z => (ST t 17 true ∧ (z.s 0).size = 8192) ∧ z.n 2 = 0) z) (y : PX) (hy1 : rgM y [mW 14, xB, xB] 0) (hy2 : rgF y [(0, .c (.p 0 0)), (1, .q (.strn 17 t)), (4, .c (.p 1 0)), (6, .c (.p 2 0)), (7, .b), (10, .c (.i true .i64 17)), (11, .r .i64 (0) (17))]) (hy3 : (fun y => HI (SI true 14 t (z.s 0) (y.s 0) (y.n 91011) (y.n 2) (y.b 3) (y.n 4) (y.n 5)) (PR 14 8192 t (z.s 0) (y.s 0) (y.n 2) (y.b 91007) (y.b 3) (y.n 6) (y.n 7)) (y.n 91011) 17) y) : Holds ((run (pe E) (orcV E) (tabL fns) 20000 (2 ^ 200 - 1) (sWa_td E) (mkL Try.f17.ntmps (slC y [(0, .c (.p 0 0)), (1, .q (.strn 17 t)), (4, .c (.p 1 0)), (6, .c (.p 2 0)), (7, .b), (10, .c (.i true .i64 17)), (11, .r .i64 (0) (17))])) (mkM y [] [mW 14, xB, xB] 0)).OK (lfP (pe E) Try.f17 (endR ([mW 14] : List MB).length [mW 14] (.u [some 3, none] [.i .i64, .i .i64, .s, .b]) (fun z y => PR 14 8192 t (z.s 0) (y.s 0) (y.n 2) (y.b 90003) (y.b 3) (y.n 6) (y.n 7)) z) (headR ([mW 14] : List MB).length Try.f17.ntmps (some ((fun y => (17 - y.n 91011).toNat) y)) (sRa_hs E t z)))) := by
  refine loopP_lfH ⟨?_⟩
  rw [sRa_r0]
  have hf : True ∧ True ∧ True ∧ True ∧ True ∧ True ∧ (((0) ≤ y.n 91011 ∧ y.n 91011 ≤ (17)) ∧ True) ∧ True := hy2
  obtain ⟨_, _, _, _, _, _, ⟨g11, _⟩, _⟩ := hf
  obtain ⟨⟨hst, hz0⟩, hz2⟩ := hp
  have hd := hst.dg
  have hcl := hst.l
  have hy3 : HI _ _ _ _ := hy3
  have r2 : 0 ≤ y.n 2 ∧ y.n 2 ≤ 80 := hy1.1.1
  have r7 : 0 ≤ y.n 7 ∧ y.n 7 ≤ 68 := hy1.1.2.1
  try simp only [ad, lna]
  have i1 : y.n 91011 < 17 → IntKind.i64.wrap (y.n 91011 + 1) = y.n 91011 + 1 := fun _ => by rw [wi64]; omega
  refine ⟨fun h => ?_, fun h => ?_⟩
  · have hi := of_decide_eq_true h
    clear h
    have i1 := i1 hi
    have hs := hy3.a hi
    have e1 := hs.tk
    have e2 := hs.im
    have hsz : (y.s 0).size = 8192 := by rw [e2]; exact hz0
    have hne : (y.s 0 == ByteArray.mk #[]) = false := by
      cases hq : (y.s 0 == ByteArray.mk #[])
      · rfl
      · have h9 := beqB hq
        rw [h9] at hsz; exact absurd hsz (by decide)
    have hx := hd (y.n 91011) (by omega) hi
    have hb := bitb hx
    have hinb : inB (y.n 91011) 17 = true := by simp only [inB, Bool.and_eq_true, decide_eq_true_eq]; omega
    simp only [hne, hb, e1, i1, hsz, hcl]
    by_cases c0 : y.n 91011 = 0
    · have hc0 := hst.c0
      rw [← c0] at hc0
      simp only [decide_eq_true_eq, decide_eq_false_iff_not, beq_iff_eq, beq_eq_false_iff_ne, Bool.not_eq_true', Bool.not_eq_false', ne_eq]
      (repeat' (first | exact trivial | with_reducible rfl | exact (rfl : renC _ _ = _) | with_reducible assumption | intro h | apply And.intro)) <;> first | omega | exact nx0 e2 c0 (by omega) | (exfalso; simp_all; done) | (exfalso; omega)
    by_cases c1 : y.n 91011 = 1
    · have hc1 : strB t (y.n 91011) = 49 := by rw [c1]; exact hst.c1
      simp only [decide_eq_true_eq, decide_eq_false_iff_not, beq_iff_eq, beq_eq_false_iff_ne, Bool.not_eq_true', Bool.not_eq_false', ne_eq]
      (repeat' (first | exact trivial | with_reducible rfl | exact (rfl : renC _ _ = _) | with_reducible assumption | intro h | apply And.intro)) <;> first | omega | exact nx1 hs c1 rfl (by omega) | (exfalso; omega) | (exfalso; simp_all; done)
    have hrd := hs.rd (by omega)
    simp only [hrd]
    by_cases ca : y.n 91011 < 2 + 14
    · simp only [decide_eq_true_eq, decide_eq_false_iff_not, beq_iff_eq, beq_eq_false_iff_ne, Bool.not_eq_true', Bool.not_eq_false', ne_eq]
      (repeat' (first | exact trivial | with_reducible rfl | exact (rfl : renC _ _ = _) | with_reducible assumption | intro h | apply And.intro)) <;> first | omega | (have h5 := nxA (q := PR 14 8192 t (z.s 0) (y.s 0) (y.n 91011 + 1) false true (y.n 6) (y.n 7)) hs (by omega) ca (by omega) hd (by omega); rw [hrd] at h5; exact h5) | (exfalso; simp_all; done) | (exfalso; omega)
    have hfa := fin_a hs (by omega)
    have hv := vF_bd (t := t) (a := 2) (k := 14) fun j hj => hd _ (by omega) (by omega)
    rw [show (2 : Int) ^ 14 = 16384 from rfl] at hv
    have a1 : IntKind.i64.wrap (vF t 2 14 * 8) = vF t 2 14 * 8 := by rw [wi64]; omega
    have a2 : (vF t 2 14 * 8).tmod ((8192 : Nat) : Int) = vF t 2 14 * 8 % 8192 := by rw [tmod_n _ _ (by omega)]; rfl
    generalize hu : vF t 2 14 * 8 % 8192 = u at a2
    have hub : 0 ≤ u ∧ u + 8 ≤ 8192 := by omega
    have j0 : IntKind.i64.wrap (u + 0) = u + 0 := by rw [wi64]; omega
    have b0 : inB (u + 0) 8192 = true := by simp only [inB, Bool.and_eq_true, decide_eq_true_eq]; omega
    have g0 := strB_bd (y.s 0) (u + 0)
    have j1 : IntKind.i64.wrap (u + 1) = u + 1 := by rw [wi64]; omega
    have b1 : inB (u + 1) 8192 = true := by simp only [inB, Bool.and_eq_true, decide_eq_true_eq]; omega
    have g1 := strB_bd (y.s 0) (u + 1)
    have j2 : IntKind.i64.wrap (u + 2) = u + 2 := by rw [wi64]; omega
    have b2 : inB (u + 2) 8192 = true := by simp only [inB, Bool.and_eq_true, decide_eq_true_eq]; omega
    have g2 := strB_bd (y.s 0) (u + 2)
    have j3 : IntKind.i64.wrap (u + 3) = u + 3 := by rw [wi64]; omega
    have b3 : inB (u + 3) 8192 = true := by simp only [inB, Bool.and_eq_true, decide_eq_true_eq]; omega
    have g3 := strB_bd (y.s 0) (u + 3)
    have j4 : IntKind.i64.wrap (u + 4) = u + 4 := by rw [wi64]; omega
    have b4 : inB (u + 4) 8192 = true := by simp only [inB, Bool.and_eq_true, decide_eq_true_eq]; omega
    have g4 := strB_bd (y.s 0) (u + 4)
    have j5 : IntKind.i64.wrap (u + 5) = u + 5 := by rw [wi64]; omega
    have b5 : inB (u + 5) 8192 = true := by simp only [inB, Bool.and_eq_true, decide_eq_true_eq]; omega
    have g5 := strB_bd (y.s 0) (u + 5)
    have j6 : IntKind.i64.wrap (u + 6) = u + 6 := by rw [wi64]; omega
    have b6 : inB (u + 6) 8192 = true := by simp only [inB, Bool.and_eq_true, decide_eq_true_eq]; omega
    have g6 := strB_bd (y.s 0) (u + 6)
    have j7 : IntKind.i64.wrap (u + 7) = u + 7 := by rw [wi64]; omega
    have b7 : inB (u + 7) 8192 = true := by simp only [inB, Bool.and_eq_true, decide_eq_true_eq]; omega
    have g7 := strB_bd (y.s 0) (u + 7)
    have q0 : bits .or .u64 0 (IntKind.u64.wrap (strB (y.s 0) (u + 0))) = strB (y.s 0) (u + 0) := orz8 _ (by omega)
    have q1 : bits .or .u64 (IntKind.u64.wrap ((strB (y.s 0) (u + 0)) * 256)) (IntKind.u64.wrap (strB (y.s 0) (u + 1))) = (strB (y.s 0) (u + 0)) * 256 + strB (y.s 0) (u + 1) := or256 _ _ (by omega) (by omega) (by omega)
    have q2 : bits .or .u64 (IntKind.u64.wrap (((strB (y.s 0) (u + 0)) * 256 + strB (y.s 0) (u + 1)) * 256)) (IntKind.u64.wrap (strB (y.s 0) (u + 2))) = ((strB (y.s 0) (u + 0)) * 256 + strB (y.s 0) (u + 1)) * 256 + strB (y.s 0) (u + 2) := or256 _ _ (by omega) (by omega) (by omega)
    have q3 : bits .or .u64 (IntKind.u64.wrap ((((strB (y.s 0) (u + 0)) * 256 + strB (y.s 0) (u + 1)) * 256 + strB (y.s 0) (u + 2)) * 256)) (IntKind.u64.wrap (strB (y.s 0) (u + 3))) = (((strB (y.s 0) (u + 0)) * 256 + strB (y.s 0) (u + 1)) * 256 + strB (y.s 0) (u + 2)) * 256 + strB (y.s 0) (u + 3) := or256 _ _ (by omega) (by omega) (by omega)
    have q4 : bits .or .u64 (IntKind.u64.wrap (((((strB (y.s 0) (u + 0)) * 256 + strB (y.s 0) (u + 1)) * 256 + strB (y.s 0) (u + 2)) * 256 + strB (y.s 0) (u + 3)) * 256)) (IntKind.u64.wrap (strB (y.s 0) (u + 4))) = ((((strB (y.s 0) (u + 0)) * 256 + strB (y.s 0) (u + 1)) * 256 + strB (y.s 0) (u + 2)) * 256 + strB (y.s 0) (u + 3)) * 256 + strB (y.s 0) (u + 4) := or256 _ _ (by omega) (by omega) (by omega)
    have q5 : bits .or .u64 (IntKind.u64.wrap ((((((strB (y.s 0) (u + 0)) * 256 + strB (y.s 0) (u + 1)) * 256 + strB (y.s 0) (u + 2)) * 256 + strB (y.s 0) (u + 3)) * 256 + strB (y.s 0) (u + 4)) * 256)) (IntKind.u64.wrap (strB (y.s 0) (u + 5))) = (((((strB (y.s 0) (u + 0)) * 256 + strB (y.s 0) (u + 1)) * 256 + strB (y.s 0) (u + 2)) * 256 + strB (y.s 0) (u + 3)) * 256 + strB (y.s 0) (u + 4)) * 256 + strB (y.s 0) (u + 5) := or256 _ _ (by omega) (by omega) (by omega)
    have q6 : bits .or .u64 (IntKind.u64.wrap (((((((strB (y.s 0) (u + 0)) * 256 + strB (y.s 0) (u + 1)) * 256 + strB (y.s 0) (u + 2)) * 256 + strB (y.s 0) (u + 3)) * 256 + strB (y.s 0) (u + 4)) * 256 + strB (y.s 0) (u + 5)) * 256)) (IntKind.u64.wrap (strB (y.s 0) (u + 6))) = ((((((strB (y.s 0) (u + 0)) * 256 + strB (y.s 0) (u + 1)) * 256 + strB (y.s 0) (u + 2)) * 256 + strB (y.s 0) (u + 3)) * 256 + strB (y.s 0) (u + 4)) * 256 + strB (y.s 0) (u + 5)) * 256 + strB (y.s 0) (u + 6) := or256 _ _ (by omega) (by omega) (by omega)
    have q7 : bits .or .u64 (IntKind.u64.wrap ((((((((strB (y.s 0) (u + 0)) * 256 + strB (y.s 0) (u + 1)) * 256 + strB (y.s 0) (u + 2)) * 256 + strB (y.s 0) (u + 3)) * 256 + strB (y.s 0) (u + 4)) * 256 + strB (y.s 0) (u + 5)) * 256 + strB (y.s 0) (u + 6)) * 256)) (IntKind.u64.wrap (strB (y.s 0) (u + 7))) = (((((((strB (y.s 0) (u + 0)) * 256 + strB (y.s 0) (u + 1)) * 256 + strB (y.s 0) (u + 2)) * 256 + strB (y.s 0) (u + 3)) * 256 + strB (y.s 0) (u + 4)) * 256 + strB (y.s 0) (u + 5)) * 256 + strB (y.s 0) (u + 6)) * 256 + strB (y.s 0) (u + 7) := or256 _ _ (by omega) (by omega) (by omega)
    simp only [hfa, a1, a2, j0, j1, j2, j3, j4, j5, j6, j7, q0, q1, q2, q3, q4, q5, q6, q7]
    have hP : PR 14 8192 t (z.s 0) (y.s 0) 0 false true ((((((((strB (y.s 0) (u + 0)) * 256 + strB (y.s 0) (u + 1)) * 256 + strB (y.s 0) (u + 2)) * 256 + strB (y.s 0) (u + 3)) * 256 + strB (y.s 0) (u + 4)) * 256 + strB (y.s 0) (u + 5)) * 256 + strB (y.s 0) (u + 6)) * 256 + strB (y.s 0) (u + 7)) 68 := ⟨rfl, rfl, rfl, by rw [oF_eq, ← e2, show vF t 2 14 * 8 % ((8192 : Nat) : Int) = u from hu, show u + 0 = u from Int.add_zero u]; omega, rfl, e2⟩
    simp only [decide_eq_true_eq, decide_eq_false_iff_not, beq_iff_eq, beq_eq_false_iff_ne, Bool.not_eq_true', Bool.not_eq_false', ne_eq]
    (repeat' (first | exact trivial | with_reducible rfl | exact (rfl : renC _ _ = _) | with_reducible assumption | intro h | apply And.intro)) <;> first | omega | exact ⟨fun h => absurd h (by omega), fun _ => hP⟩ | (exfalso; simp_all; done) | (exfalso; omega)
  · have hi := of_decide_eq_false h
    have hq := hy3.b (by omega)
    (repeat' (first | exact trivial | with_reducible rfl | exact (rfl : renC _ _ = _) | with_reducible assumption | intro h | apply And.intro)) <;> omega
set_option maxHeartbeats 8000000 in
theorem sRa_c (E : World) (t : ByteArray) (z : PX) (hz : rgM z [mW 14] 0) (hp : (fun z => (ST t 17 true ∧ (z.s 0).size = 8192) ∧ z.n 2 = 0) z) : HD (pe E) 17 [.c (.p 0 0), .c (.strn 17 t)] [mW 14] [mW 14] (.u [some 3, none] [.i .i64, .i .i64, .s, .b]) (fun z y => PR 14 8192 t (z.s 0) (y.s 0) (y.n 2) (y.b 90003) (y.b 3) (y.n 6) (y.n 7)) z := by
  refine HD.loop (P := pe E) orcV_ok tab_ok tab_sz mixed Try.func17 (c := Try.f17.body.getD .skip) rfl (by decide) (Nat.le_of_ble_eq_true rfl) (by rfl) 20000 (2 ^ 200 - 1) (sRa_hs E t z) (by rfl) (loopP_lfH ⟨?_⟩) ?_
  · rw [sRa_pro]
    obtain ⟨⟨hst, hz0⟩, hz2⟩ := hp
    have hcl := hst.l
    have r2 : 0 ≤ z.n 2 ∧ z.n 2 ≤ 80 := hz.1.1
    have r7 : 0 ≤ z.n 7 ∧ z.n 7 ≤ 68 := hz.1.2.1
    have hH : ∀ q : Prop, HI (SI true 14 t (z.s 0) (z.s 0) 0 (z.n 2) (z.b 3) (z.n 4) (z.n 5)) q 0 17 := fun q => ⟨fun _ => ⟨rfl, hz2, (fun h => absurd h (by omega)), (fun h => absurd h (by omega)), (fun h => absurd h (by omega))⟩, fun h => absurd h (by omega)⟩
    (repeat' (first | exact trivial | with_reducible rfl | exact (rfl : renC _ _ = _) | with_reducible assumption | exact hH _ | exact decide_eq_true hcl | apply And.intro)) <;> omega
  · intro h hmem y hy1 hy2 hy3
    simp only [sRa_hs, List.mem_cons, List.not_mem_nil, or_false] at hmem
    rcases hmem with rfl
    · exact sRa_q0 E t z hp y hy1 hy2 hy3
end Go.Proofs.Ythgcieloijmgdaa

