import Derived.Test.YthgcieloijmgdaaWWb
import Derived.Test.YthgcieloijmgdaaWL
set_option linter.unusedVariables false
set_option linter.unusedSimpArgs false
namespace Go.Proofs.Ythgcieloijmgdaa
open Go Go.Proofs Go.Proofs.Ythgcieloijmgdaa.Ev Go.Proofs.Ythgcieloijmgdaa.Ev.Ho
set_option maxRecDepth 100000
set_option maxHeartbeats 8000000 in
theorem sWb_q0 (E : World) (t : ByteArray) (z : PX) (hp : (fun z => (ST t 73 false ∧ (z.s 0).size = 512) ∧ z.n 2 = 0) z) (y : PX) (hy1 : rgM y [mW 6, xB, xB] 0) (hy2 : rgF y [(0, .c (.p 0 0)), (1, .q (.strn 73 t)), (4, .c (.p 1 0)), (6, .c (.p 2 0)), (7, .b), (10, .c (.i true .i64 73)), (11, .r .i64 (0) (73))]) (hy3 : (fun y => HI (SI false 6 t (z.s 0) (y.s 0) (y.n 91011) (y.n 2) (y.b 3) (y.n 4) (y.n 5)) (PW 6 512 t (z.s 0) (y.s 0) (y.n 2) (y.b 91007) (y.n 200000) (y.n 200001) (y.s 200002)) (y.n 91011) 73) y) : Holds ((run (pe E) (orcV E) (tabL fns) 20000 (2 ^ 200 - 1) (sWb_td E) (mkL Try.f17.ntmps (slC y [(0, .c (.p 0 0)), (1, .q (.strn 73 t)), (4, .c (.p 1 0)), (6, .c (.p 2 0)), (7, .b), (10, .c (.i true .i64 73)), (11, .r .i64 (0) (73))])) (mkM y [] [mW 6, xB, xB] 0)).OK (lfP (pe E) Try.f17 (endR ([mW 6] : List MB).length [mW 6] (.u [some 3, none] [.i .i64, .i .i64, .s, .b]) (fun z y => PW 6 512 t (z.s 0) (y.s 0) (y.n 2) (y.b 90003) (y.n 90000) (y.n 90001) (y.s 90002)) z) (headR ([mW 6] : List MB).length Try.f17.ntmps (some ((fun y => (73 - y.n 91011).toNat) y)) (sWb_hs E t z)))) := by
  refine loopP_lfH ⟨?_⟩
  rw [sWb_r0]
  have hf : True ∧ True ∧ True ∧ True ∧ True ∧ True ∧ (((0) ≤ y.n 91011 ∧ y.n 91011 ≤ (73)) ∧ True) ∧ True := hy2
  obtain ⟨_, _, _, _, _, _, ⟨g11, _⟩, _⟩ := hf
  obtain ⟨⟨hst, hz0⟩, hz2⟩ := hp
  have hd := hst.dg
  have hcl := hst.l
  have hy3 : HI _ _ _ _ := hy3
  have r2 : 0 ≤ y.n 2 ∧ y.n 2 ≤ 80 := hy1.1.1
  have r7 : 0 ≤ y.n 7 ∧ y.n 7 ≤ 68 := hy1.1.2.1
  try simp only [ad, lnb]
  have i1 : y.n 91011 < 73 → IntKind.i64.wrap (y.n 91011 + 1) = y.n 91011 + 1 := fun _ => by rw [wi64]; omega
  refine ⟨fun h => ?_, fun h => ?_⟩
  · have hi := of_decide_eq_true h
    clear h
    have i1 := i1 hi
    have hs := hy3.a hi
    have e1 := hs.tk
    have e2 := hs.im
    have hsz : (y.s 0).size = 512 := by rw [e2]; exact hz0
    have hne : (y.s 0 == ByteArray.mk #[]) = false := by
      cases hq : (y.s 0 == ByteArray.mk #[])
      · rfl
      · have h9 := beqB hq
        rw [h9] at hsz; exact absurd hsz (by decide)
    have hx := hd (y.n 91011) (by omega) hi
    have hb := bitb hx
    have hinb : inB (y.n 91011) 73 = true := by simp only [inB, Bool.and_eq_true, decide_eq_true_eq]; omega
    simp only [hne, hb, e1, i1, hsz, hcl]
    by_cases c0 : y.n 91011 = 0
    · have hc0 := hst.c0
      rw [← c0] at hc0
      simp only [decide_eq_true_eq, decide_eq_false_iff_not, beq_iff_eq, beq_eq_false_iff_ne, Bool.not_eq_true', Bool.not_eq_false', ne_eq]
      (repeat' (first | exact trivial | with_reducible rfl | exact (rfl : renC _ _ = _) | with_reducible assumption | intro h | apply And.intro)) <;> first | omega | exact nx0 e2 c0 (by omega) | (exfalso; simp_all; done) | (exfalso; omega)
    by_cases c1 : y.n 91011 = 1
    · have hc1 : strB t (y.n 91011) = 48 := by rw [c1]; exact hst.c1
      simp only [decide_eq_true_eq, decide_eq_false_iff_not, beq_iff_eq, beq_eq_false_iff_ne, Bool.not_eq_true', Bool.not_eq_false', ne_eq]
      (repeat' (first | exact trivial | with_reducible rfl | exact (rfl : renC _ _ = _) | with_reducible assumption | intro h | apply And.intro)) <;> first | omega | exact nx1 hs c1 rfl (by omega) | (exfalso; omega) | (exfalso; simp_all; done)
    have hrd := hs.rd (by omega)
    simp only [hrd]
    by_cases ca : y.n 91011 < 2 + 6
    · simp only [decide_eq_true_eq, decide_eq_false_iff_not, beq_iff_eq, beq_eq_false_iff_ne, Bool.not_eq_true', Bool.not_eq_false', ne_eq]
      (repeat' (first | exact trivial | with_reducible rfl | exact (rfl : renC _ _ = _) | with_reducible assumption | intro h | apply And.intro)) <;> first | omega | (have h5 := nxA (q := PW 6 512 t (z.s 0) (y.s 0) (y.n 91011 + 1) false 0 0 (ByteArray.mk #[])) hs (by omega) ca (by omega) hd (by omega); rw [hrd] at h5; exact h5) | (exfalso; simp_all; done) | (exfalso; omega)
    by_cases cd : y.n 91011 < 72
    · simp only [decide_eq_true_eq, decide_eq_false_iff_not, beq_iff_eq, beq_eq_false_iff_ne, Bool.not_eq_true', Bool.not_eq_false', ne_eq]
      (repeat' (first | exact trivial | with_reducible rfl | exact (rfl : renC _ _ = _) | with_reducible assumption | intro h | apply And.intro)) <;> first | omega | (have h5 := nxD (q := PW 6 512 t (z.s 0) (y.s 0) (y.n 91011 + 1) false 0 0 (ByteArray.mk #[])) hs (by omega) hd (by omega) (by omega); rw [hrd] at h5; exact h5) | (exfalso; simp_all; done) | (exfalso; omega)
    have hfa := fin_a hs (by omega)
    have hv := vF_bd (t := t) (a := 2) (k := 6) fun j hj => hd _ (by omega) (by omega)
    rw [show (2 : Int) ^ 6 = 64 from rfl] at hv
    have a1 : IntKind.i64.wrap (vF t 2 6 * 8) = vF t 2 6 * 8 := by rw [wi64]; omega
    have a2 : (vF t 2 6 * 8).tmod ((512 : Nat) : Int) = vF t 2 6 * 8 % 512 := by rw [tmod_n _ _ (by omega)]; rfl
    generalize hu : vF t 2 6 * 8 % 512 = u at a2
    have hub : 0 ≤ u ∧ u + 8 ≤ 512 := by omega
    have hfd := fin_d hs (by omega)
    have a3 : IntKind.i64.wrap (u + 8) = u + 8 := by rw [wi64]; omega
    have hro := room_ap (d := vF t 8 64) hsz (by omega) hub.1 hub.2
    simp only [show (2 : Int) + ((6 : Nat) : Int) = 8 from rfl] at hfd
    simp only [hfa, hfd, a1, a2, a3]
    have hP : PW 6 512 t (z.s 0) (catB [strSl (y.s 0) 0 u, byT (vF t 8 64), strSl (y.s 0) (u + 8) ((512 : Nat) : Int)]) 0 true 1 u (byT (vF t 8 64)) := ⟨rfl, rfl, rfl, hu.symm, rfl, by rw [apT_eq, ← e2]; simp only [show (((512 : Nat) : Int)) = 512 from rfl, hu, hsz]; rfl⟩
    have hbs := byT_size (vF t 8 64)
    simp only [hbs]
    simp only [decide_eq_true_eq, decide_eq_false_iff_not, beq_iff_eq, beq_eq_false_iff_ne, Bool.not_eq_true', Bool.not_eq_false', ne_eq]
    (repeat' (first | exact trivial | with_reducible rfl | exact (rfl : renC _ _ = _) | with_reducible assumption | intro h | apply And.intro)) <;> first | omega | exact ⟨fun h => absurd h (by omega), fun _ => hP⟩ | (exfalso; omega) | (exfalso; simp_all; done)
  · have hi := of_decide_eq_false h
    have hq := hy3.b (by omega)
    (repeat' (first | exact trivial | with_reducible rfl | exact (rfl : renC _ _ = _) | with_reducible assumption | intro h | apply And.intro)) <;> omega
set_option maxHeartbeats 8000000 in
theorem sWb_c (E : World) (t : ByteArray) (z : PX) (hz : rgM z [mW 6] 0) (hp : (fun z => (ST t 73 false ∧ (z.s 0).size = 512) ∧ z.n 2 = 0) z) : HD (pe E) 17 [.c (.p 0 0), .c (.strn 73 t)] [mW 6] [mW 6] (.u [some 3, none] [.i .i64, .i .i64, .s, .b]) (fun z y => PW 6 512 t (z.s 0) (y.s 0) (y.n 2) (y.b 90003) (y.n 90000) (y.n 90001) (y.s 90002)) z := by
  refine HD.loop (P := pe E) orcV_ok tab_ok tab_sz mixed Try.func17 (c := Try.f17.body.getD .skip) rfl (by decide) (Nat.le_of_ble_eq_true rfl) (by rfl) 20000 (2 ^ 200 - 1) (sWb_hs E t z) (by rfl) (loopP_lfH ⟨?_⟩) ?_
  · rw [sWb_pro]
    obtain ⟨⟨hst, hz0⟩, hz2⟩ := hp
    have hcl := hst.l
    have r2 : 0 ≤ z.n 2 ∧ z.n 2 ≤ 80 := hz.1.1
    have r7 : 0 ≤ z.n 7 ∧ z.n 7 ≤ 68 := hz.1.2.1
    have hH : ∀ q : Prop, HI (SI false 6 t (z.s 0) (z.s 0) 0 (z.n 2) (z.b 3) (z.n 4) (z.n 5)) q 0 73 := fun q => ⟨fun _ => ⟨rfl, hz2, (fun h => absurd h (by omega)), (fun h => absurd h (by omega)), (fun h => absurd h (by omega))⟩, fun h => absurd h (by omega)⟩
    (repeat' (first | exact trivial | with_reducible rfl | exact (rfl : renC _ _ = _) | with_reducible assumption | exact hH _ | exact decide_eq_true hcl | apply And.intro)) <;> omega
  · intro h hmem y hy1 hy2 hy3
    simp only [sWb_hs, List.mem_cons, List.not_mem_nil, or_false] at hmem
    rcases hmem with rfl
    · exact sWb_q0 E t z hp y hy1 hy2 hy3
end Go.Proofs.Ythgcieloijmgdaa

