import Derived.Test.YtbnglhfhmhnimaaX
set_option linter.unusedVariables false
set_option linter.unusedSimpArgs false
namespace Go.Proofs.Ytbnglhfhmhnimaa
open Go Go.Proofs Go.Proofs.Ytbnglhfhmhnimaa.Ev
set_option maxRecDepth 100000
theorem nk_0 (h : Int) (h0 : 0 ≤ h) (h1 : h < 4294967296) (hno : fits pt0 h = false) : ¬ (bitW h 27 = 0 ∧ bitW h 26 = 0 ∧ bitW h 25 = 0 ∧ bitW h 24 = 0 ∧ bitW h 23 = 0 ∧ bitW h 22 = 0 ∧ bitW h 7 = 1 ∧ bitW h 6 = 0 ∧ bitW h 5 = 0 ∧ bitW h 4 = 1) := by
  intro hc
  have := (fs_0 h h0 h1).2 hc
  rw [this] at hno; cases hno
theorem nk_1 (h : Int) (h0 : 0 ≤ h) (h1 : h < 4294967296) (hno : fits pt1 h = false) : ¬ (bitW h 27 = 0 ∧ bitW h 26 = 0 ∧ bitW h 25 = 0 ∧ bitW h 24 = 0 ∧ bitW h 23 = 1 ∧ bitW h 7 = 1 ∧ bitW h 6 = 0 ∧ bitW h 5 = 0 ∧ bitW h 4 = 1) := by
  intro hc
  have := (fs_1 h h0 h1).2 hc
  rw [this] at hno; cases hno
theorem nk_2 (h : Int) (h0 : 0 ≤ h) (h1 : h < 4294967296) (hno : fits pt2 h = false) : ¬ (bitW h 27 = 0 ∧ bitW h 26 = 0 ∧ bitW h 25 = 0 ∧ bitW h 24 = 1 ∧ bitW h 23 = 0 ∧ bitW h 21 = 0 ∧ bitW h 20 = 0 ∧ bitW h 11 = 0 ∧ bitW h 10 = 0 ∧ bitW h 9 = 0 ∧ bitW h 8 = 0 ∧ bitW h 7 = 1 ∧ bitW h 6 = 0 ∧ bitW h 5 = 0 ∧ bitW h 4 = 1) := by
  intro hc
  have := (fs_2 h h0 h1).2 hc
  rw [this] at hno; cases hno
theorem nk_3 (h : Int) (h0 : 0 ≤ h) (h1 : h < 4294967296) (hno : (fits pt3 h && !(fld pt3 h 72 == 0)) = false) : ¬ (bitW h 27 = 0 ∧ bitW h 26 = 0 ∧ bitW h 25 = 0 ∧ bitW h 22 = 0 ∧ bitW h 20 = 1 ∧ bitW h 7 = 1 ∧ bitW h 4 = 1 ∧ 2 * bitW h 6 + bitW h 5 ≠ 0) := by
  intro hc
  obtain ⟨q0, q1, q2, q3, q4, q5, q6, ql⟩ := hc
  have hf := (fs_3 h h0 h1).2 ⟨q0, q1, q2, q3, q4, q5, q6⟩
  rw [← fw_3_72 h h0 h1] at ql
  have hb : (fld pt3 h 72 == 0) = false := qF ql
  rw [hf, hb] at hno; cases hno
theorem nk_4 (h : Int) (h0 : 0 ≤ h) (h1 : h < 4294967296) (hno : fits pt4 h = false) : ¬ (bitW h 27 = 0 ∧ bitW h 26 = 0 ∧ bitW h 25 = 0 ∧ bitW h 22 = 0 ∧ bitW h 20 = 0 ∧ bitW h 7 = 1 ∧ bitW h 6 = 0 ∧ bitW h 5 = 1 ∧ bitW h 4 = 1) := by
  intro hc
  have := (fs_4 h h0 h1).2 hc
  rw [this] at hno; cases hno
theorem nk_5 (h : Int) (h0 : 0 ≤ h) (h1 : h < 4294967296) (hno : (fits pt5 h && !(fld pt5 h 72 == 0)) = false) : ¬ (bitW h 27 = 0 ∧ bitW h 26 = 0 ∧ bitW h 25 = 0 ∧ bitW h 22 = 1 ∧ bitW h 20 = 1 ∧ bitW h 7 = 1 ∧ bitW h 4 = 1 ∧ 2 * bitW h 6 + bitW h 5 ≠ 0) := by
  intro hc
  obtain ⟨q0, q1, q2, q3, q4, q5, q6, ql⟩ := hc
  have hf := (fs_5 h h0 h1).2 ⟨q0, q1, q2, q3, q4, q5, q6⟩
  rw [← fw_5_72 h h0 h1] at ql
  have hb : (fld pt5 h 72 == 0) = false := qF ql
  rw [hf, hb] at hno; cases hno
theorem nk_6 (h : Int) (h0 : 0 ≤ h) (h1 : h < 4294967296) (hno : fits pt6 h = false) : ¬ (bitW h 27 = 0 ∧ bitW h 26 = 0 ∧ bitW h 25 = 0 ∧ bitW h 22 = 1 ∧ bitW h 20 = 0 ∧ bitW h 7 = 1 ∧ bitW h 6 = 0 ∧ bitW h 5 = 1 ∧ bitW h 4 = 1) := by
  intro hc
  have := (fs_6 h h0 h1).2 hc
  rw [this] at hno; cases hno
theorem nk_7 (h : Int) (h0 : 0 ≤ h) (h1 : h < 4294967296) (hno : fits pt7 h = false) : ¬ (bitW h 27 = 0 ∧ bitW h 26 = 0 ∧ bitW h 25 = 0 ∧ bitW h 24 = 1 ∧ bitW h 23 = 0 ∧ bitW h 22 = 0 ∧ bitW h 21 = 1 ∧ bitW h 20 = 0 ∧ bitW h 19 = 1 ∧ bitW h 18 = 1 ∧ bitW h 17 = 1 ∧ bitW h 16 = 1 ∧ bitW h 15 = 1 ∧ bitW h 14 = 1 ∧ bitW h 13 = 1 ∧ bitW h 12 = 1 ∧ bitW h 11 = 1 ∧ bitW h 10 = 1 ∧ bitW h 9 = 1 ∧ bitW h 8 = 1 ∧ bitW h 7 = 0 ∧ bitW h 6 = 0 ∧ bitW h 5 = 0 ∧ bitW h 4 = 1) := by
  intro hc
  have := (fs_7 h h0 h1).2 hc
  rw [this] at hno; cases hno
theorem nk_8 (h : Int) (h0 : 0 ≤ h) (h1 : h < 4294967296) (hno : fits pt8 h = false) : ¬ (bitW h 27 = 0 ∧ bitW h 26 = 0 ∧ bitW h 25 = 0 ∧ bitW h 24 = 1 ∧ bitW h 23 = 0 ∧ bitW h 21 = 0 ∧ bitW h 20 = 0 ∧ bitW h 19 = 1 ∧ bitW h 18 = 1 ∧ bitW h 17 = 1 ∧ bitW h 16 = 1 ∧ bitW h 11 = 0 ∧ bitW h 10 = 0 ∧ bitW h 9 = 0 ∧ bitW h 8 = 0 ∧ bitW h 7 = 0 ∧ bitW h 6 = 0 ∧ bitW h 5 = 0 ∧ bitW h 4 = 0 ∧ bitW h 3 = 0 ∧ bitW h 2 = 0 ∧ bitW h 1 = 0 ∧ bitW h 0 = 0) := by
  intro hc
  have := (fs_8 h h0 h1).2 hc
  rw [this] at hno; cases hno
theorem nk_9 (h : Int) (h0 : 0 ≤ h) (h1 : h < 4294967296) (hno : fits pt9 h = false) : ¬ (bitW h 27 = 0 ∧ bitW h 26 = 0 ∧ bitW h 25 = 0 ∧ bitW h 24 = 1 ∧ bitW h 23 = 0 ∧ bitW h 21 = 1 ∧ bitW h 20 = 0 ∧ bitW h 15 = 1 ∧ bitW h 14 = 1 ∧ bitW h 13 = 1 ∧ bitW h 12 = 1 ∧ bitW h 11 = 0 ∧ bitW h 10 = 0 ∧ bitW h 9 = 0 ∧ bitW h 8 = 0 ∧ bitW h 7 = 0 ∧ bitW h 6 = 0 ∧ bitW h 5 = 0 ∧ bitW h 4 = 0) := by
  intro hc
  have := (fs_9 h h0 h1).2 hc
  rw [this] at hno; cases hno
theorem nk_10 (h : Int) (h0 : 0 ≤ h) (h1 : h < 4294967296) (hno : fits pt10 h = false) : ¬ (bitW h 27 = 0 ∧ bitW h 26 = 0 ∧ bitW h 25 = 1 ∧ bitW h 24 = 1 ∧ bitW h 23 = 0 ∧ bitW h 21 = 1 ∧ bitW h 20 = 0 ∧ bitW h 15 = 1 ∧ bitW h 14 = 1 ∧ bitW h 13 = 1 ∧ bitW h 12 = 1) := by
  intro hc
  have := (fs_10 h h0 h1).2 hc
  rw [this] at hno; cases hno
theorem nk_11 (h : Int) (h0 : 0 ≤ h) (h1 : h < 4294967296) (hno : (fits pt11 h && !(bif bif decide (fld pt11 h 111 ≥ 8) then decide (fld pt11 h 111 ≤ 11) else false then !(fld pt11 h 70 == 1) else false)) = false) : ¬ (bitW h 27 = 0 ∧ bitW h 26 = 0 ∧ bitW h 25 = 0 ∧ bitW h 4 = 0 ∧ ¬ (8 ≤ 8 * bitW h 24 + 4 * bitW h 23 + 2 * bitW h 22 + bitW h 21 ∧ 8 * bitW h 24 + 4 * bitW h 23 + 2 * bitW h 22 + bitW h 21 ≤ 11 ∧ bitW h 20 ≠ 1)) := by
  intro hc
  obtain ⟨q0, q1, q2, q3, ql⟩ := hc
  have hf := (fs_11 h h0 h1).2 ⟨q0, q1, q2, q3⟩
  rw [← fw_11_111 h h0 h1, ← fw_11_70 h h0 h1] at ql
  have hb : (bif bif decide (fld pt11 h 111 ≥ 8) then decide (fld pt11 h 111 ≤ 11) else false then !(fld pt11 h 70 == 1) else false) = false := dfF ql
  rw [hf, hb] at hno; cases hno
theorem nk_12 (h : Int) (h0 : 0 ≤ h) (h1 : h < 4294967296) (hno : (fits pt12 h && !(bif bif decide (fld pt12 h 111 ≥ 8) then decide (fld pt12 h 111 ≤ 11) else false then !(fld pt12 h 70 == 1) else false)) = false) : ¬ (bitW h 27 = 0 ∧ bitW h 26 = 0 ∧ bitW h 25 = 0 ∧ bitW h 7 = 0 ∧ bitW h 4 = 1 ∧ ¬ (8 ≤ 8 * bitW h 24 + 4 * bitW h 23 + 2 * bitW h 22 + bitW h 21 ∧ 8 * bitW h 24 + 4 * bitW h 23 + 2 * bitW h 22 + bitW h 21 ≤ 11 ∧ bitW h 20 ≠ 1)) := by
  intro hc
  obtain ⟨q0, q1, q2, q3, q4, ql⟩ := hc
  have hf := (fs_12 h h0 h1).2 ⟨q0, q1, q2, q3, q4⟩
  rw [← fw_12_111 h h0 h1, ← fw_12_70 h h0 h1] at ql
  have hb : (bif bif decide (fld pt12 h 111 ≥ 8) then decide (fld pt12 h 111 ≤ 11) else false then !(fld pt12 h 70 == 1) else false) = false := dfF ql
  rw [hf, hb] at hno; cases hno
theorem nk_13 (h : Int) (h0 : 0 ≤ h) (h1 : h < 4294967296) (hno : (fits pt13 h && !(bif bif decide (fld pt13 h 111 ≥ 8) then decide (fld pt13 h 111 ≤ 11) else false then !(fld pt13 h 70 == 1) else false)) = false) : ¬ (bitW h 27 = 0 ∧ bitW h 26 = 0 ∧ bitW h 25 = 1 ∧ ¬ (8 ≤ 8 * bitW h 24 + 4 * bitW h 23 + 2 * bitW h 22 + bitW h 21 ∧ 8 * bitW h 24 + 4 * bitW h 23 + 2 * bitW h 22 + bitW h 21 ≤ 11 ∧ bitW h 20 ≠ 1)) := by
  intro hc
  obtain ⟨q0, q1, q2, ql⟩ := hc
  have hf := (fs_13 h h0 h1).2 ⟨q0, q1, q2⟩
  rw [← fw_13_111 h h0 h1, ← fw_13_70 h h0 h1] at ql
  have hb : (bif bif decide (fld pt13 h 111 ≥ 8) then decide (fld pt13 h 111 ≤ 11) else false then !(fld pt13 h 70 == 1) else false) = false := dfF ql
  rw [hf, hb] at hno; cases hno
theorem nk_14 (h : Int) (h0 : 0 ≤ h) (h1 : h < 4294967296) (hno : fits pt14 h = false) : ¬ (bitW h 27 = 0 ∧ bitW h 26 = 1 ∧ bitW h 25 = 0) := by
  intro hc
  have := (fs_14 h h0 h1).2 hc
  rw [this] at hno; cases hno
theorem nk_15 (h : Int) (h0 : 0 ≤ h) (h1 : h < 4294967296) (hno : fits pt15 h = false) : ¬ (bitW h 27 = 0 ∧ bitW h 26 = 1 ∧ bitW h 25 = 1 ∧ bitW h 4 = 0) := by
  intro hc
  have := (fs_15 h h0 h1).2 hc
  rw [this] at hno; cases hno
theorem nk_16 (h : Int) (h0 : 0 ≤ h) (h1 : h < 4294967296) (hno : fits pt16 h = false) : ¬ (bitW h 27 = 1 ∧ bitW h 26 = 0 ∧ bitW h 25 = 0) := by
  intro hc
  have := (fs_16 h h0 h1).2 hc
  rw [this] at hno; cases hno
theorem nk_17 (h : Int) (h0 : 0 ≤ h) (h1 : h < 4294967296) (hno : fits pt17 h = false) : ¬ (bitW h 27 = 1 ∧ bitW h 26 = 0 ∧ bitW h 25 = 1) := by
  intro hc
  have := (fs_17 h h0 h1).2 hc
  rw [this] at hno; cases hno
theorem nk_18 (h : Int) (h0 : 0 ≤ h) (h1 : h < 4294967296) (hno : fits pt18 h = false) : ¬ (bitW h 27 = 1 ∧ bitW h 26 = 1 ∧ bitW h 25 = 1 ∧ bitW h 24 = 1) := by
  intro hc
  have := (fs_18 h h0 h1).2 hc
  rw [this] at hno; cases hno
set_option maxHeartbeats 8000000 in
theorem dflt_p (E : World) (h : Int) (h0 : 0 ≤ h) (h1 : h < 4294967296) (k0 : fits pt0 h = false) (k1 : fits pt1 h = false) (k2 : fits pt2 h = false) (k3 : (fits pt3 h && !(fld pt3 h 72 == 0)) = false) (k4 : fits pt4 h = false) (k5 : (fits pt5 h && !(fld pt5 h 72 == 0)) = false) (k6 : fits pt6 h = false) (k7 : fits pt7 h = false) (k8 : fits pt8 h = false) (k9 : fits pt9 h = false) (k10 : fits pt10 h = false) (k11 : (fits pt11 h && !(bif bif decide (fld pt11 h 111 ≥ 8) then decide (fld pt11 h 111 ≤ 11) else false then !(fld pt11 h 70 == 1) else false)) = false) (k12 : (fits pt12 h && !(bif bif decide (fld pt12 h 111 ≥ 8) then decide (fld pt12 h 111 ≤ 11) else false then !(fld pt12 h 70 == 1) else false)) = false) (k13 : (fits pt13 h && !(bif bif decide (fld pt13 h 111 ≥ 8) then decide (fld pt13 h 111 ≤ 11) else false then !(fld pt13 h 70 == 1) else false)) = false) (k14 : fits pt14 h = false) (k15 : fits pt15 h = false) (k16 : fits pt16 h = false) (k17 : fits pt17 h = false) (k18 : fits pt18 h = false) : conR (fun v => SV.sim v (.a (cs24 0 (IntKind.i64.wrap (h.fdiv 268435456)) 0 false 0 0 0 0 0 false 0 0 false false false false false false false false 0 false false false))) (fnTree (pe E) (orcA E) (tabL fns) 20000 Try.f8 [.c (.i false .u32 h)] []) := by
  rw [prog_p]
  have bd := bds h h0
  refine ⟨fun e0 => ?_, fun e0 => ?_⟩
  · have e0z := qTi e0
    rw [pa_33554432_7 h h0 h1] at e0z
    refine ⟨fun e1 => ?_, fun e1 => ?_⟩
    · have e1z := (mk_264241392 h h0 h1).1 e1
      exfalso; have m0 := nk_0 h h0 h1 k0; omega
    · have e1z := fun e => Bool.eq_false_iff.1 e1 ((mk_264241392 h h0 h1).2 e)
      change ¬ _ at e1z
      refine ⟨fun e2 => ?_, fun e2 => ?_⟩
      · have e2z := (mk_260047088 h h0 h1).1 e2
        exfalso; have m1 := nk_1 h h0 h1 k1; omega
      · have e2z := fun e => Bool.eq_false_iff.1 e2 ((mk_260047088 h h0 h1).2 e)
        change ¬ _ at e2z
        refine ⟨fun e3 => ?_, fun e3 => ?_⟩
        · have e3z := (mk_263196656 h h0 h1).1 e3
          exfalso; have m2 := nk_2 h h0 h1 k2; omega
        · have e3z := fun e => Bool.eq_false_iff.1 e3 ((mk_263196656 h h0 h1).2 e)
          change ¬ _ at e3z
          refine ⟨fun e4 => ?_, fun e4 => ?_⟩
          · have e4z := (mk_1048720 h h0 h1).1 e4
            refine ⟨fun e5 => ?_, fun e5 => ?_⟩
            · have e5z := nqTi e5
              rw [pa_32_3 h h0 h1] at e5z
              refine ⟨fun e6 => ?_, fun e6 => ?_⟩
              · have e6z := nqTi e6
                rw [pb_4194304_1 h h0 h1] at e6z
                refine ⟨fun e7 => ?_, fun e7 => ?_⟩
                · have e7z := nqTi e7
                  rw [pb_2097152_1 h h0 h1] at e7z
                  exfalso; have m5 := nk_5 h h0 h1 k5; omega
                · have e7z := nqFi e7
                  rw [pb_2097152_1 h h0 h1] at e7z
                  exfalso; have m5 := nk_5 h h0 h1 k5; omega
              · have e6z := nqFi e6
                rw [pb_4194304_1 h h0 h1] at e6z
                refine ⟨fun e7 => ?_, fun e7 => ?_⟩
                · have e7z := nqTi e7
                  rw [pb_2097152_1 h h0 h1] at e7z
                  exfalso; have m3 := nk_3 h h0 h1 k3; omega
                · have e7z := nqFi e7
                  rw [pb_2097152_1 h h0 h1] at e7z
                  exfalso; have m3 := nk_3 h h0 h1 k3; omega
            · have e5z := nqFi e5
              rw [pa_32_3 h h0 h1] at e5z
              refine ⟨fun e6 => ?_, fun e6 => ?_⟩
              · have e6z := (mk_1048816 h h0 h1).1 e6
                refine ⟨fun e7 => ?_, fun e7 => ?_⟩
                · have e7z := nqTi e7
                  rw [pb_4194304_1 h h0 h1] at e7z
                  refine ⟨fun e8 => ?_, fun e8 => ?_⟩
                  · have e8z := nqTi e8
                    rw [pb_2097152_1 h h0 h1] at e8z
                    exfalso; omega
                  · have e8z := nqFi e8
                    rw [pb_2097152_1 h h0 h1] at e8z
                    exfalso; omega
                · have e7z := nqFi e7
                  rw [pb_4194304_1 h h0 h1] at e7z
                  refine ⟨fun e8 => ?_, fun e8 => ?_⟩
                  · have e8z := nqTi e8
                    rw [pb_2097152_1 h h0 h1] at e8z
                    exfalso; omega
                  · have e8z := nqFi e8
                    rw [pb_2097152_1 h h0 h1] at e8z
                    exfalso; omega
              · have e6z := fun e => Bool.eq_false_iff.1 e6 ((mk_1048816 h h0 h1).2 e)
                change ¬ _ at e6z
                refine ⟨fun e7 => ?_, fun e7 => ?_⟩
                · have e7z := (mk_268435440 h h0 h1).1 e7
                  exfalso; omega
                · have e7z := fun e => Bool.eq_false_iff.1 e7 ((mk_268435440 h h0 h1).2 e)
                  change ¬ _ at e7z
                  refine ⟨fun e8 => ?_, fun e8 => ?_⟩
                  · have e8z := (mk_264179711 h h0 h1).1 e8
                    exfalso; omega
                  · have e8z := fun e => Bool.eq_false_iff.1 e8 ((mk_264179711 h h0 h1).2 e)
                    change ¬ _ at e8z
                    refine ⟨fun e9 => ?_, fun e9 => ?_⟩
                    · have e9z := (mk_263258096 h h0 h1).1 e9
                      exfalso; omega
                    · have e9z := fun e => Bool.eq_false_iff.1 e9 ((mk_263258096 h h0 h1).2 e)
                      change ¬ _ at e9z
                      refine ⟨fun e10 => ?_, fun e10 => ?_⟩
                      · have e10z := nnqTi e10
                        rw [pb_16_1 h h0 h1] at e10z
                        refine ⟨fun e11 => ?_, fun e11 => ?_⟩
                        · have e11z := bfTi e11
                          rw [pa_2097152_15 h h0 h1, pb_1048576_1 h h0 h1] at e11z
                          exfalso; omega
                        · have e11z := bfFi e11
                          rw [pa_2097152_15 h h0 h1, pb_1048576_1 h h0 h1] at e11z
                          exfalso; omega
                      · have e10z := nnqFi e10
                        rw [pb_16_1 h h0 h1] at e10z
                        refine ⟨fun e11 => ?_, fun e11 => ?_⟩
                        · have e11z := nnqTi e11
                          rw [pb_128_1 h h0 h1] at e11z
                          refine ⟨fun e12 => ?_, fun e12 => ?_⟩
                          · have e12z := bfTi e12
                            rw [pa_2097152_15 h h0 h1, pb_1048576_1 h h0 h1] at e12z
                            exfalso; omega
                          · have e12z := bfFi e12
                            rw [pa_2097152_15 h h0 h1, pb_1048576_1 h h0 h1] at e12z
                            exfalso; omega
                        · have e11z := nnqFi e11
                          rw [pb_128_1 h h0 h1] at e11z
                          exact ⟨⟨rfl, rfl⟩, ⟨rfl, rfl⟩, ⟨rfl, rfl⟩, rfl, ⟨rfl, rfl⟩, ⟨rfl, rfl⟩, ⟨rfl, rfl⟩, ⟨rfl, rfl⟩, ⟨rfl, rfl⟩, rfl, ⟨rfl, rfl⟩, ⟨rfl, rfl⟩, rfl, rfl, rfl, rfl, rfl, rfl, rfl, rfl, ⟨rfl, rfl⟩, rfl, rfl, rfl⟩
          · have e4z := fun e => Bool.eq_false_iff.1 e4 ((mk_1048720 h h0 h1).2 e)
            change ¬ _ at e4z
            refine ⟨fun e5 => ?_, fun e5 => ?_⟩
            · have e5z := (mk_1048816 h h0 h1).1 e5
              refine ⟨fun e6 => ?_, fun e6 => ?_⟩
              · have e6z := nqTi e6
                rw [pb_4194304_1 h h0 h1] at e6z
                refine ⟨fun e7 => ?_, fun e7 => ?_⟩
                · have e7z := nqTi e7
                  rw [pb_2097152_1 h h0 h1] at e7z
                  exfalso; have m6 := nk_6 h h0 h1 k6; omega
                · have e7z := nqFi e7
                  rw [pb_2097152_1 h h0 h1] at e7z
                  exfalso; have m6 := nk_6 h h0 h1 k6; omega
              · have e6z := nqFi e6
                rw [pb_4194304_1 h h0 h1] at e6z
                refine ⟨fun e7 => ?_, fun e7 => ?_⟩
                · have e7z := nqTi e7
                  rw [pb_2097152_1 h h0 h1] at e7z
                  exfalso; have m4 := nk_4 h h0 h1 k4; omega
                · have e7z := nqFi e7
                  rw [pb_2097152_1 h h0 h1] at e7z
                  exfalso; have m4 := nk_4 h h0 h1 k4; omega
            · have e5z := fun e => Bool.eq_false_iff.1 e5 ((mk_1048816 h h0 h1).2 e)
              change ¬ _ at e5z
              refine ⟨fun e6 => ?_, fun e6 => ?_⟩
              · have e6z := (mk_268435440 h h0 h1).1 e6
                exfalso; have m7 := nk_7 h h0 h1 k7; omega
              · have e6z := fun e => Bool.eq_false_iff.1 e6 ((mk_268435440 h h0 h1).2 e)
                change ¬ _ at e6z
                refine ⟨fun e7 => ?_, fun e7 => ?_⟩
                · have e7z := (mk_264179711 h h0 h1).1 e7
                  exfalso; have m8 := nk_8 h h0 h1 k8; omega
                · have e7z := fun e => Bool.eq_false_iff.1 e7 ((mk_264179711 h h0 h1).2 e)
                  change ¬ _ at e7z
                  refine ⟨fun e8 => ?_, fun e8 => ?_⟩
                  · have e8z := (mk_263258096 h h0 h1).1 e8
                    exfalso; have m9 := nk_9 h h0 h1 k9; omega
                  · have e8z := fun e => Bool.eq_false_iff.1 e8 ((mk_263258096 h h0 h1).2 e)
                    change ¬ _ at e8z
                    refine ⟨fun e9 => ?_, fun e9 => ?_⟩
                    · have e9z := nnqTi e9
                      rw [pb_16_1 h h0 h1] at e9z
                      refine ⟨fun e10 => ?_, fun e10 => ?_⟩
                      · have e10z := bfTi e10
                        rw [pa_2097152_15 h h0 h1, pb_1048576_1 h h0 h1] at e10z
                        exact ⟨⟨rfl, rfl⟩, ⟨rfl, rfl⟩, ⟨rfl, rfl⟩, rfl, ⟨rfl, rfl⟩, ⟨rfl, rfl⟩, ⟨rfl, rfl⟩, ⟨rfl, rfl⟩, ⟨rfl, rfl⟩, rfl, ⟨rfl, rfl⟩, ⟨rfl, rfl⟩, rfl, rfl, rfl, rfl, rfl, rfl, rfl, rfl, ⟨rfl, rfl⟩, rfl, rfl, rfl⟩
                      · have e10z := bfFi e10
                        rw [pa_2097152_15 h h0 h1, pb_1048576_1 h h0 h1] at e10z
                        exfalso; have m11 := nk_11 h h0 h1 k11; omega
                    · have e9z := nnqFi e9
                      rw [pb_16_1 h h0 h1] at e9z
                      refine ⟨fun e10 => ?_, fun e10 => ?_⟩
                      · have e10z := nnqTi e10
                        rw [pb_128_1 h h0 h1] at e10z
                        refine ⟨fun e11 => ?_, fun e11 => ?_⟩
                        · have e11z := bfTi e11
                          rw [pa_2097152_15 h h0 h1, pb_1048576_1 h h0 h1] at e11z
                          exact ⟨⟨rfl, rfl⟩, ⟨rfl, rfl⟩, ⟨rfl, rfl⟩, rfl, ⟨rfl, rfl⟩, ⟨rfl, rfl⟩, ⟨rfl, rfl⟩, ⟨rfl, rfl⟩, ⟨rfl, rfl⟩, rfl, ⟨rfl, rfl⟩, ⟨rfl, rfl⟩, rfl, rfl, rfl, rfl, rfl, rfl, rfl, rfl, ⟨rfl, rfl⟩, rfl, rfl, rfl⟩
                        · have e11z := bfFi e11
                          rw [pa_2097152_15 h h0 h1, pb_1048576_1 h h0 h1] at e11z
                          exfalso; have m12 := nk_12 h h0 h1 k12; omega
                      · have e10z := nnqFi e10
                        rw [pb_128_1 h h0 h1] at e10z
                        exact ⟨⟨rfl, rfl⟩, ⟨rfl, rfl⟩, ⟨rfl, rfl⟩, rfl, ⟨rfl, rfl⟩, ⟨rfl, rfl⟩, ⟨rfl, rfl⟩, ⟨rfl, rfl⟩, ⟨rfl, rfl⟩, rfl, ⟨rfl, rfl⟩, ⟨rfl, rfl⟩, rfl, rfl, rfl, rfl, rfl, rfl, rfl, rfl, ⟨rfl, rfl⟩, rfl, rfl, rfl⟩
  · have e0z := qFi e0
    rw [pa_33554432_7 h h0 h1] at e0z
    refine ⟨fun e1 => ?_, fun e1 => ?_⟩
    · have e1z := qTi e1
      rw [pa_33554432_7 h h0 h1] at e1z
      refine ⟨fun e2 => ?_, fun e2 => ?_⟩
      · have e2z := (mk_263254016 h h0 h1).1 e2
        exfalso; have m10 := nk_10 h h0 h1 k10; omega
      · have e2z := fun e => Bool.eq_false_iff.1 e2 ((mk_263254016 h h0 h1).2 e)
        change ¬ _ at e2z
        refine ⟨fun e3 => ?_, fun e3 => ?_⟩
        · have e3z := bfTi e3
          rw [pa_2097152_15 h h0 h1, pb_1048576_1 h h0 h1] at e3z
          exact ⟨⟨rfl, rfl⟩, ⟨rfl, rfl⟩, ⟨rfl, rfl⟩, rfl, ⟨rfl, rfl⟩, ⟨rfl, rfl⟩, ⟨rfl, rfl⟩, ⟨rfl, rfl⟩, ⟨rfl, rfl⟩, rfl, ⟨rfl, rfl⟩, ⟨rfl, rfl⟩, rfl, rfl, rfl, rfl, rfl, rfl, rfl, rfl, ⟨rfl, rfl⟩, rfl, rfl, rfl⟩
        · have e3z := bfFi e3
          rw [pa_2097152_15 h h0 h1, pb_1048576_1 h h0 h1] at e3z
          exfalso; have m13 := nk_13 h h0 h1 k13; omega
    · have e1z := qFi e1
      rw [pa_33554432_7 h h0 h1] at e1z
      refine ⟨fun e2 => ?_, fun e2 => ?_⟩
      · have e2z := qTi e2
        rw [pa_33554432_7 h h0 h1] at e2z
        refine ⟨fun e3 => ?_, fun e3 => ?_⟩
        · have e3z := nqTi e3
          rw [pb_33554432_1 h h0 h1] at e3z
          refine ⟨fun e4 => ?_, fun e4 => ?_⟩
          · have e4z := nqTi e4
            rw [pb_2097152_1 h h0 h1] at e4z
            exfalso; omega
          · have e4z := nqFi e4
            rw [pb_2097152_1 h h0 h1] at e4z
            exfalso; omega
        · have e3z := nqFi e3
          rw [pb_33554432_1 h h0 h1] at e3z
          refine ⟨fun e4 => ?_, fun e4 => ?_⟩
          · have e4z := nqTi e4
            rw [pb_2097152_1 h h0 h1] at e4z
            exfalso; have m14 := nk_14 h h0 h1 k14; omega
          · have e4z := nqFi e4
            rw [pb_2097152_1 h h0 h1] at e4z
            exfalso; have m14 := nk_14 h h0 h1 k14; omega
      · have e2z := qFi e2
        rw [pa_33554432_7 h h0 h1] at e2z
        refine ⟨fun e3 => ?_, fun e3 => ?_⟩
        · have e3z := qTi e3
          rw [pa_33554432_7 h h0 h1] at e3z
          refine ⟨fun e4 => ?_, fun e4 => ?_⟩
          · have e4z := nqTi e4
            rw [pb_16_1 h h0 h1] at e4z
            exact ⟨⟨rfl, rfl⟩, ⟨rfl, rfl⟩, ⟨rfl, rfl⟩, rfl, ⟨rfl, rfl⟩, ⟨rfl, rfl⟩, ⟨rfl, rfl⟩, ⟨rfl, rfl⟩, ⟨rfl, rfl⟩, rfl, ⟨rfl, rfl⟩, ⟨rfl, rfl⟩, rfl, rfl, rfl, rfl, rfl, rfl, rfl, rfl, ⟨rfl, rfl⟩, rfl, rfl, rfl⟩
          · have e4z := nqFi e4
            rw [pb_16_1 h h0 h1] at e4z
            refine ⟨fun e5 => ?_, fun e5 => ?_⟩
            · have e5z := nqTi e5
              rw [pb_33554432_1 h h0 h1] at e5z
              refine ⟨fun e6 => ?_, fun e6 => ?_⟩
              · have e6z := nqTi e6
                rw [pb_2097152_1 h h0 h1] at e6z
                exfalso; have m15 := nk_15 h h0 h1 k15; omega
              · have e6z := nqFi e6
                rw [pb_2097152_1 h h0 h1] at e6z
                exfalso; have m15 := nk_15 h h0 h1 k15; omega
            · have e5z := nqFi e5
              rw [pb_33554432_1 h h0 h1] at e5z
              refine ⟨fun e6 => ?_, fun e6 => ?_⟩
              · have e6z := nqTi e6
                rw [pb_2097152_1 h h0 h1] at e6z
                exfalso; omega
              · have e6z := nqFi e6
                rw [pb_2097152_1 h h0 h1] at e6z
                exfalso; omega
        · have e3z := qFi e3
          rw [pa_33554432_7 h h0 h1] at e3z
          refine ⟨fun e4 => ?_, fun e4 => ?_⟩
          · have e4z := qTi e4
            rw [pa_33554432_7 h h0 h1] at e4z
            exfalso; have m16 := nk_16 h h0 h1 k16; omega
          · have e4z := qFi e4
            rw [pa_33554432_7 h h0 h1] at e4z
            refine ⟨fun e5 => ?_, fun e5 => ?_⟩
            · have e5z := qTi e5
              rw [pa_33554432_7 h h0 h1] at e5z
              exfalso; have m17 := nk_17 h h0 h1 k17; omega
            · have e5z := qFi e5
              rw [pa_33554432_7 h h0 h1] at e5z
              refine ⟨fun e6 => ?_, fun e6 => ?_⟩
              · have e6z := qTi e6
                rw [pa_16777216_15 h h0 h1] at e6z
                exfalso; have m18 := nk_18 h h0 h1 k18; omega
              · have e6z := qFi e6
                rw [pa_16777216_15 h h0 h1] at e6z
                exact ⟨⟨rfl, rfl⟩, ⟨rfl, rfl⟩, ⟨rfl, rfl⟩, rfl, ⟨rfl, rfl⟩, ⟨rfl, rfl⟩, ⟨rfl, rfl⟩, ⟨rfl, rfl⟩, ⟨rfl, rfl⟩, rfl, ⟨rfl, rfl⟩, ⟨rfl, rfl⟩, rfl, rfl, rfl, rfl, rfl, rfl, rfl, rfl, ⟨rfl, rfl⟩, rfl, rfl, rfl⟩
theorem dflt (E : World) (h : Int) (h0 : 0 ≤ h) (h1 : h < 4294967296) (k0 : fits pt0 h = false) (k1 : fits pt1 h = false) (k2 : fits pt2 h = false) (k3 : (fits pt3 h && !(fld pt3 h 72 == 0)) = false) (k4 : fits pt4 h = false) (k5 : (fits pt5 h && !(fld pt5 h 72 == 0)) = false) (k6 : fits pt6 h = false) (k7 : fits pt7 h = false) (k8 : fits pt8 h = false) (k9 : fits pt9 h = false) (k10 : fits pt10 h = false) (k11 : (fits pt11 h && !(bif bif decide (fld pt11 h 111 ≥ 8) then decide (fld pt11 h 111 ≤ 11) else false then !(fld pt11 h 70 == 1) else false)) = false) (k12 : (fits pt12 h && !(bif bif decide (fld pt12 h 111 ≥ 8) then decide (fld pt12 h 111 ≤ 11) else false then !(fld pt12 h 70 == 1) else false)) = false) (k13 : (fits pt13 h && !(bif bif decide (fld pt13 h 111 ≥ 8) then decide (fld pt13 h 111 ≤ 11) else false then !(fld pt13 h 70 == 1) else false)) = false) (k14 : fits pt14 h = false) (k15 : fits pt15 h = false) (k16 : fits pt16 h = false) (k17 : fits pt17 h = false) (k18 : fits pt18 h = false) : Good E h 19 (cs24 0 (IntKind.i64.wrap (h.fdiv 268435456)) 0 false 0 0 0 0 0 false 0 0 false false false false false false false false 0 false false false) := by
  refine ⟨conR_con (dflt_p E h h0 h1 k0 k1 k2 k3 k4 k5 k6 k7 k8 k9 k10 k11 k12 k13 k14 k15 k16 k17 k18), ?_⟩
  rw [dec19]
  repeat' first | exact rfl | apply And.intro
end Go.Proofs.Ytbnglhfhmhnimaa

