import Derived.Test.YtpfdemmoapjjpaaX
set_option linter.unusedVariables false
set_option linter.unusedSimpArgs false
namespace Go.Proofs.Ytpfdemmoapjjpaa
open Go Go.Proofs Go.Proofs.Ytpfdemmoapjjpaa.Ev
set_option maxRecDepth 100000
theorem nk_0 (h : Int) (h0 : 0 ≤ h) (h1 : h < 65536) (hno : (fits pt0 (wh h) && !(bif decide (fld pt0 (wh h) 116 < 0) then true else decide (fld pt0 (wh h) 116 > 2))) = false) : ¬ (bitW h 15 = 0 ∧ bitW h 14 = 0 ∧ bitW h 13 = 0 ∧ 0 ≤ 2 * bitW h 12 + bitW h 11 ∧ 2 * bitW h 12 + bitW h 11 ≤ 2) := by
  intro hc
  obtain ⟨q0, q1, q2, ql, qu⟩ := hc
  have hf := (fs_0 h h0 h1).2 ⟨q0, q1, q2⟩
  rw [← fw_0_116 h h0 h1] at ql qu
  have hb : (bif decide (fld pt0 (wh h) 116 < 0) then true else decide (fld pt0 (wh h) 116 > 2)) = false := by
    rw [decide_eq_false (by omega), cond_false, decide_eq_false (by omega)]
  rw [hf, hb] at hno; cases hno
theorem nk_1 (h : Int) (h0 : 0 ≤ h) (h1 : h < 65536) (hno : (fits pt1 (wh h) && !(bif decide (fld pt1 (wh h) 73 < 0) then true else decide (fld pt1 (wh h) 73 > 0))) = false) : ¬ (bitW h 15 = 0 ∧ bitW h 14 = 0 ∧ bitW h 13 = 0 ∧ bitW h 12 = 1 ∧ bitW h 11 = 1 ∧ 0 ≤ bitW h 10 ∧ bitW h 10 ≤ 0) := by
  intro hc
  obtain ⟨q0, q1, q2, q3, q4, ql, qu⟩ := hc
  have hf := (fs_1 h h0 h1).2 ⟨q0, q1, q2, q3, q4⟩
  rw [← fw_1_73 h h0 h1] at ql qu
  have hb : (bif decide (fld pt1 (wh h) 73 < 0) then true else decide (fld pt1 (wh h) 73 > 0)) = false := by
    rw [decide_eq_false (by omega), cond_false, decide_eq_false (by omega)]
  rw [hf, hb] at hno; cases hno
theorem nk_2 (h : Int) (h0 : 0 ≤ h) (h1 : h < 65536) (hno : (fits pt2 (wh h) && !(bif decide (fld pt2 (wh h) 73 < 1) then true else decide (fld pt2 (wh h) 73 > 1))) = false) : ¬ (bitW h 15 = 0 ∧ bitW h 14 = 0 ∧ bitW h 13 = 0 ∧ bitW h 12 = 1 ∧ bitW h 11 = 1 ∧ 1 ≤ bitW h 10 ∧ bitW h 10 ≤ 1) := by
  intro hc
  obtain ⟨q0, q1, q2, q3, q4, ql, qu⟩ := hc
  have hf := (fs_2 h h0 h1).2 ⟨q0, q1, q2, q3, q4⟩
  rw [← fw_2_73 h h0 h1] at ql qu
  have hb : (bif decide (fld pt2 (wh h) 73 < 1) then true else decide (fld pt2 (wh h) 73 > 1)) = false := by
    rw [decide_eq_false (by omega), cond_false, decide_eq_false (by omega)]
  rw [hf, hb] at hno; cases hno
theorem nk_3 (h : Int) (h0 : 0 ≤ h) (h1 : h < 65536) (hno : fits pt3 (wh h) = false) : ¬ (bitW h 15 = 0 ∧ bitW h 14 = 0 ∧ bitW h 13 = 1 ∧ bitW h 12 = 0 ∧ bitW h 11 = 0) := by
  intro hc
  have := (fs_3 h h0 h1).2 hc
  rw [this] at hno; cases hno
theorem nk_4 (h : Int) (h0 : 0 ≤ h) (h1 : h < 65536) (hno : fits pt4 (wh h) = false) : ¬ (bitW h 15 = 0 ∧ bitW h 14 = 0 ∧ bitW h 13 = 1 ∧ bitW h 12 = 0 ∧ bitW h 11 = 1) := by
  intro hc
  have := (fs_4 h h0 h1).2 hc
  rw [this] at hno; cases hno
theorem nk_5 (h : Int) (h0 : 0 ≤ h) (h1 : h < 65536) (hno : fits pt5 (wh h) = false) : ¬ (bitW h 15 = 0 ∧ bitW h 14 = 0 ∧ bitW h 13 = 1 ∧ bitW h 12 = 1 ∧ bitW h 11 = 0) := by
  intro hc
  have := (fs_5 h h0 h1).2 hc
  rw [this] at hno; cases hno
theorem nk_6 (h : Int) (h0 : 0 ≤ h) (h1 : h < 65536) (hno : fits pt6 (wh h) = false) : ¬ (bitW h 15 = 0 ∧ bitW h 14 = 0 ∧ bitW h 13 = 1 ∧ bitW h 12 = 1 ∧ bitW h 11 = 1) := by
  intro hc
  have := (fs_6 h h0 h1).2 hc
  rw [this] at hno; cases hno
theorem nk_7 (h : Int) (h0 : 0 ≤ h) (h1 : h < 65536) (hno : (fits pt7 (wh h) && !(bif decide (fld pt7 (wh h) 111 < 0) then true else decide (fld pt7 (wh h) 111 > 1))) = false) : ¬ (bitW h 15 = 0 ∧ bitW h 14 = 1 ∧ bitW h 13 = 0 ∧ bitW h 12 = 0 ∧ bitW h 11 = 0 ∧ bitW h 10 = 0 ∧ 0 ≤ 8 * bitW h 9 + 4 * bitW h 8 + 2 * bitW h 7 + bitW h 6 ∧ 8 * bitW h 9 + 4 * bitW h 8 + 2 * bitW h 7 + bitW h 6 ≤ 1) := by
  intro hc
  obtain ⟨q0, q1, q2, q3, q4, q5, ql, qu⟩ := hc
  have hf := (fs_7 h h0 h1).2 ⟨q0, q1, q2, q3, q4, q5⟩
  rw [← fw_7_111 h h0 h1] at ql qu
  have hb : (bif decide (fld pt7 (wh h) 111 < 0) then true else decide (fld pt7 (wh h) 111 > 1)) = false := by
    rw [decide_eq_false (by omega), cond_false, decide_eq_false (by omega)]
  rw [hf, hb] at hno; cases hno
theorem nk_8 (h : Int) (h0 : 0 ≤ h) (h1 : h < 65536) (hno : (fits pt8 (wh h) && !(bif decide (fld pt8 (wh h) 111 < 2) then true else decide (fld pt8 (wh h) 111 > 4))) = false) : ¬ (bitW h 15 = 0 ∧ bitW h 14 = 1 ∧ bitW h 13 = 0 ∧ bitW h 12 = 0 ∧ bitW h 11 = 0 ∧ bitW h 10 = 0 ∧ 2 ≤ 8 * bitW h 9 + 4 * bitW h 8 + 2 * bitW h 7 + bitW h 6 ∧ 8 * bitW h 9 + 4 * bitW h 8 + 2 * bitW h 7 + bitW h 6 ≤ 4) := by
  intro hc
  obtain ⟨q0, q1, q2, q3, q4, q5, ql, qu⟩ := hc
  have hf := (fs_8 h h0 h1).2 ⟨q0, q1, q2, q3, q4, q5⟩
  rw [← fw_8_111 h h0 h1] at ql qu
  have hb : (bif decide (fld pt8 (wh h) 111 < 2) then true else decide (fld pt8 (wh h) 111 > 4)) = false := by
    rw [decide_eq_false (by omega), cond_false, decide_eq_false (by omega)]
  rw [hf, hb] at hno; cases hno
theorem nk_9 (h : Int) (h0 : 0 ≤ h) (h1 : h < 65536) (hno : (fits pt7 (wh h) && !(bif decide (fld pt7 (wh h) 111 < 5) then true else decide (fld pt7 (wh h) 111 > 6))) = false) : ¬ (bitW h 15 = 0 ∧ bitW h 14 = 1 ∧ bitW h 13 = 0 ∧ bitW h 12 = 0 ∧ bitW h 11 = 0 ∧ bitW h 10 = 0 ∧ 5 ≤ 8 * bitW h 9 + 4 * bitW h 8 + 2 * bitW h 7 + bitW h 6 ∧ 8 * bitW h 9 + 4 * bitW h 8 + 2 * bitW h 7 + bitW h 6 ≤ 6) := by
  intro hc
  obtain ⟨q0, q1, q2, q3, q4, q5, ql, qu⟩ := hc
  have hf := (fs_7 h h0 h1).2 ⟨q0, q1, q2, q3, q4, q5⟩
  rw [← fw_7_111 h h0 h1] at ql qu
  have hb : (bif decide (fld pt7 (wh h) 111 < 5) then true else decide (fld pt7 (wh h) 111 > 6)) = false := by
    rw [decide_eq_false (by omega), cond_false, decide_eq_false (by omega)]
  rw [hf, hb] at hno; cases hno
theorem nk_10 (h : Int) (h0 : 0 ≤ h) (h1 : h < 65536) (hno : (fits pt8 (wh h) && !(bif decide (fld pt8 (wh h) 111 < 7) then true else decide (fld pt8 (wh h) 111 > 7))) = false) : ¬ (bitW h 15 = 0 ∧ bitW h 14 = 1 ∧ bitW h 13 = 0 ∧ bitW h 12 = 0 ∧ bitW h 11 = 0 ∧ bitW h 10 = 0 ∧ 7 ≤ 8 * bitW h 9 + 4 * bitW h 8 + 2 * bitW h 7 + bitW h 6 ∧ 8 * bitW h 9 + 4 * bitW h 8 + 2 * bitW h 7 + bitW h 6 ≤ 7) := by
  intro hc
  obtain ⟨q0, q1, q2, q3, q4, q5, ql, qu⟩ := hc
  have hf := (fs_8 h h0 h1).2 ⟨q0, q1, q2, q3, q4, q5⟩
  rw [← fw_8_111 h h0 h1] at ql qu
  have hb : (bif decide (fld pt8 (wh h) 111 < 7) then true else decide (fld pt8 (wh h) 111 > 7)) = false := by
    rw [decide_eq_false (by omega), cond_false, decide_eq_false (by omega)]
  rw [hf, hb] at hno; cases hno
theorem nk_11 (h : Int) (h0 : 0 ≤ h) (h1 : h < 65536) (hno : (fits pt9 (wh h) && !(bif decide (fld pt9 (wh h) 111 < 8) then true else decide (fld pt9 (wh h) 111 > 8))) = false) : ¬ (bitW h 15 = 0 ∧ bitW h 14 = 1 ∧ bitW h 13 = 0 ∧ bitW h 12 = 0 ∧ bitW h 11 = 0 ∧ bitW h 10 = 0 ∧ 8 ≤ 8 * bitW h 9 + 4 * bitW h 8 + 2 * bitW h 7 + bitW h 6 ∧ 8 * bitW h 9 + 4 * bitW h 8 + 2 * bitW h 7 + bitW h 6 ≤ 8) := by
  intro hc
  obtain ⟨q0, q1, q2, q3, q4, q5, ql, qu⟩ := hc
  have hf := (fs_9 h h0 h1).2 ⟨q0, q1, q2, q3, q4, q5⟩
  rw [← fw_9_111 h h0 h1] at ql qu
  have hb : (bif decide (fld pt9 (wh h) 111 < 8) then true else decide (fld pt9 (wh h) 111 > 8)) = false := by
    rw [decide_eq_false (by omega), cond_false, decide_eq_false (by omega)]
  rw [hf, hb] at hno; cases hno
theorem nk_12 (h : Int) (h0 : 0 ≤ h) (h1 : h < 65536) (hno : (fits pt10 (wh h) && !(bif decide (fld pt10 (wh h) 111 < 9) then true else decide (fld pt10 (wh h) 111 > 9))) = false) : ¬ (bitW h 15 = 0 ∧ bitW h 14 = 1 ∧ bitW h 13 = 0 ∧ bitW h 12 = 0 ∧ bitW h 11 = 0 ∧ bitW h 10 = 0 ∧ 9 ≤ 8 * bitW h 9 + 4 * bitW h 8 + 2 * bitW h 7 + bitW h 6 ∧ 8 * bitW h 9 + 4 * bitW h 8 + 2 * bitW h 7 + bitW h 6 ≤ 9) := by
  intro hc
  obtain ⟨q0, q1, q2, q3, q4, q5, ql, qu⟩ := hc
  have hf := (fs_10 h h0 h1).2 ⟨q0, q1, q2, q3, q4, q5⟩
  rw [← fw_10_111 h h0 h1] at ql qu
  have hb : (bif decide (fld pt10 (wh h) 111 < 9) then true else decide (fld pt10 (wh h) 111 > 9)) = false := by
    rw [decide_eq_false (by omega), cond_false, decide_eq_false (by omega)]
  rw [hf, hb] at hno; cases hno
theorem nk_13 (h : Int) (h0 : 0 ≤ h) (h1 : h < 65536) (hno : (fits pt9 (wh h) && !(bif decide (fld pt9 (wh h) 111 < 10) then true else decide (fld pt9 (wh h) 111 > 11))) = false) : ¬ (bitW h 15 = 0 ∧ bitW h 14 = 1 ∧ bitW h 13 = 0 ∧ bitW h 12 = 0 ∧ bitW h 11 = 0 ∧ bitW h 10 = 0 ∧ 10 ≤ 8 * bitW h 9 + 4 * bitW h 8 + 2 * bitW h 7 + bitW h 6 ∧ 8 * bitW h 9 + 4 * bitW h 8 + 2 * bitW h 7 + bitW h 6 ≤ 11) := by
  intro hc
  obtain ⟨q0, q1, q2, q3, q4, q5, ql, qu⟩ := hc
  have hf := (fs_9 h h0 h1).2 ⟨q0, q1, q2, q3, q4, q5⟩
  rw [← fw_9_111 h h0 h1] at ql qu
  have hb : (bif decide (fld pt9 (wh h) 111 < 10) then true else decide (fld pt9 (wh h) 111 > 11)) = false := by
    rw [decide_eq_false (by omega), cond_false, decide_eq_false (by omega)]
  rw [hf, hb] at hno; cases hno
theorem nk_14 (h : Int) (h0 : 0 ≤ h) (h1 : h < 65536) (hno : (fits pt7 (wh h) && !(bif decide (fld pt7 (wh h) 111 < 12) then true else decide (fld pt7 (wh h) 111 > 12))) = false) : ¬ (bitW h 15 = 0 ∧ bitW h 14 = 1 ∧ bitW h 13 = 0 ∧ bitW h 12 = 0 ∧ bitW h 11 = 0 ∧ bitW h 10 = 0 ∧ 12 ≤ 8 * bitW h 9 + 4 * bitW h 8 + 2 * bitW h 7 + bitW h 6 ∧ 8 * bitW h 9 + 4 * bitW h 8 + 2 * bitW h 7 + bitW h 6 ≤ 12) := by
  intro hc
  obtain ⟨q0, q1, q2, q3, q4, q5, ql, qu⟩ := hc
  have hf := (fs_7 h h0 h1).2 ⟨q0, q1, q2, q3, q4, q5⟩
  rw [← fw_7_111 h h0 h1] at ql qu
  have hb : (bif decide (fld pt7 (wh h) 111 < 12) then true else decide (fld pt7 (wh h) 111 > 12)) = false := by
    rw [decide_eq_false (by omega), cond_false, decide_eq_false (by omega)]
  rw [hf, hb] at hno; cases hno
theorem nk_15 (h : Int) (h0 : 0 ≤ h) (h1 : h < 65536) (hno : (fits pt7 (wh h) && !(bif decide (fld pt7 (wh h) 111 < 13) then true else decide (fld pt7 (wh h) 111 > 13))) = false) : ¬ (bitW h 15 = 0 ∧ bitW h 14 = 1 ∧ bitW h 13 = 0 ∧ bitW h 12 = 0 ∧ bitW h 11 = 0 ∧ bitW h 10 = 0 ∧ 13 ≤ 8 * bitW h 9 + 4 * bitW h 8 + 2 * bitW h 7 + bitW h 6 ∧ 8 * bitW h 9 + 4 * bitW h 8 + 2 * bitW h 7 + bitW h 6 ≤ 13) := by
  intro hc
  obtain ⟨q0, q1, q2, q3, q4, q5, ql, qu⟩ := hc
  have hf := (fs_7 h h0 h1).2 ⟨q0, q1, q2, q3, q4, q5⟩
  rw [← fw_7_111 h h0 h1] at ql qu
  have hb : (bif decide (fld pt7 (wh h) 111 < 13) then true else decide (fld pt7 (wh h) 111 > 13)) = false := by
    rw [decide_eq_false (by omega), cond_false, decide_eq_false (by omega)]
  rw [hf, hb] at hno; cases hno
theorem nk_16 (h : Int) (h0 : 0 ≤ h) (h1 : h < 65536) (hno : (fits pt7 (wh h) && !(bif decide (fld pt7 (wh h) 111 < 14) then true else decide (fld pt7 (wh h) 111 > 14))) = false) : ¬ (bitW h 15 = 0 ∧ bitW h 14 = 1 ∧ bitW h 13 = 0 ∧ bitW h 12 = 0 ∧ bitW h 11 = 0 ∧ bitW h 10 = 0 ∧ 14 ≤ 8 * bitW h 9 + 4 * bitW h 8 + 2 * bitW h 7 + bitW h 6 ∧ 8 * bitW h 9 + 4 * bitW h 8 + 2 * bitW h 7 + bitW h 6 ≤ 14) := by
  intro hc
  obtain ⟨q0, q1, q2, q3, q4, q5, ql, qu⟩ := hc
  have hf := (fs_7 h h0 h1).2 ⟨q0, q1, q2, q3, q4, q5⟩
  rw [← fw_7_111 h h0 h1] at ql qu
  have hb : (bif decide (fld pt7 (wh h) 111 < 14) then true else decide (fld pt7 (wh h) 111 > 14)) = false := by
    rw [decide_eq_false (by omega), cond_false, decide_eq_false (by omega)]
  rw [hf, hb] at hno; cases hno
theorem nk_17 (h : Int) (h0 : 0 ≤ h) (h1 : h < 65536) (hno : (fits pt7 (wh h) && !(bif decide (fld pt7 (wh h) 111 < 15) then true else decide (fld pt7 (wh h) 111 > 15))) = false) : ¬ (bitW h 15 = 0 ∧ bitW h 14 = 1 ∧ bitW h 13 = 0 ∧ bitW h 12 = 0 ∧ bitW h 11 = 0 ∧ bitW h 10 = 0 ∧ 15 ≤ 8 * bitW h 9 + 4 * bitW h 8 + 2 * bitW h 7 + bitW h 6 ∧ 8 * bitW h 9 + 4 * bitW h 8 + 2 * bitW h 7 + bitW h 6 ≤ 15) := by
  intro hc
  obtain ⟨q0, q1, q2, q3, q4, q5, ql, qu⟩ := hc
  have hf := (fs_7 h h0 h1).2 ⟨q0, q1, q2, q3, q4, q5⟩
  rw [← fw_7_111 h h0 h1] at ql qu
  have hb : (bif decide (fld pt7 (wh h) 111 < 15) then true else decide (fld pt7 (wh h) 111 > 15)) = false := by
    rw [decide_eq_false (by omega), cond_false, decide_eq_false (by omega)]
  rw [hf, hb] at hno; cases hno
theorem nk_18 (h : Int) (h0 : 0 ≤ h) (h1 : h < 65536) (hno : fits pt11 (wh h) = false) : ¬ (bitW h 15 = 0 ∧ bitW h 14 = 1 ∧ bitW h 13 = 0 ∧ bitW h 12 = 0 ∧ bitW h 11 = 0 ∧ bitW h 10 = 1 ∧ bitW h 9 = 0 ∧ bitW h 8 = 0) := by
  intro hc
  have := (fs_11 h h0 h1).2 hc
  rw [this] at hno; cases hno
theorem nk_19 (h : Int) (h0 : 0 ≤ h) (h1 : h < 65536) (hno : fits pt12 (wh h) = false) : ¬ (bitW h 15 = 0 ∧ bitW h 14 = 1 ∧ bitW h 13 = 0 ∧ bitW h 12 = 0 ∧ bitW h 11 = 0 ∧ bitW h 10 = 1 ∧ bitW h 9 = 0 ∧ bitW h 8 = 1) := by
  intro hc
  have := (fs_12 h h0 h1).2 hc
  rw [this] at hno; cases hno
theorem nk_20 (h : Int) (h0 : 0 ≤ h) (h1 : h < 65536) (hno : fits pt13 (wh h) = false) : ¬ (bitW h 15 = 0 ∧ bitW h 14 = 1 ∧ bitW h 13 = 0 ∧ bitW h 12 = 0 ∧ bitW h 11 = 0 ∧ bitW h 10 = 1 ∧ bitW h 9 = 1 ∧ bitW h 8 = 0) := by
  intro hc
  have := (fs_13 h h0 h1).2 hc
  rw [this] at hno; cases hno
theorem nk_21 (h : Int) (h0 : 0 ≤ h) (h1 : h < 65536) (hno : fits pt14 (wh h) = false) : ¬ (bitW h 15 = 0 ∧ bitW h 14 = 1 ∧ bitW h 13 = 0 ∧ bitW h 12 = 0 ∧ bitW h 11 = 0 ∧ bitW h 10 = 1 ∧ bitW h 9 = 1 ∧ bitW h 8 = 1) := by
  intro hc
  have := (fs_14 h h0 h1).2 hc
  rw [this] at hno; cases hno
theorem nk_22 (h : Int) (h0 : 0 ≤ h) (h1 : h < 65536) (hno : fits pt15 (wh h) = false) : ¬ (bitW h 15 = 0 ∧ bitW h 14 = 1 ∧ bitW h 13 = 0 ∧ bitW h 12 = 0 ∧ bitW h 11 = 1) := by
  intro hc
  have := (fs_15 h h0 h1).2 hc
  rw [this] at hno; cases hno
theorem nk_23 (h : Int) (h0 : 0 ≤ h) (h1 : h < 65536) (hno : fits pt16 (wh h) = false) : ¬ (bitW h 15 = 0 ∧ bitW h 14 = 1 ∧ bitW h 13 = 0 ∧ bitW h 12 = 1 ∧ bitW h 9 = 0) := by
  intro hc
  have := (fs_16 h h0 h1).2 hc
  rw [this] at hno; cases hno
theorem nk_24 (h : Int) (h0 : 0 ≤ h) (h1 : h < 65536) (hno : (fits pt17 (wh h) && !(bif decide (fld pt17 (wh h) 72 < 0) then true else decide (fld pt17 (wh h) 72 > 0))) = false) : ¬ (bitW h 15 = 0 ∧ bitW h 14 = 1 ∧ bitW h 13 = 0 ∧ bitW h 12 = 1 ∧ bitW h 9 = 1 ∧ 0 ≤ 2 * bitW h 11 + bitW h 10 ∧ 2 * bitW h 11 + bitW h 10 ≤ 0) := by
  intro hc
  obtain ⟨q0, q1, q2, q3, q4, ql, qu⟩ := hc
  have hf := (fs_17 h h0 h1).2 ⟨q0, q1, q2, q3, q4⟩
  rw [← fw_17_72 h h0 h1] at ql qu
  have hb : (bif decide (fld pt17 (wh h) 72 < 0) then true else decide (fld pt17 (wh h) 72 > 0)) = false := by
    rw [decide_eq_false (by omega), cond_false, decide_eq_false (by omega)]
  rw [hf, hb] at hno; cases hno
theorem nk_25 (h : Int) (h0 : 0 ≤ h) (h1 : h < 65536) (hno : (fits pt17 (wh h) && !(bif decide (fld pt17 (wh h) 72 < 1) then true else decide (fld pt17 (wh h) 72 > 1))) = false) : ¬ (bitW h 15 = 0 ∧ bitW h 14 = 1 ∧ bitW h 13 = 0 ∧ bitW h 12 = 1 ∧ bitW h 9 = 1 ∧ 1 ≤ 2 * bitW h 11 + bitW h 10 ∧ 2 * bitW h 11 + bitW h 10 ≤ 1) := by
  intro hc
  obtain ⟨q0, q1, q2, q3, q4, ql, qu⟩ := hc
  have hf := (fs_17 h h0 h1).2 ⟨q0, q1, q2, q3, q4⟩
  rw [← fw_17_72 h h0 h1] at ql qu
  have hb : (bif decide (fld pt17 (wh h) 72 < 1) then true else decide (fld pt17 (wh h) 72 > 1)) = false := by
    rw [decide_eq_false (by omega), cond_false, decide_eq_false (by omega)]
  rw [hf, hb] at hno; cases hno
theorem nk_26 (h : Int) (h0 : 0 ≤ h) (h1 : h < 65536) (hno : (fits pt17 (wh h) && !(bif decide (fld pt17 (wh h) 72 < 2) then true else decide (fld pt17 (wh h) 72 > 2))) = false) : ¬ (bitW h 15 = 0 ∧ bitW h 14 = 1 ∧ bitW h 13 = 0 ∧ bitW h 12 = 1 ∧ bitW h 9 = 1 ∧ 2 ≤ 2 * bitW h 11 + bitW h 10 ∧ 2 * bitW h 11 + bitW h 10 ≤ 2) := by
  intro hc
  obtain ⟨q0, q1, q2, q3, q4, ql, qu⟩ := hc
  have hf := (fs_17 h h0 h1).2 ⟨q0, q1, q2, q3, q4⟩
  rw [← fw_17_72 h h0 h1] at ql qu
  have hb : (bif decide (fld pt17 (wh h) 72 < 2) then true else decide (fld pt17 (wh h) 72 > 2)) = false := by
    rw [decide_eq_false (by omega), cond_false, decide_eq_false (by omega)]
  rw [hf, hb] at hno; cases hno
theorem nk_27 (h : Int) (h0 : 0 ≤ h) (h1 : h < 65536) (hno : (fits pt17 (wh h) && !(bif decide (fld pt17 (wh h) 72 < 3) then true else decide (fld pt17 (wh h) 72 > 3))) = false) : ¬ (bitW h 15 = 0 ∧ bitW h 14 = 1 ∧ bitW h 13 = 0 ∧ bitW h 12 = 1 ∧ bitW h 9 = 1 ∧ 3 ≤ 2 * bitW h 11 + bitW h 10 ∧ 2 * bitW h 11 + bitW h 10 ≤ 3) := by
  intro hc
  obtain ⟨q0, q1, q2, q3, q4, ql, qu⟩ := hc
  have hf := (fs_17 h h0 h1).2 ⟨q0, q1, q2, q3, q4⟩
  rw [← fw_17_72 h h0 h1] at ql qu
  have hb : (bif decide (fld pt17 (wh h) 72 < 3) then true else decide (fld pt17 (wh h) 72 > 3)) = false := by
    rw [decide_eq_false (by omega), cond_false, decide_eq_false (by omega)]
  rw [hf, hb] at hno; cases hno
theorem nk_28 (h : Int) (h0 : 0 ≤ h) (h1 : h < 65536) (hno : fits pt18 (wh h) = false) : ¬ (bitW h 15 = 0 ∧ bitW h 14 = 1 ∧ bitW h 13 = 1 ∧ bitW h 12 = 0) := by
  intro hc
  have := (fs_18 h h0 h1).2 hc
  rw [this] at hno; cases hno
theorem nk_29 (h : Int) (h0 : 0 ≤ h) (h1 : h < 65536) (hno : fits pt19 (wh h) = false) : ¬ (bitW h 15 = 0 ∧ bitW h 14 = 1 ∧ bitW h 13 = 1 ∧ bitW h 12 = 1) := by
  intro hc
  have := (fs_19 h h0 h1).2 hc
  rw [this] at hno; cases hno
theorem nk_30 (h : Int) (h0 : 0 ≤ h) (h1 : h < 65536) (hno : fits pt20 (wh h) = false) : ¬ (bitW h 15 = 1 ∧ bitW h 14 = 0 ∧ bitW h 13 = 0 ∧ bitW h 12 = 0) := by
  intro hc
  have := (fs_20 h h0 h1).2 hc
  rw [this] at hno; cases hno
theorem nk_31 (h : Int) (h0 : 0 ≤ h) (h1 : h < 65536) (hno : fits pt21 (wh h) = false) : ¬ (bitW h 15 = 1 ∧ bitW h 14 = 0 ∧ bitW h 13 = 0 ∧ bitW h 12 = 1) := by
  intro hc
  have := (fs_21 h h0 h1).2 hc
  rw [this] at hno; cases hno
theorem nk_32 (h : Int) (h0 : 0 ≤ h) (h1 : h < 65536) (hno : fits pt22 (wh h) = false) : ¬ (bitW h 15 = 1 ∧ bitW h 14 = 0 ∧ bitW h 13 = 1 ∧ bitW h 12 = 0 ∧ bitW h 11 = 0) := by
  intro hc
  have := (fs_22 h h0 h1).2 hc
  rw [this] at hno; cases hno
theorem nk_33 (h : Int) (h0 : 0 ≤ h) (h1 : h < 65536) (hno : fits pt23 (wh h) = false) : ¬ (bitW h 15 = 1 ∧ bitW h 14 = 0 ∧ bitW h 13 = 1 ∧ bitW h 12 = 0 ∧ bitW h 11 = 1) := by
  intro hc
  have := (fs_23 h h0 h1).2 hc
  rw [this] at hno; cases hno
theorem nk_34 (h : Int) (h0 : 0 ≤ h) (h1 : h < 65536) (hno : fits pt24 (wh h) = false) : ¬ (bitW h 15 = 1 ∧ bitW h 14 = 0 ∧ bitW h 13 = 1 ∧ bitW h 12 = 1 ∧ bitW h 11 = 0 ∧ bitW h 10 = 0 ∧ bitW h 9 = 0 ∧ bitW h 8 = 0) := by
  intro hc
  have := (fs_24 h h0 h1).2 hc
  rw [this] at hno; cases hno
theorem nk_35 (h : Int) (h0 : 0 ≤ h) (h1 : h < 65536) (hno : fits pt25 (wh h) = false) : ¬ (bitW h 15 = 1 ∧ bitW h 14 = 0 ∧ bitW h 13 = 1 ∧ bitW h 12 = 1 ∧ bitW h 11 = 0 ∧ bitW h 10 = 1 ∧ bitW h 9 = 0 ∧ bitW h 8 = 0) := by
  intro hc
  have := (fs_25 h h0 h1).2 hc
  rw [this] at hno; cases hno
theorem nk_36 (h : Int) (h0 : 0 ≤ h) (h1 : h < 65536) (hno : fits pt26 (wh h) = false) : ¬ (bitW h 15 = 1 ∧ bitW h 14 = 0 ∧ bitW h 13 = 1 ∧ bitW h 12 = 1 ∧ bitW h 11 = 0 ∧ bitW h 10 = 1 ∧ bitW h 9 = 0 ∧ bitW h 8 = 1) := by
  intro hc
  have := (fs_26 h h0 h1).2 hc
  rw [this] at hno; cases hno
theorem nk_37 (h : Int) (h0 : 0 ≤ h) (h1 : h < 65536) (hno : fits pt27 (wh h) = false) : ¬ (bitW h 15 = 1 ∧ bitW h 14 = 0 ∧ bitW h 13 = 1 ∧ bitW h 12 = 1 ∧ bitW h 11 = 1 ∧ bitW h 10 = 1 ∧ bitW h 9 = 0 ∧ bitW h 8 = 0) := by
  intro hc
  have := (fs_27 h h0 h1).2 hc
  rw [this] at hno; cases hno
theorem nk_38 (h : Int) (h0 : 0 ≤ h) (h1 : h < 65536) (hno : fits pt28 (wh h) = false) : ¬ (bitW h 15 = 1 ∧ bitW h 14 = 0 ∧ bitW h 13 = 1 ∧ bitW h 12 = 1 ∧ bitW h 11 = 1 ∧ bitW h 10 = 1 ∧ bitW h 9 = 0 ∧ bitW h 8 = 1) := by
  intro hc
  have := (fs_28 h h0 h1).2 hc
  rw [this] at hno; cases hno
theorem nk_39 (h : Int) (h0 : 0 ≤ h) (h1 : h < 65536) (hno : fits pt29 (wh h) = false) : ¬ (bitW h 15 = 1 ∧ bitW h 14 = 1 ∧ bitW h 13 = 0 ∧ bitW h 12 = 0) := by
  intro hc
  have := (fs_29 h h0 h1).2 hc
  rw [this] at hno; cases hno
theorem nk_40 (h : Int) (h0 : 0 ≤ h) (h1 : h < 65536) (hno : (fits pt30 (wh h) && !(bif decide (fld pt30 (wh h) 99 < 0) then true else decide (fld pt30 (wh h) 99 > 13))) = false) : ¬ (bitW h 15 = 1 ∧ bitW h 14 = 1 ∧ bitW h 13 = 0 ∧ bitW h 12 = 1 ∧ 0 ≤ 8 * bitW h 11 + 4 * bitW h 10 + 2 * bitW h 9 + bitW h 8 ∧ 8 * bitW h 11 + 4 * bitW h 10 + 2 * bitW h 9 + bitW h 8 ≤ 13) := by
  intro hc
  obtain ⟨q0, q1, q2, q3, ql, qu⟩ := hc
  have hf := (fs_30 h h0 h1).2 ⟨q0, q1, q2, q3⟩
  rw [← fw_30_99 h h0 h1] at ql qu
  have hb : (bif decide (fld pt30 (wh h) 99 < 0) then true else decide (fld pt30 (wh h) 99 > 13)) = false := by
    rw [decide_eq_false (by omega), cond_false, decide_eq_false (by omega)]
  rw [hf, hb] at hno; cases hno
theorem nk_41 (h : Int) (h0 : 0 ≤ h) (h1 : h < 65536) (hno : fits pt31 (wh h) = false) : ¬ (bitW h 15 = 1 ∧ bitW h 14 = 1 ∧ bitW h 13 = 0 ∧ bitW h 12 = 1 ∧ bitW h 11 = 1 ∧ bitW h 10 = 1 ∧ bitW h 9 = 1 ∧ bitW h 8 = 1) := by
  intro hc
  have := (fs_31 h h0 h1).2 hc
  rw [this] at hno; cases hno
theorem nk_42 (h : Int) (h0 : 0 ≤ h) (h1 : h < 65536) (hno : fits pt32 (wh h) = false) : ¬ (bitW h 15 = 1 ∧ bitW h 14 = 1 ∧ bitW h 13 = 1 ∧ bitW h 12 = 0 ∧ bitW h 11 = 0) := by
  intro hc
  have := (fs_32 h h0 h1).2 hc
  rw [this] at hno; cases hno
theorem nk_43 (h : Int) (h0 : 0 ≤ h) (h1 : h < 65536) (hno : fits pt33 (wh h) = false) : ¬ (bitW h 15 = 1 ∧ bitW h 14 = 1 ∧ bitW h 13 = 1 ∧ bitW h 12 = 1 ∧ bitW h 11 = 0) := by
  intro hc
  have := (fs_33 h h0 h1).2 hc
  rw [this] at hno; cases hno
theorem nk_44 (h : Int) (h0 : 0 ≤ h) (h1 : h < 65536) (hno : fits pt34 (wh h) = false) : ¬ (bitW h 15 = 1 ∧ bitW h 14 = 1 ∧ bitW h 13 = 1 ∧ bitW h 12 = 1 ∧ bitW h 11 = 1) := by
  intro hc
  have := (fs_34 h h0 h1).2 hc
  rw [this] at hno; cases hno
set_option maxHeartbeats 8000000 in
theorem dflt_p (E : World) (h : Int) (h0 : 0 ≤ h) (h1 : h < 65536) (k0 : (fits pt0 (wh h) && !(bif decide (fld pt0 (wh h) 116 < 0) then true else decide (fld pt0 (wh h) 116 > 2))) = false) (k1 : (fits pt1 (wh h) && !(bif decide (fld pt1 (wh h) 73 < 0) then true else decide (fld pt1 (wh h) 73 > 0))) = false) (k2 : (fits pt2 (wh h) && !(bif decide (fld pt2 (wh h) 73 < 1) then true else decide (fld pt2 (wh h) 73 > 1))) = false) (k3 : fits pt3 (wh h) = false) (k4 : fits pt4 (wh h) = false) (k5 : fits pt5 (wh h) = false) (k6 : fits pt6 (wh h) = false) (k7 : (fits pt7 (wh h) && !(bif decide (fld pt7 (wh h) 111 < 0) then true else decide (fld pt7 (wh h) 111 > 1))) = false) (k8 : (fits pt8 (wh h) && !(bif decide (fld pt8 (wh h) 111 < 2) then true else decide (fld pt8 (wh h) 111 > 4))) = false) (k9 : (fits pt7 (wh h) && !(bif decide (fld pt7 (wh h) 111 < 5) then true else decide (fld pt7 (wh h) 111 > 6))) = false) (k10 : (fits pt8 (wh h) && !(bif decide (fld pt8 (wh h) 111 < 7) then true else decide (fld pt8 (wh h) 111 > 7))) = false) (k11 : (fits pt9 (wh h) && !(bif decide (fld pt9 (wh h) 111 < 8) then true else decide (fld pt9 (wh h) 111 > 8))) = false) (k12 : (fits pt10 (wh h) && !(bif decide (fld pt10 (wh h) 111 < 9) then true else decide (fld pt10 (wh h) 111 > 9))) = false) (k13 : (fits pt9 (wh h) && !(bif decide (fld pt9 (wh h) 111 < 10) then true else decide (fld pt9 (wh h) 111 > 11))) = false) (k14 : (fits pt7 (wh h) && !(bif decide (fld pt7 (wh h) 111 < 12) then true else decide (fld pt7 (wh h) 111 > 12))) = false) (k15 : (fits pt7 (wh h) && !(bif decide (fld pt7 (wh h) 111 < 13) then true else decide (fld pt7 (wh h) 111 > 13))) = false) (k16 : (fits pt7 (wh h) && !(bif decide (fld pt7 (wh h) 111 < 14) then true else decide (fld pt7 (wh h) 111 > 14))) = false) (k17 : (fits pt7 (wh h) && !(bif decide (fld pt7 (wh h) 111 < 15) then true else decide (fld pt7 (wh h) 111 > 15))) = false) (k18 : fits pt11 (wh h) = false) (k19 : fits pt12 (wh h) = false) (k20 : fits pt13 (wh h) = false) (k21 : fits pt14 (wh h) = false) (k22 : fits pt15 (wh h) = false) (k23 : fits pt16 (wh h) = false) (k24 : (fits pt17 (wh h) && !(bif decide (fld pt17 (wh h) 72 < 0) then true else decide (fld pt17 (wh h) 72 > 0))) = false) (k25 : (fits pt17 (wh h) && !(bif decide (fld pt17 (wh h) 72 < 1) then true else decide (fld pt17 (wh h) 72 > 1))) = false) (k26 : (fits pt17 (wh h) && !(bif decide (fld pt17 (wh h) 72 < 2) then true else decide (fld pt17 (wh h) 72 > 2))) = false) (k27 : (fits pt17 (wh h) && !(bif decide (fld pt17 (wh h) 72 < 3) then true else decide (fld pt17 (wh h) 72 > 3))) = false) (k28 : fits pt18 (wh h) = false) (k29 : fits pt19 (wh h) = false) (k30 : fits pt20 (wh h) = false) (k31 : fits pt21 (wh h) = false) (k32 : fits pt22 (wh h) = false) (k33 : fits pt23 (wh h) = false) (k34 : fits pt24 (wh h) = false) (k35 : fits pt25 (wh h) = false) (k36 : fits pt26 (wh h) = false) (k37 : fits pt27 (wh h) = false) (k38 : fits pt28 (wh h) = false) (k39 : fits pt29 (wh h) = false) (k40 : (fits pt30 (wh h) && !(bif decide (fld pt30 (wh h) 99 < 0) then true else decide (fld pt30 (wh h) 99 > 13))) = false) (k41 : fits pt31 (wh h) = false) (k42 : fits pt32 (wh h) = false) (k43 : fits pt33 (wh h) = false) (k44 : fits pt34 (wh h) = false) : conR (fun v => SV.sim v (.a (cs24 0 14 0 false 0 0 0 0 0 false 0 0 false false false false false false false false 0 false false false))) (fnTree (pe E) (orcA E) (tabL fns) 20000 Try.f7 [.c (.i false .u16 h)] []) := by
  rw [prog_p]
  have bd := bds h h0
  refine ⟨fun e0 => ?_, fun e0 => ?_⟩
  · have z0 := qTi e0
    rw [pa_4096 h h0 h1] at z0
    refine ⟨fun e1 => ?_, fun e1 => ?_⟩
    · have z1 := nqTi e1
      unfold ff at z1
      rw [pa_2048_3 h h0 h1] at z1
      refine ⟨fun e2 => ?_, fun e2 => ?_⟩
      · have z2 := qTi e2
        rw [pa_4096 h h0 h1] at z2
        refine ⟨fun e3 => ?_, fun e3 => ?_⟩
        · have z3 := ndTi e3
          unfold ff at z3
          rw [pa_256_15 h h0 h1] at z3
          exfalso; omega
        · have z3 := ndFi e3
          unfold ff at z3
          rw [pa_256_15 h h0 h1] at z3
          exfalso; omega
      · have z2 := qFi e2
        rw [pa_4096 h h0 h1] at z2
        exfalso; have m0 := nk_0 h h0 h1 k0; omega
    · have z1 := nqFi e1
      unfold ff at z1
      rw [pa_2048_3 h h0 h1] at z1
      refine ⟨fun e2 => ?_, fun e2 => ?_⟩
      · have z2 := nqTi e2
        rw [pb_512_1 h h0 h1] at z2
        refine ⟨fun e3 => ?_, fun e3 => ?_⟩
        · have z3 := nqTi e3
          rw [pb_1024_1 h h0 h1] at z3
          refine ⟨fun e4 => ?_, fun e4 => ?_⟩
          · have z4 := qTi e4
            rw [pa_4096 h h0 h1] at z4
            refine ⟨fun e5 => ?_, fun e5 => ?_⟩
            · have z5 := ndTi e5
              unfold ff at z5
              rw [pa_256_15 h h0 h1] at z5
              exfalso; omega
            · have z5 := ndFi e5
              unfold ff at z5
              rw [pa_256_15 h h0 h1] at z5
              exfalso; omega
          · have z4 := qFi e4
            rw [pa_4096 h h0 h1] at z4
            exfalso; omega
        · have z3 := nqFi e3
          rw [pb_1024_1 h h0 h1] at z3
          refine ⟨fun e4 => ?_, fun e4 => ?_⟩
          · have z4 := qTi e4
            rw [pa_4096 h h0 h1] at z4
            refine ⟨fun e5 => ?_, fun e5 => ?_⟩
            · have z5 := ndTi e5
              unfold ff at z5
              rw [pa_256_15 h h0 h1] at z5
              exfalso; omega
            · have z5 := ndFi e5
              unfold ff at z5
              rw [pa_256_15 h h0 h1] at z5
              exfalso; omega
          · have z4 := qFi e4
            rw [pa_4096 h h0 h1] at z4
            exfalso; omega
      · have z2 := nqFi e2
        rw [pb_512_1 h h0 h1] at z2
        refine ⟨fun e3 => ?_, fun e3 => ?_⟩
        · have z3 := nqTi e3
          rw [pb_1024_1 h h0 h1] at z3
          refine ⟨fun e4 => ?_, fun e4 => ?_⟩
          · have z4 := qTi e4
            rw [pa_4096 h h0 h1] at z4
            refine ⟨fun e5 => ?_, fun e5 => ?_⟩
            · have z5 := ndTi e5
              unfold ff at z5
              rw [pa_256_15 h h0 h1] at z5
              exfalso; omega
            · have z5 := ndFi e5
              unfold ff at z5
              rw [pa_256_15 h h0 h1] at z5
              exfalso; omega
          · have z4 := qFi e4
            rw [pa_4096 h h0 h1] at z4
            exfalso; omega
        · have z3 := nqFi e3
          rw [pb_1024_1 h h0 h1] at z3
          refine ⟨fun e4 => ?_, fun e4 => ?_⟩
          · have z4 := qTi e4
            rw [pa_4096 h h0 h1] at z4
            refine ⟨fun e5 => ?_, fun e5 => ?_⟩
            · have z5 := ndTi e5
              unfold ff at z5
              rw [pa_256_15 h h0 h1] at z5
              exfalso; omega
            · have z5 := ndFi e5
              unfold ff at z5
              rw [pa_256_15 h h0 h1] at z5
              exfalso; omega
          · have z4 := qFi e4
            rw [pa_4096 h h0 h1] at z4
            exfalso; omega
  · have z0 := qFi e0
    rw [pa_4096 h h0 h1] at z0
    refine ⟨fun e1 => ?_, fun e1 => ?_⟩
    · have z1 := qTi e1
      rw [pa_4096 h h0 h1] at z1
      refine ⟨fun e2 => ?_, fun e2 => ?_⟩
      · have z2 := nqTi e2
        unfold ff at z2
        rw [pa_2048_3 h h0 h1] at z2
        refine ⟨fun e3 => ?_, fun e3 => ?_⟩
        · have z3 := qTi e3
          rw [pa_4096 h h0 h1] at z3
          refine ⟨fun e4 => ?_, fun e4 => ?_⟩
          · have z4 := ndTi e4
            unfold ff at z4
            rw [pa_256_15 h h0 h1] at z4
            exfalso; omega
          · have z4 := ndFi e4
            unfold ff at z4
            rw [pa_256_15 h h0 h1] at z4
            exfalso; omega
        · have z3 := qFi e3
          rw [pa_4096 h h0 h1] at z3
          exfalso; have m0 := nk_0 h h0 h1 k0; omega
      · have z2 := nqFi e2
        unfold ff at z2
        rw [pa_2048_3 h h0 h1] at z2
        refine ⟨fun e3 => ?_, fun e3 => ?_⟩
        · have z3 := nqTi e3
          rw [pb_512_1 h h0 h1] at z3
          refine ⟨fun e4 => ?_, fun e4 => ?_⟩
          · have z4 := nqTi e4
            rw [pb_1024_1 h h0 h1] at z4
            refine ⟨fun e5 => ?_, fun e5 => ?_⟩
            · have z5 := qTi e5
              rw [pa_4096 h h0 h1] at z5
              refine ⟨fun e6 => ?_, fun e6 => ?_⟩
              · have z6 := ndTi e6
                unfold ff at z6
                rw [pa_256_15 h h0 h1] at z6
                exfalso; omega
              · have z6 := ndFi e6
                unfold ff at z6
                rw [pa_256_15 h h0 h1] at z6
                exfalso; omega
            · have z5 := qFi e5
              rw [pa_4096 h h0 h1] at z5
              exfalso; have m2 := nk_2 h h0 h1 k2; omega
          · have z4 := nqFi e4
            rw [pb_1024_1 h h0 h1] at z4
            refine ⟨fun e5 => ?_, fun e5 => ?_⟩
            · have z5 := qTi e5
              rw [pa_4096 h h0 h1] at z5
              refine ⟨fun e6 => ?_, fun e6 => ?_⟩
              · have z6 := ndTi e6
                unfold ff at z6
                rw [pa_256_15 h h0 h1] at z6
                exfalso; omega
              · have z6 := ndFi e6
                unfold ff at z6
                rw [pa_256_15 h h0 h1] at z6
                exfalso; omega
            · have z5 := qFi e5
              rw [pa_4096 h h0 h1] at z5
              exfalso; have m1 := nk_1 h h0 h1 k1; omega
        · have z3 := nqFi e3
          rw [pb_512_1 h h0 h1] at z3
          refine ⟨fun e4 => ?_, fun e4 => ?_⟩
          · have z4 := nqTi e4
            rw [pb_1024_1 h h0 h1] at z4
            refine ⟨fun e5 => ?_, fun e5 => ?_⟩
            · have z5 := qTi e5
              rw [pa_4096 h h0 h1] at z5
              refine ⟨fun e6 => ?_, fun e6 => ?_⟩
              · have z6 := ndTi e6
                unfold ff at z6
                rw [pa_256_15 h h0 h1] at z6
                exfalso; omega
              · have z6 := ndFi e6
                unfold ff at z6
                rw [pa_256_15 h h0 h1] at z6
                exfalso; omega
            · have z5 := qFi e5
              rw [pa_4096 h h0 h1] at z5
              exfalso; have m2 := nk_2 h h0 h1 k2; omega
          · have z4 := nqFi e4
            rw [pb_1024_1 h h0 h1] at z4
            refine ⟨fun e5 => ?_, fun e5 => ?_⟩
            · have z5 := qTi e5
              rw [pa_4096 h h0 h1] at z5
              refine ⟨fun e6 => ?_, fun e6 => ?_⟩
              · have z6 := ndTi e6
                unfold ff at z6
                rw [pa_256_15 h h0 h1] at z6
                exfalso; omega
              · have z6 := ndFi e6
                unfold ff at z6
                rw [pa_256_15 h h0 h1] at z6
                exfalso; omega
            · have z5 := qFi e5
              rw [pa_4096 h h0 h1] at z5
              exfalso; have m1 := nk_1 h h0 h1 k1; omega
    · have z1 := qFi e1
      rw [pa_4096 h h0 h1] at z1
      refine ⟨fun e2 => ?_, fun e2 => ?_⟩
      · have z2 := qTi e2
        rw [pa_4096 h h0 h1] at z2
        refine ⟨fun e3 => ?_, fun e3 => ?_⟩
        · have z3 := qTi e3
          unfold ff at z3
          rw [pa_2048_3 h h0 h1] at z3
          refine ⟨fun e4 => ?_, fun e4 => ?_⟩
          · have z4 := qTi e4
            rw [pa_4096 h h0 h1] at z4
            refine ⟨fun e5 => ?_, fun e5 => ?_⟩
            · have z5 := ndTi e5
              unfold ff at z5
              rw [pa_256_15 h h0 h1] at z5
              exfalso; omega
            · have z5 := ndFi e5
              unfold ff at z5
              rw [pa_256_15 h h0 h1] at z5
              exfalso; omega
          · have z4 := qFi e4
            rw [pa_4096 h h0 h1] at z4
            exfalso; have m3 := nk_3 h h0 h1 k3; omega
        · have z3 := qFi e3
          unfold ff at z3
          rw [pa_2048_3 h h0 h1] at z3
          refine ⟨fun e4 => ?_, fun e4 => ?_⟩
          · have z4 := qTi e4
            unfold ff at z4
            rw [pa_2048_3 h h0 h1] at z4
            refine ⟨fun e5 => ?_, fun e5 => ?_⟩
            · have z5 := qTi e5
              rw [pa_4096 h h0 h1] at z5
              refine ⟨fun e6 => ?_, fun e6 => ?_⟩
              · have z6 := ndTi e6
                unfold ff at z6
                rw [pa_256_15 h h0 h1] at z6
                exfalso; omega
              · have z6 := ndFi e6
                unfold ff at z6
                rw [pa_256_15 h h0 h1] at z6
                exfalso; omega
            · have z5 := qFi e5
              rw [pa_4096 h h0 h1] at z5
              exfalso; have m4 := nk_4 h h0 h1 k4; omega
          · have z4 := qFi e4
            unfold ff at z4
            rw [pa_2048_3 h h0 h1] at z4
            refine ⟨fun e5 => ?_, fun e5 => ?_⟩
            · have z5 := qTi e5
              unfold ff at z5
              rw [pa_2048_3 h h0 h1] at z5
              refine ⟨fun e6 => ?_, fun e6 => ?_⟩
              · have z6 := qTi e6
                rw [pa_4096 h h0 h1] at z6
                refine ⟨fun e7 => ?_, fun e7 => ?_⟩
                · have z7 := ndTi e7
                  unfold ff at z7
                  rw [pa_256_15 h h0 h1] at z7
                  exfalso; omega
                · have z7 := ndFi e7
                  unfold ff at z7
                  rw [pa_256_15 h h0 h1] at z7
                  exfalso; omega
              · have z6 := qFi e6
                rw [pa_4096 h h0 h1] at z6
                exfalso; omega
            · have z5 := qFi e5
              unfold ff at z5
              rw [pa_2048_3 h h0 h1] at z5
              refine ⟨fun e6 => ?_, fun e6 => ?_⟩
              · have z6 := qTi e6
                rw [pa_4096 h h0 h1] at z6
                refine ⟨fun e7 => ?_, fun e7 => ?_⟩
                · have z7 := ndTi e7
                  unfold ff at z7
                  rw [pa_256_15 h h0 h1] at z7
                  exfalso; omega
                · have z7 := ndFi e7
                  unfold ff at z7
                  rw [pa_256_15 h h0 h1] at z7
                  exfalso; omega
              · have z6 := qFi e6
                rw [pa_4096 h h0 h1] at z6
                exfalso; omega
      · have z2 := qFi e2
        rw [pa_4096 h h0 h1] at z2
        refine ⟨fun e3 => ?_, fun e3 => ?_⟩
        · have z3 := qTi e3
          rw [pa_4096 h h0 h1] at z3
          refine ⟨fun e4 => ?_, fun e4 => ?_⟩
          · have z4 := qTi e4
            unfold ff at z4
            rw [pa_2048_3 h h0 h1] at z4
            refine ⟨fun e5 => ?_, fun e5 => ?_⟩
            · have z5 := qTi e5
              rw [pa_4096 h h0 h1] at z5
              refine ⟨fun e6 => ?_, fun e6 => ?_⟩
              · have z6 := ndTi e6
                unfold ff at z6
                rw [pa_256_15 h h0 h1] at z6
                exfalso; omega
              · have z6 := ndFi e6
                unfold ff at z6
                rw [pa_256_15 h h0 h1] at z6
                exfalso; omega
            · have z5 := qFi e5
              rw [pa_4096 h h0 h1] at z5
              exfalso; omega
          · have z4 := qFi e4
            unfold ff at z4
            rw [pa_2048_3 h h0 h1] at z4
            refine ⟨fun e5 => ?_, fun e5 => ?_⟩
            · have z5 := qTi e5
              unfold ff at z5
              rw [pa_2048_3 h h0 h1] at z5
              refine ⟨fun e6 => ?_, fun e6 => ?_⟩
              · have z6 := qTi e6
                rw [pa_4096 h h0 h1] at z6
                refine ⟨fun e7 => ?_, fun e7 => ?_⟩
                · have z7 := ndTi e7
                  unfold ff at z7
                  rw [pa_256_15 h h0 h1] at z7
                  exfalso; omega
                · have z7 := ndFi e7
                  unfold ff at z7
                  rw [pa_256_15 h h0 h1] at z7
                  exfalso; omega
              · have z6 := qFi e6
                rw [pa_4096 h h0 h1] at z6
                exfalso; omega
            · have z5 := qFi e5
              unfold ff at z5
              rw [pa_2048_3 h h0 h1] at z5
              refine ⟨fun e6 => ?_, fun e6 => ?_⟩
              · have z6 := qTi e6
                unfold ff at z6
                rw [pa_2048_3 h h0 h1] at z6
                refine ⟨fun e7 => ?_, fun e7 => ?_⟩
                · have z7 := qTi e7
                  rw [pa_4096 h h0 h1] at z7
                  refine ⟨fun e8 => ?_, fun e8 => ?_⟩
                  · have z8 := ndTi e8
                    unfold ff at z8
                    rw [pa_256_15 h h0 h1] at z8
                    exfalso; omega
                  · have z8 := ndFi e8
                    unfold ff at z8
                    rw [pa_256_15 h h0 h1] at z8
                    exfalso; omega
                · have z7 := qFi e7
                  rw [pa_4096 h h0 h1] at z7
                  exfalso; have m5 := nk_5 h h0 h1 k5; omega
              · have z6 := qFi e6
                unfold ff at z6
                rw [pa_2048_3 h h0 h1] at z6
                refine ⟨fun e7 => ?_, fun e7 => ?_⟩
                · have z7 := qTi e7
                  rw [pa_4096 h h0 h1] at z7
                  refine ⟨fun e8 => ?_, fun e8 => ?_⟩
                  · have z8 := ndTi e8
                    unfold ff at z8
                    rw [pa_256_15 h h0 h1] at z8
                    exfalso; omega
                  · have z8 := ndFi e8
                    unfold ff at z8
                    rw [pa_256_15 h h0 h1] at z8
                    exfalso; omega
                · have z7 := qFi e7
                  rw [pa_4096 h h0 h1] at z7
                  exfalso; have m6 := nk_6 h h0 h1 k6; omega
        · have z3 := qFi e3
          rw [pa_4096 h h0 h1] at z3
          refine ⟨fun e4 => ?_, fun e4 => ?_⟩
          · have z4 := qTi e4
            rw [pa_4096 h h0 h1] at z4
            refine ⟨fun e5 => ?_, fun e5 => ?_⟩
            · have z5 := nqTi e5
              rw [pb_2048_1 h h0 h1] at z5
              refine ⟨fun e6 => ?_, fun e6 => ?_⟩
              · have z6 := qTi e6
                rw [pa_4096 h h0 h1] at z6
                refine ⟨fun e7 => ?_, fun e7 => ?_⟩
                · have z7 := ndTi e7
                  unfold ff at z7
                  rw [pa_256_15 h h0 h1] at z7
                  exfalso; omega
                · have z7 := ndFi e7
                  unfold ff at z7
                  rw [pa_256_15 h h0 h1] at z7
                  exfalso; omega
              · have z6 := qFi e6
                rw [pa_4096 h h0 h1] at z6
                exfalso; have m22 := nk_22 h h0 h1 k22; omega
            · have z5 := nqFi e5
              rw [pb_2048_1 h h0 h1] at z5
              refine ⟨fun e6 => ?_, fun e6 => ?_⟩
              · have z6 := nqTi e6
                rw [pb_1024_1 h h0 h1] at z6
                refine ⟨fun e7 => ?_, fun e7 => ?_⟩
                · have z7 := qTi e7
                  unfold ff at z7
                  rw [pa_256_3 h h0 h1] at z7
                  refine ⟨fun e8 => ?_, fun e8 => ?_⟩
                  · have z8 := qTi e8
                    rw [pa_4096 h h0 h1] at z8
                    refine ⟨fun e9 => ?_, fun e9 => ?_⟩
                    · have z9 := ndTi e9
                      unfold ff at z9
                      rw [pa_256_15 h h0 h1] at z9
                      exfalso; omega
                    · have z9 := ndFi e9
                      unfold ff at z9
                      rw [pa_256_15 h h0 h1] at z9
                      exfalso; omega
                  · have z8 := qFi e8
                    rw [pa_4096 h h0 h1] at z8
                    exfalso; have m18 := nk_18 h h0 h1 k18; omega
                · have z7 := qFi e7
                  unfold ff at z7
                  rw [pa_256_3 h h0 h1] at z7
                  refine ⟨fun e8 => ?_, fun e8 => ?_⟩
                  · have z8 := qTi e8
                    unfold ff at z8
                    rw [pa_256_3 h h0 h1] at z8
                    refine ⟨fun e9 => ?_, fun e9 => ?_⟩
                    · have z9 := qTi e9
                      rw [pa_4096 h h0 h1] at z9
                      refine ⟨fun e10 => ?_, fun e10 => ?_⟩
                      · have z10 := ndTi e10
                        unfold ff at z10
                        rw [pa_256_15 h h0 h1] at z10
                        exfalso; omega
                      · have z10 := ndFi e10
                        unfold ff at z10
                        rw [pa_256_15 h h0 h1] at z10
                        exfalso; omega
                    · have z9 := qFi e9
                      rw [pa_4096 h h0 h1] at z9
                      exfalso; have m19 := nk_19 h h0 h1 k19; omega
                  · have z8 := qFi e8
                    unfold ff at z8
                    rw [pa_256_3 h h0 h1] at z8
                    refine ⟨fun e9 => ?_, fun e9 => ?_⟩
                    · have z9 := qTi e9
                      unfold ff at z9
                      rw [pa_256_3 h h0 h1] at z9
                      refine ⟨fun e10 => ?_, fun e10 => ?_⟩
                      · have z10 := qTi e10
                        rw [pa_4096 h h0 h1] at z10
                        refine ⟨fun e11 => ?_, fun e11 => ?_⟩
                        · have z11 := ndTi e11
                          unfold ff at z11
                          rw [pa_256_15 h h0 h1] at z11
                          exfalso; omega
                        · have z11 := ndFi e11
                          unfold ff at z11
                          rw [pa_256_15 h h0 h1] at z11
                          exfalso; omega
                      · have z10 := qFi e10
                        rw [pa_4096 h h0 h1] at z10
                        exfalso; have m20 := nk_20 h h0 h1 k20; omega
                    · have z9 := qFi e9
                      unfold ff at z9
                      rw [pa_256_3 h h0 h1] at z9
                      refine ⟨fun e10 => ?_, fun e10 => ?_⟩
                      · have z10 := qTi e10
                        rw [pa_4096 h h0 h1] at z10
                        refine ⟨fun e11 => ?_, fun e11 => ?_⟩
                        · have z11 := ndTi e11
                          unfold ff at z11
                          rw [pa_256_15 h h0 h1] at z11
                          exfalso; omega
                        · have z11 := ndFi e11
                          unfold ff at z11
                          rw [pa_256_15 h h0 h1] at z11
                          exfalso; omega
                      · have z10 := qFi e10
                        rw [pa_4096 h h0 h1] at z10
                        exfalso; have m21 := nk_21 h h0 h1 k21; omega
              · have z6 := nqFi e6
                rw [pb_1024_1 h h0 h1] at z6
                refine ⟨fun e7 => ?_, fun e7 => ?_⟩
                · have z7 := qTi e7
                  unfold ff at z7
                  rw [pa_64_15 h h0 h1] at z7
                  refine ⟨fun e8 => ?_, fun e8 => ?_⟩
                  · have z8 := qTi e8
                    unfold ff at z8
                    rw [pa_64_15 h h0 h1] at z8
                    refine ⟨fun e9 => ?_, fun e9 => ?_⟩
                    · have z9 := qTi e9
                      rw [pa_4096 h h0 h1] at z9
                      refine ⟨fun e10 => ?_, fun e10 => ?_⟩
                      · have z10 := ndTi e10
                        unfold ff at z10
                        rw [pa_256_15 h h0 h1] at z10
                        exfalso; omega
                      · have z10 := ndFi e10
                        unfold ff at z10
                        rw [pa_256_15 h h0 h1] at z10
                        exfalso; omega
                    · have z9 := qFi e9
                      rw [pa_4096 h h0 h1] at z9
                      exfalso; omega
                  · have z8 := qFi e8
                    unfold ff at z8
                    rw [pa_64_15 h h0 h1] at z8
                    refine ⟨fun e9 => ?_, fun e9 => ?_⟩
                    · have z9 := qTi e9
                      rw [pa_4096 h h0 h1] at z9
                      refine ⟨fun e10 => ?_, fun e10 => ?_⟩
                      · have z10 := ndTi e10
                        unfold ff at z10
                        rw [pa_256_15 h h0 h1] at z10
                        exfalso; omega
                      · have z10 := ndFi e10
                        unfold ff at z10
                        rw [pa_256_15 h h0 h1] at z10
                        exfalso; omega
                    · have z9 := qFi e9
                      rw [pa_4096 h h0 h1] at z9
                      exfalso; have m8 := nk_8 h h0 h1 k8; omega
                · have z7 := qFi e7
                  unfold ff at z7
                  rw [pa_64_15 h h0 h1] at z7
                  refine ⟨fun e8 => ?_, fun e8 => ?_⟩
                  · have z8 := qTi e8
                    unfold ff at z8
                    rw [pa_64_15 h h0 h1] at z8
                    refine ⟨fun e9 => ?_, fun e9 => ?_⟩
                    · have z9 := qTi e9
                      unfold ff at z9
                      rw [pa_64_15 h h0 h1] at z9
                      refine ⟨fun e10 => ?_, fun e10 => ?_⟩
                      · have z10 := qTi e10
                        rw [pa_4096 h h0 h1] at z10
                        refine ⟨fun e11 => ?_, fun e11 => ?_⟩
                        · have z11 := ndTi e11
                          unfold ff at z11
                          rw [pa_256_15 h h0 h1] at z11
                          exfalso; omega
                        · have z11 := ndFi e11
                          unfold ff at z11
                          rw [pa_256_15 h h0 h1] at z11
                          exfalso; omega
                      · have z10 := qFi e10
                        rw [pa_4096 h h0 h1] at z10
                        exfalso; omega
                    · have z9 := qFi e9
                      unfold ff at z9
                      rw [pa_64_15 h h0 h1] at z9
                      refine ⟨fun e10 => ?_, fun e10 => ?_⟩
                      · have z10 := qTi e10
                        rw [pa_4096 h h0 h1] at z10
                        refine ⟨fun e11 => ?_, fun e11 => ?_⟩
                        · have z11 := ndTi e11
                          unfold ff at z11
                          rw [pa_256_15 h h0 h1] at z11
                          exfalso; omega
                        · have z11 := ndFi e11
                          unfold ff at z11
                          rw [pa_256_15 h h0 h1] at z11
                          exfalso; omega
                      · have z10 := qFi e10
                        rw [pa_4096 h h0 h1] at z10
                        exfalso; have m8 := nk_8 h h0 h1 k8; omega
                  · have z8 := qFi e8
                    unfold ff at z8
                    rw [pa_64_15 h h0 h1] at z8
                    refine ⟨fun e9 => ?_, fun e9 => ?_⟩
                    · have z9 := qTi e9
                      unfold ff at z9
                      rw [pa_64_15 h h0 h1] at z9
                      refine ⟨fun e10 => ?_, fun e10 => ?_⟩
                      · have z10 := qTi e10
                        unfold ff at z10
                        rw [pa_64_15 h h0 h1] at z10
                        refine ⟨fun e11 => ?_, fun e11 => ?_⟩
                        · have z11 := qTi e11
                          rw [pa_4096 h h0 h1] at z11
                          refine ⟨fun e12 => ?_, fun e12 => ?_⟩
                          · have z12 := ndTi e12
                            unfold ff at z12
                            rw [pa_256_15 h h0 h1] at z12
                            exfalso; omega
                          · have z12 := ndFi e12
                            unfold ff at z12
                            rw [pa_256_15 h h0 h1] at z12
                            exfalso; omega
                        · have z11 := qFi e11
                          rw [pa_4096 h h0 h1] at z11
                          exfalso; omega
                      · have z10 := qFi e10
                        unfold ff at z10
                        rw [pa_64_15 h h0 h1] at z10
                        refine ⟨fun e11 => ?_, fun e11 => ?_⟩
                        · have z11 := qTi e11
                          rw [pa_4096 h h0 h1] at z11
                          refine ⟨fun e12 => ?_, fun e12 => ?_⟩
                          · have z12 := ndTi e12
                            unfold ff at z12
                            rw [pa_256_15 h h0 h1] at z12
                            exfalso; omega
                          · have z12 := ndFi e12
                            unfold ff at z12
                            rw [pa_256_15 h h0 h1] at z12
                            exfalso; omega
                        · have z11 := qFi e11
                          rw [pa_4096 h h0 h1] at z11
                          exfalso; have m8 := nk_8 h h0 h1 k8; omega
                    · have z9 := qFi e9
                      unfold ff at z9
                      rw [pa_64_15 h h0 h1] at z9
                      refine ⟨fun e10 => ?_, fun e10 => ?_⟩
                      · have z10 := qTi e10
                        unfold ff at z10
                        rw [pa_64_15 h h0 h1] at z10
                        refine ⟨fun e11 => ?_, fun e11 => ?_⟩
                        · have z11 := qTi e11
                          unfold ff at z11
                          rw [pa_64_15 h h0 h1] at z11
                          refine ⟨fun e12 => ?_, fun e12 => ?_⟩
                          · have z12 := qTi e12
                            rw [pa_4096 h h0 h1] at z12
                            refine ⟨fun e13 => ?_, fun e13 => ?_⟩
                            · have z13 := ndTi e13
                              unfold ff at z13
                              rw [pa_256_15 h h0 h1] at z13
                              exfalso; omega
                            · have z13 := ndFi e13
                              unfold ff at z13
                              rw [pa_256_15 h h0 h1] at z13
                              exfalso; omega
                          · have z12 := qFi e12
                            rw [pa_4096 h h0 h1] at z12
                            exfalso; have m10 := nk_10 h h0 h1 k10; omega
                        · have z11 := qFi e11
                          unfold ff at z11
                          rw [pa_64_15 h h0 h1] at z11
                          refine ⟨fun e12 => ?_, fun e12 => ?_⟩
                          · have z12 := qTi e12
                            rw [pa_4096 h h0 h1] at z12
                            refine ⟨fun e13 => ?_, fun e13 => ?_⟩
                            · have z13 := ndTi e13
                              unfold ff at z13
                              rw [pa_256_15 h h0 h1] at z13
                              exfalso; omega
                            · have z13 := ndFi e13
                              unfold ff at z13
                              rw [pa_256_15 h h0 h1] at z13
                              exfalso; omega
                          · have z12 := qFi e12
                            rw [pa_4096 h h0 h1] at z12
                            exfalso; omega
                      · have z10 := qFi e10
                        unfold ff at z10
                        rw [pa_64_15 h h0 h1] at z10
                        refine ⟨fun e11 => ?_, fun e11 => ?_⟩
                        · have z11 := qTi e11
                          unfold ff at z11
                          rw [pa_64_15 h h0 h1] at z11
                          refine ⟨fun e12 => ?_, fun e12 => ?_⟩
                          · have z12 := qTi e12
                            rw [pa_4096 h h0 h1] at z12
                            refine ⟨fun e13 => ?_, fun e13 => ?_⟩
                            · have z13 := ndTi e13
                              unfold ff at z13
                              rw [pa_256_15 h h0 h1] at z13
                              exfalso; omega
                            · have z13 := ndFi e13
                              unfold ff at z13
                              rw [pa_256_15 h h0 h1] at z13
                              exfalso; omega
                          · have z12 := qFi e12
                            rw [pa_4096 h h0 h1] at z12
                            exfalso; have m11 := nk_11 h h0 h1 k11; omega
                        · have z11 := qFi e11
                          unfold ff at z11
                          rw [pa_64_15 h h0 h1] at z11
                          refine ⟨fun e12 => ?_, fun e12 => ?_⟩
                          · have z12 := qTi e12
                            unfold ff at z12
                            rw [pa_64_15 h h0 h1] at z12
                            refine ⟨fun e13 => ?_, fun e13 => ?_⟩
                            · have z13 := qTi e13
                              rw [pa_4096 h h0 h1] at z13
                              refine ⟨fun e14 => ?_, fun e14 => ?_⟩
                              · have z14 := ndTi e14
                                unfold ff at z14
                                rw [pa_256_15 h h0 h1] at z14
                                exfalso; omega
                              · have z14 := ndFi e14
                                unfold ff at z14
                                rw [pa_256_15 h h0 h1] at z14
                                exfalso; omega
                            · have z13 := qFi e13
                              rw [pa_4096 h h0 h1] at z13
                              exfalso; have m13 := nk_13 h h0 h1 k13; omega
                          · have z12 := qFi e12
                            unfold ff at z12
                            rw [pa_64_15 h h0 h1] at z12
                            refine ⟨fun e13 => ?_, fun e13 => ?_⟩
                            · have z13 := qTi e13
                              unfold ff at z13
                              rw [pa_64_15 h h0 h1] at z13
                              refine ⟨fun e14 => ?_, fun e14 => ?_⟩
                              · have z14 := qTi e14
                                rw [pa_4096 h h0 h1] at z14
                                refine ⟨fun e15 => ?_, fun e15 => ?_⟩
                                · have z15 := ndTi e15
                                  unfold ff at z15
                                  rw [pa_256_15 h h0 h1] at z15
                                  exfalso; omega
                                · have z15 := ndFi e15
                                  unfold ff at z15
                                  rw [pa_256_15 h h0 h1] at z15
                                  exfalso; omega
                              · have z14 := qFi e14
                                rw [pa_4096 h h0 h1] at z14
                                exfalso; have m13 := nk_13 h h0 h1 k13; omega
                            · have z13 := qFi e13
                              unfold ff at z13
                              rw [pa_64_15 h h0 h1] at z13
                              refine ⟨fun e14 => ?_, fun e14 => ?_⟩
                              · have z14 := qTi e14
                                unfold ff at z14
                                rw [pa_64_15 h h0 h1] at z14
                                refine ⟨fun e15 => ?_, fun e15 => ?_⟩
                                · have z15 := qTi e15
                                  rw [pa_4096 h h0 h1] at z15
                                  refine ⟨fun e16 => ?_, fun e16 => ?_⟩
                                  · have z16 := ndTi e16
                                    unfold ff at z16
                                    rw [pa_256_15 h h0 h1] at z16
                                    exfalso; omega
                                  · have z16 := ndFi e16
                                    unfold ff at z16
                                    rw [pa_256_15 h h0 h1] at z16
                                    exfalso; omega
                                · have z15 := qFi e15
                                  rw [pa_4096 h h0 h1] at z15
                                  exfalso; have m12 := nk_12 h h0 h1 k12; omega
                              · have z14 := qFi e14
                                unfold ff at z14
                                rw [pa_64_15 h h0 h1] at z14
                                refine ⟨fun e15 => ?_, fun e15 => ?_⟩
                                · have z15 := qTi e15
                                  unfold ff at z15
                                  rw [pa_64_15 h h0 h1] at z15
                                  refine ⟨fun e16 => ?_, fun e16 => ?_⟩
                                  · have z16 := qTi e16
                                    rw [pa_4096 h h0 h1] at z16
                                    refine ⟨fun e17 => ?_, fun e17 => ?_⟩
                                    · have z17 := ndTi e17
                                      unfold ff at z17
                                      rw [pa_256_15 h h0 h1] at z17
                                      exfalso; omega
                                    · have z17 := ndFi e17
                                      unfold ff at z17
                                      rw [pa_256_15 h h0 h1] at z17
                                      exfalso; omega
                                  · have z16 := qFi e16
                                    rw [pa_4096 h h0 h1] at z16
                                    exfalso; have m15 := nk_15 h h0 h1 k15; omega
                                · have z15 := qFi e15
                                  unfold ff at z15
                                  rw [pa_64_15 h h0 h1] at z15
                                  refine ⟨fun e16 => ?_, fun e16 => ?_⟩
                                  · have z16 := qTi e16
                                    unfold ff at z16
                                    rw [pa_64_15 h h0 h1] at z16
                                    refine ⟨fun e17 => ?_, fun e17 => ?_⟩
                                    · have z17 := qTi e17
                                      rw [pa_4096 h h0 h1] at z17
                                      refine ⟨fun e18 => ?_, fun e18 => ?_⟩
                                      · have z18 := ndTi e18
                                        unfold ff at z18
                                        rw [pa_256_15 h h0 h1] at z18
                                        exfalso; omega
                                      · have z18 := ndFi e18
                                        unfold ff at z18
                                        rw [pa_256_15 h h0 h1] at z18
                                        exfalso; omega
                                    · have z17 := qFi e17
                                      rw [pa_4096 h h0 h1] at z17
                                      exfalso; have m17 := nk_17 h h0 h1 k17; omega
                                  · have z16 := qFi e16
                                    unfold ff at z16
                                    rw [pa_64_15 h h0 h1] at z16
                                    refine ⟨fun e17 => ?_, fun e17 => ?_⟩
                                    · have z17 := qTi e17
                                      rw [pa_4096 h h0 h1] at z17
                                      refine ⟨fun e18 => ?_, fun e18 => ?_⟩
                                      · have z18 := ndTi e18
                                        unfold ff at z18
                                        rw [pa_256_15 h h0 h1] at z18
                                        exfalso; omega
                                      · have z18 := ndFi e18
                                        unfold ff at z18
                                        rw [pa_256_15 h h0 h1] at z18
                                        exfalso; omega
                                    · have z17 := qFi e17
                                      rw [pa_4096 h h0 h1] at z17
                                      exfalso; have m7 := nk_7 h h0 h1 k7; have m9 := nk_9 h h0 h1 k9; have m14 := nk_14 h h0 h1 k14; have m16 := nk_16 h h0 h1 k16; omega
          · have z4 := qFi e4
            rw [pa_4096 h h0 h1] at z4
            refine ⟨fun e5 => ?_, fun e5 => ?_⟩
            · have z5 := qTi e5
              rw [pa_4096 h h0 h1] at z5
              refine ⟨fun e6 => ?_, fun e6 => ?_⟩
              · have z6 := nnqTi e6
                rw [pb_512_1 h h0 h1] at z6
                refine ⟨fun e7 => ?_, fun e7 => ?_⟩
                · have z7 := qTi e7
                  rw [pa_4096 h h0 h1] at z7
                  refine ⟨fun e8 => ?_, fun e8 => ?_⟩
                  · have z8 := ndTi e8
                    unfold ff at z8
                    rw [pa_256_15 h h0 h1] at z8
                    exfalso; omega
                  · have z8 := ndFi e8
                    unfold ff at z8
                    rw [pa_256_15 h h0 h1] at z8
                    exfalso; omega
                · have z7 := qFi e7
                  rw [pa_4096 h h0 h1] at z7
                  exfalso; have m23 := nk_23 h h0 h1 k23; omega
              · have z6 := nnqFi e6
                rw [pb_512_1 h h0 h1] at z6
                refine ⟨nd_1024 h h0 h1, ?_⟩
                refine ⟨fun e7 => ?_, fun e7 => ?_⟩
                · have z7 := qTi e7
                  rw [pa_4096 h h0 h1] at z7
                  refine ⟨fun e8 => ?_, fun e8 => ?_⟩
                  · have z8 := ndTi e8
                    unfold ff at z8
                    rw [pa_256_15 h h0 h1] at z8
                    exfalso; omega
                  · have z8 := ndFi e8
                    unfold ff at z8
                    rw [pa_256_15 h h0 h1] at z8
                    exfalso; omega
                · have z7 := qFi e7
                  rw [pa_4096 h h0 h1] at z7
                  exfalso; have m24 := nk_24 h h0 h1 k24; have m25 := nk_25 h h0 h1 k25; have m26 := nk_26 h h0 h1 k26; have m27 := nk_27 h h0 h1 k27; omega
            · have z5 := qFi e5
              rw [pa_4096 h h0 h1] at z5
              refine ⟨fun e6 => ?_, fun e6 => ?_⟩
              · have z6 := qTi e6
                rw [pa_4096 h h0 h1] at z6
                refine ⟨fun e7 => ?_, fun e7 => ?_⟩
                · have z7 := nnqTi e7
                  rw [pb_4096_1 h h0 h1] at z7
                  refine ⟨fun e8 => ?_, fun e8 => ?_⟩
                  · have z8 := qTi e8
                    rw [pa_4096 h h0 h1] at z8
                    refine ⟨fun e9 => ?_, fun e9 => ?_⟩
                    · have z9 := ndTi e9
                      unfold ff at z9
                      rw [pa_256_15 h h0 h1] at z9
                      exfalso; omega
                    · have z9 := ndFi e9
                      unfold ff at z9
                      rw [pa_256_15 h h0 h1] at z9
                      exfalso; omega
                  · have z8 := qFi e8
                    rw [pa_4096 h h0 h1] at z8
                    exfalso; have m28 := nk_28 h h0 h1 k28; omega
                · have z7 := nnqFi e7
                  rw [pb_4096_1 h h0 h1] at z7
                  refine ⟨fun e8 => ?_, fun e8 => ?_⟩
                  · have z8 := qTi e8
                    rw [pa_4096 h h0 h1] at z8
                    refine ⟨fun e9 => ?_, fun e9 => ?_⟩
                    · have z9 := ndTi e9
                      unfold ff at z9
                      rw [pa_256_15 h h0 h1] at z9
                      exfalso; omega
                    · have z9 := ndFi e9
                      unfold ff at z9
                      rw [pa_256_15 h h0 h1] at z9
                      exfalso; omega
                  · have z8 := qFi e8
                    rw [pa_4096 h h0 h1] at z8
                    exfalso; omega
              · have z6 := qFi e6
                rw [pa_4096 h h0 h1] at z6
                refine ⟨fun e7 => ?_, fun e7 => ?_⟩
                · have z7 := qTi e7
                  rw [pa_4096 h h0 h1] at z7
                  refine ⟨fun e8 => ?_, fun e8 => ?_⟩
                  · have z8 := nnqTi e8
                    rw [pb_4096_1 h h0 h1] at z8
                    refine ⟨fun e9 => ?_, fun e9 => ?_⟩
                    · have z9 := qTi e9
                      rw [pa_4096 h h0 h1] at z9
                      refine ⟨fun e10 => ?_, fun e10 => ?_⟩
                      · have z10 := ndTi e10
                        unfold ff at z10
                        rw [pa_256_15 h h0 h1] at z10
                        exfalso; omega
                      · have z10 := ndFi e10
                        unfold ff at z10
                        rw [pa_256_15 h h0 h1] at z10
                        exfalso; omega
                    · have z9 := qFi e9
                      rw [pa_4096 h h0 h1] at z9
                      exfalso; omega
                  · have z8 := nnqFi e8
                    rw [pb_4096_1 h h0 h1] at z8
                    refine ⟨fun e9 => ?_, fun e9 => ?_⟩
                    · have z9 := qTi e9
                      rw [pa_4096 h h0 h1] at z9
                      refine ⟨fun e10 => ?_, fun e10 => ?_⟩
                      · have z10 := ndTi e10
                        unfold ff at z10
                        rw [pa_256_15 h h0 h1] at z10
                        exfalso; omega
                      · have z10 := ndFi e10
                        unfold ff at z10
                        rw [pa_256_15 h h0 h1] at z10
                        exfalso; omega
                    · have z9 := qFi e9
                      rw [pa_4096 h h0 h1] at z9
                      exfalso; have m29 := nk_29 h h0 h1 k29; omega
                · have z7 := qFi e7
                  rw [pa_4096 h h0 h1] at z7
                  refine ⟨fun e8 => ?_, fun e8 => ?_⟩
                  · have z8 := qTi e8
                    rw [pa_4096 h h0 h1] at z8
                    refine ⟨fun e9 => ?_, fun e9 => ?_⟩
                    · have z9 := qTi e9
                      rw [pa_4096 h h0 h1] at z9
                      refine ⟨fun e10 => ?_, fun e10 => ?_⟩
                      · have z10 := ndTi e10
                        unfold ff at z10
                        rw [pa_256_15 h h0 h1] at z10
                        exfalso; omega
                      · have z10 := ndFi e10
                        unfold ff at z10
                        rw [pa_256_15 h h0 h1] at z10
                        exfalso; omega
                    · have z9 := qFi e9
                      rw [pa_4096 h h0 h1] at z9
                      exfalso; have m30 := nk_30 h h0 h1 k30; omega
                  · have z8 := qFi e8
                    rw [pa_4096 h h0 h1] at z8
                    refine ⟨fun e9 => ?_, fun e9 => ?_⟩
                    · have z9 := qTi e9
                      rw [pa_4096 h h0 h1] at z9
                      refine ⟨fun e10 => ?_, fun e10 => ?_⟩
                      · have z10 := qTi e10
                        rw [pa_4096 h h0 h1] at z10
                        refine ⟨fun e11 => ?_, fun e11 => ?_⟩
                        · have z11 := ndTi e11
                          unfold ff at z11
                          rw [pa_256_15 h h0 h1] at z11
                          exfalso; omega
                        · have z11 := ndFi e11
                          unfold ff at z11
                          rw [pa_256_15 h h0 h1] at z11
                          exfalso; omega
                      · have z10 := qFi e10
                        rw [pa_4096 h h0 h1] at z10
                        exfalso; have m31 := nk_31 h h0 h1 k31; omega
                    · have z9 := qFi e9
                      rw [pa_4096 h h0 h1] at z9
                      refine ⟨fun e10 => ?_, fun e10 => ?_⟩
                      · have z10 := qTi e10
                        rw [pa_4096 h h0 h1] at z10
                        refine ⟨fun e11 => ?_, fun e11 => ?_⟩
                        · have z11 := nqTi e11
                          rw [pb_2048_1 h h0 h1] at z11
                          refine ⟨fun e12 => ?_, fun e12 => ?_⟩
                          · have z12 := qTi e12
                            rw [pa_4096 h h0 h1] at z12
                            refine ⟨fun e13 => ?_, fun e13 => ?_⟩
                            · have z13 := ndTi e13
                              unfold ff at z13
                              rw [pa_256_15 h h0 h1] at z13
                              exfalso; omega
                            · have z13 := ndFi e13
                              unfold ff at z13
                              rw [pa_256_15 h h0 h1] at z13
                              exfalso; omega
                          · have z12 := qFi e12
                            rw [pa_4096 h h0 h1] at z12
                            exfalso; have m33 := nk_33 h h0 h1 k33; omega
                        · have z11 := nqFi e11
                          rw [pb_2048_1 h h0 h1] at z11
                          refine ⟨fun e12 => ?_, fun e12 => ?_⟩
                          · have z12 := qTi e12
                            rw [pa_4096 h h0 h1] at z12
                            refine ⟨fun e13 => ?_, fun e13 => ?_⟩
                            · have z13 := ndTi e13
                              unfold ff at z13
                              rw [pa_256_15 h h0 h1] at z13
                              exfalso; omega
                            · have z13 := ndFi e13
                              unfold ff at z13
                              rw [pa_256_15 h h0 h1] at z13
                              exfalso; omega
                          · have z12 := qFi e12
                            rw [pa_4096 h h0 h1] at z12
                            exfalso; have m32 := nk_32 h h0 h1 k32; omega
                      · have z10 := qFi e10
                        rw [pa_4096 h h0 h1] at z10
                        refine ⟨fun e11 => ?_, fun e11 => ?_⟩
                        · have z11 := qTi e11
                          rw [pa_4096 h h0 h1] at z11
                          refine ⟨fun e12 => ?_, fun e12 => ?_⟩
                          · have z12 := qTi e12
                            unfold ff at z12
                            rw [pa_256_15 h h0 h1] at z12
                            refine ⟨fun e13 => ?_, fun e13 => ?_⟩
                            · have z13 := nqTi e13
                              rw [pb_128_1 h h0 h1] at z13
                              refine ⟨fun e14 => ?_, fun e14 => ?_⟩
                              · have z14 := qTi e14
                                rw [pa_4096 h h0 h1] at z14
                                refine ⟨fun e15 => ?_, fun e15 => ?_⟩
                                · have z15 := ndTi e15
                                  unfold ff at z15
                                  rw [pa_256_15 h h0 h1] at z15
                                  exfalso; omega
                                · have z15 := ndFi e15
                                  unfold ff at z15
                                  rw [pa_256_15 h h0 h1] at z15
                                  exfalso; omega
                              · have z14 := qFi e14
                                rw [pa_4096 h h0 h1] at z14
                                exfalso; have m34 := nk_34 h h0 h1 k34; omega
                            · have z13 := nqFi e13
                              rw [pb_128_1 h h0 h1] at z13
                              refine ⟨fun e14 => ?_, fun e14 => ?_⟩
                              · have z14 := qTi e14
                                rw [pa_4096 h h0 h1] at z14
                                refine ⟨fun e15 => ?_, fun e15 => ?_⟩
                                · have z15 := ndTi e15
                                  unfold ff at z15
                                  rw [pa_256_15 h h0 h1] at z15
                                  exfalso; omega
                                · have z15 := ndFi e15
                                  unfold ff at z15
                                  rw [pa_256_15 h h0 h1] at z15
                                  exfalso; omega
                              · have z14 := qFi e14
                                rw [pa_4096 h h0 h1] at z14
                                exfalso; have m34 := nk_34 h h0 h1 k34; omega
                          · have z12 := qFi e12
                            unfold ff at z12
                            rw [pa_256_15 h h0 h1] at z12
                            refine ⟨fun e13 => ?_, fun e13 => ?_⟩
                            · have z13 := qTi e13
                              unfold ff at z13
                              rw [pa_256_15 h h0 h1] at z13
                              refine ⟨fun e14 => ?_, fun e14 => ?_⟩
                              · have z14 := qTi e14
                                rw [pa_4096 h h0 h1] at z14
                                refine ⟨fun e15 => ?_, fun e15 => ?_⟩
                                · have z15 := ndTi e15
                                  unfold ff at z15
                                  rw [pa_256_15 h h0 h1] at z15
                                  exfalso; omega
                                · have z15 := ndFi e15
                                  unfold ff at z15
                                  rw [pa_256_15 h h0 h1] at z15
                                  exfalso; omega
                              · have z14 := qFi e14
                                rw [pa_4096 h h0 h1] at z14
                                exfalso; have m35 := nk_35 h h0 h1 k35; omega
                            · have z13 := qFi e13
                              unfold ff at z13
                              rw [pa_256_15 h h0 h1] at z13
                              refine ⟨fun e14 => ?_, fun e14 => ?_⟩
                              · have z14 := qTi e14
                                unfold ff at z14
                                rw [pa_256_15 h h0 h1] at z14
                                refine ⟨fun e15 => ?_, fun e15 => ?_⟩
                                · have z15 := qTi e15
                                  rw [pa_4096 h h0 h1] at z15
                                  refine ⟨fun e16 => ?_, fun e16 => ?_⟩
                                  · have z16 := ndTi e16
                                    unfold ff at z16
                                    rw [pa_256_15 h h0 h1] at z16
                                    exfalso; omega
                                  · have z16 := ndFi e16
                                    unfold ff at z16
                                    rw [pa_256_15 h h0 h1] at z16
                                    exfalso; omega
                                · have z15 := qFi e15
                                  rw [pa_4096 h h0 h1] at z15
                                  exfalso; have m36 := nk_36 h h0 h1 k36; omega
                              · have z14 := qFi e14
                                unfold ff at z14
                                rw [pa_256_15 h h0 h1] at z14
                                refine ⟨fun e15 => ?_, fun e15 => ?_⟩
                                · have z15 := qTi e15
                                  unfold ff at z15
                                  rw [pa_256_15 h h0 h1] at z15
                                  refine ⟨fun e16 => ?_, fun e16 => ?_⟩
                                  · have z16 := qTi e16
                                    rw [pa_4096 h h0 h1] at z16
                                    refine ⟨fun e17 => ?_, fun e17 => ?_⟩
                                    · have z17 := ndTi e17
                                      unfold ff at z17
                                      rw [pa_256_15 h h0 h1] at z17
                                      exfalso; omega
                                    · have z17 := ndFi e17
                                      unfold ff at z17
                                      rw [pa_256_15 h h0 h1] at z17
                                      exfalso; omega
                                  · have z16 := qFi e16
                                    rw [pa_4096 h h0 h1] at z16
                                    exfalso; have m37 := nk_37 h h0 h1 k37; omega
                                · have z15 := qFi e15
                                  unfold ff at z15
                                  rw [pa_256_15 h h0 h1] at z15
                                  refine ⟨fun e16 => ?_, fun e16 => ?_⟩
                                  · have z16 := qTi e16
                                    unfold ff at z16
                                    rw [pa_256_15 h h0 h1] at z16
                                    refine ⟨fun e17 => ?_, fun e17 => ?_⟩
                                    · have z17 := qTi e17
                                      rw [pa_4096 h h0 h1] at z17
                                      refine ⟨fun e18 => ?_, fun e18 => ?_⟩
                                      · have z18 := ndTi e18
                                        unfold ff at z18
                                        rw [pa_256_15 h h0 h1] at z18
                                        exfalso; omega
                                      · have z18 := ndFi e18
                                        unfold ff at z18
                                        rw [pa_256_15 h h0 h1] at z18
                                        exfalso; omega
                                    · have z17 := qFi e17
                                      rw [pa_4096 h h0 h1] at z17
                                      exfalso; have m38 := nk_38 h h0 h1 k38; omega
                                  · have z16 := qFi e16
                                    unfold ff at z16
                                    rw [pa_256_15 h h0 h1] at z16
                                    refine ⟨fun e17 => ?_, fun e17 => ?_⟩
                                    · have z17 := qTi e17
                                      rw [pa_4096 h h0 h1] at z17
                                      refine ⟨fun e18 => ?_, fun e18 => ?_⟩
                                      · have z18 := ndTi e18
                                        unfold ff at z18
                                        rw [pa_256_15 h h0 h1] at z18
                                        exfalso; omega
                                      · have z18 := ndFi e18
                                        unfold ff at z18
                                        rw [pa_256_15 h h0 h1] at z18
                                        exfalso; omega
                                    · have z17 := qFi e17
                                      rw [pa_4096 h h0 h1] at z17
                                      exact ⟨⟨rfl, rfl⟩, ⟨rfl, rfl⟩, ⟨rfl, rfl⟩, rfl, ⟨rfl, rfl⟩, ⟨rfl, rfl⟩, ⟨rfl, rfl⟩, ⟨rfl, rfl⟩, ⟨rfl, rfl⟩, rfl, ⟨rfl, rfl⟩, ⟨rfl, rfl⟩, rfl, rfl, rfl, rfl, rfl, rfl, rfl, rfl, ⟨rfl, rfl⟩, rfl, rfl, rfl⟩
                        · have z11 := qFi e11
                          rw [pa_4096 h h0 h1] at z11
                          refine ⟨fun e12 => ?_, fun e12 => ?_⟩
                          · have z12 := qTi e12
                            rw [pa_4096 h h0 h1] at z12
                            refine ⟨fun e13 => ?_, fun e13 => ?_⟩
                            · have z13 := qTi e13
                              rw [pa_4096 h h0 h1] at z13
                              refine ⟨fun e14 => ?_, fun e14 => ?_⟩
                              · have z14 := ndTi e14
                                unfold ff at z14
                                rw [pa_256_15 h h0 h1] at z14
                                exfalso; omega
                              · have z14 := ndFi e14
                                unfold ff at z14
                                rw [pa_256_15 h h0 h1] at z14
                                exfalso; omega
                            · have z13 := qFi e13
                              rw [pa_4096 h h0 h1] at z13
                              exfalso; have m39 := nk_39 h h0 h1 k39; omega
                          · have z12 := qFi e12
                            rw [pa_4096 h h0 h1] at z12
                            refine ⟨fun e13 => ?_, fun e13 => ?_⟩
                            · have z13 := qTi e13
                              rw [pa_4096 h h0 h1] at z13
                              refine ⟨fun e14 => ?_, fun e14 => ?_⟩
                              · have z14 := qTi e14
                                rw [pa_4096 h h0 h1] at z14
                                refine ⟨fun e15 => ?_, fun e15 => ?_⟩
                                · have z15 := dTi e15
                                  unfold ff at z15
                                  rw [pa_256_15 h h0 h1] at z15
                                  refine ⟨fun e16 => ?_, fun e16 => ?_⟩
                                  · have z16 := qTi e16
                                    rw [pa_4096 h h0 h1] at z16
                                    refine ⟨fun e17 => ?_, fun e17 => ?_⟩
                                    · have z17 := ndTi e17
                                      unfold ff at z17
                                      rw [pa_256_15 h h0 h1] at z17
                                      exfalso; omega
                                    · have z17 := ndFi e17
                                      unfold ff at z17
                                      rw [pa_256_15 h h0 h1] at z17
                                      exfalso; have m40 := nk_40 h h0 h1 k40; omega
                                  · have z16 := qFi e16
                                    rw [pa_4096 h h0 h1] at z16
                                    exfalso; omega
                                · have z15 := dFi e15
                                  unfold ff at z15
                                  rw [pa_256_15 h h0 h1] at z15
                                  refine ⟨fun e16 => ?_, fun e16 => ?_⟩
                                  · have z16 := nqTi e16
                                    rw [pb_256_1 h h0 h1] at z16
                                    refine ⟨fun e17 => ?_, fun e17 => ?_⟩
                                    · have z17 := qTi e17
                                      rw [pa_4096 h h0 h1] at z17
                                      refine ⟨fun e18 => ?_, fun e18 => ?_⟩
                                      · have z18 := ndTi e18
                                        unfold ff at z18
                                        rw [pa_256_15 h h0 h1] at z18
                                        exfalso; have m41 := nk_41 h h0 h1 k41; omega
                                      · have z18 := ndFi e18
                                        unfold ff at z18
                                        rw [pa_256_15 h h0 h1] at z18
                                        exfalso; omega
                                    · have z17 := qFi e17
                                      rw [pa_4096 h h0 h1] at z17
                                      exfalso; omega
                                  · have z16 := nqFi e16
                                    rw [pb_256_1 h h0 h1] at z16
                                    refine ⟨fun e17 => ?_, fun e17 => ?_⟩
                                    · have z17 := qTi e17
                                      rw [pa_4096 h h0 h1] at z17
                                      refine ⟨fun e18 => ?_, fun e18 => ?_⟩
                                      · have z18 := ndTi e18
                                        unfold ff at z18
                                        rw [pa_256_15 h h0 h1] at z18
                                        exact ⟨⟨rfl, rfl⟩, ⟨rfl, rfl⟩, ⟨rfl, rfl⟩, rfl, ⟨rfl, rfl⟩, ⟨rfl, rfl⟩, ⟨rfl, rfl⟩, ⟨rfl, rfl⟩, ⟨rfl, rfl⟩, rfl, ⟨rfl, rfl⟩, ⟨rfl, rfl⟩, rfl, rfl, rfl, rfl, rfl, rfl, rfl, rfl, ⟨rfl, rfl⟩, rfl, rfl, rfl⟩
                                      · have z18 := ndFi e18
                                        unfold ff at z18
                                        rw [pa_256_15 h h0 h1] at z18
                                        exfalso; omega
                                    · have z17 := qFi e17
                                      rw [pa_4096 h h0 h1] at z17
                                      exfalso; omega
                              · have z14 := qFi e14
                                rw [pa_4096 h h0 h1] at z14
                                refine ⟨fun e15 => ?_, fun e15 => ?_⟩
                                · have z15 := nqTi e15
                                  rw [pb_256_1 h h0 h1] at z15
                                  refine ⟨fun e16 => ?_, fun e16 => ?_⟩
                                  · have z16 := qTi e16
                                    rw [pa_4096 h h0 h1] at z16
                                    refine ⟨fun e17 => ?_, fun e17 => ?_⟩
                                    · have z17 := ndTi e17
                                      unfold ff at z17
                                      rw [pa_256_15 h h0 h1] at z17
                                      exfalso; omega
                                    · have z17 := ndFi e17
                                      unfold ff at z17
                                      rw [pa_256_15 h h0 h1] at z17
                                      exfalso; omega
                                  · have z16 := qFi e16
                                    rw [pa_4096 h h0 h1] at z16
                                    exfalso; omega
                                · have z15 := nqFi e15
                                  rw [pb_256_1 h h0 h1] at z15
                                  refine ⟨fun e16 => ?_, fun e16 => ?_⟩
                                  · have z16 := qTi e16
                                    rw [pa_4096 h h0 h1] at z16
                                    refine ⟨fun e17 => ?_, fun e17 => ?_⟩
                                    · have z17 := ndTi e17
                                      unfold ff at z17
                                      rw [pa_256_15 h h0 h1] at z17
                                      exfalso; omega
                                    · have z17 := ndFi e17
                                      unfold ff at z17
                                      rw [pa_256_15 h h0 h1] at z17
                                      exfalso; omega
                                  · have z16 := qFi e16
                                    rw [pa_4096 h h0 h1] at z16
                                    exfalso; omega
                            · have z13 := qFi e13
                              rw [pa_4096 h h0 h1] at z13
                              refine ⟨fun e14 => ?_, fun e14 => ?_⟩
                              · have z14 := qTi e14
                                unfold ff at z14
                                rw [pa_2048_3 h h0 h1] at z14
                                refine ⟨fun e15 => ?_, fun e15 => ?_⟩
                                · have z15 := qTi e15
                                  rw [pa_4096 h h0 h1] at z15
                                  refine ⟨fun e16 => ?_, fun e16 => ?_⟩
                                  · have z16 := ndTi e16
                                    unfold ff at z16
                                    rw [pa_256_15 h h0 h1] at z16
                                    exfalso; omega
                                  · have z16 := ndFi e16
                                    unfold ff at z16
                                    rw [pa_256_15 h h0 h1] at z16
                                    exfalso; omega
                                · have z15 := qFi e15
                                  rw [pa_4096 h h0 h1] at z15
                                  exfalso; have m42 := nk_42 h h0 h1 k42; omega
                              · have z14 := qFi e14
                                unfold ff at z14
                                rw [pa_2048_3 h h0 h1] at z14
                                refine ⟨fun e15 => ?_, fun e15 => ?_⟩
                                · have z15 := qTi e15
                                  unfold ff at z15
                                  rw [pa_2048_3 h h0 h1] at z15
                                  refine ⟨fun e16 => ?_, fun e16 => ?_⟩
                                  · have z16 := qTi e16
                                    rw [pa_4096 h h0 h1] at z16
                                    refine ⟨fun e17 => ?_, fun e17 => ?_⟩
                                    · have z17 := ndTi e17
                                      unfold ff at z17
                                      rw [pa_256_15 h h0 h1] at z17
                                      exfalso; omega
                                    · have z17 := ndFi e17
                                      unfold ff at z17
                                      rw [pa_256_15 h h0 h1] at z17
                                      exfalso; omega
                                  · have z16 := qFi e16
                                    rw [pa_4096 h h0 h1] at z16
                                    exfalso; have m43 := nk_43 h h0 h1 k43; omega
                                · have z15 := qFi e15
                                  unfold ff at z15
                                  rw [pa_2048_3 h h0 h1] at z15
                                  refine ⟨fun e16 => ?_, fun e16 => ?_⟩
                                  · have z16 := qTi e16
                                    unfold ff at z16
                                    rw [pa_2048_3 h h0 h1] at z16
                                    refine ⟨fun e17 => ?_, fun e17 => ?_⟩
                                    · have z17 := qTi e17
                                      rw [pa_4096 h h0 h1] at z17
                                      refine ⟨fun e18 => ?_, fun e18 => ?_⟩
                                      · have z18 := ndTi e18
                                        unfold ff at z18
                                        rw [pa_256_15 h h0 h1] at z18
                                        exfalso; omega
                                      · have z18 := ndFi e18
                                        unfold ff at z18
                                        rw [pa_256_15 h h0 h1] at z18
                                        exfalso; omega
                                    · have z17 := qFi e17
                                      rw [pa_4096 h h0 h1] at z17
                                      exfalso; have m44 := nk_44 h h0 h1 k44; omega
                                  · have z16 := qFi e16
                                    unfold ff at z16
                                    rw [pa_2048_3 h h0 h1] at z16
                                    refine ⟨fun e17 => ?_, fun e17 => ?_⟩
                                    · have z17 := qTi e17
                                      rw [pa_4096 h h0 h1] at z17
                                      refine ⟨fun e18 => ?_, fun e18 => ?_⟩
                                      · have z18 := ndTi e18
                                        unfold ff at z18
                                        rw [pa_256_15 h h0 h1] at z18
                                        exfalso; omega
                                      · have z18 := ndFi e18
                                        unfold ff at z18
                                        rw [pa_256_15 h h0 h1] at z18
                                        exfalso; omega
                                    · have z17 := qFi e17
                                      rw [pa_4096 h h0 h1] at z17
                                      exact ⟨⟨rfl, rfl⟩, ⟨rfl, rfl⟩, ⟨rfl, rfl⟩, rfl, ⟨rfl, rfl⟩, ⟨rfl, rfl⟩, ⟨rfl, rfl⟩, ⟨rfl, rfl⟩, ⟨rfl, rfl⟩, rfl, ⟨rfl, rfl⟩, ⟨rfl, rfl⟩, rfl, rfl, rfl, rfl, rfl, rfl, rfl, rfl, ⟨rfl, rfl⟩, rfl, rfl, rfl⟩
theorem dflt (E : World) (h : Int) (h0 : 0 ≤ h) (h1 : h < 65536) (k0 : (fits pt0 (wh h) && !(bif decide (fld pt0 (wh h) 116 < 0) then true else decide (fld pt0 (wh h) 116 > 2))) = false) (k1 : (fits pt1 (wh h) && !(bif decide (fld pt1 (wh h) 73 < 0) then true else decide (fld pt1 (wh h) 73 > 0))) = false) (k2 : (fits pt2 (wh h) && !(bif decide (fld pt2 (wh h) 73 < 1) then true else decide (fld pt2 (wh h) 73 > 1))) = false) (k3 : fits pt3 (wh h) = false) (k4 : fits pt4 (wh h) = false) (k5 : fits pt5 (wh h) = false) (k6 : fits pt6 (wh h) = false) (k7 : (fits pt7 (wh h) && !(bif decide (fld pt7 (wh h) 111 < 0) then true else decide (fld pt7 (wh h) 111 > 1))) = false) (k8 : (fits pt8 (wh h) && !(bif decide (fld pt8 (wh h) 111 < 2) then true else decide (fld pt8 (wh h) 111 > 4))) = false) (k9 : (fits pt7 (wh h) && !(bif decide (fld pt7 (wh h) 111 < 5) then true else decide (fld pt7 (wh h) 111 > 6))) = false) (k10 : (fits pt8 (wh h) && !(bif decide (fld pt8 (wh h) 111 < 7) then true else decide (fld pt8 (wh h) 111 > 7))) = false) (k11 : (fits pt9 (wh h) && !(bif decide (fld pt9 (wh h) 111 < 8) then true else decide (fld pt9 (wh h) 111 > 8))) = false) (k12 : (fits pt10 (wh h) && !(bif decide (fld pt10 (wh h) 111 < 9) then true else decide (fld pt10 (wh h) 111 > 9))) = false) (k13 : (fits pt9 (wh h) && !(bif decide (fld pt9 (wh h) 111 < 10) then true else decide (fld pt9 (wh h) 111 > 11))) = false) (k14 : (fits pt7 (wh h) && !(bif decide (fld pt7 (wh h) 111 < 12) then true else decide (fld pt7 (wh h) 111 > 12))) = false) (k15 : (fits pt7 (wh h) && !(bif decide (fld pt7 (wh h) 111 < 13) then true else decide (fld pt7 (wh h) 111 > 13))) = false) (k16 : (fits pt7 (wh h) && !(bif decide (fld pt7 (wh h) 111 < 14) then true else decide (fld pt7 (wh h) 111 > 14))) = false) (k17 : (fits pt7 (wh h) && !(bif decide (fld pt7 (wh h) 111 < 15) then true else decide (fld pt7 (wh h) 111 > 15))) = false) (k18 : fits pt11 (wh h) = false) (k19 : fits pt12 (wh h) = false) (k20 : fits pt13 (wh h) = false) (k21 : fits pt14 (wh h) = false) (k22 : fits pt15 (wh h) = false) (k23 : fits pt16 (wh h) = false) (k24 : (fits pt17 (wh h) && !(bif decide (fld pt17 (wh h) 72 < 0) then true else decide (fld pt17 (wh h) 72 > 0))) = false) (k25 : (fits pt17 (wh h) && !(bif decide (fld pt17 (wh h) 72 < 1) then true else decide (fld pt17 (wh h) 72 > 1))) = false) (k26 : (fits pt17 (wh h) && !(bif decide (fld pt17 (wh h) 72 < 2) then true else decide (fld pt17 (wh h) 72 > 2))) = false) (k27 : (fits pt17 (wh h) && !(bif decide (fld pt17 (wh h) 72 < 3) then true else decide (fld pt17 (wh h) 72 > 3))) = false) (k28 : fits pt18 (wh h) = false) (k29 : fits pt19 (wh h) = false) (k30 : fits pt20 (wh h) = false) (k31 : fits pt21 (wh h) = false) (k32 : fits pt22 (wh h) = false) (k33 : fits pt23 (wh h) = false) (k34 : fits pt24 (wh h) = false) (k35 : fits pt25 (wh h) = false) (k36 : fits pt26 (wh h) = false) (k37 : fits pt27 (wh h) = false) (k38 : fits pt28 (wh h) = false) (k39 : fits pt29 (wh h) = false) (k40 : (fits pt30 (wh h) && !(bif decide (fld pt30 (wh h) 99 < 0) then true else decide (fld pt30 (wh h) 99 > 13))) = false) (k41 : fits pt31 (wh h) = false) (k42 : fits pt32 (wh h) = false) (k43 : fits pt33 (wh h) = false) (k44 : fits pt34 (wh h) = false) : Good E h 45 (cs24 0 14 0 false 0 0 0 0 0 false 0 0 false false false false false false false false 0 false false false) := by
  refine ⟨conR_con (dflt_p E h h0 h1 k0 k1 k2 k3 k4 k5 k6 k7 k8 k9 k10 k11 k12 k13 k14 k15 k16 k17 k18 k19 k20 k21 k22 k23 k24 k25 k26 k27 k28 k29 k30 k31 k32 k33 k34 k35 k36 k37 k38 k39 k40 k41 k42 k43 k44), ?_⟩
  rw [dec45]
  repeat' first | exact rfl | apply And.intro
end Go.Proofs.Ytpfdemmoapjjpaa

