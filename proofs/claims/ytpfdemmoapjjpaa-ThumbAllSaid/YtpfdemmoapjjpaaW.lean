import Derived.Test.YtpfdemmoapjjpaaV
set_option linter.unusedVariables false
set_option linter.unusedSimpArgs false
namespace Go.Proofs.Ytpfdemmoapjjpaa
open Go Go.Proofs Go.Proofs.Ytpfdemmoapjjpaa.Ev
set_option maxRecDepth 100000
theorem bitW_bd (h : Int) (k : Nat) (h0 : 0 ≤ h) : 0 ≤ bitW h k ∧ bitW h k ≤ 1 := by rw [bitW_eq h k h0]; omega
theorem bds (h : Int) (h0 : 0 ≤ h) : (0 ≤ bitW h 0 ∧ bitW h 0 ≤ 1) ∧ (0 ≤ bitW h 1 ∧ bitW h 1 ≤ 1) ∧ (0 ≤ bitW h 2 ∧ bitW h 2 ≤ 1) ∧ (0 ≤ bitW h 3 ∧ bitW h 3 ≤ 1) ∧ (0 ≤ bitW h 4 ∧ bitW h 4 ≤ 1) ∧ (0 ≤ bitW h 5 ∧ bitW h 5 ≤ 1) ∧ (0 ≤ bitW h 6 ∧ bitW h 6 ≤ 1) ∧ (0 ≤ bitW h 7 ∧ bitW h 7 ≤ 1) ∧ (0 ≤ bitW h 8 ∧ bitW h 8 ≤ 1) ∧ (0 ≤ bitW h 9 ∧ bitW h 9 ≤ 1) ∧ (0 ≤ bitW h 10 ∧ bitW h 10 ≤ 1) ∧ (0 ≤ bitW h 11 ∧ bitW h 11 ≤ 1) ∧ (0 ≤ bitW h 12 ∧ bitW h 12 ≤ 1) ∧ (0 ≤ bitW h 13 ∧ bitW h 13 ≤ 1) ∧ (0 ≤ bitW h 14 ∧ bitW h 14 ≤ 1) ∧ (0 ≤ bitW h 15 ∧ bitW h 15 ≤ 1) :=
  ⟨bitW_bd h 0 h0, bitW_bd h 1 h0, bitW_bd h 2 h0, bitW_bd h 3 h0, bitW_bd h 4 h0, bitW_bd h 5 h0, bitW_bd h 6 h0, bitW_bd h 7 h0, bitW_bd h 8 h0, bitW_bd h 9 h0, bitW_bd h 10 h0, bitW_bd h 11 h0, bitW_bd h 12 h0, bitW_bd h 13 h0, bitW_bd h 14 h0, bitW_bd h 15 h0⟩
theorem fw_0_79 (h : Int) (h0 : 0 ≤ h) (h1 : h < 65536) : fld pt0 (wh h) 79 = 0 := by
  rw [wh_eq h h0 h1, fl_0_79, hv_eq _ 0 (by simp only [List.forall_mem_cons, bitW_bd h _ h0, List.not_mem_nil, false_implies, implies_true, and_self]) (by decide) (by simp only [List.length_cons, List.length_nil]; decide)]
  simp only [hn]
theorem fw_0_97 (h : Int) (h0 : 0 ≤ h) (h1 : h < 65536) : fld pt0 (wh h) 97 = 16 * bitW h 10 + 8 * bitW h 9 + 4 * bitW h 8 + 2 * bitW h 7 + bitW h 6 := by
  rw [wh_eq h h0 h1, fl_0_97, hv_eq _ 0 (by simp only [List.forall_mem_cons, bitW_bd h _ h0, List.not_mem_nil, false_implies, implies_true, and_self]) (by decide) (by simp only [List.length_cons, List.length_nil]; decide)]
  simp only [hn]
  omega
theorem fw_0_100 (h : Int) (h0 : 0 ≤ h) (h1 : h < 65536) : fld pt0 (wh h) 100 = 4 * bitW h 2 + 2 * bitW h 1 + bitW h 0 := by
  rw [wh_eq h h0 h1, fl_0_100, hv_eq _ 0 (by simp only [List.forall_mem_cons, bitW_bd h _ h0, List.not_mem_nil, false_implies, implies_true, and_self]) (by decide) (by simp only [List.length_cons, List.length_nil]; decide)]
  simp only [hn]
  omega
theorem fw_0_105 (h : Int) (h0 : 0 ≤ h) (h1 : h < 65536) : fld pt0 (wh h) 105 = 0 := by
  rw [wh_eq h h0 h1, fl_0_105, hv_eq _ 0 (by simp only [List.forall_mem_cons, bitW_bd h _ h0, List.not_mem_nil, false_implies, implies_true, and_self]) (by decide) (by simp only [List.length_cons, List.length_nil]; decide)]
  simp only [hn]
theorem fw_0_108 (h : Int) (h0 : 0 ≤ h) (h1 : h < 65536) : fld pt0 (wh h) 108 = 0 := by
  rw [wh_eq h h0 h1, fl_0_108, hv_eq _ 0 (by simp only [List.forall_mem_cons, bitW_bd h _ h0, List.not_mem_nil, false_implies, implies_true, and_self]) (by decide) (by simp only [List.length_cons, List.length_nil]; decide)]
  simp only [hn]
theorem fw_0_109 (h : Int) (h0 : 0 ≤ h) (h1 : h < 65536) : fld pt0 (wh h) 109 = 4 * bitW h 5 + 2 * bitW h 4 + bitW h 3 := by
  rw [wh_eq h h0 h1, fl_0_109, hv_eq _ 0 (by simp only [List.forall_mem_cons, bitW_bd h _ h0, List.not_mem_nil, false_implies, implies_true, and_self]) (by decide) (by simp only [List.length_cons, List.length_nil]; decide)]
  simp only [hn]
  omega
theorem fw_0_116 (h : Int) (h0 : 0 ≤ h) (h1 : h < 65536) : fld pt0 (wh h) 116 = 2 * bitW h 12 + bitW h 11 := by
  rw [wh_eq h h0 h1, fl_0_116, hv_eq _ 0 (by simp only [List.forall_mem_cons, bitW_bd h _ h0, List.not_mem_nil, false_implies, implies_true, and_self]) (by decide) (by simp only [List.length_cons, List.length_nil]; decide)]
  simp only [hn]
  omega
theorem fw_1_73 (h : Int) (h0 : 0 ≤ h) (h1 : h < 65536) : fld pt1 (wh h) 73 = bitW h 10 := by
  rw [wh_eq h h0 h1, fl_1_73, hv_eq _ 0 (by simp only [List.forall_mem_cons, bitW_bd h _ h0, List.not_mem_nil, false_implies, implies_true, and_self]) (by decide) (by simp only [List.length_cons, List.length_nil]; decide)]
  simp only [hn]
  omega
theorem fw_1_79 (h : Int) (h0 : 0 ≤ h) (h1 : h < 65536) : fld pt1 (wh h) 79 = bitW h 9 := by
  rw [wh_eq h h0 h1, fl_1_79, hv_eq _ 0 (by simp only [List.forall_mem_cons, bitW_bd h _ h0, List.not_mem_nil, false_implies, implies_true, and_self]) (by decide) (by simp only [List.length_cons, List.length_nil]; decide)]
  simp only [hn]
  omega
theorem fw_1_100 (h : Int) (h0 : 0 ≤ h) (h1 : h < 65536) : fld pt1 (wh h) 100 = 4 * bitW h 2 + 2 * bitW h 1 + bitW h 0 := by
  rw [wh_eq h h0 h1, fl_1_100, hv_eq _ 0 (by simp only [List.forall_mem_cons, bitW_bd h _ h0, List.not_mem_nil, false_implies, implies_true, and_self]) (by decide) (by simp only [List.length_cons, List.length_nil]; decide)]
  simp only [hn]
  omega
theorem fw_1_105 (h : Int) (h0 : 0 ≤ h) (h1 : h < 65536) : fld pt1 (wh h) 105 = 0 := by
  rw [wh_eq h h0 h1, fl_1_105, hv_eq _ 0 (by simp only [List.forall_mem_cons, bitW_bd h _ h0, List.not_mem_nil, false_implies, implies_true, and_self]) (by decide) (by simp only [List.length_cons, List.length_nil]; decide)]
  simp only [hn]
theorem fw_1_108 (h : Int) (h0 : 0 ≤ h) (h1 : h < 65536) : fld pt1 (wh h) 108 = 0 := by
  rw [wh_eq h h0 h1, fl_1_108, hv_eq _ 0 (by simp only [List.forall_mem_cons, bitW_bd h _ h0, List.not_mem_nil, false_implies, implies_true, and_self]) (by decide) (by simp only [List.length_cons, List.length_nil]; decide)]
  simp only [hn]
theorem fw_1_109 (h : Int) (h0 : 0 ≤ h) (h1 : h < 65536) : fld pt1 (wh h) 109 = 4 * bitW h 8 + 2 * bitW h 7 + bitW h 6 := by
  rw [wh_eq h h0 h1, fl_1_109, hv_eq _ 0 (by simp only [List.forall_mem_cons, bitW_bd h _ h0, List.not_mem_nil, false_implies, implies_true, and_self]) (by decide) (by simp only [List.length_cons, List.length_nil]; decide)]
  simp only [hn]
  omega
theorem fw_1_110 (h : Int) (h0 : 0 ≤ h) (h1 : h < 65536) : fld pt1 (wh h) 110 = 4 * bitW h 5 + 2 * bitW h 4 + bitW h 3 := by
  rw [wh_eq h h0 h1, fl_1_110, hv_eq _ 0 (by simp only [List.forall_mem_cons, bitW_bd h _ h0, List.not_mem_nil, false_implies, implies_true, and_self]) (by decide) (by simp only [List.length_cons, List.length_nil]; decide)]
  simp only [hn]
  omega
theorem fw_1_116 (h : Int) (h0 : 0 ≤ h) (h1 : h < 65536) : fld pt1 (wh h) 116 = 0 := by
  rw [wh_eq h h0 h1, fl_1_116, hv_eq _ 0 (by simp only [List.forall_mem_cons, bitW_bd h _ h0, List.not_mem_nil, false_implies, implies_true, and_self]) (by decide) (by simp only [List.length_cons, List.length_nil]; decide)]
  simp only [hn]
theorem fw_2_73 (h : Int) (h0 : 0 ≤ h) (h1 : h < 65536) : fld pt2 (wh h) 73 = bitW h 10 := by
  rw [wh_eq h h0 h1, fl_2_73, hv_eq _ 0 (by simp only [List.forall_mem_cons, bitW_bd h _ h0, List.not_mem_nil, false_implies, implies_true, and_self]) (by decide) (by simp only [List.length_cons, List.length_nil]; decide)]
  simp only [hn]
  omega
theorem fw_2_79 (h : Int) (h0 : 0 ≤ h) (h1 : h < 65536) : fld pt2 (wh h) 79 = bitW h 9 := by
  rw [wh_eq h h0 h1, fl_2_79, hv_eq _ 0 (by simp only [List.forall_mem_cons, bitW_bd h _ h0, List.not_mem_nil, false_implies, implies_true, and_self]) (by decide) (by simp only [List.length_cons, List.length_nil]; decide)]
  simp only [hn]
  omega
theorem fw_2_100 (h : Int) (h0 : 0 ≤ h) (h1 : h < 65536) : fld pt2 (wh h) 100 = 4 * bitW h 2 + 2 * bitW h 1 + bitW h 0 := by
  rw [wh_eq h h0 h1, fl_2_100, hv_eq _ 0 (by simp only [List.forall_mem_cons, bitW_bd h _ h0, List.not_mem_nil, false_implies, implies_true, and_self]) (by decide) (by simp only [List.length_cons, List.length_nil]; decide)]
  simp only [hn]
  omega
theorem fw_2_105 (h : Int) (h0 : 0 ≤ h) (h1 : h < 65536) : fld pt2 (wh h) 105 = 4 * bitW h 8 + 2 * bitW h 7 + bitW h 6 := by
  rw [wh_eq h h0 h1, fl_2_105, hv_eq _ 0 (by simp only [List.forall_mem_cons, bitW_bd h _ h0, List.not_mem_nil, false_implies, implies_true, and_self]) (by decide) (by simp only [List.length_cons, List.length_nil]; decide)]
  simp only [hn]
  omega
theorem fw_2_108 (h : Int) (h0 : 0 ≤ h) (h1 : h < 65536) : fld pt2 (wh h) 108 = 0 := by
  rw [wh_eq h h0 h1, fl_2_108, hv_eq _ 0 (by simp only [List.forall_mem_cons, bitW_bd h _ h0, List.not_mem_nil, false_implies, implies_true, and_self]) (by decide) (by simp only [List.length_cons, List.length_nil]; decide)]
  simp only [hn]
theorem fw_2_110 (h : Int) (h0 : 0 ≤ h) (h1 : h < 65536) : fld pt2 (wh h) 110 = 4 * bitW h 5 + 2 * bitW h 4 + bitW h 3 := by
  rw [wh_eq h h0 h1, fl_2_110, hv_eq _ 0 (by simp only [List.forall_mem_cons, bitW_bd h _ h0, List.not_mem_nil, false_implies, implies_true, and_self]) (by decide) (by simp only [List.length_cons, List.length_nil]; decide)]
  simp only [hn]
  omega
theorem fw_2_116 (h : Int) (h0 : 0 ≤ h) (h1 : h < 65536) : fld pt2 (wh h) 116 = 0 := by
  rw [wh_eq h h0 h1, fl_2_116, hv_eq _ 0 (by simp only [List.forall_mem_cons, bitW_bd h _ h0, List.not_mem_nil, false_implies, implies_true, and_self]) (by decide) (by simp only [List.length_cons, List.length_nil]; decide)]
  simp only [hn]
theorem fw_3_79 (h : Int) (h0 : 0 ≤ h) (h1 : h < 65536) : fld pt3 (wh h) 79 = 0 := by
  rw [wh_eq h h0 h1, fl_3_79, hv_eq _ 0 (by simp only [List.forall_mem_cons, bitW_bd h _ h0, List.not_mem_nil, false_implies, implies_true, and_self]) (by decide) (by simp only [List.length_cons, List.length_nil]; decide)]
  simp only [hn]
theorem fw_3_100 (h : Int) (h0 : 0 ≤ h) (h1 : h < 65536) : fld pt3 (wh h) 100 = 4 * bitW h 10 + 2 * bitW h 9 + bitW h 8 := by
  rw [wh_eq h h0 h1, fl_3_100, hv_eq _ 0 (by simp only [List.forall_mem_cons, bitW_bd h _ h0, List.not_mem_nil, false_implies, implies_true, and_self]) (by decide) (by simp only [List.length_cons, List.length_nil]; decide)]
  simp only [hn]
  omega
theorem fw_3_105 (h : Int) (h0 : 0 ≤ h) (h1 : h < 65536) : fld pt3 (wh h) 105 = 128 * bitW h 7 + 64 * bitW h 6 + 32 * bitW h 5 + 16 * bitW h 4 + 8 * bitW h 3 + 4 * bitW h 2 + 2 * bitW h 1 + bitW h 0 := by
  rw [wh_eq h h0 h1, fl_3_105, hv_eq _ 0 (by simp only [List.forall_mem_cons, bitW_bd h _ h0, List.not_mem_nil, false_implies, implies_true, and_self]) (by decide) (by simp only [List.length_cons, List.length_nil]; decide)]
  simp only [hn]
  omega
theorem fw_3_108 (h : Int) (h0 : 0 ≤ h) (h1 : h < 65536) : fld pt3 (wh h) 108 = 0 := by
  rw [wh_eq h h0 h1, fl_3_108, hv_eq _ 0 (by simp only [List.forall_mem_cons, bitW_bd h _ h0, List.not_mem_nil, false_implies, implies_true, and_self]) (by decide) (by simp only [List.length_cons, List.length_nil]; decide)]
  simp only [hn]
theorem fw_3_116 (h : Int) (h0 : 0 ≤ h) (h1 : h < 65536) : fld pt3 (wh h) 116 = 0 := by
  rw [wh_eq h h0 h1, fl_3_116, hv_eq _ 0 (by simp only [List.forall_mem_cons, bitW_bd h _ h0, List.not_mem_nil, false_implies, implies_true, and_self]) (by decide) (by simp only [List.length_cons, List.length_nil]; decide)]
  simp only [hn]
theorem fw_4_79 (h : Int) (h0 : 0 ≤ h) (h1 : h < 65536) : fld pt4 (wh h) 79 = 0 := by
  rw [wh_eq h h0 h1, fl_4_79, hv_eq _ 0 (by simp only [List.forall_mem_cons, bitW_bd h _ h0, List.not_mem_nil, false_implies, implies_true, and_self]) (by decide) (by simp only [List.length_cons, List.length_nil]; decide)]
  simp only [hn]
theorem fw_4_105 (h : Int) (h0 : 0 ≤ h) (h1 : h < 65536) : fld pt4 (wh h) 105 = 128 * bitW h 7 + 64 * bitW h 6 + 32 * bitW h 5 + 16 * bitW h 4 + 8 * bitW h 3 + 4 * bitW h 2 + 2 * bitW h 1 + bitW h 0 := by
  rw [wh_eq h h0 h1, fl_4_105, hv_eq _ 0 (by simp only [List.forall_mem_cons, bitW_bd h _ h0, List.not_mem_nil, false_implies, implies_true, and_self]) (by decide) (by simp only [List.length_cons, List.length_nil]; decide)]
  simp only [hn]
  omega
theorem fw_4_108 (h : Int) (h0 : 0 ≤ h) (h1 : h < 65536) : fld pt4 (wh h) 108 = 0 := by
  rw [wh_eq h h0 h1, fl_4_108, hv_eq _ 0 (by simp only [List.forall_mem_cons, bitW_bd h _ h0, List.not_mem_nil, false_implies, implies_true, and_self]) (by decide) (by simp only [List.length_cons, List.length_nil]; decide)]
  simp only [hn]
theorem fw_4_110 (h : Int) (h0 : 0 ≤ h) (h1 : h < 65536) : fld pt4 (wh h) 110 = 4 * bitW h 10 + 2 * bitW h 9 + bitW h 8 := by
  rw [wh_eq h h0 h1, fl_4_110, hv_eq _ 0 (by simp only [List.forall_mem_cons, bitW_bd h _ h0, List.not_mem_nil, false_implies, implies_true, and_self]) (by decide) (by simp only [List.length_cons, List.length_nil]; decide)]
  simp only [hn]
  omega
theorem fw_4_116 (h : Int) (h0 : 0 ≤ h) (h1 : h < 65536) : fld pt4 (wh h) 116 = 0 := by
  rw [wh_eq h h0 h1, fl_4_116, hv_eq _ 0 (by simp only [List.forall_mem_cons, bitW_bd h _ h0, List.not_mem_nil, false_implies, implies_true, and_self]) (by decide) (by simp only [List.length_cons, List.length_nil]; decide)]
  simp only [hn]
theorem fw_5_79 (h : Int) (h0 : 0 ≤ h) (h1 : h < 65536) : fld pt5 (wh h) 79 = 0 := by
  rw [wh_eq h h0 h1, fl_5_79, hv_eq _ 0 (by simp only [List.forall_mem_cons, bitW_bd h _ h0, List.not_mem_nil, false_implies, implies_true, and_self]) (by decide) (by simp only [List.length_cons, List.length_nil]; decide)]
  simp only [hn]
theorem fw_5_100 (h : Int) (h0 : 0 ≤ h) (h1 : h < 65536) : fld pt5 (wh h) 100 = 4 * bitW h 10 + 2 * bitW h 9 + bitW h 8 := by
  rw [wh_eq h h0 h1, fl_5_100, hv_eq _ 0 (by simp only [List.forall_mem_cons, bitW_bd h _ h0, List.not_mem_nil, false_implies, implies_true, and_self]) (by decide) (by simp only [List.length_cons, List.length_nil]; decide)]
  simp only [hn]
  omega
theorem fw_5_105 (h : Int) (h0 : 0 ≤ h) (h1 : h < 65536) : fld pt5 (wh h) 105 = 128 * bitW h 7 + 64 * bitW h 6 + 32 * bitW h 5 + 16 * bitW h 4 + 8 * bitW h 3 + 4 * bitW h 2 + 2 * bitW h 1 + bitW h 0 := by
  rw [wh_eq h h0 h1, fl_5_105, hv_eq _ 0 (by simp only [List.forall_mem_cons, bitW_bd h _ h0, List.not_mem_nil, false_implies, implies_true, and_self]) (by decide) (by simp only [List.length_cons, List.length_nil]; decide)]
  simp only [hn]
  omega
theorem fw_5_108 (h : Int) (h0 : 0 ≤ h) (h1 : h < 65536) : fld pt5 (wh h) 108 = 0 := by
  rw [wh_eq h h0 h1, fl_5_108, hv_eq _ 0 (by simp only [List.forall_mem_cons, bitW_bd h _ h0, List.not_mem_nil, false_implies, implies_true, and_self]) (by decide) (by simp only [List.length_cons, List.length_nil]; decide)]
  simp only [hn]
theorem fw_5_116 (h : Int) (h0 : 0 ≤ h) (h1 : h < 65536) : fld pt5 (wh h) 116 = 0 := by
  rw [wh_eq h h0 h1, fl_5_116, hv_eq _ 0 (by simp only [List.forall_mem_cons, bitW_bd h _ h0, List.not_mem_nil, false_implies, implies_true, and_self]) (by decide) (by simp only [List.length_cons, List.length_nil]; decide)]
  simp only [hn]
theorem fw_6_79 (h : Int) (h0 : 0 ≤ h) (h1 : h < 65536) : fld pt6 (wh h) 79 = 0 := by
  rw [wh_eq h h0 h1, fl_6_79, hv_eq _ 0 (by simp only [List.forall_mem_cons, bitW_bd h _ h0, List.not_mem_nil, false_implies, implies_true, and_self]) (by decide) (by simp only [List.length_cons, List.length_nil]; decide)]
  simp only [hn]
theorem fw_6_100 (h : Int) (h0 : 0 ≤ h) (h1 : h < 65536) : fld pt6 (wh h) 100 = 4 * bitW h 10 + 2 * bitW h 9 + bitW h 8 := by
  rw [wh_eq h h0 h1, fl_6_100, hv_eq _ 0 (by simp only [List.forall_mem_cons, bitW_bd h _ h0, List.not_mem_nil, false_implies, implies_true, and_self]) (by decide) (by simp only [List.length_cons, List.length_nil]; decide)]
  simp only [hn]
  omega
theorem fw_6_105 (h : Int) (h0 : 0 ≤ h) (h1 : h < 65536) : fld pt6 (wh h) 105 = 128 * bitW h 7 + 64 * bitW h 6 + 32 * bitW h 5 + 16 * bitW h 4 + 8 * bitW h 3 + 4 * bitW h 2 + 2 * bitW h 1 + bitW h 0 := by
  rw [wh_eq h h0 h1, fl_6_105, hv_eq _ 0 (by simp only [List.forall_mem_cons, bitW_bd h _ h0, List.not_mem_nil, false_implies, implies_true, and_self]) (by decide) (by simp only [List.length_cons, List.length_nil]; decide)]
  simp only [hn]
  omega
theorem fw_6_108 (h : Int) (h0 : 0 ≤ h) (h1 : h < 65536) : fld pt6 (wh h) 108 = 0 := by
  rw [wh_eq h h0 h1, fl_6_108, hv_eq _ 0 (by simp only [List.forall_mem_cons, bitW_bd h _ h0, List.not_mem_nil, false_implies, implies_true, and_self]) (by decide) (by simp only [List.length_cons, List.length_nil]; decide)]
  simp only [hn]
theorem fw_6_116 (h : Int) (h0 : 0 ≤ h) (h1 : h < 65536) : fld pt6 (wh h) 116 = 0 := by
  rw [wh_eq h h0 h1, fl_6_116, hv_eq _ 0 (by simp only [List.forall_mem_cons, bitW_bd h _ h0, List.not_mem_nil, false_implies, implies_true, and_self]) (by decide) (by simp only [List.length_cons, List.length_nil]; decide)]
  simp only [hn]
theorem fw_7_79 (h : Int) (h0 : 0 ≤ h) (h1 : h < 65536) : fld pt7 (wh h) 79 = 0 := by
  rw [wh_eq h h0 h1, fl_7_79, hv_eq _ 0 (by simp only [List.forall_mem_cons, bitW_bd h _ h0, List.not_mem_nil, false_implies, implies_true, and_self]) (by decide) (by simp only [List.length_cons, List.length_nil]; decide)]
  simp only [hn]
theorem fw_7_100 (h : Int) (h0 : 0 ≤ h) (h1 : h < 65536) : fld pt7 (wh h) 100 = 4 * bitW h 2 + 2 * bitW h 1 + bitW h 0 := by
  rw [wh_eq h h0 h1, fl_7_100, hv_eq _ 0 (by simp only [List.forall_mem_cons, bitW_bd h _ h0, List.not_mem_nil, false_implies, implies_true, and_self]) (by decide) (by simp only [List.length_cons, List.length_nil]; decide)]
  simp only [hn]
  omega
theorem fw_7_105 (h : Int) (h0 : 0 ≤ h) (h1 : h < 65536) : fld pt7 (wh h) 105 = 0 := by
  rw [wh_eq h h0 h1, fl_7_105, hv_eq _ 0 (by simp only [List.forall_mem_cons, bitW_bd h _ h0, List.not_mem_nil, false_implies, implies_true, and_self]) (by decide) (by simp only [List.length_cons, List.length_nil]; decide)]
  simp only [hn]
theorem fw_7_108 (h : Int) (h0 : 0 ≤ h) (h1 : h < 65536) : fld pt7 (wh h) 108 = 0 := by
  rw [wh_eq h h0 h1, fl_7_108, hv_eq _ 0 (by simp only [List.forall_mem_cons, bitW_bd h _ h0, List.not_mem_nil, false_implies, implies_true, and_self]) (by decide) (by simp only [List.length_cons, List.length_nil]; decide)]
  simp only [hn]
theorem fw_7_109 (h : Int) (h0 : 0 ≤ h) (h1 : h < 65536) : fld pt7 (wh h) 109 = 4 * bitW h 5 + 2 * bitW h 4 + bitW h 3 := by
  rw [wh_eq h h0 h1, fl_7_109, hv_eq _ 0 (by simp only [List.forall_mem_cons, bitW_bd h _ h0, List.not_mem_nil, false_implies, implies_true, and_self]) (by decide) (by simp only [List.length_cons, List.length_nil]; decide)]
  simp only [hn]
  omega
theorem fw_7_111 (h : Int) (h0 : 0 ≤ h) (h1 : h < 65536) : fld pt7 (wh h) 111 = 8 * bitW h 9 + 4 * bitW h 8 + 2 * bitW h 7 + bitW h 6 := by
  rw [wh_eq h h0 h1, fl_7_111, hv_eq _ 0 (by simp only [List.forall_mem_cons, bitW_bd h _ h0, List.not_mem_nil, false_implies, implies_true, and_self]) (by decide) (by simp only [List.length_cons, List.length_nil]; decide)]
  simp only [hn]
  omega
theorem fw_7_116 (h : Int) (h0 : 0 ≤ h) (h1 : h < 65536) : fld pt7 (wh h) 116 = 0 := by
  rw [wh_eq h h0 h1, fl_7_116, hv_eq _ 0 (by simp only [List.forall_mem_cons, bitW_bd h _ h0, List.not_mem_nil, false_implies, implies_true, and_self]) (by decide) (by simp only [List.length_cons, List.length_nil]; decide)]
  simp only [hn]
theorem fw_8_79 (h : Int) (h0 : 0 ≤ h) (h1 : h < 65536) : fld pt8 (wh h) 79 = 0 := by
  rw [wh_eq h h0 h1, fl_8_79, hv_eq _ 0 (by simp only [List.forall_mem_cons, bitW_bd h _ h0, List.not_mem_nil, false_implies, implies_true, and_self]) (by decide) (by simp only [List.length_cons, List.length_nil]; decide)]
  simp only [hn]
theorem fw_8_100 (h : Int) (h0 : 0 ≤ h) (h1 : h < 65536) : fld pt8 (wh h) 100 = 4 * bitW h 2 + 2 * bitW h 1 + bitW h 0 := by
  rw [wh_eq h h0 h1, fl_8_100, hv_eq _ 0 (by simp only [List.forall_mem_cons, bitW_bd h _ h0, List.not_mem_nil, false_implies, implies_true, and_self]) (by decide) (by simp only [List.length_cons, List.length_nil]; decide)]
  simp only [hn]
  omega
theorem fw_8_105 (h : Int) (h0 : 0 ≤ h) (h1 : h < 65536) : fld pt8 (wh h) 105 = 0 := by
  rw [wh_eq h h0 h1, fl_8_105, hv_eq _ 0 (by simp only [List.forall_mem_cons, bitW_bd h _ h0, List.not_mem_nil, false_implies, implies_true, and_self]) (by decide) (by simp only [List.length_cons, List.length_nil]; decide)]
  simp only [hn]
theorem fw_8_108 (h : Int) (h0 : 0 ≤ h) (h1 : h < 65536) : fld pt8 (wh h) 108 = 0 := by
  rw [wh_eq h h0 h1, fl_8_108, hv_eq _ 0 (by simp only [List.forall_mem_cons, bitW_bd h _ h0, List.not_mem_nil, false_implies, implies_true, and_self]) (by decide) (by simp only [List.length_cons, List.length_nil]; decide)]
  simp only [hn]
theorem fw_8_111 (h : Int) (h0 : 0 ≤ h) (h1 : h < 65536) : fld pt8 (wh h) 111 = 8 * bitW h 9 + 4 * bitW h 8 + 2 * bitW h 7 + bitW h 6 := by
  rw [wh_eq h h0 h1, fl_8_111, hv_eq _ 0 (by simp only [List.forall_mem_cons, bitW_bd h _ h0, List.not_mem_nil, false_implies, implies_true, and_self]) (by decide) (by simp only [List.length_cons, List.length_nil]; decide)]
  simp only [hn]
  omega
theorem fw_8_115 (h : Int) (h0 : 0 ≤ h) (h1 : h < 65536) : fld pt8 (wh h) 115 = 4 * bitW h 5 + 2 * bitW h 4 + bitW h 3 := by
  rw [wh_eq h h0 h1, fl_8_115, hv_eq _ 0 (by simp only [List.forall_mem_cons, bitW_bd h _ h0, List.not_mem_nil, false_implies, implies_true, and_self]) (by decide) (by simp only [List.length_cons, List.length_nil]; decide)]
  simp only [hn]
  omega
theorem fw_9_79 (h : Int) (h0 : 0 ≤ h) (h1 : h < 65536) : fld pt9 (wh h) 79 = 0 := by
  rw [wh_eq h h0 h1, fl_9_79, hv_eq _ 0 (by simp only [List.forall_mem_cons, bitW_bd h _ h0, List.not_mem_nil, false_implies, implies_true, and_self]) (by decide) (by simp only [List.length_cons, List.length_nil]; decide)]
  simp only [hn]
theorem fw_9_105 (h : Int) (h0 : 0 ≤ h) (h1 : h < 65536) : fld pt9 (wh h) 105 = 0 := by
  rw [wh_eq h h0 h1, fl_9_105, hv_eq _ 0 (by simp only [List.forall_mem_cons, bitW_bd h _ h0, List.not_mem_nil, false_implies, implies_true, and_self]) (by decide) (by simp only [List.length_cons, List.length_nil]; decide)]
  simp only [hn]
theorem fw_9_108 (h : Int) (h0 : 0 ≤ h) (h1 : h < 65536) : fld pt9 (wh h) 108 = 0 := by
  rw [wh_eq h h0 h1, fl_9_108, hv_eq _ 0 (by simp only [List.forall_mem_cons, bitW_bd h _ h0, List.not_mem_nil, false_implies, implies_true, and_self]) (by decide) (by simp only [List.length_cons, List.length_nil]; decide)]
  simp only [hn]
theorem fw_9_109 (h : Int) (h0 : 0 ≤ h) (h1 : h < 65536) : fld pt9 (wh h) 109 = 4 * bitW h 5 + 2 * bitW h 4 + bitW h 3 := by
  rw [wh_eq h h0 h1, fl_9_109, hv_eq _ 0 (by simp only [List.forall_mem_cons, bitW_bd h _ h0, List.not_mem_nil, false_implies, implies_true, and_self]) (by decide) (by simp only [List.length_cons, List.length_nil]; decide)]
  simp only [hn]
  omega
theorem fw_9_110 (h : Int) (h0 : 0 ≤ h) (h1 : h < 65536) : fld pt9 (wh h) 110 = 4 * bitW h 2 + 2 * bitW h 1 + bitW h 0 := by
  rw [wh_eq h h0 h1, fl_9_110, hv_eq _ 0 (by simp only [List.forall_mem_cons, bitW_bd h _ h0, List.not_mem_nil, false_implies, implies_true, and_self]) (by decide) (by simp only [List.length_cons, List.length_nil]; decide)]
  simp only [hn]
  omega
theorem fw_9_111 (h : Int) (h0 : 0 ≤ h) (h1 : h < 65536) : fld pt9 (wh h) 111 = 8 * bitW h 9 + 4 * bitW h 8 + 2 * bitW h 7 + bitW h 6 := by
  rw [wh_eq h h0 h1, fl_9_111, hv_eq _ 0 (by simp only [List.forall_mem_cons, bitW_bd h _ h0, List.not_mem_nil, false_implies, implies_true, and_self]) (by decide) (by simp only [List.length_cons, List.length_nil]; decide)]
  simp only [hn]
  omega
theorem fw_9_116 (h : Int) (h0 : 0 ≤ h) (h1 : h < 65536) : fld pt9 (wh h) 116 = 0 := by
  rw [wh_eq h h0 h1, fl_9_116, hv_eq _ 0 (by simp only [List.forall_mem_cons, bitW_bd h _ h0, List.not_mem_nil, false_implies, implies_true, and_self]) (by decide) (by simp only [List.length_cons, List.length_nil]; decide)]
  simp only [hn]
theorem fw_10_79 (h : Int) (h0 : 0 ≤ h) (h1 : h < 65536) : fld pt10 (wh h) 79 = 0 := by
  rw [wh_eq h h0 h1, fl_10_79, hv_eq _ 0 (by simp only [List.forall_mem_cons, bitW_bd h _ h0, List.not_mem_nil, false_implies, implies_true, and_self]) (by decide) (by simp only [List.length_cons, List.length_nil]; decide)]
  simp only [hn]
theorem fw_10_100 (h : Int) (h0 : 0 ≤ h) (h1 : h < 65536) : fld pt10 (wh h) 100 = 4 * bitW h 2 + 2 * bitW h 1 + bitW h 0 := by
  rw [wh_eq h h0 h1, fl_10_100, hv_eq _ 0 (by simp only [List.forall_mem_cons, bitW_bd h _ h0, List.not_mem_nil, false_implies, implies_true, and_self]) (by decide) (by simp only [List.length_cons, List.length_nil]; decide)]
  simp only [hn]
  omega
theorem fw_10_105 (h : Int) (h0 : 0 ≤ h) (h1 : h < 65536) : fld pt10 (wh h) 105 = 0 := by
  rw [wh_eq h h0 h1, fl_10_105, hv_eq _ 0 (by simp only [List.forall_mem_cons, bitW_bd h _ h0, List.not_mem_nil, false_implies, implies_true, and_self]) (by decide) (by simp only [List.length_cons, List.length_nil]; decide)]
  simp only [hn]
theorem fw_10_108 (h : Int) (h0 : 0 ≤ h) (h1 : h < 65536) : fld pt10 (wh h) 108 = 0 := by
  rw [wh_eq h h0 h1, fl_10_108, hv_eq _ 0 (by simp only [List.forall_mem_cons, bitW_bd h _ h0, List.not_mem_nil, false_implies, implies_true, and_self]) (by decide) (by simp only [List.length_cons, List.length_nil]; decide)]
  simp only [hn]
theorem fw_10_110 (h : Int) (h0 : 0 ≤ h) (h1 : h < 65536) : fld pt10 (wh h) 110 = 4 * bitW h 5 + 2 * bitW h 4 + bitW h 3 := by
  rw [wh_eq h h0 h1, fl_10_110, hv_eq _ 0 (by simp only [List.forall_mem_cons, bitW_bd h _ h0, List.not_mem_nil, false_implies, implies_true, and_self]) (by decide) (by simp only [List.length_cons, List.length_nil]; decide)]
  simp only [hn]
  omega
theorem fw_10_111 (h : Int) (h0 : 0 ≤ h) (h1 : h < 65536) : fld pt10 (wh h) 111 = 8 * bitW h 9 + 4 * bitW h 8 + 2 * bitW h 7 + bitW h 6 := by
  rw [wh_eq h h0 h1, fl_10_111, hv_eq _ 0 (by simp only [List.forall_mem_cons, bitW_bd h _ h0, List.not_mem_nil, false_implies, implies_true, and_self]) (by decide) (by simp only [List.length_cons, List.length_nil]; decide)]
  simp only [hn]
  omega
theorem fw_10_116 (h : Int) (h0 : 0 ≤ h) (h1 : h < 65536) : fld pt10 (wh h) 116 = 0 := by
  rw [wh_eq h h0 h1, fl_10_116, hv_eq _ 0 (by simp only [List.forall_mem_cons, bitW_bd h _ h0, List.not_mem_nil, false_implies, implies_true, and_self]) (by decide) (by simp only [List.length_cons, List.length_nil]; decide)]
  simp only [hn]
theorem fw_11_79 (h : Int) (h0 : 0 ≤ h) (h1 : h < 65536) : fld pt11 (wh h) 79 = 0 := by
  rw [wh_eq h h0 h1, fl_11_79, hv_eq _ 0 (by simp only [List.forall_mem_cons, bitW_bd h _ h0, List.not_mem_nil, false_implies, implies_true, and_self]) (by decide) (by simp only [List.length_cons, List.length_nil]; decide)]
  simp only [hn]
theorem fw_11_100 (h : Int) (h0 : 0 ≤ h) (h1 : h < 65536) : fld pt11 (wh h) 100 = 8 * bitW h 7 + 4 * bitW h 2 + 2 * bitW h 1 + bitW h 0 := by
  rw [wh_eq h h0 h1, fl_11_100, hv_eq _ 0 (by simp only [List.forall_mem_cons, bitW_bd h _ h0, List.not_mem_nil, false_implies, implies_true, and_self]) (by decide) (by simp only [List.length_cons, List.length_nil]; decide)]
  simp only [hn]
  omega
theorem fw_11_105 (h : Int) (h0 : 0 ≤ h) (h1 : h < 65536) : fld pt11 (wh h) 105 = 0 := by
  rw [wh_eq h h0 h1, fl_11_105, hv_eq _ 0 (by simp only [List.forall_mem_cons, bitW_bd h _ h0, List.not_mem_nil, false_implies, implies_true, and_self]) (by decide) (by simp only [List.length_cons, List.length_nil]; decide)]
  simp only [hn]
theorem fw_11_108 (h : Int) (h0 : 0 ≤ h) (h1 : h < 65536) : fld pt11 (wh h) 108 = 0 := by
  rw [wh_eq h h0 h1, fl_11_108, hv_eq _ 0 (by simp only [List.forall_mem_cons, bitW_bd h _ h0, List.not_mem_nil, false_implies, implies_true, and_self]) (by decide) (by simp only [List.length_cons, List.length_nil]; decide)]
  simp only [hn]
theorem fw_11_109 (h : Int) (h0 : 0 ≤ h) (h1 : h < 65536) : fld pt11 (wh h) 109 = 8 * bitW h 6 + 4 * bitW h 5 + 2 * bitW h 4 + bitW h 3 := by
  rw [wh_eq h h0 h1, fl_11_109, hv_eq _ 0 (by simp only [List.forall_mem_cons, bitW_bd h _ h0, List.not_mem_nil, false_implies, implies_true, and_self]) (by decide) (by simp only [List.length_cons, List.length_nil]; decide)]
  simp only [hn]
  omega
theorem fw_11_116 (h : Int) (h0 : 0 ≤ h) (h1 : h < 65536) : fld pt11 (wh h) 116 = 0 := by
  rw [wh_eq h h0 h1, fl_11_116, hv_eq _ 0 (by simp only [List.forall_mem_cons, bitW_bd h _ h0, List.not_mem_nil, false_implies, implies_true, and_self]) (by decide) (by simp only [List.length_cons, List.length_nil]; decide)]
  simp only [hn]
theorem fw_12_79 (h : Int) (h0 : 0 ≤ h) (h1 : h < 65536) : fld pt12 (wh h) 79 = 0 := by
  rw [wh_eq h h0 h1, fl_12_79, hv_eq _ 0 (by simp only [List.forall_mem_cons, bitW_bd h _ h0, List.not_mem_nil, false_implies, implies_true, and_self]) (by decide) (by simp only [List.length_cons, List.length_nil]; decide)]
  simp only [hn]
theorem fw_12_105 (h : Int) (h0 : 0 ≤ h) (h1 : h < 65536) : fld pt12 (wh h) 105 = 0 := by
  rw [wh_eq h h0 h1, fl_12_105, hv_eq _ 0 (by simp only [List.forall_mem_cons, bitW_bd h _ h0, List.not_mem_nil, false_implies, implies_true, and_self]) (by decide) (by simp only [List.length_cons, List.length_nil]; decide)]
  simp only [hn]
theorem fw_12_108 (h : Int) (h0 : 0 ≤ h) (h1 : h < 65536) : fld pt12 (wh h) 108 = 0 := by
  rw [wh_eq h h0 h1, fl_12_108, hv_eq _ 0 (by simp only [List.forall_mem_cons, bitW_bd h _ h0, List.not_mem_nil, false_implies, implies_true, and_self]) (by decide) (by simp only [List.length_cons, List.length_nil]; decide)]
  simp only [hn]
theorem fw_12_109 (h : Int) (h0 : 0 ≤ h) (h1 : h < 65536) : fld pt12 (wh h) 109 = 8 * bitW h 6 + 4 * bitW h 5 + 2 * bitW h 4 + bitW h 3 := by
  rw [wh_eq h h0 h1, fl_12_109, hv_eq _ 0 (by simp only [List.forall_mem_cons, bitW_bd h _ h0, List.not_mem_nil, false_implies, implies_true, and_self]) (by decide) (by simp only [List.length_cons, List.length_nil]; decide)]
  simp only [hn]
  omega
theorem fw_12_110 (h : Int) (h0 : 0 ≤ h) (h1 : h < 65536) : fld pt12 (wh h) 110 = 8 * bitW h 7 + 4 * bitW h 2 + 2 * bitW h 1 + bitW h 0 := by
  rw [wh_eq h h0 h1, fl_12_110, hv_eq _ 0 (by simp only [List.forall_mem_cons, bitW_bd h _ h0, List.not_mem_nil, false_implies, implies_true, and_self]) (by decide) (by simp only [List.length_cons, List.length_nil]; decide)]
  simp only [hn]
  omega
theorem fw_12_116 (h : Int) (h0 : 0 ≤ h) (h1 : h < 65536) : fld pt12 (wh h) 116 = 0 := by
  rw [wh_eq h h0 h1, fl_12_116, hv_eq _ 0 (by simp only [List.forall_mem_cons, bitW_bd h _ h0, List.not_mem_nil, false_implies, implies_true, and_self]) (by decide) (by simp only [List.length_cons, List.length_nil]; decide)]
  simp only [hn]
theorem fw_13_79 (h : Int) (h0 : 0 ≤ h) (h1 : h < 65536) : fld pt13 (wh h) 79 = 0 := by
  rw [wh_eq h h0 h1, fl_13_79, hv_eq _ 0 (by simp only [List.forall_mem_cons, bitW_bd h _ h0, List.not_mem_nil, false_implies, implies_true, and_self]) (by decide) (by simp only [List.length_cons, List.length_nil]; decide)]
  simp only [hn]
theorem fw_13_100 (h : Int) (h0 : 0 ≤ h) (h1 : h < 65536) : fld pt13 (wh h) 100 = 8 * bitW h 7 + 4 * bitW h 2 + 2 * bitW h 1 + bitW h 0 := by
  rw [wh_eq h h0 h1, fl_13_100, hv_eq _ 0 (by simp only [List.forall_mem_cons, bitW_bd h _ h0, List.not_mem_nil, false_implies, implies_true, and_self]) (by decide) (by simp only [List.length_cons, List.length_nil]; decide)]
  simp only [hn]
  omega
theorem fw_13_105 (h : Int) (h0 : 0 ≤ h) (h1 : h < 65536) : fld pt13 (wh h) 105 = 0 := by
  rw [wh_eq h h0 h1, fl_13_105, hv_eq _ 0 (by simp only [List.forall_mem_cons, bitW_bd h _ h0, List.not_mem_nil, false_implies, implies_true, and_self]) (by decide) (by simp only [List.length_cons, List.length_nil]; decide)]
  simp only [hn]
theorem fw_13_108 (h : Int) (h0 : 0 ≤ h) (h1 : h < 65536) : fld pt13 (wh h) 108 = 0 := by
  rw [wh_eq h h0 h1, fl_13_108, hv_eq _ 0 (by simp only [List.forall_mem_cons, bitW_bd h _ h0, List.not_mem_nil, false_implies, implies_true, and_self]) (by decide) (by simp only [List.length_cons, List.length_nil]; decide)]
  simp only [hn]
theorem fw_13_109 (h : Int) (h0 : 0 ≤ h) (h1 : h < 65536) : fld pt13 (wh h) 109 = 8 * bitW h 6 + 4 * bitW h 5 + 2 * bitW h 4 + bitW h 3 := by
  rw [wh_eq h h0 h1, fl_13_109, hv_eq _ 0 (by simp only [List.forall_mem_cons, bitW_bd h _ h0, List.not_mem_nil, false_implies, implies_true, and_self]) (by decide) (by simp only [List.length_cons, List.length_nil]; decide)]
  simp only [hn]
  omega
theorem fw_13_116 (h : Int) (h0 : 0 ≤ h) (h1 : h < 65536) : fld pt13 (wh h) 116 = 0 := by
  rw [wh_eq h h0 h1, fl_13_116, hv_eq _ 0 (by simp only [List.forall_mem_cons, bitW_bd h _ h0, List.not_mem_nil, false_implies, implies_true, and_self]) (by decide) (by simp only [List.length_cons, List.length_nil]; decide)]
  simp only [hn]
theorem fw_14_79 (h : Int) (h0 : 0 ≤ h) (h1 : h < 65536) : fld pt14 (wh h) 79 = 0 := by
  rw [wh_eq h h0 h1, fl_14_79, hv_eq _ 0 (by simp only [List.forall_mem_cons, bitW_bd h _ h0, List.not_mem_nil, false_implies, implies_true, and_self]) (by decide) (by simp only [List.length_cons, List.length_nil]; decide)]
  simp only [hn]
theorem fw_14_105 (h : Int) (h0 : 0 ≤ h) (h1 : h < 65536) : fld pt14 (wh h) 105 = 0 := by
  rw [wh_eq h h0 h1, fl_14_105, hv_eq _ 0 (by simp only [List.forall_mem_cons, bitW_bd h _ h0, List.not_mem_nil, false_implies, implies_true, and_self]) (by decide) (by simp only [List.length_cons, List.length_nil]; decide)]
  simp only [hn]
theorem fw_14_108 (h : Int) (h0 : 0 ≤ h) (h1 : h < 65536) : fld pt14 (wh h) 108 = 0 := by
  rw [wh_eq h h0 h1, fl_14_108, hv_eq _ 0 (by simp only [List.forall_mem_cons, bitW_bd h _ h0, List.not_mem_nil, false_implies, implies_true, and_self]) (by decide) (by simp only [List.length_cons, List.length_nil]; decide)]
  simp only [hn]
theorem fw_14_109 (h : Int) (h0 : 0 ≤ h) (h1 : h < 65536) : fld pt14 (wh h) 109 = 8 * bitW h 6 + 4 * bitW h 5 + 2 * bitW h 4 + bitW h 3 := by
  rw [wh_eq h h0 h1, fl_14_109, hv_eq _ 0 (by simp only [List.forall_mem_cons, bitW_bd h _ h0, List.not_mem_nil, false_implies, implies_true, and_self]) (by decide) (by simp only [List.length_cons, List.length_nil]; decide)]
  simp only [hn]
  omega
theorem fw_14_116 (h : Int) (h0 : 0 ≤ h) (h1 : h < 65536) : fld pt14 (wh h) 116 = 0 := by
  rw [wh_eq h h0 h1, fl_14_116, hv_eq _ 0 (by simp only [List.forall_mem_cons, bitW_bd h _ h0, List.not_mem_nil, false_implies, implies_true, and_self]) (by decide) (by simp only [List.length_cons, List.length_nil]; decide)]
  simp only [hn]
theorem fw_15_79 (h : Int) (h0 : 0 ≤ h) (h1 : h < 65536) : fld pt15 (wh h) 79 = 0 := by
  rw [wh_eq h h0 h1, fl_15_79, hv_eq _ 0 (by simp only [List.forall_mem_cons, bitW_bd h _ h0, List.not_mem_nil, false_implies, implies_true, and_self]) (by decide) (by simp only [List.length_cons, List.length_nil]; decide)]
  simp only [hn]
theorem fw_15_100 (h : Int) (h0 : 0 ≤ h) (h1 : h < 65536) : fld pt15 (wh h) 100 = 4 * bitW h 10 + 2 * bitW h 9 + bitW h 8 := by
  rw [wh_eq h h0 h1, fl_15_100, hv_eq _ 0 (by simp only [List.forall_mem_cons, bitW_bd h _ h0, List.not_mem_nil, false_implies, implies_true, and_self]) (by decide) (by simp only [List.length_cons, List.length_nil]; decide)]
  simp only [hn]
  omega
theorem fw_15_105 (h : Int) (h0 : 0 ≤ h) (h1 : h < 65536) : fld pt15 (wh h) 105 = 128 * bitW h 7 + 64 * bitW h 6 + 32 * bitW h 5 + 16 * bitW h 4 + 8 * bitW h 3 + 4 * bitW h 2 + 2 * bitW h 1 + bitW h 0 := by
  rw [wh_eq h h0 h1, fl_15_105, hv_eq _ 0 (by simp only [List.forall_mem_cons, bitW_bd h _ h0, List.not_mem_nil, false_implies, implies_true, and_self]) (by decide) (by simp only [List.length_cons, List.length_nil]; decide)]
  simp only [hn]
  omega
theorem fw_15_108 (h : Int) (h0 : 0 ≤ h) (h1 : h < 65536) : fld pt15 (wh h) 108 = 0 := by
  rw [wh_eq h h0 h1, fl_15_108, hv_eq _ 0 (by simp only [List.forall_mem_cons, bitW_bd h _ h0, List.not_mem_nil, false_implies, implies_true, and_self]) (by decide) (by simp only [List.length_cons, List.length_nil]; decide)]
  simp only [hn]
theorem fw_15_116 (h : Int) (h0 : 0 ≤ h) (h1 : h < 65536) : fld pt15 (wh h) 116 = 0 := by
  rw [wh_eq h h0 h1, fl_15_116, hv_eq _ 0 (by simp only [List.forall_mem_cons, bitW_bd h _ h0, List.not_mem_nil, false_implies, implies_true, and_self]) (by decide) (by simp only [List.length_cons, List.length_nil]; decide)]
  simp only [hn]
theorem fw_16_66 (h : Int) (h0 : 0 ≤ h) (h1 : h < 65536) : fld pt16 (wh h) 66 = bitW h 10 := by
  rw [wh_eq h h0 h1, fl_16_66, hv_eq _ 0 (by simp only [List.forall_mem_cons, bitW_bd h _ h0, List.not_mem_nil, false_implies, implies_true, and_self]) (by decide) (by simp only [List.length_cons, List.length_nil]; decide)]
  simp only [hn]
  omega
theorem fw_16_76 (h : Int) (h0 : 0 ≤ h) (h1 : h < 65536) : fld pt16 (wh h) 76 = bitW h 11 := by
  rw [wh_eq h h0 h1, fl_16_76, hv_eq _ 0 (by simp only [List.forall_mem_cons, bitW_bd h _ h0, List.not_mem_nil, false_implies, implies_true, and_self]) (by decide) (by simp only [List.length_cons, List.length_nil]; decide)]
  simp only [hn]
  omega
theorem fw_16_79 (h : Int) (h0 : 0 ≤ h) (h1 : h < 65536) : fld pt16 (wh h) 79 = 0 := by
  rw [wh_eq h h0 h1, fl_16_79, hv_eq _ 0 (by simp only [List.forall_mem_cons, bitW_bd h _ h0, List.not_mem_nil, false_implies, implies_true, and_self]) (by decide) (by simp only [List.length_cons, List.length_nil]; decide)]
  simp only [hn]
theorem fw_16_100 (h : Int) (h0 : 0 ≤ h) (h1 : h < 65536) : fld pt16 (wh h) 100 = 4 * bitW h 2 + 2 * bitW h 1 + bitW h 0 := by
  rw [wh_eq h h0 h1, fl_16_100, hv_eq _ 0 (by simp only [List.forall_mem_cons, bitW_bd h _ h0, List.not_mem_nil, false_implies, implies_true, and_self]) (by decide) (by simp only [List.length_cons, List.length_nil]; decide)]
  simp only [hn]
  omega
theorem fw_16_105 (h : Int) (h0 : 0 ≤ h) (h1 : h < 65536) : fld pt16 (wh h) 105 = 0 := by
  rw [wh_eq h h0 h1, fl_16_105, hv_eq _ 0 (by simp only [List.forall_mem_cons, bitW_bd h _ h0, List.not_mem_nil, false_implies, implies_true, and_self]) (by decide) (by simp only [List.length_cons, List.length_nil]; decide)]
  simp only [hn]
theorem fw_16_108 (h : Int) (h0 : 0 ≤ h) (h1 : h < 65536) : fld pt16 (wh h) 108 = 0 := by
  rw [wh_eq h h0 h1, fl_16_108, hv_eq _ 0 (by simp only [List.forall_mem_cons, bitW_bd h _ h0, List.not_mem_nil, false_implies, implies_true, and_self]) (by decide) (by simp only [List.length_cons, List.length_nil]; decide)]
  simp only [hn]
theorem fw_16_109 (h : Int) (h0 : 0 ≤ h) (h1 : h < 65536) : fld pt16 (wh h) 109 = 4 * bitW h 8 + 2 * bitW h 7 + bitW h 6 := by
  rw [wh_eq h h0 h1, fl_16_109, hv_eq _ 0 (by simp only [List.forall_mem_cons, bitW_bd h _ h0, List.not_mem_nil, false_implies, implies_true, and_self]) (by decide) (by simp only [List.length_cons, List.length_nil]; decide)]
  simp only [hn]
  omega
theorem fw_16_110 (h : Int) (h0 : 0 ≤ h) (h1 : h < 65536) : fld pt16 (wh h) 110 = 4 * bitW h 5 + 2 * bitW h 4 + bitW h 3 := by
  rw [wh_eq h h0 h1, fl_16_110, hv_eq _ 0 (by simp only [List.forall_mem_cons, bitW_bd h _ h0, List.not_mem_nil, false_implies, implies_true, and_self]) (by decide) (by simp only [List.length_cons, List.length_nil]; decide)]
  simp only [hn]
  omega
theorem fw_16_116 (h : Int) (h0 : 0 ≤ h) (h1 : h < 65536) : fld pt16 (wh h) 116 = 0 := by
  rw [wh_eq h h0 h1, fl_16_116, hv_eq _ 0 (by simp only [List.forall_mem_cons, bitW_bd h _ h0, List.not_mem_nil, false_implies, implies_true, and_self]) (by decide) (by simp only [List.length_cons, List.length_nil]; decide)]
  simp only [hn]
theorem fw_17_72 (h : Int) (h0 : 0 ≤ h) (h1 : h < 65536) : fld pt17 (wh h) 72 = 2 * bitW h 11 + bitW h 10 := by
  rw [wh_eq h h0 h1, fl_17_72, hv_eq _ 0 (by simp only [List.forall_mem_cons, bitW_bd h _ h0, List.not_mem_nil, false_implies, implies_true, and_self]) (by decide) (by simp only [List.length_cons, List.length_nil]; decide)]
  simp only [hn]
  omega
theorem fw_17_79 (h : Int) (h0 : 0 ≤ h) (h1 : h < 65536) : fld pt17 (wh h) 79 = 0 := by
  rw [wh_eq h h0 h1, fl_17_79, hv_eq _ 0 (by simp only [List.forall_mem_cons, bitW_bd h _ h0, List.not_mem_nil, false_implies, implies_true, and_self]) (by decide) (by simp only [List.length_cons, List.length_nil]; decide)]
  simp only [hn]
theorem fw_17_100 (h : Int) (h0 : 0 ≤ h) (h1 : h < 65536) : fld pt17 (wh h) 100 = 4 * bitW h 2 + 2 * bitW h 1 + bitW h 0 := by
  rw [wh_eq h h0 h1, fl_17_100, hv_eq _ 0 (by simp only [List.forall_mem_cons, bitW_bd h _ h0, List.not_mem_nil, false_implies, implies_true, and_self]) (by decide) (by simp only [List.length_cons, List.length_nil]; decide)]
  simp only [hn]
  omega
theorem fw_17_105 (h : Int) (h0 : 0 ≤ h) (h1 : h < 65536) : fld pt17 (wh h) 105 = 0 := by
  rw [wh_eq h h0 h1, fl_17_105, hv_eq _ 0 (by simp only [List.forall_mem_cons, bitW_bd h _ h0, List.not_mem_nil, false_implies, implies_true, and_self]) (by decide) (by simp only [List.length_cons, List.length_nil]; decide)]
  simp only [hn]
theorem fw_17_108 (h : Int) (h0 : 0 ≤ h) (h1 : h < 65536) : fld pt17 (wh h) 108 = 0 := by
  rw [wh_eq h h0 h1, fl_17_108, hv_eq _ 0 (by simp only [List.forall_mem_cons, bitW_bd h _ h0, List.not_mem_nil, false_implies, implies_true, and_self]) (by decide) (by simp only [List.length_cons, List.length_nil]; decide)]
  simp only [hn]
theorem fw_17_109 (h : Int) (h0 : 0 ≤ h) (h1 : h < 65536) : fld pt17 (wh h) 109 = 4 * bitW h 8 + 2 * bitW h 7 + bitW h 6 := by
  rw [wh_eq h h0 h1, fl_17_109, hv_eq _ 0 (by simp only [List.forall_mem_cons, bitW_bd h _ h0, List.not_mem_nil, false_implies, implies_true, and_self]) (by decide) (by simp only [List.length_cons, List.length_nil]; decide)]
  simp only [hn]
  omega
theorem fw_17_110 (h : Int) (h0 : 0 ≤ h) (h1 : h < 65536) : fld pt17 (wh h) 110 = 4 * bitW h 5 + 2 * bitW h 4 + bitW h 3 := by
  rw [wh_eq h h0 h1, fl_17_110, hv_eq _ 0 (by simp only [List.forall_mem_cons, bitW_bd h _ h0, List.not_mem_nil, false_implies, implies_true, and_self]) (by decide) (by simp only [List.length_cons, List.length_nil]; decide)]
  simp only [hn]
  omega
theorem fw_17_116 (h : Int) (h0 : 0 ≤ h) (h1 : h < 65536) : fld pt17 (wh h) 116 = 0 := by
  rw [wh_eq h h0 h1, fl_17_116, hv_eq _ 0 (by simp only [List.forall_mem_cons, bitW_bd h _ h0, List.not_mem_nil, false_implies, implies_true, and_self]) (by decide) (by simp only [List.length_cons, List.length_nil]; decide)]
  simp only [hn]
theorem fw_18_76 (h : Int) (h0 : 0 ≤ h) (h1 : h < 65536) : fld pt18 (wh h) 76 = bitW h 11 := by
  rw [wh_eq h h0 h1, fl_18_76, hv_eq _ 0 (by simp only [List.forall_mem_cons, bitW_bd h _ h0, List.not_mem_nil, false_implies, implies_true, and_self]) (by decide) (by simp only [List.length_cons, List.length_nil]; decide)]
  simp only [hn]
  omega
theorem fw_18_79 (h : Int) (h0 : 0 ≤ h) (h1 : h < 65536) : fld pt18 (wh h) 79 = 0 := by
  rw [wh_eq h h0 h1, fl_18_79, hv_eq _ 0 (by simp only [List.forall_mem_cons, bitW_bd h _ h0, List.not_mem_nil, false_implies, implies_true, and_self]) (by decide) (by simp only [List.length_cons, List.length_nil]; decide)]
  simp only [hn]
theorem fw_18_100 (h : Int) (h0 : 0 ≤ h) (h1 : h < 65536) : fld pt18 (wh h) 100 = 4 * bitW h 2 + 2 * bitW h 1 + bitW h 0 := by
  rw [wh_eq h h0 h1, fl_18_100, hv_eq _ 0 (by simp only [List.forall_mem_cons, bitW_bd h _ h0, List.not_mem_nil, false_implies, implies_true, and_self]) (by decide) (by simp only [List.length_cons, List.length_nil]; decide)]
  simp only [hn]
  omega
theorem fw_18_105 (h : Int) (h0 : 0 ≤ h) (h1 : h < 65536) : fld pt18 (wh h) 105 = 16 * bitW h 10 + 8 * bitW h 9 + 4 * bitW h 8 + 2 * bitW h 7 + bitW h 6 := by
  rw [wh_eq h h0 h1, fl_18_105, hv_eq _ 0 (by simp only [List.forall_mem_cons, bitW_bd h _ h0, List.not_mem_nil, false_implies, implies_true, and_self]) (by decide) (by simp only [List.length_cons, List.length_nil]; decide)]
  simp only [hn]
  omega
theorem fw_18_108 (h : Int) (h0 : 0 ≤ h) (h1 : h < 65536) : fld pt18 (wh h) 108 = 0 := by
  rw [wh_eq h h0 h1, fl_18_108, hv_eq _ 0 (by simp only [List.forall_mem_cons, bitW_bd h _ h0, List.not_mem_nil, false_implies, implies_true, and_self]) (by decide) (by simp only [List.length_cons, List.length_nil]; decide)]
  simp only [hn]
theorem fw_18_110 (h : Int) (h0 : 0 ≤ h) (h1 : h < 65536) : fld pt18 (wh h) 110 = 4 * bitW h 5 + 2 * bitW h 4 + bitW h 3 := by
  rw [wh_eq h h0 h1, fl_18_110, hv_eq _ 0 (by simp only [List.forall_mem_cons, bitW_bd h _ h0, List.not_mem_nil, false_implies, implies_true, and_self]) (by decide) (by simp only [List.length_cons, List.length_nil]; decide)]
  simp only [hn]
  omega
theorem fw_18_116 (h : Int) (h0 : 0 ≤ h) (h1 : h < 65536) : fld pt18 (wh h) 116 = 0 := by
  rw [wh_eq h h0 h1, fl_18_116, hv_eq _ 0 (by simp only [List.forall_mem_cons, bitW_bd h _ h0, List.not_mem_nil, false_implies, implies_true, and_self]) (by decide) (by simp only [List.length_cons, List.length_nil]; decide)]
  simp only [hn]
theorem fw_19_76 (h : Int) (h0 : 0 ≤ h) (h1 : h < 65536) : fld pt19 (wh h) 76 = bitW h 11 := by
  rw [wh_eq h h0 h1, fl_19_76, hv_eq _ 0 (by simp only [List.forall_mem_cons, bitW_bd h _ h0, List.not_mem_nil, false_implies, implies_true, and_self]) (by decide) (by simp only [List.length_cons, List.length_nil]; decide)]
  simp only [hn]
  omega
theorem fw_19_79 (h : Int) (h0 : 0 ≤ h) (h1 : h < 65536) : fld pt19 (wh h) 79 = 0 := by
  rw [wh_eq h h0 h1, fl_19_79, hv_eq _ 0 (by simp only [List.forall_mem_cons, bitW_bd h _ h0, List.not_mem_nil, false_implies, implies_true, and_self]) (by decide) (by simp only [List.length_cons, List.length_nil]; decide)]
  simp only [hn]
theorem fw_19_100 (h : Int) (h0 : 0 ≤ h) (h1 : h < 65536) : fld pt19 (wh h) 100 = 4 * bitW h 2 + 2 * bitW h 1 + bitW h 0 := by
  rw [wh_eq h h0 h1, fl_19_100, hv_eq _ 0 (by simp only [List.forall_mem_cons, bitW_bd h _ h0, List.not_mem_nil, false_implies, implies_true, and_self]) (by decide) (by simp only [List.length_cons, List.length_nil]; decide)]
  simp only [hn]
  omega
theorem fw_19_105 (h : Int) (h0 : 0 ≤ h) (h1 : h < 65536) : fld pt19 (wh h) 105 = 16 * bitW h 10 + 8 * bitW h 9 + 4 * bitW h 8 + 2 * bitW h 7 + bitW h 6 := by
  rw [wh_eq h h0 h1, fl_19_105, hv_eq _ 0 (by simp only [List.forall_mem_cons, bitW_bd h _ h0, List.not_mem_nil, false_implies, implies_true, and_self]) (by decide) (by simp only [List.length_cons, List.length_nil]; decide)]
  simp only [hn]
  omega
theorem fw_19_108 (h : Int) (h0 : 0 ≤ h) (h1 : h < 65536) : fld pt19 (wh h) 108 = 0 := by
  rw [wh_eq h h0 h1, fl_19_108, hv_eq _ 0 (by simp only [List.forall_mem_cons, bitW_bd h _ h0, List.not_mem_nil, false_implies, implies_true, and_self]) (by decide) (by simp only [List.length_cons, List.length_nil]; decide)]
  simp only [hn]
theorem fw_19_110 (h : Int) (h0 : 0 ≤ h) (h1 : h < 65536) : fld pt19 (wh h) 110 = 4 * bitW h 5 + 2 * bitW h 4 + bitW h 3 := by
  rw [wh_eq h h0 h1, fl_19_110, hv_eq _ 0 (by simp only [List.forall_mem_cons, bitW_bd h _ h0, List.not_mem_nil, false_implies, implies_true, and_self]) (by decide) (by simp only [List.length_cons, List.length_nil]; decide)]
  simp only [hn]
  omega
theorem fw_19_116 (h : Int) (h0 : 0 ≤ h) (h1 : h < 65536) : fld pt19 (wh h) 116 = 0 := by
  rw [wh_eq h h0 h1, fl_19_116, hv_eq _ 0 (by simp only [List.forall_mem_cons, bitW_bd h _ h0, List.not_mem_nil, false_implies, implies_true, and_self]) (by decide) (by simp only [List.length_cons, List.length_nil]; decide)]
  simp only [hn]
theorem fw_20_76 (h : Int) (h0 : 0 ≤ h) (h1 : h < 65536) : fld pt20 (wh h) 76 = bitW h 11 := by
  rw [wh_eq h h0 h1, fl_20_76, hv_eq _ 0 (by simp only [List.forall_mem_cons, bitW_bd h _ h0, List.not_mem_nil, false_implies, implies_true, and_self]) (by decide) (by simp only [List.length_cons, List.length_nil]; decide)]
  simp only [hn]
  omega
theorem fw_20_79 (h : Int) (h0 : 0 ≤ h) (h1 : h < 65536) : fld pt20 (wh h) 79 = 0 := by
  rw [wh_eq h h0 h1, fl_20_79, hv_eq _ 0 (by simp only [List.forall_mem_cons, bitW_bd h _ h0, List.not_mem_nil, false_implies, implies_true, and_self]) (by decide) (by simp only [List.length_cons, List.length_nil]; decide)]
  simp only [hn]
theorem fw_20_100 (h : Int) (h0 : 0 ≤ h) (h1 : h < 65536) : fld pt20 (wh h) 100 = 4 * bitW h 2 + 2 * bitW h 1 + bitW h 0 := by
  rw [wh_eq h h0 h1, fl_20_100, hv_eq _ 0 (by simp only [List.forall_mem_cons, bitW_bd h _ h0, List.not_mem_nil, false_implies, implies_true, and_self]) (by decide) (by simp only [List.length_cons, List.length_nil]; decide)]
  simp only [hn]
  omega
theorem fw_20_105 (h : Int) (h0 : 0 ≤ h) (h1 : h < 65536) : fld pt20 (wh h) 105 = 16 * bitW h 10 + 8 * bitW h 9 + 4 * bitW h 8 + 2 * bitW h 7 + bitW h 6 := by
  rw [wh_eq h h0 h1, fl_20_105, hv_eq _ 0 (by simp only [List.forall_mem_cons, bitW_bd h _ h0, List.not_mem_nil, false_implies, implies_true, and_self]) (by decide) (by simp only [List.length_cons, List.length_nil]; decide)]
  simp only [hn]
  omega
theorem fw_20_108 (h : Int) (h0 : 0 ≤ h) (h1 : h < 65536) : fld pt20 (wh h) 108 = 0 := by
  rw [wh_eq h h0 h1, fl_20_108, hv_eq _ 0 (by simp only [List.forall_mem_cons, bitW_bd h _ h0, List.not_mem_nil, false_implies, implies_true, and_self]) (by decide) (by simp only [List.length_cons, List.length_nil]; decide)]
  simp only [hn]
theorem fw_20_110 (h : Int) (h0 : 0 ≤ h) (h1 : h < 65536) : fld pt20 (wh h) 110 = 4 * bitW h 5 + 2 * bitW h 4 + bitW h 3 := by
  rw [wh_eq h h0 h1, fl_20_110, hv_eq _ 0 (by simp only [List.forall_mem_cons, bitW_bd h _ h0, List.not_mem_nil, false_implies, implies_true, and_self]) (by decide) (by simp only [List.length_cons, List.length_nil]; decide)]
  simp only [hn]
  omega
theorem fw_20_116 (h : Int) (h0 : 0 ≤ h) (h1 : h < 65536) : fld pt20 (wh h) 116 = 0 := by
  rw [wh_eq h h0 h1, fl_20_116, hv_eq _ 0 (by simp only [List.forall_mem_cons, bitW_bd h _ h0, List.not_mem_nil, false_implies, implies_true, and_self]) (by decide) (by simp only [List.length_cons, List.length_nil]; decide)]
  simp only [hn]
theorem fw_21_76 (h : Int) (h0 : 0 ≤ h) (h1 : h < 65536) : fld pt21 (wh h) 76 = bitW h 11 := by
  rw [wh_eq h h0 h1, fl_21_76, hv_eq _ 0 (by simp only [List.forall_mem_cons, bitW_bd h _ h0, List.not_mem_nil, false_implies, implies_true, and_self]) (by decide) (by simp only [List.length_cons, List.length_nil]; decide)]
  simp only [hn]
  omega
theorem fw_21_79 (h : Int) (h0 : 0 ≤ h) (h1 : h < 65536) : fld pt21 (wh h) 79 = 0 := by
  rw [wh_eq h h0 h1, fl_21_79, hv_eq _ 0 (by simp only [List.forall_mem_cons, bitW_bd h _ h0, List.not_mem_nil, false_implies, implies_true, and_self]) (by decide) (by simp only [List.length_cons, List.length_nil]; decide)]
  simp only [hn]
theorem fw_21_100 (h : Int) (h0 : 0 ≤ h) (h1 : h < 65536) : fld pt21 (wh h) 100 = 4 * bitW h 10 + 2 * bitW h 9 + bitW h 8 := by
  rw [wh_eq h h0 h1, fl_21_100, hv_eq _ 0 (by simp only [List.forall_mem_cons, bitW_bd h _ h0, List.not_mem_nil, false_implies, implies_true, and_self]) (by decide) (by simp only [List.length_cons, List.length_nil]; decide)]
  simp only [hn]
  omega
theorem fw_21_105 (h : Int) (h0 : 0 ≤ h) (h1 : h < 65536) : fld pt21 (wh h) 105 = 128 * bitW h 7 + 64 * bitW h 6 + 32 * bitW h 5 + 16 * bitW h 4 + 8 * bitW h 3 + 4 * bitW h 2 + 2 * bitW h 1 + bitW h 0 := by
  rw [wh_eq h h0 h1, fl_21_105, hv_eq _ 0 (by simp only [List.forall_mem_cons, bitW_bd h _ h0, List.not_mem_nil, false_implies, implies_true, and_self]) (by decide) (by simp only [List.length_cons, List.length_nil]; decide)]
  simp only [hn]
  omega
theorem fw_21_108 (h : Int) (h0 : 0 ≤ h) (h1 : h < 65536) : fld pt21 (wh h) 108 = 0 := by
  rw [wh_eq h h0 h1, fl_21_108, hv_eq _ 0 (by simp only [List.forall_mem_cons, bitW_bd h _ h0, List.not_mem_nil, false_implies, implies_true, and_self]) (by decide) (by simp only [List.length_cons, List.length_nil]; decide)]
  simp only [hn]
theorem fw_21_116 (h : Int) (h0 : 0 ≤ h) (h1 : h < 65536) : fld pt21 (wh h) 116 = 0 := by
  rw [wh_eq h h0 h1, fl_21_116, hv_eq _ 0 (by simp only [List.forall_mem_cons, bitW_bd h _ h0, List.not_mem_nil, false_implies, implies_true, and_self]) (by decide) (by simp only [List.length_cons, List.length_nil]; decide)]
  simp only [hn]
theorem fw_22_79 (h : Int) (h0 : 0 ≤ h) (h1 : h < 65536) : fld pt22 (wh h) 79 = 0 := by
  rw [wh_eq h h0 h1, fl_22_79, hv_eq _ 0 (by simp only [List.forall_mem_cons, bitW_bd h _ h0, List.not_mem_nil, false_implies, implies_true, and_self]) (by decide) (by simp only [List.length_cons, List.length_nil]; decide)]
  simp only [hn]
theorem fw_22_100 (h : Int) (h0 : 0 ≤ h) (h1 : h < 65536) : fld pt22 (wh h) 100 = 4 * bitW h 10 + 2 * bitW h 9 + bitW h 8 := by
  rw [wh_eq h h0 h1, fl_22_100, hv_eq _ 0 (by simp only [List.forall_mem_cons, bitW_bd h _ h0, List.not_mem_nil, false_implies, implies_true, and_self]) (by decide) (by simp only [List.length_cons, List.length_nil]; decide)]
  simp only [hn]
  omega
theorem fw_22_105 (h : Int) (h0 : 0 ≤ h) (h1 : h < 65536) : fld pt22 (wh h) 105 = 128 * bitW h 7 + 64 * bitW h 6 + 32 * bitW h 5 + 16 * bitW h 4 + 8 * bitW h 3 + 4 * bitW h 2 + 2 * bitW h 1 + bitW h 0 := by
  rw [wh_eq h h0 h1, fl_22_105, hv_eq _ 0 (by simp only [List.forall_mem_cons, bitW_bd h _ h0, List.not_mem_nil, false_implies, implies_true, and_self]) (by decide) (by simp only [List.length_cons, List.length_nil]; decide)]
  simp only [hn]
  omega
theorem fw_22_108 (h : Int) (h0 : 0 ≤ h) (h1 : h < 65536) : fld pt22 (wh h) 108 = 0 := by
  rw [wh_eq h h0 h1, fl_22_108, hv_eq _ 0 (by simp only [List.forall_mem_cons, bitW_bd h _ h0, List.not_mem_nil, false_implies, implies_true, and_self]) (by decide) (by simp only [List.length_cons, List.length_nil]; decide)]
  simp only [hn]
theorem fw_22_116 (h : Int) (h0 : 0 ≤ h) (h1 : h < 65536) : fld pt22 (wh h) 116 = 0 := by
  rw [wh_eq h h0 h1, fl_22_116, hv_eq _ 0 (by simp only [List.forall_mem_cons, bitW_bd h _ h0, List.not_mem_nil, false_implies, implies_true, and_self]) (by decide) (by simp only [List.length_cons, List.length_nil]; decide)]
  simp only [hn]
theorem fw_23_79 (h : Int) (h0 : 0 ≤ h) (h1 : h < 65536) : fld pt23 (wh h) 79 = 0 := by
  rw [wh_eq h h0 h1, fl_23_79, hv_eq _ 0 (by simp only [List.forall_mem_cons, bitW_bd h _ h0, List.not_mem_nil, false_implies, implies_true, and_self]) (by decide) (by simp only [List.length_cons, List.length_nil]; decide)]
  simp only [hn]
theorem fw_23_100 (h : Int) (h0 : 0 ≤ h) (h1 : h < 65536) : fld pt23 (wh h) 100 = 4 * bitW h 10 + 2 * bitW h 9 + bitW h 8 := by
  rw [wh_eq h h0 h1, fl_23_100, hv_eq _ 0 (by simp only [List.forall_mem_cons, bitW_bd h _ h0, List.not_mem_nil, false_implies, implies_true, and_self]) (by decide) (by simp only [List.length_cons, List.length_nil]; decide)]
  simp only [hn]
  omega
theorem fw_23_105 (h : Int) (h0 : 0 ≤ h) (h1 : h < 65536) : fld pt23 (wh h) 105 = 128 * bitW h 7 + 64 * bitW h 6 + 32 * bitW h 5 + 16 * bitW h 4 + 8 * bitW h 3 + 4 * bitW h 2 + 2 * bitW h 1 + bitW h 0 := by
  rw [wh_eq h h0 h1, fl_23_105, hv_eq _ 0 (by simp only [List.forall_mem_cons, bitW_bd h _ h0, List.not_mem_nil, false_implies, implies_true, and_self]) (by decide) (by simp only [List.length_cons, List.length_nil]; decide)]
  simp only [hn]
  omega
theorem fw_23_108 (h : Int) (h0 : 0 ≤ h) (h1 : h < 65536) : fld pt23 (wh h) 108 = 0 := by
  rw [wh_eq h h0 h1, fl_23_108, hv_eq _ 0 (by simp only [List.forall_mem_cons, bitW_bd h _ h0, List.not_mem_nil, false_implies, implies_true, and_self]) (by decide) (by simp only [List.length_cons, List.length_nil]; decide)]
  simp only [hn]
theorem fw_23_116 (h : Int) (h0 : 0 ≤ h) (h1 : h < 65536) : fld pt23 (wh h) 116 = 0 := by
  rw [wh_eq h h0 h1, fl_23_116, hv_eq _ 0 (by simp only [List.forall_mem_cons, bitW_bd h _ h0, List.not_mem_nil, false_implies, implies_true, and_self]) (by decide) (by simp only [List.length_cons, List.length_nil]; decide)]
  simp only [hn]
theorem fw_24_79 (h : Int) (h0 : 0 ≤ h) (h1 : h < 65536) : fld pt24 (wh h) 79 = bitW h 7 := by
  rw [wh_eq h h0 h1, fl_24_79, hv_eq _ 0 (by simp only [List.forall_mem_cons, bitW_bd h _ h0, List.not_mem_nil, false_implies, implies_true, and_self]) (by decide) (by simp only [List.length_cons, List.length_nil]; decide)]
  simp only [hn]
  omega
theorem fw_24_105 (h : Int) (h0 : 0 ≤ h) (h1 : h < 65536) : fld pt24 (wh h) 105 = 64 * bitW h 6 + 32 * bitW h 5 + 16 * bitW h 4 + 8 * bitW h 3 + 4 * bitW h 2 + 2 * bitW h 1 + bitW h 0 := by
  rw [wh_eq h h0 h1, fl_24_105, hv_eq _ 0 (by simp only [List.forall_mem_cons, bitW_bd h _ h0, List.not_mem_nil, false_implies, implies_true, and_self]) (by decide) (by simp only [List.length_cons, List.length_nil]; decide)]
  simp only [hn]
  omega
theorem fw_24_108 (h : Int) (h0 : 0 ≤ h) (h1 : h < 65536) : fld pt24 (wh h) 108 = 0 := by
  rw [wh_eq h h0 h1, fl_24_108, hv_eq _ 0 (by simp only [List.forall_mem_cons, bitW_bd h _ h0, List.not_mem_nil, false_implies, implies_true, and_self]) (by decide) (by simp only [List.length_cons, List.length_nil]; decide)]
  simp only [hn]
theorem fw_24_116 (h : Int) (h0 : 0 ≤ h) (h1 : h < 65536) : fld pt24 (wh h) 116 = 0 := by
  rw [wh_eq h h0 h1, fl_24_116, hv_eq _ 0 (by simp only [List.forall_mem_cons, bitW_bd h _ h0, List.not_mem_nil, false_implies, implies_true, and_self]) (by decide) (by simp only [List.length_cons, List.length_nil]; decide)]
  simp only [hn]
theorem fw_25_79 (h : Int) (h0 : 0 ≤ h) (h1 : h < 65536) : fld pt25 (wh h) 79 = 0 := by
  rw [wh_eq h h0 h1, fl_25_79, hv_eq _ 0 (by simp only [List.forall_mem_cons, bitW_bd h _ h0, List.not_mem_nil, false_implies, implies_true, and_self]) (by decide) (by simp only [List.length_cons, List.length_nil]; decide)]
  simp only [hn]
theorem fw_25_105 (h : Int) (h0 : 0 ≤ h) (h1 : h < 65536) : fld pt25 (wh h) 105 = 0 := by
  rw [wh_eq h h0 h1, fl_25_105, hv_eq _ 0 (by simp only [List.forall_mem_cons, bitW_bd h _ h0, List.not_mem_nil, false_implies, implies_true, and_self]) (by decide) (by simp only [List.length_cons, List.length_nil]; decide)]
  simp only [hn]
theorem fw_25_108 (h : Int) (h0 : 0 ≤ h) (h1 : h < 65536) : fld pt25 (wh h) 108 = 128 * bitW h 7 + 64 * bitW h 6 + 32 * bitW h 5 + 16 * bitW h 4 + 8 * bitW h 3 + 4 * bitW h 2 + 2 * bitW h 1 + bitW h 0 := by
  rw [wh_eq h h0 h1, fl_25_108, hv_eq _ 0 (by simp only [List.forall_mem_cons, bitW_bd h _ h0, List.not_mem_nil, false_implies, implies_true, and_self]) (by decide) (by simp only [List.length_cons, List.length_nil]; decide)]
  simp only [hn]
  omega
theorem fw_25_116 (h : Int) (h0 : 0 ≤ h) (h1 : h < 65536) : fld pt25 (wh h) 116 = 0 := by
  rw [wh_eq h h0 h1, fl_25_116, hv_eq _ 0 (by simp only [List.forall_mem_cons, bitW_bd h _ h0, List.not_mem_nil, false_implies, implies_true, and_self]) (by decide) (by simp only [List.length_cons, List.length_nil]; decide)]
  simp only [hn]
theorem fw_26_79 (h : Int) (h0 : 0 ≤ h) (h1 : h < 65536) : fld pt26 (wh h) 79 = 0 := by
  rw [wh_eq h h0 h1, fl_26_79, hv_eq _ 0 (by simp only [List.forall_mem_cons, bitW_bd h _ h0, List.not_mem_nil, false_implies, implies_true, and_self]) (by decide) (by simp only [List.length_cons, List.length_nil]; decide)]
  simp only [hn]
theorem fw_26_105 (h : Int) (h0 : 0 ≤ h) (h1 : h < 65536) : fld pt26 (wh h) 105 = 0 := by
  rw [wh_eq h h0 h1, fl_26_105, hv_eq _ 0 (by simp only [List.forall_mem_cons, bitW_bd h _ h0, List.not_mem_nil, false_implies, implies_true, and_self]) (by decide) (by simp only [List.length_cons, List.length_nil]; decide)]
  simp only [hn]
theorem fw_26_108 (h : Int) (h0 : 0 ≤ h) (h1 : h < 65536) : fld pt26 (wh h) 108 = 128 * bitW h 7 + 64 * bitW h 6 + 32 * bitW h 5 + 16 * bitW h 4 + 8 * bitW h 3 + 4 * bitW h 2 + 2 * bitW h 1 + bitW h 0 := by
  rw [wh_eq h h0 h1, fl_26_108, hv_eq _ 0 (by simp only [List.forall_mem_cons, bitW_bd h _ h0, List.not_mem_nil, false_implies, implies_true, and_self]) (by decide) (by simp only [List.length_cons, List.length_nil]; decide)]
  simp only [hn]
  omega
theorem fw_26_116 (h : Int) (h0 : 0 ≤ h) (h1 : h < 65536) : fld pt26 (wh h) 116 = 0 := by
  rw [wh_eq h h0 h1, fl_26_116, hv_eq _ 0 (by simp only [List.forall_mem_cons, bitW_bd h _ h0, List.not_mem_nil, false_implies, implies_true, and_self]) (by decide) (by simp only [List.length_cons, List.length_nil]; decide)]
  simp only [hn]
theorem fw_27_79 (h : Int) (h0 : 0 ≤ h) (h1 : h < 65536) : fld pt27 (wh h) 79 = 0 := by
  rw [wh_eq h h0 h1, fl_27_79, hv_eq _ 0 (by simp only [List.forall_mem_cons, bitW_bd h _ h0, List.not_mem_nil, false_implies, implies_true, and_self]) (by decide) (by simp only [List.length_cons, List.length_nil]; decide)]
  simp only [hn]
theorem fw_27_105 (h : Int) (h0 : 0 ≤ h) (h1 : h < 65536) : fld pt27 (wh h) 105 = 0 := by
  rw [wh_eq h h0 h1, fl_27_105, hv_eq _ 0 (by simp only [List.forall_mem_cons, bitW_bd h _ h0, List.not_mem_nil, false_implies, implies_true, and_self]) (by decide) (by simp only [List.length_cons, List.length_nil]; decide)]
  simp only [hn]
theorem fw_27_108 (h : Int) (h0 : 0 ≤ h) (h1 : h < 65536) : fld pt27 (wh h) 108 = 128 * bitW h 7 + 64 * bitW h 6 + 32 * bitW h 5 + 16 * bitW h 4 + 8 * bitW h 3 + 4 * bitW h 2 + 2 * bitW h 1 + bitW h 0 := by
  rw [wh_eq h h0 h1, fl_27_108, hv_eq _ 0 (by simp only [List.forall_mem_cons, bitW_bd h _ h0, List.not_mem_nil, false_implies, implies_true, and_self]) (by decide) (by simp only [List.length_cons, List.length_nil]; decide)]
  simp only [hn]
  omega
theorem fw_27_116 (h : Int) (h0 : 0 ≤ h) (h1 : h < 65536) : fld pt27 (wh h) 116 = 0 := by
  rw [wh_eq h h0 h1, fl_27_116, hv_eq _ 0 (by simp only [List.forall_mem_cons, bitW_bd h _ h0, List.not_mem_nil, false_implies, implies_true, and_self]) (by decide) (by simp only [List.length_cons, List.length_nil]; decide)]
  simp only [hn]
theorem fw_28_79 (h : Int) (h0 : 0 ≤ h) (h1 : h < 65536) : fld pt28 (wh h) 79 = 0 := by
  rw [wh_eq h h0 h1, fl_28_79, hv_eq _ 0 (by simp only [List.forall_mem_cons, bitW_bd h _ h0, List.not_mem_nil, false_implies, implies_true, and_self]) (by decide) (by simp only [List.length_cons, List.length_nil]; decide)]
  simp only [hn]
theorem fw_28_105 (h : Int) (h0 : 0 ≤ h) (h1 : h < 65536) : fld pt28 (wh h) 105 = 0 := by
  rw [wh_eq h h0 h1, fl_28_105, hv_eq _ 0 (by simp only [List.forall_mem_cons, bitW_bd h _ h0, List.not_mem_nil, false_implies, implies_true, and_self]) (by decide) (by simp only [List.length_cons, List.length_nil]; decide)]
  simp only [hn]
theorem fw_28_108 (h : Int) (h0 : 0 ≤ h) (h1 : h < 65536) : fld pt28 (wh h) 108 = 128 * bitW h 7 + 64 * bitW h 6 + 32 * bitW h 5 + 16 * bitW h 4 + 8 * bitW h 3 + 4 * bitW h 2 + 2 * bitW h 1 + bitW h 0 := by
  rw [wh_eq h h0 h1, fl_28_108, hv_eq _ 0 (by simp only [List.forall_mem_cons, bitW_bd h _ h0, List.not_mem_nil, false_implies, implies_true, and_self]) (by decide) (by simp only [List.length_cons, List.length_nil]; decide)]
  simp only [hn]
  omega
theorem fw_28_116 (h : Int) (h0 : 0 ≤ h) (h1 : h < 65536) : fld pt28 (wh h) 116 = 0 := by
  rw [wh_eq h h0 h1, fl_28_116, hv_eq _ 0 (by simp only [List.forall_mem_cons, bitW_bd h _ h0, List.not_mem_nil, false_implies, implies_true, and_self]) (by decide) (by simp only [List.length_cons, List.length_nil]; decide)]
  simp only [hn]
theorem fw_29_76 (h : Int) (h0 : 0 ≤ h) (h1 : h < 65536) : fld pt29 (wh h) 76 = bitW h 11 := by
  rw [wh_eq h h0 h1, fl_29_76, hv_eq _ 0 (by simp only [List.forall_mem_cons, bitW_bd h _ h0, List.not_mem_nil, false_implies, implies_true, and_self]) (by decide) (by simp only [List.length_cons, List.length_nil]; decide)]
  simp only [hn]
  omega
theorem fw_29_79 (h : Int) (h0 : 0 ≤ h) (h1 : h < 65536) : fld pt29 (wh h) 79 = 0 := by
  rw [wh_eq h h0 h1, fl_29_79, hv_eq _ 0 (by simp only [List.forall_mem_cons, bitW_bd h _ h0, List.not_mem_nil, false_implies, implies_true, and_self]) (by decide) (by simp only [List.length_cons, List.length_nil]; decide)]
  simp only [hn]
theorem fw_29_105 (h : Int) (h0 : 0 ≤ h) (h1 : h < 65536) : fld pt29 (wh h) 105 = 0 := by
  rw [wh_eq h h0 h1, fl_29_105, hv_eq _ 0 (by simp only [List.forall_mem_cons, bitW_bd h _ h0, List.not_mem_nil, false_implies, implies_true, and_self]) (by decide) (by simp only [List.length_cons, List.length_nil]; decide)]
  simp only [hn]
theorem fw_29_108 (h : Int) (h0 : 0 ≤ h) (h1 : h < 65536) : fld pt29 (wh h) 108 = 128 * bitW h 7 + 64 * bitW h 6 + 32 * bitW h 5 + 16 * bitW h 4 + 8 * bitW h 3 + 4 * bitW h 2 + 2 * bitW h 1 + bitW h 0 := by
  rw [wh_eq h h0 h1, fl_29_108, hv_eq _ 0 (by simp only [List.forall_mem_cons, bitW_bd h _ h0, List.not_mem_nil, false_implies, implies_true, and_self]) (by decide) (by simp only [List.length_cons, List.length_nil]; decide)]
  simp only [hn]
  omega
theorem fw_29_110 (h : Int) (h0 : 0 ≤ h) (h1 : h < 65536) : fld pt29 (wh h) 110 = 4 * bitW h 10 + 2 * bitW h 9 + bitW h 8 := by
  rw [wh_eq h h0 h1, fl_29_110, hv_eq _ 0 (by simp only [List.forall_mem_cons, bitW_bd h _ h0, List.not_mem_nil, false_implies, implies_true, and_self]) (by decide) (by simp only [List.length_cons, List.length_nil]; decide)]
  simp only [hn]
  omega
theorem fw_29_116 (h : Int) (h0 : 0 ≤ h) (h1 : h < 65536) : fld pt29 (wh h) 116 = 0 := by
  rw [wh_eq h h0 h1, fl_29_116, hv_eq _ 0 (by simp only [List.forall_mem_cons, bitW_bd h _ h0, List.not_mem_nil, false_implies, implies_true, and_self]) (by decide) (by simp only [List.length_cons, List.length_nil]; decide)]
  simp only [hn]
theorem fw_30_79 (h : Int) (h0 : 0 ≤ h) (h1 : h < 65536) : fld pt30 (wh h) 79 = 0 := by
  rw [wh_eq h h0 h1, fl_30_79, hv_eq _ 0 (by simp only [List.forall_mem_cons, bitW_bd h _ h0, List.not_mem_nil, false_implies, implies_true, and_self]) (by decide) (by simp only [List.length_cons, List.length_nil]; decide)]
  simp only [hn]
theorem fw_30_99 (h : Int) (h0 : 0 ≤ h) (h1 : h < 65536) : fld pt30 (wh h) 99 = 8 * bitW h 11 + 4 * bitW h 10 + 2 * bitW h 9 + bitW h 8 := by
  rw [wh_eq h h0 h1, fl_30_99, hv_eq _ 0 (by simp only [List.forall_mem_cons, bitW_bd h _ h0, List.not_mem_nil, false_implies, implies_true, and_self]) (by decide) (by simp only [List.length_cons, List.length_nil]; decide)]
  simp only [hn]
  omega
theorem fw_30_105 (h : Int) (h0 : 0 ≤ h) (h1 : h < 65536) : fld pt30 (wh h) 105 = 128 * bitW h 7 + 64 * bitW h 6 + 32 * bitW h 5 + 16 * bitW h 4 + 8 * bitW h 3 + 4 * bitW h 2 + 2 * bitW h 1 + bitW h 0 := by
  rw [wh_eq h h0 h1, fl_30_105, hv_eq _ 0 (by simp only [List.forall_mem_cons, bitW_bd h _ h0, List.not_mem_nil, false_implies, implies_true, and_self]) (by decide) (by simp only [List.length_cons, List.length_nil]; decide)]
  simp only [hn]
  omega
theorem fw_30_108 (h : Int) (h0 : 0 ≤ h) (h1 : h < 65536) : fld pt30 (wh h) 108 = 0 := by
  rw [wh_eq h h0 h1, fl_30_108, hv_eq _ 0 (by simp only [List.forall_mem_cons, bitW_bd h _ h0, List.not_mem_nil, false_implies, implies_true, and_self]) (by decide) (by simp only [List.length_cons, List.length_nil]; decide)]
  simp only [hn]
theorem fw_30_116 (h : Int) (h0 : 0 ≤ h) (h1 : h < 65536) : fld pt30 (wh h) 116 = 0 := by
  rw [wh_eq h h0 h1, fl_30_116, hv_eq _ 0 (by simp only [List.forall_mem_cons, bitW_bd h _ h0, List.not_mem_nil, false_implies, implies_true, and_self]) (by decide) (by simp only [List.length_cons, List.length_nil]; decide)]
  simp only [hn]
theorem fw_31_79 (h : Int) (h0 : 0 ≤ h) (h1 : h < 65536) : fld pt31 (wh h) 79 = 0 := by
  rw [wh_eq h h0 h1, fl_31_79, hv_eq _ 0 (by simp only [List.forall_mem_cons, bitW_bd h _ h0, List.not_mem_nil, false_implies, implies_true, and_self]) (by decide) (by simp only [List.length_cons, List.length_nil]; decide)]
  simp only [hn]
theorem fw_31_105 (h : Int) (h0 : 0 ≤ h) (h1 : h < 65536) : fld pt31 (wh h) 105 = 128 * bitW h 7 + 64 * bitW h 6 + 32 * bitW h 5 + 16 * bitW h 4 + 8 * bitW h 3 + 4 * bitW h 2 + 2 * bitW h 1 + bitW h 0 := by
  rw [wh_eq h h0 h1, fl_31_105, hv_eq _ 0 (by simp only [List.forall_mem_cons, bitW_bd h _ h0, List.not_mem_nil, false_implies, implies_true, and_self]) (by decide) (by simp only [List.length_cons, List.length_nil]; decide)]
  simp only [hn]
  omega
theorem fw_31_108 (h : Int) (h0 : 0 ≤ h) (h1 : h < 65536) : fld pt31 (wh h) 108 = 0 := by
  rw [wh_eq h h0 h1, fl_31_108, hv_eq _ 0 (by simp only [List.forall_mem_cons, bitW_bd h _ h0, List.not_mem_nil, false_implies, implies_true, and_self]) (by decide) (by simp only [List.length_cons, List.length_nil]; decide)]
  simp only [hn]
theorem fw_31_116 (h : Int) (h0 : 0 ≤ h) (h1 : h < 65536) : fld pt31 (wh h) 116 = 0 := by
  rw [wh_eq h h0 h1, fl_31_116, hv_eq _ 0 (by simp only [List.forall_mem_cons, bitW_bd h _ h0, List.not_mem_nil, false_implies, implies_true, and_self]) (by decide) (by simp only [List.length_cons, List.length_nil]; decide)]
  simp only [hn]
theorem fw_32_79 (h : Int) (h0 : 0 ≤ h) (h1 : h < 65536) : fld pt32 (wh h) 79 = 0 := by
  rw [wh_eq h h0 h1, fl_32_79, hv_eq _ 0 (by simp only [List.forall_mem_cons, bitW_bd h _ h0, List.not_mem_nil, false_implies, implies_true, and_self]) (by decide) (by simp only [List.length_cons, List.length_nil]; decide)]
  simp only [hn]
theorem fw_32_105 (h : Int) (h0 : 0 ≤ h) (h1 : h < 65536) : fld pt32 (wh h) 105 = 1024 * bitW h 10 + 512 * bitW h 9 + 256 * bitW h 8 + 128 * bitW h 7 + 64 * bitW h 6 + 32 * bitW h 5 + 16 * bitW h 4 + 8 * bitW h 3 + 4 * bitW h 2 + 2 * bitW h 1 + bitW h 0 := by
  rw [wh_eq h h0 h1, fl_32_105, hv_eq _ 0 (by simp only [List.forall_mem_cons, bitW_bd h _ h0, List.not_mem_nil, false_implies, implies_true, and_self]) (by decide) (by simp only [List.length_cons, List.length_nil]; decide)]
  simp only [hn]
  omega
theorem fw_32_108 (h : Int) (h0 : 0 ≤ h) (h1 : h < 65536) : fld pt32 (wh h) 108 = 0 := by
  rw [wh_eq h h0 h1, fl_32_108, hv_eq _ 0 (by simp only [List.forall_mem_cons, bitW_bd h _ h0, List.not_mem_nil, false_implies, implies_true, and_self]) (by decide) (by simp only [List.length_cons, List.length_nil]; decide)]
  simp only [hn]
theorem fw_32_116 (h : Int) (h0 : 0 ≤ h) (h1 : h < 65536) : fld pt32 (wh h) 116 = 0 := by
  rw [wh_eq h h0 h1, fl_32_116, hv_eq _ 0 (by simp only [List.forall_mem_cons, bitW_bd h _ h0, List.not_mem_nil, false_implies, implies_true, and_self]) (by decide) (by simp only [List.length_cons, List.length_nil]; decide)]
  simp only [hn]
theorem fw_33_79 (h : Int) (h0 : 0 ≤ h) (h1 : h < 65536) : fld pt33 (wh h) 79 = 0 := by
  rw [wh_eq h h0 h1, fl_33_79, hv_eq _ 0 (by simp only [List.forall_mem_cons, bitW_bd h _ h0, List.not_mem_nil, false_implies, implies_true, and_self]) (by decide) (by simp only [List.length_cons, List.length_nil]; decide)]
  simp only [hn]
theorem fw_33_105 (h : Int) (h0 : 0 ≤ h) (h1 : h < 65536) : fld pt33 (wh h) 105 = 1024 * bitW h 10 + 512 * bitW h 9 + 256 * bitW h 8 + 128 * bitW h 7 + 64 * bitW h 6 + 32 * bitW h 5 + 16 * bitW h 4 + 8 * bitW h 3 + 4 * bitW h 2 + 2 * bitW h 1 + bitW h 0 := by
  rw [wh_eq h h0 h1, fl_33_105, hv_eq _ 0 (by simp only [List.forall_mem_cons, bitW_bd h _ h0, List.not_mem_nil, false_implies, implies_true, and_self]) (by decide) (by simp only [List.length_cons, List.length_nil]; decide)]
  simp only [hn]
  omega
theorem fw_33_108 (h : Int) (h0 : 0 ≤ h) (h1 : h < 65536) : fld pt33 (wh h) 108 = 0 := by
  rw [wh_eq h h0 h1, fl_33_108, hv_eq _ 0 (by simp only [List.forall_mem_cons, bitW_bd h _ h0, List.not_mem_nil, false_implies, implies_true, and_self]) (by decide) (by simp only [List.length_cons, List.length_nil]; decide)]
  simp only [hn]
theorem fw_33_116 (h : Int) (h0 : 0 ≤ h) (h1 : h < 65536) : fld pt33 (wh h) 116 = 0 := by
  rw [wh_eq h h0 h1, fl_33_116, hv_eq _ 0 (by simp only [List.forall_mem_cons, bitW_bd h _ h0, List.not_mem_nil, false_implies, implies_true, and_self]) (by decide) (by simp only [List.length_cons, List.length_nil]; decide)]
  simp only [hn]
theorem fw_34_79 (h : Int) (h0 : 0 ≤ h) (h1 : h < 65536) : fld pt34 (wh h) 79 = 0 := by
  rw [wh_eq h h0 h1, fl_34_79, hv_eq _ 0 (by simp only [List.forall_mem_cons, bitW_bd h _ h0, List.not_mem_nil, false_implies, implies_true, and_self]) (by decide) (by simp only [List.length_cons, List.length_nil]; decide)]
  simp only [hn]
theorem fw_34_105 (h : Int) (h0 : 0 ≤ h) (h1 : h < 65536) : fld pt34 (wh h) 105 = 1024 * bitW h 10 + 512 * bitW h 9 + 256 * bitW h 8 + 128 * bitW h 7 + 64 * bitW h 6 + 32 * bitW h 5 + 16 * bitW h 4 + 8 * bitW h 3 + 4 * bitW h 2 + 2 * bitW h 1 + bitW h 0 := by
  rw [wh_eq h h0 h1, fl_34_105, hv_eq _ 0 (by simp only [List.forall_mem_cons, bitW_bd h _ h0, List.not_mem_nil, false_implies, implies_true, and_self]) (by decide) (by simp only [List.length_cons, List.length_nil]; decide)]
  simp only [hn]
  omega
theorem fw_34_108 (h : Int) (h0 : 0 ≤ h) (h1 : h < 65536) : fld pt34 (wh h) 108 = 0 := by
  rw [wh_eq h h0 h1, fl_34_108, hv_eq _ 0 (by simp only [List.forall_mem_cons, bitW_bd h _ h0, List.not_mem_nil, false_implies, implies_true, and_self]) (by decide) (by simp only [List.length_cons, List.length_nil]; decide)]
  simp only [hn]
theorem fw_34_116 (h : Int) (h0 : 0 ≤ h) (h1 : h < 65536) : fld pt34 (wh h) 116 = 0 := by
  rw [wh_eq h h0 h1, fl_34_116, hv_eq _ 0 (by simp only [List.forall_mem_cons, bitW_bd h _ h0, List.not_mem_nil, false_implies, implies_true, and_self]) (by decide) (by simp only [List.length_cons, List.length_nil]; decide)]
  simp only [hn]
theorem fs_0 (h : Int) (h0 : 0 ≤ h) (h1 : h < 65536) : fits pt0 (wh h) = true ↔ bitW h 15 = 0 ∧ bitW h 14 = 0 ∧ bitW h 13 = 0 := by
  rw [wh_eq h h0 h1, ft_0]
  simp only [fitL, bne_iff_ne, ne_eq, ite_not, Bool.if_false_right, Bool.if_false_left, Bool.and_eq_true, decide_eq_true_eq, and_true, Bool.not_eq_true', decide_eq_false_iff_not, Classical.not_not]
theorem fs_1 (h : Int) (h0 : 0 ≤ h) (h1 : h < 65536) : fits pt1 (wh h) = true ↔ bitW h 15 = 0 ∧ bitW h 14 = 0 ∧ bitW h 13 = 0 ∧ bitW h 12 = 1 ∧ bitW h 11 = 1 := by
  rw [wh_eq h h0 h1, ft_1]
  simp only [fitL, bne_iff_ne, ne_eq, ite_not, Bool.if_false_right, Bool.if_false_left, Bool.and_eq_true, decide_eq_true_eq, and_true, Bool.not_eq_true', decide_eq_false_iff_not, Classical.not_not]
theorem fs_2 (h : Int) (h0 : 0 ≤ h) (h1 : h < 65536) : fits pt2 (wh h) = true ↔ bitW h 15 = 0 ∧ bitW h 14 = 0 ∧ bitW h 13 = 0 ∧ bitW h 12 = 1 ∧ bitW h 11 = 1 := by
  rw [wh_eq h h0 h1, ft_2]
  simp only [fitL, bne_iff_ne, ne_eq, ite_not, Bool.if_false_right, Bool.if_false_left, Bool.and_eq_true, decide_eq_true_eq, and_true, Bool.not_eq_true', decide_eq_false_iff_not, Classical.not_not]
theorem fs_3 (h : Int) (h0 : 0 ≤ h) (h1 : h < 65536) : fits pt3 (wh h) = true ↔ bitW h 15 = 0 ∧ bitW h 14 = 0 ∧ bitW h 13 = 1 ∧ bitW h 12 = 0 ∧ bitW h 11 = 0 := by
  rw [wh_eq h h0 h1, ft_3]
  simp only [fitL, bne_iff_ne, ne_eq, ite_not, Bool.if_false_right, Bool.if_false_left, Bool.and_eq_true, decide_eq_true_eq, and_true, Bool.not_eq_true', decide_eq_false_iff_not, Classical.not_not]
theorem fs_4 (h : Int) (h0 : 0 ≤ h) (h1 : h < 65536) : fits pt4 (wh h) = true ↔ bitW h 15 = 0 ∧ bitW h 14 = 0 ∧ bitW h 13 = 1 ∧ bitW h 12 = 0 ∧ bitW h 11 = 1 := by
  rw [wh_eq h h0 h1, ft_4]
  simp only [fitL, bne_iff_ne, ne_eq, ite_not, Bool.if_false_right, Bool.if_false_left, Bool.and_eq_true, decide_eq_true_eq, and_true, Bool.not_eq_true', decide_eq_false_iff_not, Classical.not_not]
theorem fs_5 (h : Int) (h0 : 0 ≤ h) (h1 : h < 65536) : fits pt5 (wh h) = true ↔ bitW h 15 = 0 ∧ bitW h 14 = 0 ∧ bitW h 13 = 1 ∧ bitW h 12 = 1 ∧ bitW h 11 = 0 := by
  rw [wh_eq h h0 h1, ft_5]
  simp only [fitL, bne_iff_ne, ne_eq, ite_not, Bool.if_false_right, Bool.if_false_left, Bool.and_eq_true, decide_eq_true_eq, and_true, Bool.not_eq_true', decide_eq_false_iff_not, Classical.not_not]
theorem fs_6 (h : Int) (h0 : 0 ≤ h) (h1 : h < 65536) : fits pt6 (wh h) = true ↔ bitW h 15 = 0 ∧ bitW h 14 = 0 ∧ bitW h 13 = 1 ∧ bitW h 12 = 1 ∧ bitW h 11 = 1 := by
  rw [wh_eq h h0 h1, ft_6]
  simp only [fitL, bne_iff_ne, ne_eq, ite_not, Bool.if_false_right, Bool.if_false_left, Bool.and_eq_true, decide_eq_true_eq, and_true, Bool.not_eq_true', decide_eq_false_iff_not, Classical.not_not]
theorem fs_7 (h : Int) (h0 : 0 ≤ h) (h1 : h < 65536) : fits pt7 (wh h) = true ↔ bitW h 15 = 0 ∧ bitW h 14 = 1 ∧ bitW h 13 = 0 ∧ bitW h 12 = 0 ∧ bitW h 11 = 0 ∧ bitW h 10 = 0 := by
  rw [wh_eq h h0 h1, ft_7]
  simp only [fitL, bne_iff_ne, ne_eq, ite_not, Bool.if_false_right, Bool.if_false_left, Bool.and_eq_true, decide_eq_true_eq, and_true, Bool.not_eq_true', decide_eq_false_iff_not, Classical.not_not]
theorem fs_8 (h : Int) (h0 : 0 ≤ h) (h1 : h < 65536) : fits pt8 (wh h) = true ↔ bitW h 15 = 0 ∧ bitW h 14 = 1 ∧ bitW h 13 = 0 ∧ bitW h 12 = 0 ∧ bitW h 11 = 0 ∧ bitW h 10 = 0 := by
  rw [wh_eq h h0 h1, ft_8]
  simp only [fitL, bne_iff_ne, ne_eq, ite_not, Bool.if_false_right, Bool.if_false_left, Bool.and_eq_true, decide_eq_true_eq, and_true, Bool.not_eq_true', decide_eq_false_iff_not, Classical.not_not]
theorem fs_9 (h : Int) (h0 : 0 ≤ h) (h1 : h < 65536) : fits pt9 (wh h) = true ↔ bitW h 15 = 0 ∧ bitW h 14 = 1 ∧ bitW h 13 = 0 ∧ bitW h 12 = 0 ∧ bitW h 11 = 0 ∧ bitW h 10 = 0 := by
  rw [wh_eq h h0 h1, ft_9]
  simp only [fitL, bne_iff_ne, ne_eq, ite_not, Bool.if_false_right, Bool.if_false_left, Bool.and_eq_true, decide_eq_true_eq, and_true, Bool.not_eq_true', decide_eq_false_iff_not, Classical.not_not]
theorem fs_10 (h : Int) (h0 : 0 ≤ h) (h1 : h < 65536) : fits pt10 (wh h) = true ↔ bitW h 15 = 0 ∧ bitW h 14 = 1 ∧ bitW h 13 = 0 ∧ bitW h 12 = 0 ∧ bitW h 11 = 0 ∧ bitW h 10 = 0 := by
  rw [wh_eq h h0 h1, ft_10]
  simp only [fitL, bne_iff_ne, ne_eq, ite_not, Bool.if_false_right, Bool.if_false_left, Bool.and_eq_true, decide_eq_true_eq, and_true, Bool.not_eq_true', decide_eq_false_iff_not, Classical.not_not]
theorem fs_11 (h : Int) (h0 : 0 ≤ h) (h1 : h < 65536) : fits pt11 (wh h) = true ↔ bitW h 15 = 0 ∧ bitW h 14 = 1 ∧ bitW h 13 = 0 ∧ bitW h 12 = 0 ∧ bitW h 11 = 0 ∧ bitW h 10 = 1 ∧ bitW h 9 = 0 ∧ bitW h 8 = 0 := by
  rw [wh_eq h h0 h1, ft_11]
  simp only [fitL, bne_iff_ne, ne_eq, ite_not, Bool.if_false_right, Bool.if_false_left, Bool.and_eq_true, decide_eq_true_eq, and_true, Bool.not_eq_true', decide_eq_false_iff_not, Classical.not_not]
theorem fs_12 (h : Int) (h0 : 0 ≤ h) (h1 : h < 65536) : fits pt12 (wh h) = true ↔ bitW h 15 = 0 ∧ bitW h 14 = 1 ∧ bitW h 13 = 0 ∧ bitW h 12 = 0 ∧ bitW h 11 = 0 ∧ bitW h 10 = 1 ∧ bitW h 9 = 0 ∧ bitW h 8 = 1 := by
  rw [wh_eq h h0 h1, ft_12]
  simp only [fitL, bne_iff_ne, ne_eq, ite_not, Bool.if_false_right, Bool.if_false_left, Bool.and_eq_true, decide_eq_true_eq, and_true, Bool.not_eq_true', decide_eq_false_iff_not, Classical.not_not]
theorem fs_13 (h : Int) (h0 : 0 ≤ h) (h1 : h < 65536) : fits pt13 (wh h) = true ↔ bitW h 15 = 0 ∧ bitW h 14 = 1 ∧ bitW h 13 = 0 ∧ bitW h 12 = 0 ∧ bitW h 11 = 0 ∧ bitW h 10 = 1 ∧ bitW h 9 = 1 ∧ bitW h 8 = 0 := by
  rw [wh_eq h h0 h1, ft_13]
  simp only [fitL, bne_iff_ne, ne_eq, ite_not, Bool.if_false_right, Bool.if_false_left, Bool.and_eq_true, decide_eq_true_eq, and_true, Bool.not_eq_true', decide_eq_false_iff_not, Classical.not_not]
theorem fs_14 (h : Int) (h0 : 0 ≤ h) (h1 : h < 65536) : fits pt14 (wh h) = true ↔ bitW h 15 = 0 ∧ bitW h 14 = 1 ∧ bitW h 13 = 0 ∧ bitW h 12 = 0 ∧ bitW h 11 = 0 ∧ bitW h 10 = 1 ∧ bitW h 9 = 1 ∧ bitW h 8 = 1 := by
  rw [wh_eq h h0 h1, ft_14]
  simp only [fitL, bne_iff_ne, ne_eq, ite_not, Bool.if_false_right, Bool.if_false_left, Bool.and_eq_true, decide_eq_true_eq, and_true, Bool.not_eq_true', decide_eq_false_iff_not, Classical.not_not]
theorem fs_15 (h : Int) (h0 : 0 ≤ h) (h1 : h < 65536) : fits pt15 (wh h) = true ↔ bitW h 15 = 0 ∧ bitW h 14 = 1 ∧ bitW h 13 = 0 ∧ bitW h 12 = 0 ∧ bitW h 11 = 1 := by
  rw [wh_eq h h0 h1, ft_15]
  simp only [fitL, bne_iff_ne, ne_eq, ite_not, Bool.if_false_right, Bool.if_false_left, Bool.and_eq_true, decide_eq_true_eq, and_true, Bool.not_eq_true', decide_eq_false_iff_not, Classical.not_not]
theorem fs_16 (h : Int) (h0 : 0 ≤ h) (h1 : h < 65536) : fits pt16 (wh h) = true ↔ bitW h 15 = 0 ∧ bitW h 14 = 1 ∧ bitW h 13 = 0 ∧ bitW h 12 = 1 ∧ bitW h 9 = 0 := by
  rw [wh_eq h h0 h1, ft_16]
  simp only [fitL, bne_iff_ne, ne_eq, ite_not, Bool.if_false_right, Bool.if_false_left, Bool.and_eq_true, decide_eq_true_eq, and_true, Bool.not_eq_true', decide_eq_false_iff_not, Classical.not_not]
theorem fs_17 (h : Int) (h0 : 0 ≤ h) (h1 : h < 65536) : fits pt17 (wh h) = true ↔ bitW h 15 = 0 ∧ bitW h 14 = 1 ∧ bitW h 13 = 0 ∧ bitW h 12 = 1 ∧ bitW h 9 = 1 := by
  rw [wh_eq h h0 h1, ft_17]
  simp only [fitL, bne_iff_ne, ne_eq, ite_not, Bool.if_false_right, Bool.if_false_left, Bool.and_eq_true, decide_eq_true_eq, and_true, Bool.not_eq_true', decide_eq_false_iff_not, Classical.not_not]
theorem fs_18 (h : Int) (h0 : 0 ≤ h) (h1 : h < 65536) : fits pt18 (wh h) = true ↔ bitW h 15 = 0 ∧ bitW h 14 = 1 ∧ bitW h 13 = 1 ∧ bitW h 12 = 0 := by
  rw [wh_eq h h0 h1, ft_18]
  simp only [fitL, bne_iff_ne, ne_eq, ite_not, Bool.if_false_right, Bool.if_false_left, Bool.and_eq_true, decide_eq_true_eq, and_true, Bool.not_eq_true', decide_eq_false_iff_not, Classical.not_not]
theorem fs_19 (h : Int) (h0 : 0 ≤ h) (h1 : h < 65536) : fits pt19 (wh h) = true ↔ bitW h 15 = 0 ∧ bitW h 14 = 1 ∧ bitW h 13 = 1 ∧ bitW h 12 = 1 := by
  rw [wh_eq h h0 h1, ft_19]
  simp only [fitL, bne_iff_ne, ne_eq, ite_not, Bool.if_false_right, Bool.if_false_left, Bool.and_eq_true, decide_eq_true_eq, and_true, Bool.not_eq_true', decide_eq_false_iff_not, Classical.not_not]
theorem fs_20 (h : Int) (h0 : 0 ≤ h) (h1 : h < 65536) : fits pt20 (wh h) = true ↔ bitW h 15 = 1 ∧ bitW h 14 = 0 ∧ bitW h 13 = 0 ∧ bitW h 12 = 0 := by
  rw [wh_eq h h0 h1, ft_20]
  simp only [fitL, bne_iff_ne, ne_eq, ite_not, Bool.if_false_right, Bool.if_false_left, Bool.and_eq_true, decide_eq_true_eq, and_true, Bool.not_eq_true', decide_eq_false_iff_not, Classical.not_not]
theorem fs_21 (h : Int) (h0 : 0 ≤ h) (h1 : h < 65536) : fits pt21 (wh h) = true ↔ bitW h 15 = 1 ∧ bitW h 14 = 0 ∧ bitW h 13 = 0 ∧ bitW h 12 = 1 := by
  rw [wh_eq h h0 h1, ft_21]
  simp only [fitL, bne_iff_ne, ne_eq, ite_not, Bool.if_false_right, Bool.if_false_left, Bool.and_eq_true, decide_eq_true_eq, and_true, Bool.not_eq_true', decide_eq_false_iff_not, Classical.not_not]
theorem fs_22 (h : Int) (h0 : 0 ≤ h) (h1 : h < 65536) : fits pt22 (wh h) = true ↔ bitW h 15 = 1 ∧ bitW h 14 = 0 ∧ bitW h 13 = 1 ∧ bitW h 12 = 0 ∧ bitW h 11 = 0 := by
  rw [wh_eq h h0 h1, ft_22]
  simp only [fitL, bne_iff_ne, ne_eq, ite_not, Bool.if_false_right, Bool.if_false_left, Bool.and_eq_true, decide_eq_true_eq, and_true, Bool.not_eq_true', decide_eq_false_iff_not, Classical.not_not]
theorem fs_23 (h : Int) (h0 : 0 ≤ h) (h1 : h < 65536) : fits pt23 (wh h) = true ↔ bitW h 15 = 1 ∧ bitW h 14 = 0 ∧ bitW h 13 = 1 ∧ bitW h 12 = 0 ∧ bitW h 11 = 1 := by
  rw [wh_eq h h0 h1, ft_23]
  simp only [fitL, bne_iff_ne, ne_eq, ite_not, Bool.if_false_right, Bool.if_false_left, Bool.and_eq_true, decide_eq_true_eq, and_true, Bool.not_eq_true', decide_eq_false_iff_not, Classical.not_not]
theorem fs_24 (h : Int) (h0 : 0 ≤ h) (h1 : h < 65536) : fits pt24 (wh h) = true ↔ bitW h 15 = 1 ∧ bitW h 14 = 0 ∧ bitW h 13 = 1 ∧ bitW h 12 = 1 ∧ bitW h 11 = 0 ∧ bitW h 10 = 0 ∧ bitW h 9 = 0 ∧ bitW h 8 = 0 := by
  rw [wh_eq h h0 h1, ft_24]
  simp only [fitL, bne_iff_ne, ne_eq, ite_not, Bool.if_false_right, Bool.if_false_left, Bool.and_eq_true, decide_eq_true_eq, and_true, Bool.not_eq_true', decide_eq_false_iff_not, Classical.not_not]
theorem fs_25 (h : Int) (h0 : 0 ≤ h) (h1 : h < 65536) : fits pt25 (wh h) = true ↔ bitW h 15 = 1 ∧ bitW h 14 = 0 ∧ bitW h 13 = 1 ∧ bitW h 12 = 1 ∧ bitW h 11 = 0 ∧ bitW h 10 = 1 ∧ bitW h 9 = 0 ∧ bitW h 8 = 0 := by
  rw [wh_eq h h0 h1, ft_25]
  simp only [fitL, bne_iff_ne, ne_eq, ite_not, Bool.if_false_right, Bool.if_false_left, Bool.and_eq_true, decide_eq_true_eq, and_true, Bool.not_eq_true', decide_eq_false_iff_not, Classical.not_not]
theorem fs_26 (h : Int) (h0 : 0 ≤ h) (h1 : h < 65536) : fits pt26 (wh h) = true ↔ bitW h 15 = 1 ∧ bitW h 14 = 0 ∧ bitW h 13 = 1 ∧ bitW h 12 = 1 ∧ bitW h 11 = 0 ∧ bitW h 10 = 1 ∧ bitW h 9 = 0 ∧ bitW h 8 = 1 := by
  rw [wh_eq h h0 h1, ft_26]
  simp only [fitL, bne_iff_ne, ne_eq, ite_not, Bool.if_false_right, Bool.if_false_left, Bool.and_eq_true, decide_eq_true_eq, and_true, Bool.not_eq_true', decide_eq_false_iff_not, Classical.not_not]
theorem fs_27 (h : Int) (h0 : 0 ≤ h) (h1 : h < 65536) : fits pt27 (wh h) = true ↔ bitW h 15 = 1 ∧ bitW h 14 = 0 ∧ bitW h 13 = 1 ∧ bitW h 12 = 1 ∧ bitW h 11 = 1 ∧ bitW h 10 = 1 ∧ bitW h 9 = 0 ∧ bitW h 8 = 0 := by
  rw [wh_eq h h0 h1, ft_27]
  simp only [fitL, bne_iff_ne, ne_eq, ite_not, Bool.if_false_right, Bool.if_false_left, Bool.and_eq_true, decide_eq_true_eq, and_true, Bool.not_eq_true', decide_eq_false_iff_not, Classical.not_not]
theorem fs_28 (h : Int) (h0 : 0 ≤ h) (h1 : h < 65536) : fits pt28 (wh h) = true ↔ bitW h 15 = 1 ∧ bitW h 14 = 0 ∧ bitW h 13 = 1 ∧ bitW h 12 = 1 ∧ bitW h 11 = 1 ∧ bitW h 10 = 1 ∧ bitW h 9 = 0 ∧ bitW h 8 = 1 := by
  rw [wh_eq h h0 h1, ft_28]
  simp only [fitL, bne_iff_ne, ne_eq, ite_not, Bool.if_false_right, Bool.if_false_left, Bool.and_eq_true, decide_eq_true_eq, and_true, Bool.not_eq_true', decide_eq_false_iff_not, Classical.not_not]
theorem fs_29 (h : Int) (h0 : 0 ≤ h) (h1 : h < 65536) : fits pt29 (wh h) = true ↔ bitW h 15 = 1 ∧ bitW h 14 = 1 ∧ bitW h 13 = 0 ∧ bitW h 12 = 0 := by
  rw [wh_eq h h0 h1, ft_29]
  simp only [fitL, bne_iff_ne, ne_eq, ite_not, Bool.if_false_right, Bool.if_false_left, Bool.and_eq_true, decide_eq_true_eq, and_true, Bool.not_eq_true', decide_eq_false_iff_not, Classical.not_not]
theorem fs_30 (h : Int) (h0 : 0 ≤ h) (h1 : h < 65536) : fits pt30 (wh h) = true ↔ bitW h 15 = 1 ∧ bitW h 14 = 1 ∧ bitW h 13 = 0 ∧ bitW h 12 = 1 := by
  rw [wh_eq h h0 h1, ft_30]
  simp only [fitL, bne_iff_ne, ne_eq, ite_not, Bool.if_false_right, Bool.if_false_left, Bool.and_eq_true, decide_eq_true_eq, and_true, Bool.not_eq_true', decide_eq_false_iff_not, Classical.not_not]
theorem fs_31 (h : Int) (h0 : 0 ≤ h) (h1 : h < 65536) : fits pt31 (wh h) = true ↔ bitW h 15 = 1 ∧ bitW h 14 = 1 ∧ bitW h 13 = 0 ∧ bitW h 12 = 1 ∧ bitW h 11 = 1 ∧ bitW h 10 = 1 ∧ bitW h 9 = 1 ∧ bitW h 8 = 1 := by
  rw [wh_eq h h0 h1, ft_31]
  simp only [fitL, bne_iff_ne, ne_eq, ite_not, Bool.if_false_right, Bool.if_false_left, Bool.and_eq_true, decide_eq_true_eq, and_true, Bool.not_eq_true', decide_eq_false_iff_not, Classical.not_not]
theorem fs_32 (h : Int) (h0 : 0 ≤ h) (h1 : h < 65536) : fits pt32 (wh h) = true ↔ bitW h 15 = 1 ∧ bitW h 14 = 1 ∧ bitW h 13 = 1 ∧ bitW h 12 = 0 ∧ bitW h 11 = 0 := by
  rw [wh_eq h h0 h1, ft_32]
  simp only [fitL, bne_iff_ne, ne_eq, ite_not, Bool.if_false_right, Bool.if_false_left, Bool.and_eq_true, decide_eq_true_eq, and_true, Bool.not_eq_true', decide_eq_false_iff_not, Classical.not_not]
theorem fs_33 (h : Int) (h0 : 0 ≤ h) (h1 : h < 65536) : fits pt33 (wh h) = true ↔ bitW h 15 = 1 ∧ bitW h 14 = 1 ∧ bitW h 13 = 1 ∧ bitW h 12 = 1 ∧ bitW h 11 = 0 := by
  rw [wh_eq h h0 h1, ft_33]
  simp only [fitL, bne_iff_ne, ne_eq, ite_not, Bool.if_false_right, Bool.if_false_left, Bool.and_eq_true, decide_eq_true_eq, and_true, Bool.not_eq_true', decide_eq_false_iff_not, Classical.not_not]
theorem fs_34 (h : Int) (h0 : 0 ≤ h) (h1 : h < 65536) : fits pt34 (wh h) = true ↔ bitW h 15 = 1 ∧ bitW h 14 = 1 ∧ bitW h 13 = 1 ∧ bitW h 12 = 1 ∧ bitW h 11 = 1 := by
  rw [wh_eq h h0 h1, ft_34]
  simp only [fitL, bne_iff_ne, ne_eq, ite_not, Bool.if_false_right, Bool.if_false_left, Bool.and_eq_true, decide_eq_true_eq, and_true, Bool.not_eq_true', decide_eq_false_iff_not, Classical.not_not]
theorem pb_1_7 (h : Int) (h0 : 0 ≤ h) (h1 : h < 65536) : bits .and .u16 (h.fdiv 1) 7 = 4 * bitW h 2 + 2 * bitW h 1 + bitW h 0 := by
  have B := bts_of h h0 h1
  rw [fdiv_lit _ _ (by decide), and_m3 _ _ (by decide)]
  have e := B.e; have bd := bds h h0
  omega
theorem pa_1_7 (h : Int) (h0 : 0 ≤ h) (h1 : h < 65536) : IntKind.i64.wrap (bits .and .u16 (h.fdiv 1) 7) = 4 * bitW h 2 + 2 * bitW h 1 + bitW h 0 := by
  rw [pb_1_7 h h0 h1]
  have B := bts_of h h0 h1
  have bd := bds h h0
  rw [wi64_in _ (by omega) (by omega)]
theorem pb_1_127 (h : Int) (h0 : 0 ≤ h) (h1 : h < 65536) : bits .and .u16 (h.fdiv 1) 127 = 64 * bitW h 6 + 32 * bitW h 5 + 16 * bitW h 4 + 8 * bitW h 3 + 4 * bitW h 2 + 2 * bitW h 1 + bitW h 0 := by
  have B := bts_of h h0 h1
  rw [fdiv_lit _ _ (by decide), and_m7 _ _ (by decide)]
  have e := B.e; have bd := bds h h0
  omega
theorem pa_1_127 (h : Int) (h0 : 0 ≤ h) (h1 : h < 65536) : IntKind.i64.wrap (bits .and .u16 (h.fdiv 1) 127) = 64 * bitW h 6 + 32 * bitW h 5 + 16 * bitW h 4 + 8 * bitW h 3 + 4 * bitW h 2 + 2 * bitW h 1 + bitW h 0 := by
  rw [pb_1_127 h h0 h1]
  have B := bts_of h h0 h1
  have bd := bds h h0
  rw [wi64_in _ (by omega) (by omega)]
theorem pb_1_255 (h : Int) (h0 : 0 ≤ h) (h1 : h < 65536) : bits .and .u16 (h.fdiv 1) 255 = 128 * bitW h 7 + 64 * bitW h 6 + 32 * bitW h 5 + 16 * bitW h 4 + 8 * bitW h 3 + 4 * bitW h 2 + 2 * bitW h 1 + bitW h 0 := by
  have B := bts_of h h0 h1
  rw [fdiv_lit _ _ (by decide), and_m8 _ _ (by decide)]
  have e := B.e; have bd := bds h h0
  omega
theorem pa_1_255 (h : Int) (h0 : 0 ≤ h) (h1 : h < 65536) : IntKind.i64.wrap (bits .and .u16 (h.fdiv 1) 255) = 128 * bitW h 7 + 64 * bitW h 6 + 32 * bitW h 5 + 16 * bitW h 4 + 8 * bitW h 3 + 4 * bitW h 2 + 2 * bitW h 1 + bitW h 0 := by
  rw [pb_1_255 h h0 h1]
  have B := bts_of h h0 h1
  have bd := bds h h0
  rw [wi64_in _ (by omega) (by omega)]
theorem pb_1_2047 (h : Int) (h0 : 0 ≤ h) (h1 : h < 65536) : bits .and .u16 (h.fdiv 1) 2047 = 1024 * bitW h 10 + 512 * bitW h 9 + 256 * bitW h 8 + 128 * bitW h 7 + 64 * bitW h 6 + 32 * bitW h 5 + 16 * bitW h 4 + 8 * bitW h 3 + 4 * bitW h 2 + 2 * bitW h 1 + bitW h 0 := by
  have B := bts_of h h0 h1
  rw [fdiv_lit _ _ (by decide), and_m11 _ _ (by decide)]
  have e := B.e; have bd := bds h h0
  omega
theorem pa_1_2047 (h : Int) (h0 : 0 ≤ h) (h1 : h < 65536) : IntKind.i64.wrap (bits .and .u16 (h.fdiv 1) 2047) = 1024 * bitW h 10 + 512 * bitW h 9 + 256 * bitW h 8 + 128 * bitW h 7 + 64 * bitW h 6 + 32 * bitW h 5 + 16 * bitW h 4 + 8 * bitW h 3 + 4 * bitW h 2 + 2 * bitW h 1 + bitW h 0 := by
  rw [pb_1_2047 h h0 h1]
  have B := bts_of h h0 h1
  have bd := bds h h0
  rw [wi64_in _ (by omega) (by omega)]
theorem pb_8_7 (h : Int) (h0 : 0 ≤ h) (h1 : h < 65536) : bits .and .u16 (h.fdiv 8) 7 = 4 * bitW h 5 + 2 * bitW h 4 + bitW h 3 := by
  have B := bts_of h h0 h1
  rw [fdiv_lit _ _ (by decide), and_m3 _ _ (by decide)]
  have e := B.e; have bd := bds h h0
  omega
theorem pa_8_7 (h : Int) (h0 : 0 ≤ h) (h1 : h < 65536) : IntKind.i64.wrap (bits .and .u16 (h.fdiv 8) 7) = 4 * bitW h 5 + 2 * bitW h 4 + bitW h 3 := by
  rw [pb_8_7 h h0 h1]
  have B := bts_of h h0 h1
  have bd := bds h h0
  rw [wi64_in _ (by omega) (by omega)]
theorem pb_8_15 (h : Int) (h0 : 0 ≤ h) (h1 : h < 65536) : bits .and .u16 (h.fdiv 8) 15 = 8 * bitW h 6 + 4 * bitW h 5 + 2 * bitW h 4 + bitW h 3 := by
  have B := bts_of h h0 h1
  rw [fdiv_lit _ _ (by decide), and_m4 _ _ (by decide)]
  have e := B.e; have bd := bds h h0
  omega
theorem pa_8_15 (h : Int) (h0 : 0 ≤ h) (h1 : h < 65536) : IntKind.i64.wrap (bits .and .u16 (h.fdiv 8) 15) = 8 * bitW h 6 + 4 * bitW h 5 + 2 * bitW h 4 + bitW h 3 := by
  rw [pb_8_15 h h0 h1]
  have B := bts_of h h0 h1
  have bd := bds h h0
  rw [wi64_in _ (by omega) (by omega)]
theorem pb_64_7 (h : Int) (h0 : 0 ≤ h) (h1 : h < 65536) : bits .and .u16 (h.fdiv 64) 7 = 4 * bitW h 8 + 2 * bitW h 7 + bitW h 6 := by
  have B := bts_of h h0 h1
  rw [fdiv_lit _ _ (by decide), and_m3 _ _ (by decide)]
  have e := B.e; have bd := bds h h0
  omega
theorem pa_64_7 (h : Int) (h0 : 0 ≤ h) (h1 : h < 65536) : IntKind.i64.wrap (bits .and .u16 (h.fdiv 64) 7) = 4 * bitW h 8 + 2 * bitW h 7 + bitW h 6 := by
  rw [pb_64_7 h h0 h1]
  have B := bts_of h h0 h1
  have bd := bds h h0
  rw [wi64_in _ (by omega) (by omega)]
theorem pb_64_15 (h : Int) (h0 : 0 ≤ h) (h1 : h < 65536) : bits .and .u16 (h.fdiv 64) 15 = 8 * bitW h 9 + 4 * bitW h 8 + 2 * bitW h 7 + bitW h 6 := by
  have B := bts_of h h0 h1
  rw [fdiv_lit _ _ (by decide), and_m4 _ _ (by decide)]
  have e := B.e; have bd := bds h h0
  omega
theorem pa_64_15 (h : Int) (h0 : 0 ≤ h) (h1 : h < 65536) : IntKind.i64.wrap (bits .and .u16 (h.fdiv 64) 15) = 8 * bitW h 9 + 4 * bitW h 8 + 2 * bitW h 7 + bitW h 6 := by
  rw [pb_64_15 h h0 h1]
  have B := bts_of h h0 h1
  have bd := bds h h0
  rw [wi64_in _ (by omega) (by omega)]
theorem pb_64_31 (h : Int) (h0 : 0 ≤ h) (h1 : h < 65536) : bits .and .u16 (h.fdiv 64) 31 = 16 * bitW h 10 + 8 * bitW h 9 + 4 * bitW h 8 + 2 * bitW h 7 + bitW h 6 := by
  have B := bts_of h h0 h1
  rw [fdiv_lit _ _ (by decide), and_m5 _ _ (by decide)]
  have e := B.e; have bd := bds h h0
  omega
theorem pa_64_31 (h : Int) (h0 : 0 ≤ h) (h1 : h < 65536) : IntKind.i64.wrap (bits .and .u16 (h.fdiv 64) 31) = 16 * bitW h 10 + 8 * bitW h 9 + 4 * bitW h 8 + 2 * bitW h 7 + bitW h 6 := by
  rw [pb_64_31 h h0 h1]
  have B := bts_of h h0 h1
  have bd := bds h h0
  rw [wi64_in _ (by omega) (by omega)]
theorem pb_128_1 (h : Int) (h0 : 0 ≤ h) (h1 : h < 65536) : bits .and .u16 (h.fdiv 128) 1 = bitW h 7 := by
  have B := bts_of h h0 h1
  rw [fdiv_lit _ _ (by decide), and_m1 _ _ (by decide)]
  have e := B.e; have bd := bds h h0
  omega
theorem pa_128_1 (h : Int) (h0 : 0 ≤ h) (h1 : h < 65536) : IntKind.i64.wrap (bits .and .u16 (h.fdiv 128) 1) = bitW h 7 := by
  rw [pb_128_1 h h0 h1]
  have B := bts_of h h0 h1
  have bd := bds h h0
  rw [wi64_in _ (by omega) (by omega)]
theorem pb_256_1 (h : Int) (h0 : 0 ≤ h) (h1 : h < 65536) : bits .and .u16 (h.fdiv 256) 1 = bitW h 8 := by
  have B := bts_of h h0 h1
  rw [fdiv_lit _ _ (by decide), and_m1 _ _ (by decide)]
  have e := B.e; have bd := bds h h0
  omega
theorem pa_256_1 (h : Int) (h0 : 0 ≤ h) (h1 : h < 65536) : IntKind.i64.wrap (bits .and .u16 (h.fdiv 256) 1) = bitW h 8 := by
  rw [pb_256_1 h h0 h1]
  have B := bts_of h h0 h1
  have bd := bds h h0
  rw [wi64_in _ (by omega) (by omega)]
theorem pb_256_3 (h : Int) (h0 : 0 ≤ h) (h1 : h < 65536) : bits .and .u16 (h.fdiv 256) 3 = 2 * bitW h 9 + bitW h 8 := by
  have B := bts_of h h0 h1
  rw [fdiv_lit _ _ (by decide), and_m2 _ _ (by decide)]
  have e := B.e; have bd := bds h h0
  omega
theorem pa_256_3 (h : Int) (h0 : 0 ≤ h) (h1 : h < 65536) : IntKind.i64.wrap (bits .and .u16 (h.fdiv 256) 3) = 2 * bitW h 9 + bitW h 8 := by
  rw [pb_256_3 h h0 h1]
  have B := bts_of h h0 h1
  have bd := bds h h0
  rw [wi64_in _ (by omega) (by omega)]
theorem pb_256_7 (h : Int) (h0 : 0 ≤ h) (h1 : h < 65536) : bits .and .u16 (h.fdiv 256) 7 = 4 * bitW h 10 + 2 * bitW h 9 + bitW h 8 := by
  have B := bts_of h h0 h1
  rw [fdiv_lit _ _ (by decide), and_m3 _ _ (by decide)]
  have e := B.e; have bd := bds h h0
  omega
theorem pa_256_7 (h : Int) (h0 : 0 ≤ h) (h1 : h < 65536) : IntKind.i64.wrap (bits .and .u16 (h.fdiv 256) 7) = 4 * bitW h 10 + 2 * bitW h 9 + bitW h 8 := by
  rw [pb_256_7 h h0 h1]
  have B := bts_of h h0 h1
  have bd := bds h h0
  rw [wi64_in _ (by omega) (by omega)]
theorem pb_256_15 (h : Int) (h0 : 0 ≤ h) (h1 : h < 65536) : bits .and .u16 (h.fdiv 256) 15 = 8 * bitW h 11 + 4 * bitW h 10 + 2 * bitW h 9 + bitW h 8 := by
  have B := bts_of h h0 h1
  rw [fdiv_lit _ _ (by decide), and_m4 _ _ (by decide)]
  have e := B.e; have bd := bds h h0
  omega
theorem pa_256_15 (h : Int) (h0 : 0 ≤ h) (h1 : h < 65536) : IntKind.i64.wrap (bits .and .u16 (h.fdiv 256) 15) = 8 * bitW h 11 + 4 * bitW h 10 + 2 * bitW h 9 + bitW h 8 := by
  rw [pb_256_15 h h0 h1]
  have B := bts_of h h0 h1
  have bd := bds h h0
  rw [wi64_in _ (by omega) (by omega)]
theorem pb_512_1 (h : Int) (h0 : 0 ≤ h) (h1 : h < 65536) : bits .and .u16 (h.fdiv 512) 1 = bitW h 9 := by
  have B := bts_of h h0 h1
  rw [fdiv_lit _ _ (by decide), and_m1 _ _ (by decide)]
  have e := B.e; have bd := bds h h0
  omega
theorem pa_512_1 (h : Int) (h0 : 0 ≤ h) (h1 : h < 65536) : IntKind.i64.wrap (bits .and .u16 (h.fdiv 512) 1) = bitW h 9 := by
  rw [pb_512_1 h h0 h1]
  have B := bts_of h h0 h1
  have bd := bds h h0
  rw [wi64_in _ (by omega) (by omega)]
theorem pb_1024_1 (h : Int) (h0 : 0 ≤ h) (h1 : h < 65536) : bits .and .u16 (h.fdiv 1024) 1 = bitW h 10 := by
  have B := bts_of h h0 h1
  rw [fdiv_lit _ _ (by decide), and_m1 _ _ (by decide)]
  have e := B.e; have bd := bds h h0
  omega
theorem pa_1024_1 (h : Int) (h0 : 0 ≤ h) (h1 : h < 65536) : IntKind.i64.wrap (bits .and .u16 (h.fdiv 1024) 1) = bitW h 10 := by
  rw [pb_1024_1 h h0 h1]
  have B := bts_of h h0 h1
  have bd := bds h h0
  rw [wi64_in _ (by omega) (by omega)]
theorem pb_1024_3 (h : Int) (h0 : 0 ≤ h) (h1 : h < 65536) : bits .and .u16 (h.fdiv 1024) 3 = 2 * bitW h 11 + bitW h 10 := by
  have B := bts_of h h0 h1
  rw [fdiv_lit _ _ (by decide), and_m2 _ _ (by decide)]
  have e := B.e; have bd := bds h h0
  omega
theorem pa_1024_3 (h : Int) (h0 : 0 ≤ h) (h1 : h < 65536) : IntKind.i64.wrap (bits .and .u16 (h.fdiv 1024) 3) = 2 * bitW h 11 + bitW h 10 := by
  rw [pb_1024_3 h h0 h1]
  have B := bts_of h h0 h1
  have bd := bds h h0
  rw [wi64_in _ (by omega) (by omega)]
theorem pb_2048_1 (h : Int) (h0 : 0 ≤ h) (h1 : h < 65536) : bits .and .u16 (h.fdiv 2048) 1 = bitW h 11 := by
  have B := bts_of h h0 h1
  rw [fdiv_lit _ _ (by decide), and_m1 _ _ (by decide)]
  have e := B.e; have bd := bds h h0
  omega
theorem pa_2048_1 (h : Int) (h0 : 0 ≤ h) (h1 : h < 65536) : IntKind.i64.wrap (bits .and .u16 (h.fdiv 2048) 1) = bitW h 11 := by
  rw [pb_2048_1 h h0 h1]
  have B := bts_of h h0 h1
  have bd := bds h h0
  rw [wi64_in _ (by omega) (by omega)]
theorem pb_2048_3 (h : Int) (h0 : 0 ≤ h) (h1 : h < 65536) : bits .and .u16 (h.fdiv 2048) 3 = 2 * bitW h 12 + bitW h 11 := by
  have B := bts_of h h0 h1
  rw [fdiv_lit _ _ (by decide), and_m2 _ _ (by decide)]
  have e := B.e; have bd := bds h h0
  omega
theorem pa_2048_3 (h : Int) (h0 : 0 ≤ h) (h1 : h < 65536) : IntKind.i64.wrap (bits .and .u16 (h.fdiv 2048) 3) = 2 * bitW h 12 + bitW h 11 := by
  rw [pb_2048_3 h h0 h1]
  have B := bts_of h h0 h1
  have bd := bds h h0
  rw [wi64_in _ (by omega) (by omega)]
theorem pb_4096_1 (h : Int) (h0 : 0 ≤ h) (h1 : h < 65536) : bits .and .u16 (h.fdiv 4096) 1 = bitW h 12 := by
  have B := bts_of h h0 h1
  rw [fdiv_lit _ _ (by decide), and_m1 _ _ (by decide)]
  have e := B.e; have bd := bds h h0
  omega
theorem pa_4096_1 (h : Int) (h0 : 0 ≤ h) (h1 : h < 65536) : IntKind.i64.wrap (bits .and .u16 (h.fdiv 4096) 1) = bitW h 12 := by
  rw [pb_4096_1 h h0 h1]
  have B := bts_of h h0 h1
  have bd := bds h h0
  rw [wi64_in _ (by omega) (by omega)]
theorem pa_4096 (h : Int) (h0 : 0 ≤ h) (h1 : h < 65536) : h.fdiv 4096 = 8 * bitW h 15 + 4 * bitW h 14 + 2 * bitW h 13 + bitW h 12 := by
  have B := bts_of h h0 h1
  rw [fdiv_lit _ _ (by decide)]
  have e := B.e; have bd := bds h h0
  omega
theorem pa_255 (h : Int) (h0 : 0 ≤ h) (h1 : h < 65536) : bits .and .u16 h 255 = 128 * bitW h 7 + 64 * bitW h 6 + 32 * bitW h 5 + 16 * bitW h 4 + 8 * bitW h 3 + 4 * bitW h 2 + 2 * bitW h 1 + bitW h 0 := by
  have B := bts_of h h0 h1
  rw [and_m8 _ _ (by decide)]
  have e := B.e; have bd := bds h h0
  omega
theorem pa_s8 (h : Int) (h0 : 0 ≤ h) (h1 : h < 65536) : IntKind.u32.wrap ((IntKind.i32.wrap (IntKind.u32.wrap (IntKind.u32.wrap h * 16777216))).fdiv 16777216) = 64 * bitW h 6 + 32 * bitW h 5 + 16 * bitW h 4 + 8 * bitW h 3 + 4 * bitW h 2 + 2 * bitW h 1 + bitW h 0 + 4294967168 * bitW h 7 := by
  have B := bts_of h h0 h1
  rw [fdiv_lit _ _ (by decide), wu32_in h h0 (by omega), wu32, wu32, wi32]
  have e := B.e; have bd := bds h h0
  have q : h * 16777216 % 4294967296 = (128 * bitW h 7 + 64 * bitW h 6 + 32 * bitW h 5 + 16 * bitW h 4 + 8 * bitW h 3 + 4 * bitW h 2 + 2 * bitW h 1 + bitW h 0) * 16777216 := by omega
  rw [q]
  have z : bitW h 7 = 0 ∨ bitW h 7 = 1 := by omega
  rcases z with z | z <;> rw [z] <;> omega
theorem pa_s11 (h : Int) (h0 : 0 ≤ h) (h1 : h < 65536) : IntKind.u32.wrap ((IntKind.i32.wrap (IntKind.u32.wrap (IntKind.u32.wrap h * 2097152))).fdiv 2097152) = 512 * bitW h 9 + 256 * bitW h 8 + 128 * bitW h 7 + 64 * bitW h 6 + 32 * bitW h 5 + 16 * bitW h 4 + 8 * bitW h 3 + 4 * bitW h 2 + 2 * bitW h 1 + bitW h 0 + 4294966272 * bitW h 10 := by
  have B := bts_of h h0 h1
  rw [fdiv_lit _ _ (by decide), wu32_in h h0 (by omega), wu32, wu32, wi32]
  have e := B.e; have bd := bds h h0
  have q : h * 2097152 % 4294967296 = (1024 * bitW h 10 + 512 * bitW h 9 + 256 * bitW h 8 + 128 * bitW h 7 + 64 * bitW h 6 + 32 * bitW h 5 + 16 * bitW h 4 + 8 * bitW h 3 + 4 * bitW h 2 + 2 * bitW h 1 + bitW h 0) * 2097152 := by omega
  rw [q]
  have z : bitW h 10 = 0 ∨ bitW h 10 = 1 := by omega
  rcases z with z | z <;> rw [z] <;> omega
theorem or_1 : ∀ (y : Fin 2) (x : Fin 8), bits .or .i64 (IntKind.i64.wrap ((y.val : Int) * 8)) (x.val : Int) = 8 * (y.val : Int) + x.val := by decide +kernel
theorem or_2 : ∀ (x : Fin 256) (y : Fin 2), bits .or .i64 (x.val : Int) (IntKind.i64.wrap ((y.val : Int) * 16384)) = 16384 * (y.val : Int) + x.val := by decide +kernel
theorem or_3 : ∀ (x : Fin 256) (y : Fin 2), bits .or .i64 (x.val : Int) (IntKind.i64.wrap ((y.val : Int) * 32768)) = 32768 * (y.val : Int) + x.val := by decide +kernel
theorem or_1' (y x : Int) (a : 0 ≤ y) (b : y < 2) (c : 0 ≤ x) (d : x < 8) : bits .or .i64 (IntKind.i64.wrap (y * 8)) x = 8 * y + x := by
  have := or_1 ⟨y.toNat, by omega⟩ ⟨x.toNat, by omega⟩
  simpa [Int.toNat_of_nonneg a, Int.toNat_of_nonneg c] using this
theorem or_2' (x y : Int) (a : 0 ≤ y) (b : y < 2) (c : 0 ≤ x) (d : x < 256) : bits .or .i64 x (IntKind.i64.wrap (y * 16384)) = 16384 * y + x := by
  have := or_2 ⟨x.toNat, by omega⟩ ⟨y.toNat, by omega⟩
  simpa [Int.toNat_of_nonneg a, Int.toNat_of_nonneg c] using this
theorem or_3' (x y : Int) (a : 0 ≤ y) (b : y < 2) (c : 0 ≤ x) (d : x < 256) : bits .or .i64 x (IntKind.i64.wrap (y * 32768)) = 32768 * y + x := by
  have := or_3 ⟨x.toNat, by omega⟩ ⟨y.toNat, by omega⟩
  simpa [Int.toNat_of_nonneg a, Int.toNat_of_nonneg c] using this
theorem ol_1 (h : Int) (h0 : 0 ≤ h) (h1 : h < 65536) : bits .or .i64 (IntKind.i64.wrap (IntKind.i64.wrap (bits .and .u16 (h.fdiv 128) 1) * 8)) (IntKind.i64.wrap (bits .and .u16 (h.fdiv 1) 7)) = 8 * bitW h 7 + (4 * bitW h 2 + 2 * bitW h 1 + bitW h 0) := by
  rw [pa_128_1 h h0 h1, pa_1_7 h h0 h1]
  have B := bts_of h h0 h1
  have bd := bds h h0
  exact or_1' _ _ (by omega) (by omega) (by omega) (by omega)
theorem ol_2 (h : Int) (h0 : 0 ≤ h) (h1 : h < 65536) : bits .or .i64 (IntKind.i64.wrap (bits .and .u16 (h.fdiv 1) 255)) (IntKind.i64.wrap (IntKind.i64.wrap (bits .and .u16 (h.fdiv 256) 1) * 16384)) = 16384 * bitW h 8 + (128 * bitW h 7 + 64 * bitW h 6 + 32 * bitW h 5 + 16 * bitW h 4 + 8 * bitW h 3 + 4 * bitW h 2 + 2 * bitW h 1 + bitW h 0) := by
  rw [pa_256_1 h h0 h1, pa_1_255 h h0 h1]
  have B := bts_of h h0 h1
  have bd := bds h h0
  exact or_2' _ _ (by omega) (by omega) (by omega) (by omega)
theorem ol_3 (h : Int) (h0 : 0 ≤ h) (h1 : h < 65536) : bits .or .i64 (IntKind.i64.wrap (bits .and .u16 (h.fdiv 1) 255)) (IntKind.i64.wrap (IntKind.i64.wrap (bits .and .u16 (h.fdiv 256) 1) * 32768)) = 32768 * bitW h 8 + (128 * bitW h 7 + 64 * bitW h 6 + 32 * bitW h 5 + 16 * bitW h 4 + 8 * bitW h 3 + 4 * bitW h 2 + 2 * bitW h 1 + bitW h 0) := by
  rw [pa_256_1 h h0 h1, pa_1_255 h h0 h1]
  have B := bts_of h h0 h1
  have bd := bds h h0
  exact or_3' _ _ (by omega) (by omega) (by omega) (by omega)
end Go.Proofs.Ytpfdemmoapjjpaa

