import Derived.Test.YtbnglhfhmhnimaaV
set_option linter.unusedVariables false
set_option linter.unusedSimpArgs false
namespace Go.Proofs.Ytbnglhfhmhnimaa
open Go Go.Proofs Go.Proofs.Ytbnglhfhmhnimaa.Ev
set_option maxRecDepth 100000
theorem bds (h : Int) (h0 : 0 ≤ h) : (0 ≤ bitW h 0 ∧ bitW h 0 ≤ 1) ∧ (0 ≤ bitW h 1 ∧ bitW h 1 ≤ 1) ∧ (0 ≤ bitW h 2 ∧ bitW h 2 ≤ 1) ∧ (0 ≤ bitW h 3 ∧ bitW h 3 ≤ 1) ∧ (0 ≤ bitW h 4 ∧ bitW h 4 ≤ 1) ∧ (0 ≤ bitW h 5 ∧ bitW h 5 ≤ 1) ∧ (0 ≤ bitW h 6 ∧ bitW h 6 ≤ 1) ∧ (0 ≤ bitW h 7 ∧ bitW h 7 ≤ 1) ∧ (0 ≤ bitW h 8 ∧ bitW h 8 ≤ 1) ∧ (0 ≤ bitW h 9 ∧ bitW h 9 ≤ 1) ∧ (0 ≤ bitW h 10 ∧ bitW h 10 ≤ 1) ∧ (0 ≤ bitW h 11 ∧ bitW h 11 ≤ 1) ∧ (0 ≤ bitW h 12 ∧ bitW h 12 ≤ 1) ∧ (0 ≤ bitW h 13 ∧ bitW h 13 ≤ 1) ∧ (0 ≤ bitW h 14 ∧ bitW h 14 ≤ 1) ∧ (0 ≤ bitW h 15 ∧ bitW h 15 ≤ 1) ∧ (0 ≤ bitW h 16 ∧ bitW h 16 ≤ 1) ∧ (0 ≤ bitW h 17 ∧ bitW h 17 ≤ 1) ∧ (0 ≤ bitW h 18 ∧ bitW h 18 ≤ 1) ∧ (0 ≤ bitW h 19 ∧ bitW h 19 ≤ 1) ∧ (0 ≤ bitW h 20 ∧ bitW h 20 ≤ 1) ∧ (0 ≤ bitW h 21 ∧ bitW h 21 ≤ 1) ∧ (0 ≤ bitW h 22 ∧ bitW h 22 ≤ 1) ∧ (0 ≤ bitW h 23 ∧ bitW h 23 ≤ 1) ∧ (0 ≤ bitW h 24 ∧ bitW h 24 ≤ 1) ∧ (0 ≤ bitW h 25 ∧ bitW h 25 ≤ 1) ∧ (0 ≤ bitW h 26 ∧ bitW h 26 ≤ 1) ∧ (0 ≤ bitW h 27 ∧ bitW h 27 ≤ 1) ∧ (0 ≤ bitW h 28 ∧ bitW h 28 ≤ 1) ∧ (0 ≤ bitW h 29 ∧ bitW h 29 ≤ 1) ∧ (0 ≤ bitW h 30 ∧ bitW h 30 ≤ 1) ∧ (0 ≤ bitW h 31 ∧ bitW h 31 ≤ 1) :=
  ⟨bitW_bd h 0 h0, bitW_bd h 1 h0, bitW_bd h 2 h0, bitW_bd h 3 h0, bitW_bd h 4 h0, bitW_bd h 5 h0, bitW_bd h 6 h0, bitW_bd h 7 h0, bitW_bd h 8 h0, bitW_bd h 9 h0, bitW_bd h 10 h0, bitW_bd h 11 h0, bitW_bd h 12 h0, bitW_bd h 13 h0, bitW_bd h 14 h0, bitW_bd h 15 h0, bitW_bd h 16 h0, bitW_bd h 17 h0, bitW_bd h 18 h0, bitW_bd h 19 h0, bitW_bd h 20 h0, bitW_bd h 21 h0, bitW_bd h 22 h0, bitW_bd h 23 h0, bitW_bd h 24 h0, bitW_bd h 25 h0, bitW_bd h 26 h0, bitW_bd h 27 h0, bitW_bd h 28 h0, bitW_bd h 29 h0, bitW_bd h 30 h0, bitW_bd h 31 h0⟩
theorem fw_0_65 (h : Int) (h0 : 0 ≤ h) (h1 : h < 4294967296) : fld pt0 h 65 = bitW h 21 := by
  rw [fl_0_65, hv_eq _ 0 (by simp only [List.forall_mem_cons, bitW_bd h _ h0, List.not_mem_nil, false_implies, implies_true, and_self]) (by decide) (by simp only [List.length_cons, List.length_nil]; decide)]
  simp only [hn]
  omega
theorem fw_0_66 (h : Int) (h0 : 0 ≤ h) (h1 : h < 4294967296) : fld pt0 h 66 = 0 := by
  rw [fl_0_66, hv_eq _ 0 (by simp only [List.forall_mem_cons, bitW_bd h _ h0, List.not_mem_nil, false_implies, implies_true, and_self]) (by decide) (by simp only [List.length_cons, List.length_nil]; decide)]
  simp only [hn]
theorem fw_0_70 (h : Int) (h0 : 0 ≤ h) (h1 : h < 4294967296) : fld pt0 h 70 = bitW h 20 := by
  rw [fl_0_70, hv_eq _ 0 (by simp only [List.forall_mem_cons, bitW_bd h _ h0, List.not_mem_nil, false_implies, implies_true, and_self]) (by decide) (by simp only [List.length_cons, List.length_nil]; decide)]
  simp only [hn]
  omega
theorem fw_0_73 (h : Int) (h0 : 0 ≤ h) (h1 : h < 4294967296) : fld pt0 h 73 = 0 := by
  rw [fl_0_73, hv_eq _ 0 (by simp only [List.forall_mem_cons, bitW_bd h _ h0, List.not_mem_nil, false_implies, implies_true, and_self]) (by decide) (by simp only [List.length_cons, List.length_nil]; decide)]
  simp only [hn]
theorem fw_0_75 (h : Int) (h0 : 0 ≤ h) (h1 : h < 4294967296) : fld pt0 h 75 = 0 := by
  rw [fl_0_75, hv_eq _ 0 (by simp only [List.forall_mem_cons, bitW_bd h _ h0, List.not_mem_nil, false_implies, implies_true, and_self]) (by decide) (by simp only [List.length_cons, List.length_nil]; decide)]
  simp only [hn]
theorem fw_0_76 (h : Int) (h0 : 0 ≤ h) (h1 : h < 4294967296) : fld pt0 h 76 = 0 := by
  rw [fl_0_76, hv_eq _ 0 (by simp only [List.forall_mem_cons, bitW_bd h _ h0, List.not_mem_nil, false_implies, implies_true, and_self]) (by decide) (by simp only [List.length_cons, List.length_nil]; decide)]
  simp only [hn]
theorem fw_0_80 (h : Int) (h0 : 0 ≤ h) (h1 : h < 4294967296) : fld pt0 h 80 = 0 := by
  rw [fl_0_80, hv_eq _ 0 (by simp only [List.forall_mem_cons, bitW_bd h _ h0, List.not_mem_nil, false_implies, implies_true, and_self]) (by decide) (by simp only [List.length_cons, List.length_nil]; decide)]
  simp only [hn]
theorem fw_0_81 (h : Int) (h0 : 0 ≤ h) (h1 : h < 4294967296) : fld pt0 h 81 = 0 := by
  rw [fl_0_81, hv_eq _ 0 (by simp only [List.forall_mem_cons, bitW_bd h _ h0, List.not_mem_nil, false_implies, implies_true, and_self]) (by decide) (by simp only [List.length_cons, List.length_nil]; decide)]
  simp only [hn]
theorem fw_0_83 (h : Int) (h0 : 0 ≤ h) (h1 : h < 4294967296) : fld pt0 h 83 = 0 := by
  rw [fl_0_83, hv_eq _ 0 (by simp only [List.forall_mem_cons, bitW_bd h _ h0, List.not_mem_nil, false_implies, implies_true, and_self]) (by decide) (by simp only [List.length_cons, List.length_nil]; decide)]
  simp only [hn]
theorem fw_0_85 (h : Int) (h0 : 0 ≤ h) (h1 : h < 4294967296) : fld pt0 h 85 = 0 := by
  rw [fl_0_85, hv_eq _ 0 (by simp only [List.forall_mem_cons, bitW_bd h _ h0, List.not_mem_nil, false_implies, implies_true, and_self]) (by decide) (by simp only [List.length_cons, List.length_nil]; decide)]
  simp only [hn]
theorem fw_0_97 (h : Int) (h0 : 0 ≤ h) (h1 : h < 4294967296) : fld pt0 h 97 = 0 := by
  rw [fl_0_97, hv_eq _ 0 (by simp only [List.forall_mem_cons, bitW_bd h _ h0, List.not_mem_nil, false_implies, implies_true, and_self]) (by decide) (by simp only [List.length_cons, List.length_nil]; decide)]
  simp only [hn]
theorem fw_0_99 (h : Int) (h0 : 0 ≤ h) (h1 : h < 4294967296) : fld pt0 h 99 = 8 * bitW h 31 + 4 * bitW h 30 + 2 * bitW h 29 + bitW h 28 := by
  rw [fl_0_99, hv_eq _ 0 (by simp only [List.forall_mem_cons, bitW_bd h _ h0, List.not_mem_nil, false_implies, implies_true, and_self]) (by decide) (by simp only [List.length_cons, List.length_nil]; decide)]
  simp only [hn]
  omega
theorem fw_0_100 (h : Int) (h0 : 0 ≤ h) (h1 : h < 4294967296) : fld pt0 h 100 = 8 * bitW h 19 + 4 * bitW h 18 + 2 * bitW h 17 + bitW h 16 := by
  rw [fl_0_100, hv_eq _ 0 (by simp only [List.forall_mem_cons, bitW_bd h _ h0, List.not_mem_nil, false_implies, implies_true, and_self]) (by decide) (by simp only [List.length_cons, List.length_nil]; decide)]
  simp only [hn]
  omega
theorem fw_0_108 (h : Int) (h0 : 0 ≤ h) (h1 : h < 4294967296) : fld pt0 h 108 = 0 := by
  rw [fl_0_108, hv_eq _ 0 (by simp only [List.forall_mem_cons, bitW_bd h _ h0, List.not_mem_nil, false_implies, implies_true, and_self]) (by decide) (by simp only [List.length_cons, List.length_nil]; decide)]
  simp only [hn]
theorem fw_0_109 (h : Int) (h0 : 0 ≤ h) (h1 : h < 4294967296) : fld pt0 h 109 = 8 * bitW h 3 + 4 * bitW h 2 + 2 * bitW h 1 + bitW h 0 := by
  rw [fl_0_109, hv_eq _ 0 (by simp only [List.forall_mem_cons, bitW_bd h _ h0, List.not_mem_nil, false_implies, implies_true, and_self]) (by decide) (by simp only [List.length_cons, List.length_nil]; decide)]
  simp only [hn]
  omega
theorem fw_0_110 (h : Int) (h0 : 0 ≤ h) (h1 : h < 4294967296) : fld pt0 h 110 = 8 * bitW h 15 + 4 * bitW h 14 + 2 * bitW h 13 + bitW h 12 := by
  rw [fl_0_110, hv_eq _ 0 (by simp only [List.forall_mem_cons, bitW_bd h _ h0, List.not_mem_nil, false_implies, implies_true, and_self]) (by decide) (by simp only [List.length_cons, List.length_nil]; decide)]
  simp only [hn]
  omega
theorem fw_0_115 (h : Int) (h0 : 0 ≤ h) (h1 : h < 4294967296) : fld pt0 h 115 = 8 * bitW h 11 + 4 * bitW h 10 + 2 * bitW h 9 + bitW h 8 := by
  rw [fl_0_115, hv_eq _ 0 (by simp only [List.forall_mem_cons, bitW_bd h _ h0, List.not_mem_nil, false_implies, implies_true, and_self]) (by decide) (by simp only [List.length_cons, List.length_nil]; decide)]
  simp only [hn]
  omega
theorem fw_0_116 (h : Int) (h0 : 0 ≤ h) (h1 : h < 4294967296) : fld pt0 h 116 = 0 := by
  rw [fl_0_116, hv_eq _ 0 (by simp only [List.forall_mem_cons, bitW_bd h _ h0, List.not_mem_nil, false_implies, implies_true, and_self]) (by decide) (by simp only [List.length_cons, List.length_nil]; decide)]
  simp only [hn]
theorem fw_1_65 (h : Int) (h0 : 0 ≤ h) (h1 : h < 4294967296) : fld pt1 h 65 = bitW h 21 := by
  rw [fl_1_65, hv_eq _ 0 (by simp only [List.forall_mem_cons, bitW_bd h _ h0, List.not_mem_nil, false_implies, implies_true, and_self]) (by decide) (by simp only [List.length_cons, List.length_nil]; decide)]
  simp only [hn]
  omega
theorem fw_1_66 (h : Int) (h0 : 0 ≤ h) (h1 : h < 4294967296) : fld pt1 h 66 = 0 := by
  rw [fl_1_66, hv_eq _ 0 (by simp only [List.forall_mem_cons, bitW_bd h _ h0, List.not_mem_nil, false_implies, implies_true, and_self]) (by decide) (by simp only [List.length_cons, List.length_nil]; decide)]
  simp only [hn]
theorem fw_1_70 (h : Int) (h0 : 0 ≤ h) (h1 : h < 4294967296) : fld pt1 h 70 = bitW h 20 := by
  rw [fl_1_70, hv_eq _ 0 (by simp only [List.forall_mem_cons, bitW_bd h _ h0, List.not_mem_nil, false_implies, implies_true, and_self]) (by decide) (by simp only [List.length_cons, List.length_nil]; decide)]
  simp only [hn]
  omega
theorem fw_1_73 (h : Int) (h0 : 0 ≤ h) (h1 : h < 4294967296) : fld pt1 h 73 = 0 := by
  rw [fl_1_73, hv_eq _ 0 (by simp only [List.forall_mem_cons, bitW_bd h _ h0, List.not_mem_nil, false_implies, implies_true, and_self]) (by decide) (by simp only [List.length_cons, List.length_nil]; decide)]
  simp only [hn]
theorem fw_1_75 (h : Int) (h0 : 0 ≤ h) (h1 : h < 4294967296) : fld pt1 h 75 = 0 := by
  rw [fl_1_75, hv_eq _ 0 (by simp only [List.forall_mem_cons, bitW_bd h _ h0, List.not_mem_nil, false_implies, implies_true, and_self]) (by decide) (by simp only [List.length_cons, List.length_nil]; decide)]
  simp only [hn]
theorem fw_1_76 (h : Int) (h0 : 0 ≤ h) (h1 : h < 4294967296) : fld pt1 h 76 = 0 := by
  rw [fl_1_76, hv_eq _ 0 (by simp only [List.forall_mem_cons, bitW_bd h _ h0, List.not_mem_nil, false_implies, implies_true, and_self]) (by decide) (by simp only [List.length_cons, List.length_nil]; decide)]
  simp only [hn]
theorem fw_1_80 (h : Int) (h0 : 0 ≤ h) (h1 : h < 4294967296) : fld pt1 h 80 = 0 := by
  rw [fl_1_80, hv_eq _ 0 (by simp only [List.forall_mem_cons, bitW_bd h _ h0, List.not_mem_nil, false_implies, implies_true, and_self]) (by decide) (by simp only [List.length_cons, List.length_nil]; decide)]
  simp only [hn]
theorem fw_1_81 (h : Int) (h0 : 0 ≤ h) (h1 : h < 4294967296) : fld pt1 h 81 = 0 := by
  rw [fl_1_81, hv_eq _ 0 (by simp only [List.forall_mem_cons, bitW_bd h _ h0, List.not_mem_nil, false_implies, implies_true, and_self]) (by decide) (by simp only [List.length_cons, List.length_nil]; decide)]
  simp only [hn]
theorem fw_1_83 (h : Int) (h0 : 0 ≤ h) (h1 : h < 4294967296) : fld pt1 h 83 = bitW h 22 := by
  rw [fl_1_83, hv_eq _ 0 (by simp only [List.forall_mem_cons, bitW_bd h _ h0, List.not_mem_nil, false_implies, implies_true, and_self]) (by decide) (by simp only [List.length_cons, List.length_nil]; decide)]
  simp only [hn]
  omega
theorem fw_1_85 (h : Int) (h0 : 0 ≤ h) (h1 : h < 4294967296) : fld pt1 h 85 = 0 := by
  rw [fl_1_85, hv_eq _ 0 (by simp only [List.forall_mem_cons, bitW_bd h _ h0, List.not_mem_nil, false_implies, implies_true, and_self]) (by decide) (by simp only [List.length_cons, List.length_nil]; decide)]
  simp only [hn]
theorem fw_1_97 (h : Int) (h0 : 0 ≤ h) (h1 : h < 4294967296) : fld pt1 h 97 = 0 := by
  rw [fl_1_97, hv_eq _ 0 (by simp only [List.forall_mem_cons, bitW_bd h _ h0, List.not_mem_nil, false_implies, implies_true, and_self]) (by decide) (by simp only [List.length_cons, List.length_nil]; decide)]
  simp only [hn]
theorem fw_1_99 (h : Int) (h0 : 0 ≤ h) (h1 : h < 4294967296) : fld pt1 h 99 = 8 * bitW h 31 + 4 * bitW h 30 + 2 * bitW h 29 + bitW h 28 := by
  rw [fl_1_99, hv_eq _ 0 (by simp only [List.forall_mem_cons, bitW_bd h _ h0, List.not_mem_nil, false_implies, implies_true, and_self]) (by decide) (by simp only [List.length_cons, List.length_nil]; decide)]
  simp only [hn]
  omega
theorem fw_1_100 (h : Int) (h0 : 0 ≤ h) (h1 : h < 4294967296) : fld pt1 h 100 = 8 * bitW h 19 + 4 * bitW h 18 + 2 * bitW h 17 + bitW h 16 := by
  rw [fl_1_100, hv_eq _ 0 (by simp only [List.forall_mem_cons, bitW_bd h _ h0, List.not_mem_nil, false_implies, implies_true, and_self]) (by decide) (by simp only [List.length_cons, List.length_nil]; decide)]
  simp only [hn]
  omega
theorem fw_1_108 (h : Int) (h0 : 0 ≤ h) (h1 : h < 4294967296) : fld pt1 h 108 = 0 := by
  rw [fl_1_108, hv_eq _ 0 (by simp only [List.forall_mem_cons, bitW_bd h _ h0, List.not_mem_nil, false_implies, implies_true, and_self]) (by decide) (by simp only [List.length_cons, List.length_nil]; decide)]
  simp only [hn]
theorem fw_1_109 (h : Int) (h0 : 0 ≤ h) (h1 : h < 4294967296) : fld pt1 h 109 = 8 * bitW h 3 + 4 * bitW h 2 + 2 * bitW h 1 + bitW h 0 := by
  rw [fl_1_109, hv_eq _ 0 (by simp only [List.forall_mem_cons, bitW_bd h _ h0, List.not_mem_nil, false_implies, implies_true, and_self]) (by decide) (by simp only [List.length_cons, List.length_nil]; decide)]
  simp only [hn]
  omega
theorem fw_1_110 (h : Int) (h0 : 0 ≤ h) (h1 : h < 4294967296) : fld pt1 h 110 = 8 * bitW h 15 + 4 * bitW h 14 + 2 * bitW h 13 + bitW h 12 := by
  rw [fl_1_110, hv_eq _ 0 (by simp only [List.forall_mem_cons, bitW_bd h _ h0, List.not_mem_nil, false_implies, implies_true, and_self]) (by decide) (by simp only [List.length_cons, List.length_nil]; decide)]
  simp only [hn]
  omega
theorem fw_1_115 (h : Int) (h0 : 0 ≤ h) (h1 : h < 4294967296) : fld pt1 h 115 = 8 * bitW h 11 + 4 * bitW h 10 + 2 * bitW h 9 + bitW h 8 := by
  rw [fl_1_115, hv_eq _ 0 (by simp only [List.forall_mem_cons, bitW_bd h _ h0, List.not_mem_nil, false_implies, implies_true, and_self]) (by decide) (by simp only [List.length_cons, List.length_nil]; decide)]
  simp only [hn]
  omega
theorem fw_1_116 (h : Int) (h0 : 0 ≤ h) (h1 : h < 4294967296) : fld pt1 h 116 = 0 := by
  rw [fl_1_116, hv_eq _ 0 (by simp only [List.forall_mem_cons, bitW_bd h _ h0, List.not_mem_nil, false_implies, implies_true, and_self]) (by decide) (by simp only [List.length_cons, List.length_nil]; decide)]
  simp only [hn]
theorem fw_2_65 (h : Int) (h0 : 0 ≤ h) (h1 : h < 4294967296) : fld pt2 h 65 = 0 := by
  rw [fl_2_65, hv_eq _ 0 (by simp only [List.forall_mem_cons, bitW_bd h _ h0, List.not_mem_nil, false_implies, implies_true, and_self]) (by decide) (by simp only [List.length_cons, List.length_nil]; decide)]
  simp only [hn]
theorem fw_2_66 (h : Int) (h0 : 0 ≤ h) (h1 : h < 4294967296) : fld pt2 h 66 = bitW h 22 := by
  rw [fl_2_66, hv_eq _ 0 (by simp only [List.forall_mem_cons, bitW_bd h _ h0, List.not_mem_nil, false_implies, implies_true, and_self]) (by decide) (by simp only [List.length_cons, List.length_nil]; decide)]
  simp only [hn]
  omega
theorem fw_2_70 (h : Int) (h0 : 0 ≤ h) (h1 : h < 4294967296) : fld pt2 h 70 = 0 := by
  rw [fl_2_70, hv_eq _ 0 (by simp only [List.forall_mem_cons, bitW_bd h _ h0, List.not_mem_nil, false_implies, implies_true, and_self]) (by decide) (by simp only [List.length_cons, List.length_nil]; decide)]
  simp only [hn]
theorem fw_2_73 (h : Int) (h0 : 0 ≤ h) (h1 : h < 4294967296) : fld pt2 h 73 = 0 := by
  rw [fl_2_73, hv_eq _ 0 (by simp only [List.forall_mem_cons, bitW_bd h _ h0, List.not_mem_nil, false_implies, implies_true, and_self]) (by decide) (by simp only [List.length_cons, List.length_nil]; decide)]
  simp only [hn]
theorem fw_2_75 (h : Int) (h0 : 0 ≤ h) (h1 : h < 4294967296) : fld pt2 h 75 = 0 := by
  rw [fl_2_75, hv_eq _ 0 (by simp only [List.forall_mem_cons, bitW_bd h _ h0, List.not_mem_nil, false_implies, implies_true, and_self]) (by decide) (by simp only [List.length_cons, List.length_nil]; decide)]
  simp only [hn]
theorem fw_2_76 (h : Int) (h0 : 0 ≤ h) (h1 : h < 4294967296) : fld pt2 h 76 = 0 := by
  rw [fl_2_76, hv_eq _ 0 (by simp only [List.forall_mem_cons, bitW_bd h _ h0, List.not_mem_nil, false_implies, implies_true, and_self]) (by decide) (by simp only [List.length_cons, List.length_nil]; decide)]
  simp only [hn]
theorem fw_2_80 (h : Int) (h0 : 0 ≤ h) (h1 : h < 4294967296) : fld pt2 h 80 = 0 := by
  rw [fl_2_80, hv_eq _ 0 (by simp only [List.forall_mem_cons, bitW_bd h _ h0, List.not_mem_nil, false_implies, implies_true, and_self]) (by decide) (by simp only [List.length_cons, List.length_nil]; decide)]
  simp only [hn]
theorem fw_2_81 (h : Int) (h0 : 0 ≤ h) (h1 : h < 4294967296) : fld pt2 h 81 = 0 := by
  rw [fl_2_81, hv_eq _ 0 (by simp only [List.forall_mem_cons, bitW_bd h _ h0, List.not_mem_nil, false_implies, implies_true, and_self]) (by decide) (by simp only [List.length_cons, List.length_nil]; decide)]
  simp only [hn]
theorem fw_2_83 (h : Int) (h0 : 0 ≤ h) (h1 : h < 4294967296) : fld pt2 h 83 = 0 := by
  rw [fl_2_83, hv_eq _ 0 (by simp only [List.forall_mem_cons, bitW_bd h _ h0, List.not_mem_nil, false_implies, implies_true, and_self]) (by decide) (by simp only [List.length_cons, List.length_nil]; decide)]
  simp only [hn]
theorem fw_2_85 (h : Int) (h0 : 0 ≤ h) (h1 : h < 4294967296) : fld pt2 h 85 = 0 := by
  rw [fl_2_85, hv_eq _ 0 (by simp only [List.forall_mem_cons, bitW_bd h _ h0, List.not_mem_nil, false_implies, implies_true, and_self]) (by decide) (by simp only [List.length_cons, List.length_nil]; decide)]
  simp only [hn]
theorem fw_2_97 (h : Int) (h0 : 0 ≤ h) (h1 : h < 4294967296) : fld pt2 h 97 = 0 := by
  rw [fl_2_97, hv_eq _ 0 (by simp only [List.forall_mem_cons, bitW_bd h _ h0, List.not_mem_nil, false_implies, implies_true, and_self]) (by decide) (by simp only [List.length_cons, List.length_nil]; decide)]
  simp only [hn]
theorem fw_2_99 (h : Int) (h0 : 0 ≤ h) (h1 : h < 4294967296) : fld pt2 h 99 = 8 * bitW h 31 + 4 * bitW h 30 + 2 * bitW h 29 + bitW h 28 := by
  rw [fl_2_99, hv_eq _ 0 (by simp only [List.forall_mem_cons, bitW_bd h _ h0, List.not_mem_nil, false_implies, implies_true, and_self]) (by decide) (by simp only [List.length_cons, List.length_nil]; decide)]
  simp only [hn]
  omega
theorem fw_2_100 (h : Int) (h0 : 0 ≤ h) (h1 : h < 4294967296) : fld pt2 h 100 = 8 * bitW h 15 + 4 * bitW h 14 + 2 * bitW h 13 + bitW h 12 := by
  rw [fl_2_100, hv_eq _ 0 (by simp only [List.forall_mem_cons, bitW_bd h _ h0, List.not_mem_nil, false_implies, implies_true, and_self]) (by decide) (by simp only [List.length_cons, List.length_nil]; decide)]
  simp only [hn]
  omega
theorem fw_2_108 (h : Int) (h0 : 0 ≤ h) (h1 : h < 4294967296) : fld pt2 h 108 = 0 := by
  rw [fl_2_108, hv_eq _ 0 (by simp only [List.forall_mem_cons, bitW_bd h _ h0, List.not_mem_nil, false_implies, implies_true, and_self]) (by decide) (by simp only [List.length_cons, List.length_nil]; decide)]
  simp only [hn]
theorem fw_2_109 (h : Int) (h0 : 0 ≤ h) (h1 : h < 4294967296) : fld pt2 h 109 = 8 * bitW h 3 + 4 * bitW h 2 + 2 * bitW h 1 + bitW h 0 := by
  rw [fl_2_109, hv_eq _ 0 (by simp only [List.forall_mem_cons, bitW_bd h _ h0, List.not_mem_nil, false_implies, implies_true, and_self]) (by decide) (by simp only [List.length_cons, List.length_nil]; decide)]
  simp only [hn]
  omega
theorem fw_2_110 (h : Int) (h0 : 0 ≤ h) (h1 : h < 4294967296) : fld pt2 h 110 = 8 * bitW h 19 + 4 * bitW h 18 + 2 * bitW h 17 + bitW h 16 := by
  rw [fl_2_110, hv_eq _ 0 (by simp only [List.forall_mem_cons, bitW_bd h _ h0, List.not_mem_nil, false_implies, implies_true, and_self]) (by decide) (by simp only [List.length_cons, List.length_nil]; decide)]
  simp only [hn]
  omega
theorem fw_2_115 (h : Int) (h0 : 0 ≤ h) (h1 : h < 4294967296) : fld pt2 h 115 = 0 := by
  rw [fl_2_115, hv_eq _ 0 (by simp only [List.forall_mem_cons, bitW_bd h _ h0, List.not_mem_nil, false_implies, implies_true, and_self]) (by decide) (by simp only [List.length_cons, List.length_nil]; decide)]
  simp only [hn]
theorem fw_2_116 (h : Int) (h0 : 0 ≤ h) (h1 : h < 4294967296) : fld pt2 h 116 = 0 := by
  rw [fl_2_116, hv_eq _ 0 (by simp only [List.forall_mem_cons, bitW_bd h _ h0, List.not_mem_nil, false_implies, implies_true, and_self]) (by decide) (by simp only [List.length_cons, List.length_nil]; decide)]
  simp only [hn]
theorem fw_3_65 (h : Int) (h0 : 0 ≤ h) (h1 : h < 4294967296) : fld pt3 h 65 = 0 := by
  rw [fl_3_65, hv_eq _ 0 (by simp only [List.forall_mem_cons, bitW_bd h _ h0, List.not_mem_nil, false_implies, implies_true, and_self]) (by decide) (by simp only [List.length_cons, List.length_nil]; decide)]
  simp only [hn]
theorem fw_3_66 (h : Int) (h0 : 0 ≤ h) (h1 : h < 4294967296) : fld pt3 h 66 = 0 := by
  rw [fl_3_66, hv_eq _ 0 (by simp only [List.forall_mem_cons, bitW_bd h _ h0, List.not_mem_nil, false_implies, implies_true, and_self]) (by decide) (by simp only [List.length_cons, List.length_nil]; decide)]
  simp only [hn]
theorem fw_3_70 (h : Int) (h0 : 0 ≤ h) (h1 : h < 4294967296) : fld pt3 h 70 = 0 := by
  rw [fl_3_70, hv_eq _ 0 (by simp only [List.forall_mem_cons, bitW_bd h _ h0, List.not_mem_nil, false_implies, implies_true, and_self]) (by decide) (by simp only [List.length_cons, List.length_nil]; decide)]
  simp only [hn]
theorem fw_3_72 (h : Int) (h0 : 0 ≤ h) (h1 : h < 4294967296) : fld pt3 h 72 = 2 * bitW h 6 + bitW h 5 := by
  rw [fl_3_72, hv_eq _ 0 (by simp only [List.forall_mem_cons, bitW_bd h _ h0, List.not_mem_nil, false_implies, implies_true, and_self]) (by decide) (by simp only [List.length_cons, List.length_nil]; decide)]
  simp only [hn]
  omega
theorem fw_3_73 (h : Int) (h0 : 0 ≤ h) (h1 : h < 4294967296) : fld pt3 h 73 = 0 := by
  rw [fl_3_73, hv_eq _ 0 (by simp only [List.forall_mem_cons, bitW_bd h _ h0, List.not_mem_nil, false_implies, implies_true, and_self]) (by decide) (by simp only [List.length_cons, List.length_nil]; decide)]
  simp only [hn]
theorem fw_3_75 (h : Int) (h0 : 0 ≤ h) (h1 : h < 4294967296) : fld pt3 h 75 = 0 := by
  rw [fl_3_75, hv_eq _ 0 (by simp only [List.forall_mem_cons, bitW_bd h _ h0, List.not_mem_nil, false_implies, implies_true, and_self]) (by decide) (by simp only [List.length_cons, List.length_nil]; decide)]
  simp only [hn]
theorem fw_3_80 (h : Int) (h0 : 0 ≤ h) (h1 : h < 4294967296) : fld pt3 h 80 = bitW h 24 := by
  rw [fl_3_80, hv_eq _ 0 (by simp only [List.forall_mem_cons, bitW_bd h _ h0, List.not_mem_nil, false_implies, implies_true, and_self]) (by decide) (by simp only [List.length_cons, List.length_nil]; decide)]
  simp only [hn]
  omega
theorem fw_3_81 (h : Int) (h0 : 0 ≤ h) (h1 : h < 4294967296) : fld pt3 h 81 = 0 := by
  rw [fl_3_81, hv_eq _ 0 (by simp only [List.forall_mem_cons, bitW_bd h _ h0, List.not_mem_nil, false_implies, implies_true, and_self]) (by decide) (by simp only [List.length_cons, List.length_nil]; decide)]
  simp only [hn]
theorem fw_3_83 (h : Int) (h0 : 0 ≤ h) (h1 : h < 4294967296) : fld pt3 h 83 = 0 := by
  rw [fl_3_83, hv_eq _ 0 (by simp only [List.forall_mem_cons, bitW_bd h _ h0, List.not_mem_nil, false_implies, implies_true, and_self]) (by decide) (by simp only [List.length_cons, List.length_nil]; decide)]
  simp only [hn]
theorem fw_3_85 (h : Int) (h0 : 0 ≤ h) (h1 : h < 4294967296) : fld pt3 h 85 = bitW h 23 := by
  rw [fl_3_85, hv_eq _ 0 (by simp only [List.forall_mem_cons, bitW_bd h _ h0, List.not_mem_nil, false_implies, implies_true, and_self]) (by decide) (by simp only [List.length_cons, List.length_nil]; decide)]
  simp only [hn]
  omega
theorem fw_3_87 (h : Int) (h0 : 0 ≤ h) (h1 : h < 4294967296) : fld pt3 h 87 = bitW h 21 := by
  rw [fl_3_87, hv_eq _ 0 (by simp only [List.forall_mem_cons, bitW_bd h _ h0, List.not_mem_nil, false_implies, implies_true, and_self]) (by decide) (by simp only [List.length_cons, List.length_nil]; decide)]
  simp only [hn]
  omega
theorem fw_3_97 (h : Int) (h0 : 0 ≤ h) (h1 : h < 4294967296) : fld pt3 h 97 = 0 := by
  rw [fl_3_97, hv_eq _ 0 (by simp only [List.forall_mem_cons, bitW_bd h _ h0, List.not_mem_nil, false_implies, implies_true, and_self]) (by decide) (by simp only [List.length_cons, List.length_nil]; decide)]
  simp only [hn]
theorem fw_3_99 (h : Int) (h0 : 0 ≤ h) (h1 : h < 4294967296) : fld pt3 h 99 = 8 * bitW h 31 + 4 * bitW h 30 + 2 * bitW h 29 + bitW h 28 := by
  rw [fl_3_99, hv_eq _ 0 (by simp only [List.forall_mem_cons, bitW_bd h _ h0, List.not_mem_nil, false_implies, implies_true, and_self]) (by decide) (by simp only [List.length_cons, List.length_nil]; decide)]
  simp only [hn]
  omega
theorem fw_3_100 (h : Int) (h0 : 0 ≤ h) (h1 : h < 4294967296) : fld pt3 h 100 = 8 * bitW h 15 + 4 * bitW h 14 + 2 * bitW h 13 + bitW h 12 := by
  rw [fl_3_100, hv_eq _ 0 (by simp only [List.forall_mem_cons, bitW_bd h _ h0, List.not_mem_nil, false_implies, implies_true, and_self]) (by decide) (by simp only [List.length_cons, List.length_nil]; decide)]
  simp only [hn]
  omega
theorem fw_3_108 (h : Int) (h0 : 0 ≤ h) (h1 : h < 4294967296) : fld pt3 h 108 = 0 := by
  rw [fl_3_108, hv_eq _ 0 (by simp only [List.forall_mem_cons, bitW_bd h _ h0, List.not_mem_nil, false_implies, implies_true, and_self]) (by decide) (by simp only [List.length_cons, List.length_nil]; decide)]
  simp only [hn]
theorem fw_3_109 (h : Int) (h0 : 0 ≤ h) (h1 : h < 4294967296) : fld pt3 h 109 = 8 * bitW h 3 + 4 * bitW h 2 + 2 * bitW h 1 + bitW h 0 := by
  rw [fl_3_109, hv_eq _ 0 (by simp only [List.forall_mem_cons, bitW_bd h _ h0, List.not_mem_nil, false_implies, implies_true, and_self]) (by decide) (by simp only [List.length_cons, List.length_nil]; decide)]
  simp only [hn]
  omega
theorem fw_3_110 (h : Int) (h0 : 0 ≤ h) (h1 : h < 4294967296) : fld pt3 h 110 = 8 * bitW h 19 + 4 * bitW h 18 + 2 * bitW h 17 + bitW h 16 := by
  rw [fl_3_110, hv_eq _ 0 (by simp only [List.forall_mem_cons, bitW_bd h _ h0, List.not_mem_nil, false_implies, implies_true, and_self]) (by decide) (by simp only [List.length_cons, List.length_nil]; decide)]
  simp only [hn]
  omega
theorem fw_3_115 (h : Int) (h0 : 0 ≤ h) (h1 : h < 4294967296) : fld pt3 h 115 = 0 := by
  rw [fl_3_115, hv_eq _ 0 (by simp only [List.forall_mem_cons, bitW_bd h _ h0, List.not_mem_nil, false_implies, implies_true, and_self]) (by decide) (by simp only [List.length_cons, List.length_nil]; decide)]
  simp only [hn]
theorem fw_3_116 (h : Int) (h0 : 0 ≤ h) (h1 : h < 4294967296) : fld pt3 h 116 = 0 := by
  rw [fl_3_116, hv_eq _ 0 (by simp only [List.forall_mem_cons, bitW_bd h _ h0, List.not_mem_nil, false_implies, implies_true, and_self]) (by decide) (by simp only [List.length_cons, List.length_nil]; decide)]
  simp only [hn]
theorem fw_4_65 (h : Int) (h0 : 0 ≤ h) (h1 : h < 4294967296) : fld pt4 h 65 = 0 := by
  rw [fl_4_65, hv_eq _ 0 (by simp only [List.forall_mem_cons, bitW_bd h _ h0, List.not_mem_nil, false_implies, implies_true, and_self]) (by decide) (by simp only [List.length_cons, List.length_nil]; decide)]
  simp only [hn]
theorem fw_4_66 (h : Int) (h0 : 0 ≤ h) (h1 : h < 4294967296) : fld pt4 h 66 = 0 := by
  rw [fl_4_66, hv_eq _ 0 (by simp only [List.forall_mem_cons, bitW_bd h _ h0, List.not_mem_nil, false_implies, implies_true, and_self]) (by decide) (by simp only [List.length_cons, List.length_nil]; decide)]
  simp only [hn]
theorem fw_4_70 (h : Int) (h0 : 0 ≤ h) (h1 : h < 4294967296) : fld pt4 h 70 = 0 := by
  rw [fl_4_70, hv_eq _ 0 (by simp only [List.forall_mem_cons, bitW_bd h _ h0, List.not_mem_nil, false_implies, implies_true, and_self]) (by decide) (by simp only [List.length_cons, List.length_nil]; decide)]
  simp only [hn]
theorem fw_4_73 (h : Int) (h0 : 0 ≤ h) (h1 : h < 4294967296) : fld pt4 h 73 = 0 := by
  rw [fl_4_73, hv_eq _ 0 (by simp only [List.forall_mem_cons, bitW_bd h _ h0, List.not_mem_nil, false_implies, implies_true, and_self]) (by decide) (by simp only [List.length_cons, List.length_nil]; decide)]
  simp only [hn]
theorem fw_4_75 (h : Int) (h0 : 0 ≤ h) (h1 : h < 4294967296) : fld pt4 h 75 = 0 := by
  rw [fl_4_75, hv_eq _ 0 (by simp only [List.forall_mem_cons, bitW_bd h _ h0, List.not_mem_nil, false_implies, implies_true, and_self]) (by decide) (by simp only [List.length_cons, List.length_nil]; decide)]
  simp only [hn]
theorem fw_4_80 (h : Int) (h0 : 0 ≤ h) (h1 : h < 4294967296) : fld pt4 h 80 = bitW h 24 := by
  rw [fl_4_80, hv_eq _ 0 (by simp only [List.forall_mem_cons, bitW_bd h _ h0, List.not_mem_nil, false_implies, implies_true, and_self]) (by decide) (by simp only [List.length_cons, List.length_nil]; decide)]
  simp only [hn]
  omega
theorem fw_4_81 (h : Int) (h0 : 0 ≤ h) (h1 : h < 4294967296) : fld pt4 h 81 = 0 := by
  rw [fl_4_81, hv_eq _ 0 (by simp only [List.forall_mem_cons, bitW_bd h _ h0, List.not_mem_nil, false_implies, implies_true, and_self]) (by decide) (by simp only [List.length_cons, List.length_nil]; decide)]
  simp only [hn]
theorem fw_4_83 (h : Int) (h0 : 0 ≤ h) (h1 : h < 4294967296) : fld pt4 h 83 = 0 := by
  rw [fl_4_83, hv_eq _ 0 (by simp only [List.forall_mem_cons, bitW_bd h _ h0, List.not_mem_nil, false_implies, implies_true, and_self]) (by decide) (by simp only [List.length_cons, List.length_nil]; decide)]
  simp only [hn]
theorem fw_4_85 (h : Int) (h0 : 0 ≤ h) (h1 : h < 4294967296) : fld pt4 h 85 = bitW h 23 := by
  rw [fl_4_85, hv_eq _ 0 (by simp only [List.forall_mem_cons, bitW_bd h _ h0, List.not_mem_nil, false_implies, implies_true, and_self]) (by decide) (by simp only [List.length_cons, List.length_nil]; decide)]
  simp only [hn]
  omega
theorem fw_4_87 (h : Int) (h0 : 0 ≤ h) (h1 : h < 4294967296) : fld pt4 h 87 = bitW h 21 := by
  rw [fl_4_87, hv_eq _ 0 (by simp only [List.forall_mem_cons, bitW_bd h _ h0, List.not_mem_nil, false_implies, implies_true, and_self]) (by decide) (by simp only [List.length_cons, List.length_nil]; decide)]
  simp only [hn]
  omega
theorem fw_4_97 (h : Int) (h0 : 0 ≤ h) (h1 : h < 4294967296) : fld pt4 h 97 = 0 := by
  rw [fl_4_97, hv_eq _ 0 (by simp only [List.forall_mem_cons, bitW_bd h _ h0, List.not_mem_nil, false_implies, implies_true, and_self]) (by decide) (by simp only [List.length_cons, List.length_nil]; decide)]
  simp only [hn]
theorem fw_4_99 (h : Int) (h0 : 0 ≤ h) (h1 : h < 4294967296) : fld pt4 h 99 = 8 * bitW h 31 + 4 * bitW h 30 + 2 * bitW h 29 + bitW h 28 := by
  rw [fl_4_99, hv_eq _ 0 (by simp only [List.forall_mem_cons, bitW_bd h _ h0, List.not_mem_nil, false_implies, implies_true, and_self]) (by decide) (by simp only [List.length_cons, List.length_nil]; decide)]
  simp only [hn]
  omega
theorem fw_4_100 (h : Int) (h0 : 0 ≤ h) (h1 : h < 4294967296) : fld pt4 h 100 = 8 * bitW h 15 + 4 * bitW h 14 + 2 * bitW h 13 + bitW h 12 := by
  rw [fl_4_100, hv_eq _ 0 (by simp only [List.forall_mem_cons, bitW_bd h _ h0, List.not_mem_nil, false_implies, implies_true, and_self]) (by decide) (by simp only [List.length_cons, List.length_nil]; decide)]
  simp only [hn]
  omega
theorem fw_4_108 (h : Int) (h0 : 0 ≤ h) (h1 : h < 4294967296) : fld pt4 h 108 = 0 := by
  rw [fl_4_108, hv_eq _ 0 (by simp only [List.forall_mem_cons, bitW_bd h _ h0, List.not_mem_nil, false_implies, implies_true, and_self]) (by decide) (by simp only [List.length_cons, List.length_nil]; decide)]
  simp only [hn]
theorem fw_4_109 (h : Int) (h0 : 0 ≤ h) (h1 : h < 4294967296) : fld pt4 h 109 = 8 * bitW h 3 + 4 * bitW h 2 + 2 * bitW h 1 + bitW h 0 := by
  rw [fl_4_109, hv_eq _ 0 (by simp only [List.forall_mem_cons, bitW_bd h _ h0, List.not_mem_nil, false_implies, implies_true, and_self]) (by decide) (by simp only [List.length_cons, List.length_nil]; decide)]
  simp only [hn]
  omega
theorem fw_4_110 (h : Int) (h0 : 0 ≤ h) (h1 : h < 4294967296) : fld pt4 h 110 = 8 * bitW h 19 + 4 * bitW h 18 + 2 * bitW h 17 + bitW h 16 := by
  rw [fl_4_110, hv_eq _ 0 (by simp only [List.forall_mem_cons, bitW_bd h _ h0, List.not_mem_nil, false_implies, implies_true, and_self]) (by decide) (by simp only [List.length_cons, List.length_nil]; decide)]
  simp only [hn]
  omega
theorem fw_4_115 (h : Int) (h0 : 0 ≤ h) (h1 : h < 4294967296) : fld pt4 h 115 = 0 := by
  rw [fl_4_115, hv_eq _ 0 (by simp only [List.forall_mem_cons, bitW_bd h _ h0, List.not_mem_nil, false_implies, implies_true, and_self]) (by decide) (by simp only [List.length_cons, List.length_nil]; decide)]
  simp only [hn]
theorem fw_4_116 (h : Int) (h0 : 0 ≤ h) (h1 : h < 4294967296) : fld pt4 h 116 = 0 := by
  rw [fl_4_116, hv_eq _ 0 (by simp only [List.forall_mem_cons, bitW_bd h _ h0, List.not_mem_nil, false_implies, implies_true, and_self]) (by decide) (by simp only [List.length_cons, List.length_nil]; decide)]
  simp only [hn]
theorem fw_5_65 (h : Int) (h0 : 0 ≤ h) (h1 : h < 4294967296) : fld pt5 h 65 = 0 := by
  rw [fl_5_65, hv_eq _ 0 (by simp only [List.forall_mem_cons, bitW_bd h _ h0, List.not_mem_nil, false_implies, implies_true, and_self]) (by decide) (by simp only [List.length_cons, List.length_nil]; decide)]
  simp only [hn]
theorem fw_5_66 (h : Int) (h0 : 0 ≤ h) (h1 : h < 4294967296) : fld pt5 h 66 = 0 := by
  rw [fl_5_66, hv_eq _ 0 (by simp only [List.forall_mem_cons, bitW_bd h _ h0, List.not_mem_nil, false_implies, implies_true, and_self]) (by decide) (by simp only [List.length_cons, List.length_nil]; decide)]
  simp only [hn]
theorem fw_5_70 (h : Int) (h0 : 0 ≤ h) (h1 : h < 4294967296) : fld pt5 h 70 = 0 := by
  rw [fl_5_70, hv_eq _ 0 (by simp only [List.forall_mem_cons, bitW_bd h _ h0, List.not_mem_nil, false_implies, implies_true, and_self]) (by decide) (by simp only [List.length_cons, List.length_nil]; decide)]
  simp only [hn]
theorem fw_5_72 (h : Int) (h0 : 0 ≤ h) (h1 : h < 4294967296) : fld pt5 h 72 = 2 * bitW h 6 + bitW h 5 := by
  rw [fl_5_72, hv_eq _ 0 (by simp only [List.forall_mem_cons, bitW_bd h _ h0, List.not_mem_nil, false_implies, implies_true, and_self]) (by decide) (by simp only [List.length_cons, List.length_nil]; decide)]
  simp only [hn]
  omega
theorem fw_5_73 (h : Int) (h0 : 0 ≤ h) (h1 : h < 4294967296) : fld pt5 h 73 = 128 * bitW h 11 + 64 * bitW h 10 + 32 * bitW h 9 + 16 * bitW h 8 + 8 * bitW h 3 + 4 * bitW h 2 + 2 * bitW h 1 + bitW h 0 := by
  rw [fl_5_73, hv_eq _ 0 (by simp only [List.forall_mem_cons, bitW_bd h _ h0, List.not_mem_nil, false_implies, implies_true, and_self]) (by decide) (by simp only [List.length_cons, List.length_nil]; decide)]
  simp only [hn]
  omega
theorem fw_5_75 (h : Int) (h0 : 0 ≤ h) (h1 : h < 4294967296) : fld pt5 h 75 = 0 := by
  rw [fl_5_75, hv_eq _ 0 (by simp only [List.forall_mem_cons, bitW_bd h _ h0, List.not_mem_nil, false_implies, implies_true, and_self]) (by decide) (by simp only [List.length_cons, List.length_nil]; decide)]
  simp only [hn]
theorem fw_5_80 (h : Int) (h0 : 0 ≤ h) (h1 : h < 4294967296) : fld pt5 h 80 = bitW h 24 := by
  rw [fl_5_80, hv_eq _ 0 (by simp only [List.forall_mem_cons, bitW_bd h _ h0, List.not_mem_nil, false_implies, implies_true, and_self]) (by decide) (by simp only [List.length_cons, List.length_nil]; decide)]
  simp only [hn]
  omega
theorem fw_5_81 (h : Int) (h0 : 0 ≤ h) (h1 : h < 4294967296) : fld pt5 h 81 = 0 := by
  rw [fl_5_81, hv_eq _ 0 (by simp only [List.forall_mem_cons, bitW_bd h _ h0, List.not_mem_nil, false_implies, implies_true, and_self]) (by decide) (by simp only [List.length_cons, List.length_nil]; decide)]
  simp only [hn]
theorem fw_5_83 (h : Int) (h0 : 0 ≤ h) (h1 : h < 4294967296) : fld pt5 h 83 = 0 := by
  rw [fl_5_83, hv_eq _ 0 (by simp only [List.forall_mem_cons, bitW_bd h _ h0, List.not_mem_nil, false_implies, implies_true, and_self]) (by decide) (by simp only [List.length_cons, List.length_nil]; decide)]
  simp only [hn]
theorem fw_5_85 (h : Int) (h0 : 0 ≤ h) (h1 : h < 4294967296) : fld pt5 h 85 = bitW h 23 := by
  rw [fl_5_85, hv_eq _ 0 (by simp only [List.forall_mem_cons, bitW_bd h _ h0, List.not_mem_nil, false_implies, implies_true, and_self]) (by decide) (by simp only [List.length_cons, List.length_nil]; decide)]
  simp only [hn]
  omega
theorem fw_5_87 (h : Int) (h0 : 0 ≤ h) (h1 : h < 4294967296) : fld pt5 h 87 = bitW h 21 := by
  rw [fl_5_87, hv_eq _ 0 (by simp only [List.forall_mem_cons, bitW_bd h _ h0, List.not_mem_nil, false_implies, implies_true, and_self]) (by decide) (by simp only [List.length_cons, List.length_nil]; decide)]
  simp only [hn]
  omega
theorem fw_5_97 (h : Int) (h0 : 0 ≤ h) (h1 : h < 4294967296) : fld pt5 h 97 = 0 := by
  rw [fl_5_97, hv_eq _ 0 (by simp only [List.forall_mem_cons, bitW_bd h _ h0, List.not_mem_nil, false_implies, implies_true, and_self]) (by decide) (by simp only [List.length_cons, List.length_nil]; decide)]
  simp only [hn]
theorem fw_5_99 (h : Int) (h0 : 0 ≤ h) (h1 : h < 4294967296) : fld pt5 h 99 = 8 * bitW h 31 + 4 * bitW h 30 + 2 * bitW h 29 + bitW h 28 := by
  rw [fl_5_99, hv_eq _ 0 (by simp only [List.forall_mem_cons, bitW_bd h _ h0, List.not_mem_nil, false_implies, implies_true, and_self]) (by decide) (by simp only [List.length_cons, List.length_nil]; decide)]
  simp only [hn]
  omega
theorem fw_5_100 (h : Int) (h0 : 0 ≤ h) (h1 : h < 4294967296) : fld pt5 h 100 = 8 * bitW h 15 + 4 * bitW h 14 + 2 * bitW h 13 + bitW h 12 := by
  rw [fl_5_100, hv_eq _ 0 (by simp only [List.forall_mem_cons, bitW_bd h _ h0, List.not_mem_nil, false_implies, implies_true, and_self]) (by decide) (by simp only [List.length_cons, List.length_nil]; decide)]
  simp only [hn]
  omega
theorem fw_5_108 (h : Int) (h0 : 0 ≤ h) (h1 : h < 4294967296) : fld pt5 h 108 = 0 := by
  rw [fl_5_108, hv_eq _ 0 (by simp only [List.forall_mem_cons, bitW_bd h _ h0, List.not_mem_nil, false_implies, implies_true, and_self]) (by decide) (by simp only [List.length_cons, List.length_nil]; decide)]
  simp only [hn]
theorem fw_5_109 (h : Int) (h0 : 0 ≤ h) (h1 : h < 4294967296) : fld pt5 h 109 = 0 := by
  rw [fl_5_109, hv_eq _ 0 (by simp only [List.forall_mem_cons, bitW_bd h _ h0, List.not_mem_nil, false_implies, implies_true, and_self]) (by decide) (by simp only [List.length_cons, List.length_nil]; decide)]
  simp only [hn]
theorem fw_5_110 (h : Int) (h0 : 0 ≤ h) (h1 : h < 4294967296) : fld pt5 h 110 = 8 * bitW h 19 + 4 * bitW h 18 + 2 * bitW h 17 + bitW h 16 := by
  rw [fl_5_110, hv_eq _ 0 (by simp only [List.forall_mem_cons, bitW_bd h _ h0, List.not_mem_nil, false_implies, implies_true, and_self]) (by decide) (by simp only [List.length_cons, List.length_nil]; decide)]
  simp only [hn]
  omega
theorem fw_5_115 (h : Int) (h0 : 0 ≤ h) (h1 : h < 4294967296) : fld pt5 h 115 = 0 := by
  rw [fl_5_115, hv_eq _ 0 (by simp only [List.forall_mem_cons, bitW_bd h _ h0, List.not_mem_nil, false_implies, implies_true, and_self]) (by decide) (by simp only [List.length_cons, List.length_nil]; decide)]
  simp only [hn]
theorem fw_5_116 (h : Int) (h0 : 0 ≤ h) (h1 : h < 4294967296) : fld pt5 h 116 = 0 := by
  rw [fl_5_116, hv_eq _ 0 (by simp only [List.forall_mem_cons, bitW_bd h _ h0, List.not_mem_nil, false_implies, implies_true, and_self]) (by decide) (by simp only [List.length_cons, List.length_nil]; decide)]
  simp only [hn]
theorem fw_6_65 (h : Int) (h0 : 0 ≤ h) (h1 : h < 4294967296) : fld pt6 h 65 = 0 := by
  rw [fl_6_65, hv_eq _ 0 (by simp only [List.forall_mem_cons, bitW_bd h _ h0, List.not_mem_nil, false_implies, implies_true, and_self]) (by decide) (by simp only [List.length_cons, List.length_nil]; decide)]
  simp only [hn]
theorem fw_6_66 (h : Int) (h0 : 0 ≤ h) (h1 : h < 4294967296) : fld pt6 h 66 = 0 := by
  rw [fl_6_66, hv_eq _ 0 (by simp only [List.forall_mem_cons, bitW_bd h _ h0, List.not_mem_nil, false_implies, implies_true, and_self]) (by decide) (by simp only [List.length_cons, List.length_nil]; decide)]
  simp only [hn]
theorem fw_6_70 (h : Int) (h0 : 0 ≤ h) (h1 : h < 4294967296) : fld pt6 h 70 = 0 := by
  rw [fl_6_70, hv_eq _ 0 (by simp only [List.forall_mem_cons, bitW_bd h _ h0, List.not_mem_nil, false_implies, implies_true, and_self]) (by decide) (by simp only [List.length_cons, List.length_nil]; decide)]
  simp only [hn]
theorem fw_6_73 (h : Int) (h0 : 0 ≤ h) (h1 : h < 4294967296) : fld pt6 h 73 = 128 * bitW h 11 + 64 * bitW h 10 + 32 * bitW h 9 + 16 * bitW h 8 + 8 * bitW h 3 + 4 * bitW h 2 + 2 * bitW h 1 + bitW h 0 := by
  rw [fl_6_73, hv_eq _ 0 (by simp only [List.forall_mem_cons, bitW_bd h _ h0, List.not_mem_nil, false_implies, implies_true, and_self]) (by decide) (by simp only [List.length_cons, List.length_nil]; decide)]
  simp only [hn]
  omega
theorem fw_6_75 (h : Int) (h0 : 0 ≤ h) (h1 : h < 4294967296) : fld pt6 h 75 = 0 := by
  rw [fl_6_75, hv_eq _ 0 (by simp only [List.forall_mem_cons, bitW_bd h _ h0, List.not_mem_nil, false_implies, implies_true, and_self]) (by decide) (by simp only [List.length_cons, List.length_nil]; decide)]
  simp only [hn]
theorem fw_6_80 (h : Int) (h0 : 0 ≤ h) (h1 : h < 4294967296) : fld pt6 h 80 = bitW h 24 := by
  rw [fl_6_80, hv_eq _ 0 (by simp only [List.forall_mem_cons, bitW_bd h _ h0, List.not_mem_nil, false_implies, implies_true, and_self]) (by decide) (by simp only [List.length_cons, List.length_nil]; decide)]
  simp only [hn]
  omega
theorem fw_6_81 (h : Int) (h0 : 0 ≤ h) (h1 : h < 4294967296) : fld pt6 h 81 = 0 := by
  rw [fl_6_81, hv_eq _ 0 (by simp only [List.forall_mem_cons, bitW_bd h _ h0, List.not_mem_nil, false_implies, implies_true, and_self]) (by decide) (by simp only [List.length_cons, List.length_nil]; decide)]
  simp only [hn]
theorem fw_6_83 (h : Int) (h0 : 0 ≤ h) (h1 : h < 4294967296) : fld pt6 h 83 = 0 := by
  rw [fl_6_83, hv_eq _ 0 (by simp only [List.forall_mem_cons, bitW_bd h _ h0, List.not_mem_nil, false_implies, implies_true, and_self]) (by decide) (by simp only [List.length_cons, List.length_nil]; decide)]
  simp only [hn]
theorem fw_6_85 (h : Int) (h0 : 0 ≤ h) (h1 : h < 4294967296) : fld pt6 h 85 = bitW h 23 := by
  rw [fl_6_85, hv_eq _ 0 (by simp only [List.forall_mem_cons, bitW_bd h _ h0, List.not_mem_nil, false_implies, implies_true, and_self]) (by decide) (by simp only [List.length_cons, List.length_nil]; decide)]
  simp only [hn]
  omega
theorem fw_6_87 (h : Int) (h0 : 0 ≤ h) (h1 : h < 4294967296) : fld pt6 h 87 = bitW h 21 := by
  rw [fl_6_87, hv_eq _ 0 (by simp only [List.forall_mem_cons, bitW_bd h _ h0, List.not_mem_nil, false_implies, implies_true, and_self]) (by decide) (by simp only [List.length_cons, List.length_nil]; decide)]
  simp only [hn]
  omega
theorem fw_6_97 (h : Int) (h0 : 0 ≤ h) (h1 : h < 4294967296) : fld pt6 h 97 = 0 := by
  rw [fl_6_97, hv_eq _ 0 (by simp only [List.forall_mem_cons, bitW_bd h _ h0, List.not_mem_nil, false_implies, implies_true, and_self]) (by decide) (by simp only [List.length_cons, List.length_nil]; decide)]
  simp only [hn]
theorem fw_6_99 (h : Int) (h0 : 0 ≤ h) (h1 : h < 4294967296) : fld pt6 h 99 = 8 * bitW h 31 + 4 * bitW h 30 + 2 * bitW h 29 + bitW h 28 := by
  rw [fl_6_99, hv_eq _ 0 (by simp only [List.forall_mem_cons, bitW_bd h _ h0, List.not_mem_nil, false_implies, implies_true, and_self]) (by decide) (by simp only [List.length_cons, List.length_nil]; decide)]
  simp only [hn]
  omega
theorem fw_6_100 (h : Int) (h0 : 0 ≤ h) (h1 : h < 4294967296) : fld pt6 h 100 = 8 * bitW h 15 + 4 * bitW h 14 + 2 * bitW h 13 + bitW h 12 := by
  rw [fl_6_100, hv_eq _ 0 (by simp only [List.forall_mem_cons, bitW_bd h _ h0, List.not_mem_nil, false_implies, implies_true, and_self]) (by decide) (by simp only [List.length_cons, List.length_nil]; decide)]
  simp only [hn]
  omega
theorem fw_6_108 (h : Int) (h0 : 0 ≤ h) (h1 : h < 4294967296) : fld pt6 h 108 = 0 := by
  rw [fl_6_108, hv_eq _ 0 (by simp only [List.forall_mem_cons, bitW_bd h _ h0, List.not_mem_nil, false_implies, implies_true, and_self]) (by decide) (by simp only [List.length_cons, List.length_nil]; decide)]
  simp only [hn]
theorem fw_6_109 (h : Int) (h0 : 0 ≤ h) (h1 : h < 4294967296) : fld pt6 h 109 = 0 := by
  rw [fl_6_109, hv_eq _ 0 (by simp only [List.forall_mem_cons, bitW_bd h _ h0, List.not_mem_nil, false_implies, implies_true, and_self]) (by decide) (by simp only [List.length_cons, List.length_nil]; decide)]
  simp only [hn]
theorem fw_6_110 (h : Int) (h0 : 0 ≤ h) (h1 : h < 4294967296) : fld pt6 h 110 = 8 * bitW h 19 + 4 * bitW h 18 + 2 * bitW h 17 + bitW h 16 := by
  rw [fl_6_110, hv_eq _ 0 (by simp only [List.forall_mem_cons, bitW_bd h _ h0, List.not_mem_nil, false_implies, implies_true, and_self]) (by decide) (by simp only [List.length_cons, List.length_nil]; decide)]
  simp only [hn]
  omega
theorem fw_6_115 (h : Int) (h0 : 0 ≤ h) (h1 : h < 4294967296) : fld pt6 h 115 = 0 := by
  rw [fl_6_115, hv_eq _ 0 (by simp only [List.forall_mem_cons, bitW_bd h _ h0, List.not_mem_nil, false_implies, implies_true, and_self]) (by decide) (by simp only [List.length_cons, List.length_nil]; decide)]
  simp only [hn]
theorem fw_6_116 (h : Int) (h0 : 0 ≤ h) (h1 : h < 4294967296) : fld pt6 h 116 = 0 := by
  rw [fl_6_116, hv_eq _ 0 (by simp only [List.forall_mem_cons, bitW_bd h _ h0, List.not_mem_nil, false_implies, implies_true, and_self]) (by decide) (by simp only [List.length_cons, List.length_nil]; decide)]
  simp only [hn]
theorem fw_7_65 (h : Int) (h0 : 0 ≤ h) (h1 : h < 4294967296) : fld pt7 h 65 = 0 := by
  rw [fl_7_65, hv_eq _ 0 (by simp only [List.forall_mem_cons, bitW_bd h _ h0, List.not_mem_nil, false_implies, implies_true, and_self]) (by decide) (by simp only [List.length_cons, List.length_nil]; decide)]
  simp only [hn]
theorem fw_7_66 (h : Int) (h0 : 0 ≤ h) (h1 : h < 4294967296) : fld pt7 h 66 = 0 := by
  rw [fl_7_66, hv_eq _ 0 (by simp only [List.forall_mem_cons, bitW_bd h _ h0, List.not_mem_nil, false_implies, implies_true, and_self]) (by decide) (by simp only [List.length_cons, List.length_nil]; decide)]
  simp only [hn]
theorem fw_7_70 (h : Int) (h0 : 0 ≤ h) (h1 : h < 4294967296) : fld pt7 h 70 = 0 := by
  rw [fl_7_70, hv_eq _ 0 (by simp only [List.forall_mem_cons, bitW_bd h _ h0, List.not_mem_nil, false_implies, implies_true, and_self]) (by decide) (by simp only [List.length_cons, List.length_nil]; decide)]
  simp only [hn]
theorem fw_7_73 (h : Int) (h0 : 0 ≤ h) (h1 : h < 4294967296) : fld pt7 h 73 = 0 := by
  rw [fl_7_73, hv_eq _ 0 (by simp only [List.forall_mem_cons, bitW_bd h _ h0, List.not_mem_nil, false_implies, implies_true, and_self]) (by decide) (by simp only [List.length_cons, List.length_nil]; decide)]
  simp only [hn]
theorem fw_7_75 (h : Int) (h0 : 0 ≤ h) (h1 : h < 4294967296) : fld pt7 h 75 = 0 := by
  rw [fl_7_75, hv_eq _ 0 (by simp only [List.forall_mem_cons, bitW_bd h _ h0, List.not_mem_nil, false_implies, implies_true, and_self]) (by decide) (by simp only [List.length_cons, List.length_nil]; decide)]
  simp only [hn]
theorem fw_7_76 (h : Int) (h0 : 0 ≤ h) (h1 : h < 4294967296) : fld pt7 h 76 = 0 := by
  rw [fl_7_76, hv_eq _ 0 (by simp only [List.forall_mem_cons, bitW_bd h _ h0, List.not_mem_nil, false_implies, implies_true, and_self]) (by decide) (by simp only [List.length_cons, List.length_nil]; decide)]
  simp only [hn]
theorem fw_7_80 (h : Int) (h0 : 0 ≤ h) (h1 : h < 4294967296) : fld pt7 h 80 = 0 := by
  rw [fl_7_80, hv_eq _ 0 (by simp only [List.forall_mem_cons, bitW_bd h _ h0, List.not_mem_nil, false_implies, implies_true, and_self]) (by decide) (by simp only [List.length_cons, List.length_nil]; decide)]
  simp only [hn]
theorem fw_7_81 (h : Int) (h0 : 0 ≤ h) (h1 : h < 4294967296) : fld pt7 h 81 = 0 := by
  rw [fl_7_81, hv_eq _ 0 (by simp only [List.forall_mem_cons, bitW_bd h _ h0, List.not_mem_nil, false_implies, implies_true, and_self]) (by decide) (by simp only [List.length_cons, List.length_nil]; decide)]
  simp only [hn]
theorem fw_7_83 (h : Int) (h0 : 0 ≤ h) (h1 : h < 4294967296) : fld pt7 h 83 = 0 := by
  rw [fl_7_83, hv_eq _ 0 (by simp only [List.forall_mem_cons, bitW_bd h _ h0, List.not_mem_nil, false_implies, implies_true, and_self]) (by decide) (by simp only [List.length_cons, List.length_nil]; decide)]
  simp only [hn]
theorem fw_7_85 (h : Int) (h0 : 0 ≤ h) (h1 : h < 4294967296) : fld pt7 h 85 = 0 := by
  rw [fl_7_85, hv_eq _ 0 (by simp only [List.forall_mem_cons, bitW_bd h _ h0, List.not_mem_nil, false_implies, implies_true, and_self]) (by decide) (by simp only [List.length_cons, List.length_nil]; decide)]
  simp only [hn]
theorem fw_7_97 (h : Int) (h0 : 0 ≤ h) (h1 : h < 4294967296) : fld pt7 h 97 = 0 := by
  rw [fl_7_97, hv_eq _ 0 (by simp only [List.forall_mem_cons, bitW_bd h _ h0, List.not_mem_nil, false_implies, implies_true, and_self]) (by decide) (by simp only [List.length_cons, List.length_nil]; decide)]
  simp only [hn]
theorem fw_7_99 (h : Int) (h0 : 0 ≤ h) (h1 : h < 4294967296) : fld pt7 h 99 = 8 * bitW h 31 + 4 * bitW h 30 + 2 * bitW h 29 + bitW h 28 := by
  rw [fl_7_99, hv_eq _ 0 (by simp only [List.forall_mem_cons, bitW_bd h _ h0, List.not_mem_nil, false_implies, implies_true, and_self]) (by decide) (by simp only [List.length_cons, List.length_nil]; decide)]
  simp only [hn]
  omega
theorem fw_7_100 (h : Int) (h0 : 0 ≤ h) (h1 : h < 4294967296) : fld pt7 h 100 = 0 := by
  rw [fl_7_100, hv_eq _ 0 (by simp only [List.forall_mem_cons, bitW_bd h _ h0, List.not_mem_nil, false_implies, implies_true, and_self]) (by decide) (by simp only [List.length_cons, List.length_nil]; decide)]
  simp only [hn]
theorem fw_7_108 (h : Int) (h0 : 0 ≤ h) (h1 : h < 4294967296) : fld pt7 h 108 = 0 := by
  rw [fl_7_108, hv_eq _ 0 (by simp only [List.forall_mem_cons, bitW_bd h _ h0, List.not_mem_nil, false_implies, implies_true, and_self]) (by decide) (by simp only [List.length_cons, List.length_nil]; decide)]
  simp only [hn]
theorem fw_7_109 (h : Int) (h0 : 0 ≤ h) (h1 : h < 4294967296) : fld pt7 h 109 = 8 * bitW h 3 + 4 * bitW h 2 + 2 * bitW h 1 + bitW h 0 := by
  rw [fl_7_109, hv_eq _ 0 (by simp only [List.forall_mem_cons, bitW_bd h _ h0, List.not_mem_nil, false_implies, implies_true, and_self]) (by decide) (by simp only [List.length_cons, List.length_nil]; decide)]
  simp only [hn]
  omega
theorem fw_7_110 (h : Int) (h0 : 0 ≤ h) (h1 : h < 4294967296) : fld pt7 h 110 = 0 := by
  rw [fl_7_110, hv_eq _ 0 (by simp only [List.forall_mem_cons, bitW_bd h _ h0, List.not_mem_nil, false_implies, implies_true, and_self]) (by decide) (by simp only [List.length_cons, List.length_nil]; decide)]
  simp only [hn]
theorem fw_7_115 (h : Int) (h0 : 0 ≤ h) (h1 : h < 4294967296) : fld pt7 h 115 = 0 := by
  rw [fl_7_115, hv_eq _ 0 (by simp only [List.forall_mem_cons, bitW_bd h _ h0, List.not_mem_nil, false_implies, implies_true, and_self]) (by decide) (by simp only [List.length_cons, List.length_nil]; decide)]
  simp only [hn]
theorem fw_7_116 (h : Int) (h0 : 0 ≤ h) (h1 : h < 4294967296) : fld pt7 h 116 = 0 := by
  rw [fl_7_116, hv_eq _ 0 (by simp only [List.forall_mem_cons, bitW_bd h _ h0, List.not_mem_nil, false_implies, implies_true, and_self]) (by decide) (by simp only [List.length_cons, List.length_nil]; decide)]
  simp only [hn]
theorem fw_8_65 (h : Int) (h0 : 0 ≤ h) (h1 : h < 4294967296) : fld pt8 h 65 = 0 := by
  rw [fl_8_65, hv_eq _ 0 (by simp only [List.forall_mem_cons, bitW_bd h _ h0, List.not_mem_nil, false_implies, implies_true, and_self]) (by decide) (by simp only [List.length_cons, List.length_nil]; decide)]
  simp only [hn]
theorem fw_8_66 (h : Int) (h0 : 0 ≤ h) (h1 : h < 4294967296) : fld pt8 h 66 = 0 := by
  rw [fl_8_66, hv_eq _ 0 (by simp only [List.forall_mem_cons, bitW_bd h _ h0, List.not_mem_nil, false_implies, implies_true, and_self]) (by decide) (by simp only [List.length_cons, List.length_nil]; decide)]
  simp only [hn]
theorem fw_8_70 (h : Int) (h0 : 0 ≤ h) (h1 : h < 4294967296) : fld pt8 h 70 = 0 := by
  rw [fl_8_70, hv_eq _ 0 (by simp only [List.forall_mem_cons, bitW_bd h _ h0, List.not_mem_nil, false_implies, implies_true, and_self]) (by decide) (by simp only [List.length_cons, List.length_nil]; decide)]
  simp only [hn]
theorem fw_8_73 (h : Int) (h0 : 0 ≤ h) (h1 : h < 4294967296) : fld pt8 h 73 = 0 := by
  rw [fl_8_73, hv_eq _ 0 (by simp only [List.forall_mem_cons, bitW_bd h _ h0, List.not_mem_nil, false_implies, implies_true, and_self]) (by decide) (by simp only [List.length_cons, List.length_nil]; decide)]
  simp only [hn]
theorem fw_8_75 (h : Int) (h0 : 0 ≤ h) (h1 : h < 4294967296) : fld pt8 h 75 = 0 := by
  rw [fl_8_75, hv_eq _ 0 (by simp only [List.forall_mem_cons, bitW_bd h _ h0, List.not_mem_nil, false_implies, implies_true, and_self]) (by decide) (by simp only [List.length_cons, List.length_nil]; decide)]
  simp only [hn]
theorem fw_8_76 (h : Int) (h0 : 0 ≤ h) (h1 : h < 4294967296) : fld pt8 h 76 = 0 := by
  rw [fl_8_76, hv_eq _ 0 (by simp only [List.forall_mem_cons, bitW_bd h _ h0, List.not_mem_nil, false_implies, implies_true, and_self]) (by decide) (by simp only [List.length_cons, List.length_nil]; decide)]
  simp only [hn]
theorem fw_8_80 (h : Int) (h0 : 0 ≤ h) (h1 : h < 4294967296) : fld pt8 h 80 = 0 := by
  rw [fl_8_80, hv_eq _ 0 (by simp only [List.forall_mem_cons, bitW_bd h _ h0, List.not_mem_nil, false_implies, implies_true, and_self]) (by decide) (by simp only [List.length_cons, List.length_nil]; decide)]
  simp only [hn]
theorem fw_8_81 (h : Int) (h0 : 0 ≤ h) (h1 : h < 4294967296) : fld pt8 h 81 = bitW h 22 := by
  rw [fl_8_81, hv_eq _ 0 (by simp only [List.forall_mem_cons, bitW_bd h _ h0, List.not_mem_nil, false_implies, implies_true, and_self]) (by decide) (by simp only [List.length_cons, List.length_nil]; decide)]
  simp only [hn]
  omega
theorem fw_8_83 (h : Int) (h0 : 0 ≤ h) (h1 : h < 4294967296) : fld pt8 h 83 = 0 := by
  rw [fl_8_83, hv_eq _ 0 (by simp only [List.forall_mem_cons, bitW_bd h _ h0, List.not_mem_nil, false_implies, implies_true, and_self]) (by decide) (by simp only [List.length_cons, List.length_nil]; decide)]
  simp only [hn]
theorem fw_8_85 (h : Int) (h0 : 0 ≤ h) (h1 : h < 4294967296) : fld pt8 h 85 = 0 := by
  rw [fl_8_85, hv_eq _ 0 (by simp only [List.forall_mem_cons, bitW_bd h _ h0, List.not_mem_nil, false_implies, implies_true, and_self]) (by decide) (by simp only [List.length_cons, List.length_nil]; decide)]
  simp only [hn]
theorem fw_8_97 (h : Int) (h0 : 0 ≤ h) (h1 : h < 4294967296) : fld pt8 h 97 = 0 := by
  rw [fl_8_97, hv_eq _ 0 (by simp only [List.forall_mem_cons, bitW_bd h _ h0, List.not_mem_nil, false_implies, implies_true, and_self]) (by decide) (by simp only [List.length_cons, List.length_nil]; decide)]
  simp only [hn]
theorem fw_8_99 (h : Int) (h0 : 0 ≤ h) (h1 : h < 4294967296) : fld pt8 h 99 = 8 * bitW h 31 + 4 * bitW h 30 + 2 * bitW h 29 + bitW h 28 := by
  rw [fl_8_99, hv_eq _ 0 (by simp only [List.forall_mem_cons, bitW_bd h _ h0, List.not_mem_nil, false_implies, implies_true, and_self]) (by decide) (by simp only [List.length_cons, List.length_nil]; decide)]
  simp only [hn]
  omega
theorem fw_8_100 (h : Int) (h0 : 0 ≤ h) (h1 : h < 4294967296) : fld pt8 h 100 = 8 * bitW h 15 + 4 * bitW h 14 + 2 * bitW h 13 + bitW h 12 := by
  rw [fl_8_100, hv_eq _ 0 (by simp only [List.forall_mem_cons, bitW_bd h _ h0, List.not_mem_nil, false_implies, implies_true, and_self]) (by decide) (by simp only [List.length_cons, List.length_nil]; decide)]
  simp only [hn]
  omega
theorem fw_8_108 (h : Int) (h0 : 0 ≤ h) (h1 : h < 4294967296) : fld pt8 h 108 = 0 := by
  rw [fl_8_108, hv_eq _ 0 (by simp only [List.forall_mem_cons, bitW_bd h _ h0, List.not_mem_nil, false_implies, implies_true, and_self]) (by decide) (by simp only [List.length_cons, List.length_nil]; decide)]
  simp only [hn]
theorem fw_8_109 (h : Int) (h0 : 0 ≤ h) (h1 : h < 4294967296) : fld pt8 h 109 = 0 := by
  rw [fl_8_109, hv_eq _ 0 (by simp only [List.forall_mem_cons, bitW_bd h _ h0, List.not_mem_nil, false_implies, implies_true, and_self]) (by decide) (by simp only [List.length_cons, List.length_nil]; decide)]
  simp only [hn]
theorem fw_8_110 (h : Int) (h0 : 0 ≤ h) (h1 : h < 4294967296) : fld pt8 h 110 = 0 := by
  rw [fl_8_110, hv_eq _ 0 (by simp only [List.forall_mem_cons, bitW_bd h _ h0, List.not_mem_nil, false_implies, implies_true, and_self]) (by decide) (by simp only [List.length_cons, List.length_nil]; decide)]
  simp only [hn]
theorem fw_8_115 (h : Int) (h0 : 0 ≤ h) (h1 : h < 4294967296) : fld pt8 h 115 = 0 := by
  rw [fl_8_115, hv_eq _ 0 (by simp only [List.forall_mem_cons, bitW_bd h _ h0, List.not_mem_nil, false_implies, implies_true, and_self]) (by decide) (by simp only [List.length_cons, List.length_nil]; decide)]
  simp only [hn]
theorem fw_8_116 (h : Int) (h0 : 0 ≤ h) (h1 : h < 4294967296) : fld pt8 h 116 = 0 := by
  rw [fl_8_116, hv_eq _ 0 (by simp only [List.forall_mem_cons, bitW_bd h _ h0, List.not_mem_nil, false_implies, implies_true, and_self]) (by decide) (by simp only [List.length_cons, List.length_nil]; decide)]
  simp only [hn]
theorem fw_9_65 (h : Int) (h0 : 0 ≤ h) (h1 : h < 4294967296) : fld pt9 h 65 = 0 := by
  rw [fl_9_65, hv_eq _ 0 (by simp only [List.forall_mem_cons, bitW_bd h _ h0, List.not_mem_nil, false_implies, implies_true, and_self]) (by decide) (by simp only [List.length_cons, List.length_nil]; decide)]
  simp only [hn]
theorem fw_9_66 (h : Int) (h0 : 0 ≤ h) (h1 : h < 4294967296) : fld pt9 h 66 = 0 := by
  rw [fl_9_66, hv_eq _ 0 (by simp only [List.forall_mem_cons, bitW_bd h _ h0, List.not_mem_nil, false_implies, implies_true, and_self]) (by decide) (by simp only [List.length_cons, List.length_nil]; decide)]
  simp only [hn]
theorem fw_9_70 (h : Int) (h0 : 0 ≤ h) (h1 : h < 4294967296) : fld pt9 h 70 = 0 := by
  rw [fl_9_70, hv_eq _ 0 (by simp only [List.forall_mem_cons, bitW_bd h _ h0, List.not_mem_nil, false_implies, implies_true, and_self]) (by decide) (by simp only [List.length_cons, List.length_nil]; decide)]
  simp only [hn]
theorem fw_9_73 (h : Int) (h0 : 0 ≤ h) (h1 : h < 4294967296) : fld pt9 h 73 = 0 := by
  rw [fl_9_73, hv_eq _ 0 (by simp only [List.forall_mem_cons, bitW_bd h _ h0, List.not_mem_nil, false_implies, implies_true, and_self]) (by decide) (by simp only [List.length_cons, List.length_nil]; decide)]
  simp only [hn]
theorem fw_9_75 (h : Int) (h0 : 0 ≤ h) (h1 : h < 4294967296) : fld pt9 h 75 = 0 := by
  rw [fl_9_75, hv_eq _ 0 (by simp only [List.forall_mem_cons, bitW_bd h _ h0, List.not_mem_nil, false_implies, implies_true, and_self]) (by decide) (by simp only [List.length_cons, List.length_nil]; decide)]
  simp only [hn]
theorem fw_9_76 (h : Int) (h0 : 0 ≤ h) (h1 : h < 4294967296) : fld pt9 h 76 = 0 := by
  rw [fl_9_76, hv_eq _ 0 (by simp only [List.forall_mem_cons, bitW_bd h _ h0, List.not_mem_nil, false_implies, implies_true, and_self]) (by decide) (by simp only [List.length_cons, List.length_nil]; decide)]
  simp only [hn]
theorem fw_9_80 (h : Int) (h0 : 0 ≤ h) (h1 : h < 4294967296) : fld pt9 h 80 = 0 := by
  rw [fl_9_80, hv_eq _ 0 (by simp only [List.forall_mem_cons, bitW_bd h _ h0, List.not_mem_nil, false_implies, implies_true, and_self]) (by decide) (by simp only [List.length_cons, List.length_nil]; decide)]
  simp only [hn]
theorem fw_9_81 (h : Int) (h0 : 0 ≤ h) (h1 : h < 4294967296) : fld pt9 h 81 = bitW h 22 := by
  rw [fl_9_81, hv_eq _ 0 (by simp only [List.forall_mem_cons, bitW_bd h _ h0, List.not_mem_nil, false_implies, implies_true, and_self]) (by decide) (by simp only [List.length_cons, List.length_nil]; decide)]
  simp only [hn]
  omega
theorem fw_9_83 (h : Int) (h0 : 0 ≤ h) (h1 : h < 4294967296) : fld pt9 h 83 = 0 := by
  rw [fl_9_83, hv_eq _ 0 (by simp only [List.forall_mem_cons, bitW_bd h _ h0, List.not_mem_nil, false_implies, implies_true, and_self]) (by decide) (by simp only [List.length_cons, List.length_nil]; decide)]
  simp only [hn]
theorem fw_9_85 (h : Int) (h0 : 0 ≤ h) (h1 : h < 4294967296) : fld pt9 h 85 = 0 := by
  rw [fl_9_85, hv_eq _ 0 (by simp only [List.forall_mem_cons, bitW_bd h _ h0, List.not_mem_nil, false_implies, implies_true, and_self]) (by decide) (by simp only [List.length_cons, List.length_nil]; decide)]
  simp only [hn]
theorem fw_9_97 (h : Int) (h0 : 0 ≤ h) (h1 : h < 4294967296) : fld pt9 h 97 = 0 := by
  rw [fl_9_97, hv_eq _ 0 (by simp only [List.forall_mem_cons, bitW_bd h _ h0, List.not_mem_nil, false_implies, implies_true, and_self]) (by decide) (by simp only [List.length_cons, List.length_nil]; decide)]
  simp only [hn]
theorem fw_9_99 (h : Int) (h0 : 0 ≤ h) (h1 : h < 4294967296) : fld pt9 h 99 = 8 * bitW h 31 + 4 * bitW h 30 + 2 * bitW h 29 + bitW h 28 := by
  rw [fl_9_99, hv_eq _ 0 (by simp only [List.forall_mem_cons, bitW_bd h _ h0, List.not_mem_nil, false_implies, implies_true, and_self]) (by decide) (by simp only [List.length_cons, List.length_nil]; decide)]
  simp only [hn]
  omega
theorem fw_9_100 (h : Int) (h0 : 0 ≤ h) (h1 : h < 4294967296) : fld pt9 h 100 = 0 := by
  rw [fl_9_100, hv_eq _ 0 (by simp only [List.forall_mem_cons, bitW_bd h _ h0, List.not_mem_nil, false_implies, implies_true, and_self]) (by decide) (by simp only [List.length_cons, List.length_nil]; decide)]
  simp only [hn]
theorem fw_9_108 (h : Int) (h0 : 0 ≤ h) (h1 : h < 4294967296) : fld pt9 h 108 = 8 * bitW h 19 + 4 * bitW h 18 + 2 * bitW h 17 + bitW h 16 := by
  rw [fl_9_108, hv_eq _ 0 (by simp only [List.forall_mem_cons, bitW_bd h _ h0, List.not_mem_nil, false_implies, implies_true, and_self]) (by decide) (by simp only [List.length_cons, List.length_nil]; decide)]
  simp only [hn]
  omega
theorem fw_9_109 (h : Int) (h0 : 0 ≤ h) (h1 : h < 4294967296) : fld pt9 h 109 = 8 * bitW h 3 + 4 * bitW h 2 + 2 * bitW h 1 + bitW h 0 := by
  rw [fl_9_109, hv_eq _ 0 (by simp only [List.forall_mem_cons, bitW_bd h _ h0, List.not_mem_nil, false_implies, implies_true, and_self]) (by decide) (by simp only [List.length_cons, List.length_nil]; decide)]
  simp only [hn]
  omega
theorem fw_9_110 (h : Int) (h0 : 0 ≤ h) (h1 : h < 4294967296) : fld pt9 h 110 = 0 := by
  rw [fl_9_110, hv_eq _ 0 (by simp only [List.forall_mem_cons, bitW_bd h _ h0, List.not_mem_nil, false_implies, implies_true, and_self]) (by decide) (by simp only [List.length_cons, List.length_nil]; decide)]
  simp only [hn]
theorem fw_9_115 (h : Int) (h0 : 0 ≤ h) (h1 : h < 4294967296) : fld pt9 h 115 = 0 := by
  rw [fl_9_115, hv_eq _ 0 (by simp only [List.forall_mem_cons, bitW_bd h _ h0, List.not_mem_nil, false_implies, implies_true, and_self]) (by decide) (by simp only [List.length_cons, List.length_nil]; decide)]
  simp only [hn]
theorem fw_9_116 (h : Int) (h0 : 0 ≤ h) (h1 : h < 4294967296) : fld pt9 h 116 = 0 := by
  rw [fl_9_116, hv_eq _ 0 (by simp only [List.forall_mem_cons, bitW_bd h _ h0, List.not_mem_nil, false_implies, implies_true, and_self]) (by decide) (by simp only [List.length_cons, List.length_nil]; decide)]
  simp only [hn]
theorem fw_10_65 (h : Int) (h0 : 0 ≤ h) (h1 : h < 4294967296) : fld pt10 h 65 = 0 := by
  rw [fl_10_65, hv_eq _ 0 (by simp only [List.forall_mem_cons, bitW_bd h _ h0, List.not_mem_nil, false_implies, implies_true, and_self]) (by decide) (by simp only [List.length_cons, List.length_nil]; decide)]
  simp only [hn]
theorem fw_10_66 (h : Int) (h0 : 0 ≤ h) (h1 : h < 4294967296) : fld pt10 h 66 = 0 := by
  rw [fl_10_66, hv_eq _ 0 (by simp only [List.forall_mem_cons, bitW_bd h _ h0, List.not_mem_nil, false_implies, implies_true, and_self]) (by decide) (by simp only [List.length_cons, List.length_nil]; decide)]
  simp only [hn]
theorem fw_10_70 (h : Int) (h0 : 0 ≤ h) (h1 : h < 4294967296) : fld pt10 h 70 = 0 := by
  rw [fl_10_70, hv_eq _ 0 (by simp only [List.forall_mem_cons, bitW_bd h _ h0, List.not_mem_nil, false_implies, implies_true, and_self]) (by decide) (by simp only [List.length_cons, List.length_nil]; decide)]
  simp only [hn]
theorem fw_10_73 (h : Int) (h0 : 0 ≤ h) (h1 : h < 4294967296) : fld pt10 h 73 = 128 * bitW h 7 + 64 * bitW h 6 + 32 * bitW h 5 + 16 * bitW h 4 + 8 * bitW h 3 + 4 * bitW h 2 + 2 * bitW h 1 + bitW h 0 := by
  rw [fl_10_73, hv_eq _ 0 (by simp only [List.forall_mem_cons, bitW_bd h _ h0, List.not_mem_nil, false_implies, implies_true, and_self]) (by decide) (by simp only [List.length_cons, List.length_nil]; decide)]
  simp only [hn]
  omega
theorem fw_10_75 (h : Int) (h0 : 0 ≤ h) (h1 : h < 4294967296) : fld pt10 h 75 = 0 := by
  rw [fl_10_75, hv_eq _ 0 (by simp only [List.forall_mem_cons, bitW_bd h _ h0, List.not_mem_nil, false_implies, implies_true, and_self]) (by decide) (by simp only [List.length_cons, List.length_nil]; decide)]
  simp only [hn]
theorem fw_10_76 (h : Int) (h0 : 0 ≤ h) (h1 : h < 4294967296) : fld pt10 h 76 = 0 := by
  rw [fl_10_76, hv_eq _ 0 (by simp only [List.forall_mem_cons, bitW_bd h _ h0, List.not_mem_nil, false_implies, implies_true, and_self]) (by decide) (by simp only [List.length_cons, List.length_nil]; decide)]
  simp only [hn]
theorem fw_10_80 (h : Int) (h0 : 0 ≤ h) (h1 : h < 4294967296) : fld pt10 h 80 = 0 := by
  rw [fl_10_80, hv_eq _ 0 (by simp only [List.forall_mem_cons, bitW_bd h _ h0, List.not_mem_nil, false_implies, implies_true, and_self]) (by decide) (by simp only [List.length_cons, List.length_nil]; decide)]
  simp only [hn]
theorem fw_10_81 (h : Int) (h0 : 0 ≤ h) (h1 : h < 4294967296) : fld pt10 h 81 = bitW h 22 := by
  rw [fl_10_81, hv_eq _ 0 (by simp only [List.forall_mem_cons, bitW_bd h _ h0, List.not_mem_nil, false_implies, implies_true, and_self]) (by decide) (by simp only [List.length_cons, List.length_nil]; decide)]
  simp only [hn]
  omega
theorem fw_10_83 (h : Int) (h0 : 0 ≤ h) (h1 : h < 4294967296) : fld pt10 h 83 = 0 := by
  rw [fl_10_83, hv_eq _ 0 (by simp only [List.forall_mem_cons, bitW_bd h _ h0, List.not_mem_nil, false_implies, implies_true, and_self]) (by decide) (by simp only [List.length_cons, List.length_nil]; decide)]
  simp only [hn]
theorem fw_10_85 (h : Int) (h0 : 0 ≤ h) (h1 : h < 4294967296) : fld pt10 h 85 = 0 := by
  rw [fl_10_85, hv_eq _ 0 (by simp only [List.forall_mem_cons, bitW_bd h _ h0, List.not_mem_nil, false_implies, implies_true, and_self]) (by decide) (by simp only [List.length_cons, List.length_nil]; decide)]
  simp only [hn]
theorem fw_10_97 (h : Int) (h0 : 0 ≤ h) (h1 : h < 4294967296) : fld pt10 h 97 = 8 * bitW h 11 + 4 * bitW h 10 + 2 * bitW h 9 + bitW h 8 := by
  rw [fl_10_97, hv_eq _ 0 (by simp only [List.forall_mem_cons, bitW_bd h _ h0, List.not_mem_nil, false_implies, implies_true, and_self]) (by decide) (by simp only [List.length_cons, List.length_nil]; decide)]
  simp only [hn]
  omega
theorem fw_10_99 (h : Int) (h0 : 0 ≤ h) (h1 : h < 4294967296) : fld pt10 h 99 = 8 * bitW h 31 + 4 * bitW h 30 + 2 * bitW h 29 + bitW h 28 := by
  rw [fl_10_99, hv_eq _ 0 (by simp only [List.forall_mem_cons, bitW_bd h _ h0, List.not_mem_nil, false_implies, implies_true, and_self]) (by decide) (by simp only [List.length_cons, List.length_nil]; decide)]
  simp only [hn]
  omega
theorem fw_10_100 (h : Int) (h0 : 0 ≤ h) (h1 : h < 4294967296) : fld pt10 h 100 = 0 := by
  rw [fl_10_100, hv_eq _ 0 (by simp only [List.forall_mem_cons, bitW_bd h _ h0, List.not_mem_nil, false_implies, implies_true, and_self]) (by decide) (by simp only [List.length_cons, List.length_nil]; decide)]
  simp only [hn]
theorem fw_10_108 (h : Int) (h0 : 0 ≤ h) (h1 : h < 4294967296) : fld pt10 h 108 = 8 * bitW h 19 + 4 * bitW h 18 + 2 * bitW h 17 + bitW h 16 := by
  rw [fl_10_108, hv_eq _ 0 (by simp only [List.forall_mem_cons, bitW_bd h _ h0, List.not_mem_nil, false_implies, implies_true, and_self]) (by decide) (by simp only [List.length_cons, List.length_nil]; decide)]
  simp only [hn]
  omega
theorem fw_10_109 (h : Int) (h0 : 0 ≤ h) (h1 : h < 4294967296) : fld pt10 h 109 = 0 := by
  rw [fl_10_109, hv_eq _ 0 (by simp only [List.forall_mem_cons, bitW_bd h _ h0, List.not_mem_nil, false_implies, implies_true, and_self]) (by decide) (by simp only [List.length_cons, List.length_nil]; decide)]
  simp only [hn]
theorem fw_10_110 (h : Int) (h0 : 0 ≤ h) (h1 : h < 4294967296) : fld pt10 h 110 = 0 := by
  rw [fl_10_110, hv_eq _ 0 (by simp only [List.forall_mem_cons, bitW_bd h _ h0, List.not_mem_nil, false_implies, implies_true, and_self]) (by decide) (by simp only [List.length_cons, List.length_nil]; decide)]
  simp only [hn]
theorem fw_10_115 (h : Int) (h0 : 0 ≤ h) (h1 : h < 4294967296) : fld pt10 h 115 = 0 := by
  rw [fl_10_115, hv_eq _ 0 (by simp only [List.forall_mem_cons, bitW_bd h _ h0, List.not_mem_nil, false_implies, implies_true, and_self]) (by decide) (by simp only [List.length_cons, List.length_nil]; decide)]
  simp only [hn]
theorem fw_10_116 (h : Int) (h0 : 0 ≤ h) (h1 : h < 4294967296) : fld pt10 h 116 = 0 := by
  rw [fl_10_116, hv_eq _ 0 (by simp only [List.forall_mem_cons, bitW_bd h _ h0, List.not_mem_nil, false_implies, implies_true, and_self]) (by decide) (by simp only [List.length_cons, List.length_nil]; decide)]
  simp only [hn]
theorem fw_11_65 (h : Int) (h0 : 0 ≤ h) (h1 : h < 4294967296) : fld pt11 h 65 = 0 := by
  rw [fl_11_65, hv_eq _ 0 (by simp only [List.forall_mem_cons, bitW_bd h _ h0, List.not_mem_nil, false_implies, implies_true, and_self]) (by decide) (by simp only [List.length_cons, List.length_nil]; decide)]
  simp only [hn]
theorem fw_11_66 (h : Int) (h0 : 0 ≤ h) (h1 : h < 4294967296) : fld pt11 h 66 = 0 := by
  rw [fl_11_66, hv_eq _ 0 (by simp only [List.forall_mem_cons, bitW_bd h _ h0, List.not_mem_nil, false_implies, implies_true, and_self]) (by decide) (by simp only [List.length_cons, List.length_nil]; decide)]
  simp only [hn]
theorem fw_11_70 (h : Int) (h0 : 0 ≤ h) (h1 : h < 4294967296) : fld pt11 h 70 = bitW h 20 := by
  rw [fl_11_70, hv_eq _ 0 (by simp only [List.forall_mem_cons, bitW_bd h _ h0, List.not_mem_nil, false_implies, implies_true, and_self]) (by decide) (by simp only [List.length_cons, List.length_nil]; decide)]
  simp only [hn]
  omega
theorem fw_11_73 (h : Int) (h0 : 0 ≤ h) (h1 : h < 4294967296) : fld pt11 h 73 = 0 := by
  rw [fl_11_73, hv_eq _ 0 (by simp only [List.forall_mem_cons, bitW_bd h _ h0, List.not_mem_nil, false_implies, implies_true, and_self]) (by decide) (by simp only [List.length_cons, List.length_nil]; decide)]
  simp only [hn]
theorem fw_11_75 (h : Int) (h0 : 0 ≤ h) (h1 : h < 4294967296) : fld pt11 h 75 = 0 := by
  rw [fl_11_75, hv_eq _ 0 (by simp only [List.forall_mem_cons, bitW_bd h _ h0, List.not_mem_nil, false_implies, implies_true, and_self]) (by decide) (by simp only [List.length_cons, List.length_nil]; decide)]
  simp only [hn]
theorem fw_11_76 (h : Int) (h0 : 0 ≤ h) (h1 : h < 4294967296) : fld pt11 h 76 = 0 := by
  rw [fl_11_76, hv_eq _ 0 (by simp only [List.forall_mem_cons, bitW_bd h _ h0, List.not_mem_nil, false_implies, implies_true, and_self]) (by decide) (by simp only [List.length_cons, List.length_nil]; decide)]
  simp only [hn]
theorem fw_11_80 (h : Int) (h0 : 0 ≤ h) (h1 : h < 4294967296) : fld pt11 h 80 = 0 := by
  rw [fl_11_80, hv_eq _ 0 (by simp only [List.forall_mem_cons, bitW_bd h _ h0, List.not_mem_nil, false_implies, implies_true, and_self]) (by decide) (by simp only [List.length_cons, List.length_nil]; decide)]
  simp only [hn]
theorem fw_11_81 (h : Int) (h0 : 0 ≤ h) (h1 : h < 4294967296) : fld pt11 h 81 = 0 := by
  rw [fl_11_81, hv_eq _ 0 (by simp only [List.forall_mem_cons, bitW_bd h _ h0, List.not_mem_nil, false_implies, implies_true, and_self]) (by decide) (by simp only [List.length_cons, List.length_nil]; decide)]
  simp only [hn]
theorem fw_11_83 (h : Int) (h0 : 0 ≤ h) (h1 : h < 4294967296) : fld pt11 h 83 = 0 := by
  rw [fl_11_83, hv_eq _ 0 (by simp only [List.forall_mem_cons, bitW_bd h _ h0, List.not_mem_nil, false_implies, implies_true, and_self]) (by decide) (by simp only [List.length_cons, List.length_nil]; decide)]
  simp only [hn]
theorem fw_11_85 (h : Int) (h0 : 0 ≤ h) (h1 : h < 4294967296) : fld pt11 h 85 = 0 := by
  rw [fl_11_85, hv_eq _ 0 (by simp only [List.forall_mem_cons, bitW_bd h _ h0, List.not_mem_nil, false_implies, implies_true, and_self]) (by decide) (by simp only [List.length_cons, List.length_nil]; decide)]
  simp only [hn]
theorem fw_11_97 (h : Int) (h0 : 0 ≤ h) (h1 : h < 4294967296) : fld pt11 h 97 = 16 * bitW h 11 + 8 * bitW h 10 + 4 * bitW h 9 + 2 * bitW h 8 + bitW h 7 := by
  rw [fl_11_97, hv_eq _ 0 (by simp only [List.forall_mem_cons, bitW_bd h _ h0, List.not_mem_nil, false_implies, implies_true, and_self]) (by decide) (by simp only [List.length_cons, List.length_nil]; decide)]
  simp only [hn]
  omega
theorem fw_11_99 (h : Int) (h0 : 0 ≤ h) (h1 : h < 4294967296) : fld pt11 h 99 = 8 * bitW h 31 + 4 * bitW h 30 + 2 * bitW h 29 + bitW h 28 := by
  rw [fl_11_99, hv_eq _ 0 (by simp only [List.forall_mem_cons, bitW_bd h _ h0, List.not_mem_nil, false_implies, implies_true, and_self]) (by decide) (by simp only [List.length_cons, List.length_nil]; decide)]
  simp only [hn]
  omega
theorem fw_11_100 (h : Int) (h0 : 0 ≤ h) (h1 : h < 4294967296) : fld pt11 h 100 = 8 * bitW h 15 + 4 * bitW h 14 + 2 * bitW h 13 + bitW h 12 := by
  rw [fl_11_100, hv_eq _ 0 (by simp only [List.forall_mem_cons, bitW_bd h _ h0, List.not_mem_nil, false_implies, implies_true, and_self]) (by decide) (by simp only [List.length_cons, List.length_nil]; decide)]
  simp only [hn]
  omega
theorem fw_11_108 (h : Int) (h0 : 0 ≤ h) (h1 : h < 4294967296) : fld pt11 h 108 = 0 := by
  rw [fl_11_108, hv_eq _ 0 (by simp only [List.forall_mem_cons, bitW_bd h _ h0, List.not_mem_nil, false_implies, implies_true, and_self]) (by decide) (by simp only [List.length_cons, List.length_nil]; decide)]
  simp only [hn]
theorem fw_11_109 (h : Int) (h0 : 0 ≤ h) (h1 : h < 4294967296) : fld pt11 h 109 = 8 * bitW h 3 + 4 * bitW h 2 + 2 * bitW h 1 + bitW h 0 := by
  rw [fl_11_109, hv_eq _ 0 (by simp only [List.forall_mem_cons, bitW_bd h _ h0, List.not_mem_nil, false_implies, implies_true, and_self]) (by decide) (by simp only [List.length_cons, List.length_nil]; decide)]
  simp only [hn]
  omega
theorem fw_11_110 (h : Int) (h0 : 0 ≤ h) (h1 : h < 4294967296) : fld pt11 h 110 = 8 * bitW h 19 + 4 * bitW h 18 + 2 * bitW h 17 + bitW h 16 := by
  rw [fl_11_110, hv_eq _ 0 (by simp only [List.forall_mem_cons, bitW_bd h _ h0, List.not_mem_nil, false_implies, implies_true, and_self]) (by decide) (by simp only [List.length_cons, List.length_nil]; decide)]
  simp only [hn]
  omega
theorem fw_11_111 (h : Int) (h0 : 0 ≤ h) (h1 : h < 4294967296) : fld pt11 h 111 = 8 * bitW h 24 + 4 * bitW h 23 + 2 * bitW h 22 + bitW h 21 := by
  rw [fl_11_111, hv_eq _ 0 (by simp only [List.forall_mem_cons, bitW_bd h _ h0, List.not_mem_nil, false_implies, implies_true, and_self]) (by decide) (by simp only [List.length_cons, List.length_nil]; decide)]
  simp only [hn]
  omega
theorem fw_11_115 (h : Int) (h0 : 0 ≤ h) (h1 : h < 4294967296) : fld pt11 h 115 = 0 := by
  rw [fl_11_115, hv_eq _ 0 (by simp only [List.forall_mem_cons, bitW_bd h _ h0, List.not_mem_nil, false_implies, implies_true, and_self]) (by decide) (by simp only [List.length_cons, List.length_nil]; decide)]
  simp only [hn]
theorem fw_11_116 (h : Int) (h0 : 0 ≤ h) (h1 : h < 4294967296) : fld pt11 h 116 = 2 * bitW h 6 + bitW h 5 := by
  rw [fl_11_116, hv_eq _ 0 (by simp only [List.forall_mem_cons, bitW_bd h _ h0, List.not_mem_nil, false_implies, implies_true, and_self]) (by decide) (by simp only [List.length_cons, List.length_nil]; decide)]
  simp only [hn]
  omega
theorem fw_12_65 (h : Int) (h0 : 0 ≤ h) (h1 : h < 4294967296) : fld pt12 h 65 = 0 := by
  rw [fl_12_65, hv_eq _ 0 (by simp only [List.forall_mem_cons, bitW_bd h _ h0, List.not_mem_nil, false_implies, implies_true, and_self]) (by decide) (by simp only [List.length_cons, List.length_nil]; decide)]
  simp only [hn]
theorem fw_12_66 (h : Int) (h0 : 0 ≤ h) (h1 : h < 4294967296) : fld pt12 h 66 = 0 := by
  rw [fl_12_66, hv_eq _ 0 (by simp only [List.forall_mem_cons, bitW_bd h _ h0, List.not_mem_nil, false_implies, implies_true, and_self]) (by decide) (by simp only [List.length_cons, List.length_nil]; decide)]
  simp only [hn]
theorem fw_12_70 (h : Int) (h0 : 0 ≤ h) (h1 : h < 4294967296) : fld pt12 h 70 = bitW h 20 := by
  rw [fl_12_70, hv_eq _ 0 (by simp only [List.forall_mem_cons, bitW_bd h _ h0, List.not_mem_nil, false_implies, implies_true, and_self]) (by decide) (by simp only [List.length_cons, List.length_nil]; decide)]
  simp only [hn]
  omega
theorem fw_12_73 (h : Int) (h0 : 0 ≤ h) (h1 : h < 4294967296) : fld pt12 h 73 = 0 := by
  rw [fl_12_73, hv_eq _ 0 (by simp only [List.forall_mem_cons, bitW_bd h _ h0, List.not_mem_nil, false_implies, implies_true, and_self]) (by decide) (by simp only [List.length_cons, List.length_nil]; decide)]
  simp only [hn]
theorem fw_12_75 (h : Int) (h0 : 0 ≤ h) (h1 : h < 4294967296) : fld pt12 h 75 = 0 := by
  rw [fl_12_75, hv_eq _ 0 (by simp only [List.forall_mem_cons, bitW_bd h _ h0, List.not_mem_nil, false_implies, implies_true, and_self]) (by decide) (by simp only [List.length_cons, List.length_nil]; decide)]
  simp only [hn]
theorem fw_12_76 (h : Int) (h0 : 0 ≤ h) (h1 : h < 4294967296) : fld pt12 h 76 = 0 := by
  rw [fl_12_76, hv_eq _ 0 (by simp only [List.forall_mem_cons, bitW_bd h _ h0, List.not_mem_nil, false_implies, implies_true, and_self]) (by decide) (by simp only [List.length_cons, List.length_nil]; decide)]
  simp only [hn]
theorem fw_12_80 (h : Int) (h0 : 0 ≤ h) (h1 : h < 4294967296) : fld pt12 h 80 = 0 := by
  rw [fl_12_80, hv_eq _ 0 (by simp only [List.forall_mem_cons, bitW_bd h _ h0, List.not_mem_nil, false_implies, implies_true, and_self]) (by decide) (by simp only [List.length_cons, List.length_nil]; decide)]
  simp only [hn]
theorem fw_12_81 (h : Int) (h0 : 0 ≤ h) (h1 : h < 4294967296) : fld pt12 h 81 = 0 := by
  rw [fl_12_81, hv_eq _ 0 (by simp only [List.forall_mem_cons, bitW_bd h _ h0, List.not_mem_nil, false_implies, implies_true, and_self]) (by decide) (by simp only [List.length_cons, List.length_nil]; decide)]
  simp only [hn]
theorem fw_12_83 (h : Int) (h0 : 0 ≤ h) (h1 : h < 4294967296) : fld pt12 h 83 = 0 := by
  rw [fl_12_83, hv_eq _ 0 (by simp only [List.forall_mem_cons, bitW_bd h _ h0, List.not_mem_nil, false_implies, implies_true, and_self]) (by decide) (by simp only [List.length_cons, List.length_nil]; decide)]
  simp only [hn]
theorem fw_12_85 (h : Int) (h0 : 0 ≤ h) (h1 : h < 4294967296) : fld pt12 h 85 = 0 := by
  rw [fl_12_85, hv_eq _ 0 (by simp only [List.forall_mem_cons, bitW_bd h _ h0, List.not_mem_nil, false_implies, implies_true, and_self]) (by decide) (by simp only [List.length_cons, List.length_nil]; decide)]
  simp only [hn]
theorem fw_12_97 (h : Int) (h0 : 0 ≤ h) (h1 : h < 4294967296) : fld pt12 h 97 = 0 := by
  rw [fl_12_97, hv_eq _ 0 (by simp only [List.forall_mem_cons, bitW_bd h _ h0, List.not_mem_nil, false_implies, implies_true, and_self]) (by decide) (by simp only [List.length_cons, List.length_nil]; decide)]
  simp only [hn]
theorem fw_12_99 (h : Int) (h0 : 0 ≤ h) (h1 : h < 4294967296) : fld pt12 h 99 = 8 * bitW h 31 + 4 * bitW h 30 + 2 * bitW h 29 + bitW h 28 := by
  rw [fl_12_99, hv_eq _ 0 (by simp only [List.forall_mem_cons, bitW_bd h _ h0, List.not_mem_nil, false_implies, implies_true, and_self]) (by decide) (by simp only [List.length_cons, List.length_nil]; decide)]
  simp only [hn]
  omega
theorem fw_12_100 (h : Int) (h0 : 0 ≤ h) (h1 : h < 4294967296) : fld pt12 h 100 = 8 * bitW h 15 + 4 * bitW h 14 + 2 * bitW h 13 + bitW h 12 := by
  rw [fl_12_100, hv_eq _ 0 (by simp only [List.forall_mem_cons, bitW_bd h _ h0, List.not_mem_nil, false_implies, implies_true, and_self]) (by decide) (by simp only [List.length_cons, List.length_nil]; decide)]
  simp only [hn]
  omega
theorem fw_12_108 (h : Int) (h0 : 0 ≤ h) (h1 : h < 4294967296) : fld pt12 h 108 = 0 := by
  rw [fl_12_108, hv_eq _ 0 (by simp only [List.forall_mem_cons, bitW_bd h _ h0, List.not_mem_nil, false_implies, implies_true, and_self]) (by decide) (by simp only [List.length_cons, List.length_nil]; decide)]
  simp only [hn]
theorem fw_12_109 (h : Int) (h0 : 0 ≤ h) (h1 : h < 4294967296) : fld pt12 h 109 = 8 * bitW h 3 + 4 * bitW h 2 + 2 * bitW h 1 + bitW h 0 := by
  rw [fl_12_109, hv_eq _ 0 (by simp only [List.forall_mem_cons, bitW_bd h _ h0, List.not_mem_nil, false_implies, implies_true, and_self]) (by decide) (by simp only [List.length_cons, List.length_nil]; decide)]
  simp only [hn]
  omega
theorem fw_12_110 (h : Int) (h0 : 0 ≤ h) (h1 : h < 4294967296) : fld pt12 h 110 = 8 * bitW h 19 + 4 * bitW h 18 + 2 * bitW h 17 + bitW h 16 := by
  rw [fl_12_110, hv_eq _ 0 (by simp only [List.forall_mem_cons, bitW_bd h _ h0, List.not_mem_nil, false_implies, implies_true, and_self]) (by decide) (by simp only [List.length_cons, List.length_nil]; decide)]
  simp only [hn]
  omega
theorem fw_12_111 (h : Int) (h0 : 0 ≤ h) (h1 : h < 4294967296) : fld pt12 h 111 = 8 * bitW h 24 + 4 * bitW h 23 + 2 * bitW h 22 + bitW h 21 := by
  rw [fl_12_111, hv_eq _ 0 (by simp only [List.forall_mem_cons, bitW_bd h _ h0, List.not_mem_nil, false_implies, implies_true, and_self]) (by decide) (by simp only [List.length_cons, List.length_nil]; decide)]
  simp only [hn]
  omega
theorem fw_12_115 (h : Int) (h0 : 0 ≤ h) (h1 : h < 4294967296) : fld pt12 h 115 = 8 * bitW h 11 + 4 * bitW h 10 + 2 * bitW h 9 + bitW h 8 := by
  rw [fl_12_115, hv_eq _ 0 (by simp only [List.forall_mem_cons, bitW_bd h _ h0, List.not_mem_nil, false_implies, implies_true, and_self]) (by decide) (by simp only [List.length_cons, List.length_nil]; decide)]
  simp only [hn]
  omega
theorem fw_12_116 (h : Int) (h0 : 0 ≤ h) (h1 : h < 4294967296) : fld pt12 h 116 = 2 * bitW h 6 + bitW h 5 := by
  rw [fl_12_116, hv_eq _ 0 (by simp only [List.forall_mem_cons, bitW_bd h _ h0, List.not_mem_nil, false_implies, implies_true, and_self]) (by decide) (by simp only [List.length_cons, List.length_nil]; decide)]
  simp only [hn]
  omega
theorem fw_13_65 (h : Int) (h0 : 0 ≤ h) (h1 : h < 4294967296) : fld pt13 h 65 = 0 := by
  rw [fl_13_65, hv_eq _ 0 (by simp only [List.forall_mem_cons, bitW_bd h _ h0, List.not_mem_nil, false_implies, implies_true, and_self]) (by decide) (by simp only [List.length_cons, List.length_nil]; decide)]
  simp only [hn]
theorem fw_13_66 (h : Int) (h0 : 0 ≤ h) (h1 : h < 4294967296) : fld pt13 h 66 = 0 := by
  rw [fl_13_66, hv_eq _ 0 (by simp only [List.forall_mem_cons, bitW_bd h _ h0, List.not_mem_nil, false_implies, implies_true, and_self]) (by decide) (by simp only [List.length_cons, List.length_nil]; decide)]
  simp only [hn]
theorem fw_13_70 (h : Int) (h0 : 0 ≤ h) (h1 : h < 4294967296) : fld pt13 h 70 = bitW h 20 := by
  rw [fl_13_70, hv_eq _ 0 (by simp only [List.forall_mem_cons, bitW_bd h _ h0, List.not_mem_nil, false_implies, implies_true, and_self]) (by decide) (by simp only [List.length_cons, List.length_nil]; decide)]
  simp only [hn]
  omega
theorem fw_13_73 (h : Int) (h0 : 0 ≤ h) (h1 : h < 4294967296) : fld pt13 h 73 = 128 * bitW h 7 + 64 * bitW h 6 + 32 * bitW h 5 + 16 * bitW h 4 + 8 * bitW h 3 + 4 * bitW h 2 + 2 * bitW h 1 + bitW h 0 := by
  rw [fl_13_73, hv_eq _ 0 (by simp only [List.forall_mem_cons, bitW_bd h _ h0, List.not_mem_nil, false_implies, implies_true, and_self]) (by decide) (by simp only [List.length_cons, List.length_nil]; decide)]
  simp only [hn]
  omega
theorem fw_13_75 (h : Int) (h0 : 0 ≤ h) (h1 : h < 4294967296) : fld pt13 h 75 = 0 := by
  rw [fl_13_75, hv_eq _ 0 (by simp only [List.forall_mem_cons, bitW_bd h _ h0, List.not_mem_nil, false_implies, implies_true, and_self]) (by decide) (by simp only [List.length_cons, List.length_nil]; decide)]
  simp only [hn]
theorem fw_13_76 (h : Int) (h0 : 0 ≤ h) (h1 : h < 4294967296) : fld pt13 h 76 = 0 := by
  rw [fl_13_76, hv_eq _ 0 (by simp only [List.forall_mem_cons, bitW_bd h _ h0, List.not_mem_nil, false_implies, implies_true, and_self]) (by decide) (by simp only [List.length_cons, List.length_nil]; decide)]
  simp only [hn]
theorem fw_13_80 (h : Int) (h0 : 0 ≤ h) (h1 : h < 4294967296) : fld pt13 h 80 = 0 := by
  rw [fl_13_80, hv_eq _ 0 (by simp only [List.forall_mem_cons, bitW_bd h _ h0, List.not_mem_nil, false_implies, implies_true, and_self]) (by decide) (by simp only [List.length_cons, List.length_nil]; decide)]
  simp only [hn]
theorem fw_13_81 (h : Int) (h0 : 0 ≤ h) (h1 : h < 4294967296) : fld pt13 h 81 = 0 := by
  rw [fl_13_81, hv_eq _ 0 (by simp only [List.forall_mem_cons, bitW_bd h _ h0, List.not_mem_nil, false_implies, implies_true, and_self]) (by decide) (by simp only [List.length_cons, List.length_nil]; decide)]
  simp only [hn]
theorem fw_13_83 (h : Int) (h0 : 0 ≤ h) (h1 : h < 4294967296) : fld pt13 h 83 = 0 := by
  rw [fl_13_83, hv_eq _ 0 (by simp only [List.forall_mem_cons, bitW_bd h _ h0, List.not_mem_nil, false_implies, implies_true, and_self]) (by decide) (by simp only [List.length_cons, List.length_nil]; decide)]
  simp only [hn]
theorem fw_13_85 (h : Int) (h0 : 0 ≤ h) (h1 : h < 4294967296) : fld pt13 h 85 = 0 := by
  rw [fl_13_85, hv_eq _ 0 (by simp only [List.forall_mem_cons, bitW_bd h _ h0, List.not_mem_nil, false_implies, implies_true, and_self]) (by decide) (by simp only [List.length_cons, List.length_nil]; decide)]
  simp only [hn]
theorem fw_13_97 (h : Int) (h0 : 0 ≤ h) (h1 : h < 4294967296) : fld pt13 h 97 = 8 * bitW h 11 + 4 * bitW h 10 + 2 * bitW h 9 + bitW h 8 := by
  rw [fl_13_97, hv_eq _ 0 (by simp only [List.forall_mem_cons, bitW_bd h _ h0, List.not_mem_nil, false_implies, implies_true, and_self]) (by decide) (by simp only [List.length_cons, List.length_nil]; decide)]
  simp only [hn]
  omega
theorem fw_13_99 (h : Int) (h0 : 0 ≤ h) (h1 : h < 4294967296) : fld pt13 h 99 = 8 * bitW h 31 + 4 * bitW h 30 + 2 * bitW h 29 + bitW h 28 := by
  rw [fl_13_99, hv_eq _ 0 (by simp only [List.forall_mem_cons, bitW_bd h _ h0, List.not_mem_nil, false_implies, implies_true, and_self]) (by decide) (by simp only [List.length_cons, List.length_nil]; decide)]
  simp only [hn]
  omega
theorem fw_13_100 (h : Int) (h0 : 0 ≤ h) (h1 : h < 4294967296) : fld pt13 h 100 = 8 * bitW h 15 + 4 * bitW h 14 + 2 * bitW h 13 + bitW h 12 := by
  rw [fl_13_100, hv_eq _ 0 (by simp only [List.forall_mem_cons, bitW_bd h _ h0, List.not_mem_nil, false_implies, implies_true, and_self]) (by decide) (by simp only [List.length_cons, List.length_nil]; decide)]
  simp only [hn]
  omega
theorem fw_13_108 (h : Int) (h0 : 0 ≤ h) (h1 : h < 4294967296) : fld pt13 h 108 = 0 := by
  rw [fl_13_108, hv_eq _ 0 (by simp only [List.forall_mem_cons, bitW_bd h _ h0, List.not_mem_nil, false_implies, implies_true, and_self]) (by decide) (by simp only [List.length_cons, List.length_nil]; decide)]
  simp only [hn]
theorem fw_13_109 (h : Int) (h0 : 0 ≤ h) (h1 : h < 4294967296) : fld pt13 h 109 = 0 := by
  rw [fl_13_109, hv_eq _ 0 (by simp only [List.forall_mem_cons, bitW_bd h _ h0, List.not_mem_nil, false_implies, implies_true, and_self]) (by decide) (by simp only [List.length_cons, List.length_nil]; decide)]
  simp only [hn]
theorem fw_13_110 (h : Int) (h0 : 0 ≤ h) (h1 : h < 4294967296) : fld pt13 h 110 = 8 * bitW h 19 + 4 * bitW h 18 + 2 * bitW h 17 + bitW h 16 := by
  rw [fl_13_110, hv_eq _ 0 (by simp only [List.forall_mem_cons, bitW_bd h _ h0, List.not_mem_nil, false_implies, implies_true, and_self]) (by decide) (by simp only [List.length_cons, List.length_nil]; decide)]
  simp only [hn]
  omega
theorem fw_13_111 (h : Int) (h0 : 0 ≤ h) (h1 : h < 4294967296) : fld pt13 h 111 = 8 * bitW h 24 + 4 * bitW h 23 + 2 * bitW h 22 + bitW h 21 := by
  rw [fl_13_111, hv_eq _ 0 (by simp only [List.forall_mem_cons, bitW_bd h _ h0, List.not_mem_nil, false_implies, implies_true, and_self]) (by decide) (by simp only [List.length_cons, List.length_nil]; decide)]
  simp only [hn]
  omega
theorem fw_13_115 (h : Int) (h0 : 0 ≤ h) (h1 : h < 4294967296) : fld pt13 h 115 = 0 := by
  rw [fl_13_115, hv_eq _ 0 (by simp only [List.forall_mem_cons, bitW_bd h _ h0, List.not_mem_nil, false_implies, implies_true, and_self]) (by decide) (by simp only [List.length_cons, List.length_nil]; decide)]
  simp only [hn]
theorem fw_13_116 (h : Int) (h0 : 0 ≤ h) (h1 : h < 4294967296) : fld pt13 h 116 = 0 := by
  rw [fl_13_116, hv_eq _ 0 (by simp only [List.forall_mem_cons, bitW_bd h _ h0, List.not_mem_nil, false_implies, implies_true, and_self]) (by decide) (by simp only [List.length_cons, List.length_nil]; decide)]
  simp only [hn]
theorem fw_14_65 (h : Int) (h0 : 0 ≤ h) (h1 : h < 4294967296) : fld pt14 h 65 = 0 := by
  rw [fl_14_65, hv_eq _ 0 (by simp only [List.forall_mem_cons, bitW_bd h _ h0, List.not_mem_nil, false_implies, implies_true, and_self]) (by decide) (by simp only [List.length_cons, List.length_nil]; decide)]
  simp only [hn]
theorem fw_14_66 (h : Int) (h0 : 0 ≤ h) (h1 : h < 4294967296) : fld pt14 h 66 = bitW h 22 := by
  rw [fl_14_66, hv_eq _ 0 (by simp only [List.forall_mem_cons, bitW_bd h _ h0, List.not_mem_nil, false_implies, implies_true, and_self]) (by decide) (by simp only [List.length_cons, List.length_nil]; decide)]
  simp only [hn]
  omega
theorem fw_14_70 (h : Int) (h0 : 0 ≤ h) (h1 : h < 4294967296) : fld pt14 h 70 = 0 := by
  rw [fl_14_70, hv_eq _ 0 (by simp only [List.forall_mem_cons, bitW_bd h _ h0, List.not_mem_nil, false_implies, implies_true, and_self]) (by decide) (by simp only [List.length_cons, List.length_nil]; decide)]
  simp only [hn]
theorem fw_14_73 (h : Int) (h0 : 0 ≤ h) (h1 : h < 4294967296) : fld pt14 h 73 = 2048 * bitW h 11 + 1024 * bitW h 10 + 512 * bitW h 9 + 256 * bitW h 8 + 128 * bitW h 7 + 64 * bitW h 6 + 32 * bitW h 5 + 16 * bitW h 4 + 8 * bitW h 3 + 4 * bitW h 2 + 2 * bitW h 1 + bitW h 0 := by
  rw [fl_14_73, hv_eq _ 0 (by simp only [List.forall_mem_cons, bitW_bd h _ h0, List.not_mem_nil, false_implies, implies_true, and_self]) (by decide) (by simp only [List.length_cons, List.length_nil]; decide)]
  simp only [hn]
  omega
theorem fw_14_75 (h : Int) (h0 : 0 ≤ h) (h1 : h < 4294967296) : fld pt14 h 75 = 0 := by
  rw [fl_14_75, hv_eq _ 0 (by simp only [List.forall_mem_cons, bitW_bd h _ h0, List.not_mem_nil, false_implies, implies_true, and_self]) (by decide) (by simp only [List.length_cons, List.length_nil]; decide)]
  simp only [hn]
theorem fw_14_76 (h : Int) (h0 : 0 ≤ h) (h1 : h < 4294967296) : fld pt14 h 76 = bitW h 20 := by
  rw [fl_14_76, hv_eq _ 0 (by simp only [List.forall_mem_cons, bitW_bd h _ h0, List.not_mem_nil, false_implies, implies_true, and_self]) (by decide) (by simp only [List.length_cons, List.length_nil]; decide)]
  simp only [hn]
  omega
theorem fw_14_80 (h : Int) (h0 : 0 ≤ h) (h1 : h < 4294967296) : fld pt14 h 80 = bitW h 24 := by
  rw [fl_14_80, hv_eq _ 0 (by simp only [List.forall_mem_cons, bitW_bd h _ h0, List.not_mem_nil, false_implies, implies_true, and_self]) (by decide) (by simp only [List.length_cons, List.length_nil]; decide)]
  simp only [hn]
  omega
theorem fw_14_81 (h : Int) (h0 : 0 ≤ h) (h1 : h < 4294967296) : fld pt14 h 81 = 0 := by
  rw [fl_14_81, hv_eq _ 0 (by simp only [List.forall_mem_cons, bitW_bd h _ h0, List.not_mem_nil, false_implies, implies_true, and_self]) (by decide) (by simp only [List.length_cons, List.length_nil]; decide)]
  simp only [hn]
theorem fw_14_83 (h : Int) (h0 : 0 ≤ h) (h1 : h < 4294967296) : fld pt14 h 83 = 0 := by
  rw [fl_14_83, hv_eq _ 0 (by simp only [List.forall_mem_cons, bitW_bd h _ h0, List.not_mem_nil, false_implies, implies_true, and_self]) (by decide) (by simp only [List.length_cons, List.length_nil]; decide)]
  simp only [hn]
theorem fw_14_85 (h : Int) (h0 : 0 ≤ h) (h1 : h < 4294967296) : fld pt14 h 85 = bitW h 23 := by
  rw [fl_14_85, hv_eq _ 0 (by simp only [List.forall_mem_cons, bitW_bd h _ h0, List.not_mem_nil, false_implies, implies_true, and_self]) (by decide) (by simp only [List.length_cons, List.length_nil]; decide)]
  simp only [hn]
  omega
theorem fw_14_87 (h : Int) (h0 : 0 ≤ h) (h1 : h < 4294967296) : fld pt14 h 87 = bitW h 21 := by
  rw [fl_14_87, hv_eq _ 0 (by simp only [List.forall_mem_cons, bitW_bd h _ h0, List.not_mem_nil, false_implies, implies_true, and_self]) (by decide) (by simp only [List.length_cons, List.length_nil]; decide)]
  simp only [hn]
  omega
theorem fw_14_97 (h : Int) (h0 : 0 ≤ h) (h1 : h < 4294967296) : fld pt14 h 97 = 0 := by
  rw [fl_14_97, hv_eq _ 0 (by simp only [List.forall_mem_cons, bitW_bd h _ h0, List.not_mem_nil, false_implies, implies_true, and_self]) (by decide) (by simp only [List.length_cons, List.length_nil]; decide)]
  simp only [hn]
theorem fw_14_99 (h : Int) (h0 : 0 ≤ h) (h1 : h < 4294967296) : fld pt14 h 99 = 8 * bitW h 31 + 4 * bitW h 30 + 2 * bitW h 29 + bitW h 28 := by
  rw [fl_14_99, hv_eq _ 0 (by simp only [List.forall_mem_cons, bitW_bd h _ h0, List.not_mem_nil, false_implies, implies_true, and_self]) (by decide) (by simp only [List.length_cons, List.length_nil]; decide)]
  simp only [hn]
  omega
theorem fw_14_100 (h : Int) (h0 : 0 ≤ h) (h1 : h < 4294967296) : fld pt14 h 100 = 8 * bitW h 15 + 4 * bitW h 14 + 2 * bitW h 13 + bitW h 12 := by
  rw [fl_14_100, hv_eq _ 0 (by simp only [List.forall_mem_cons, bitW_bd h _ h0, List.not_mem_nil, false_implies, implies_true, and_self]) (by decide) (by simp only [List.length_cons, List.length_nil]; decide)]
  simp only [hn]
  omega
theorem fw_14_108 (h : Int) (h0 : 0 ≤ h) (h1 : h < 4294967296) : fld pt14 h 108 = 0 := by
  rw [fl_14_108, hv_eq _ 0 (by simp only [List.forall_mem_cons, bitW_bd h _ h0, List.not_mem_nil, false_implies, implies_true, and_self]) (by decide) (by simp only [List.length_cons, List.length_nil]; decide)]
  simp only [hn]
theorem fw_14_109 (h : Int) (h0 : 0 ≤ h) (h1 : h < 4294967296) : fld pt14 h 109 = 0 := by
  rw [fl_14_109, hv_eq _ 0 (by simp only [List.forall_mem_cons, bitW_bd h _ h0, List.not_mem_nil, false_implies, implies_true, and_self]) (by decide) (by simp only [List.length_cons, List.length_nil]; decide)]
  simp only [hn]
theorem fw_14_110 (h : Int) (h0 : 0 ≤ h) (h1 : h < 4294967296) : fld pt14 h 110 = 8 * bitW h 19 + 4 * bitW h 18 + 2 * bitW h 17 + bitW h 16 := by
  rw [fl_14_110, hv_eq _ 0 (by simp only [List.forall_mem_cons, bitW_bd h _ h0, List.not_mem_nil, false_implies, implies_true, and_self]) (by decide) (by simp only [List.length_cons, List.length_nil]; decide)]
  simp only [hn]
  omega
theorem fw_14_115 (h : Int) (h0 : 0 ≤ h) (h1 : h < 4294967296) : fld pt14 h 115 = 0 := by
  rw [fl_14_115, hv_eq _ 0 (by simp only [List.forall_mem_cons, bitW_bd h _ h0, List.not_mem_nil, false_implies, implies_true, and_self]) (by decide) (by simp only [List.length_cons, List.length_nil]; decide)]
  simp only [hn]
theorem fw_14_116 (h : Int) (h0 : 0 ≤ h) (h1 : h < 4294967296) : fld pt14 h 116 = 0 := by
  rw [fl_14_116, hv_eq _ 0 (by simp only [List.forall_mem_cons, bitW_bd h _ h0, List.not_mem_nil, false_implies, implies_true, and_self]) (by decide) (by simp only [List.length_cons, List.length_nil]; decide)]
  simp only [hn]
theorem fw_15_65 (h : Int) (h0 : 0 ≤ h) (h1 : h < 4294967296) : fld pt15 h 65 = 0 := by
  rw [fl_15_65, hv_eq _ 0 (by simp only [List.forall_mem_cons, bitW_bd h _ h0, List.not_mem_nil, false_implies, implies_true, and_self]) (by decide) (by simp only [List.length_cons, List.length_nil]; decide)]
  simp only [hn]
theorem fw_15_66 (h : Int) (h0 : 0 ≤ h) (h1 : h < 4294967296) : fld pt15 h 66 = bitW h 22 := by
  rw [fl_15_66, hv_eq _ 0 (by simp only [List.forall_mem_cons, bitW_bd h _ h0, List.not_mem_nil, false_implies, implies_true, and_self]) (by decide) (by simp only [List.length_cons, List.length_nil]; decide)]
  simp only [hn]
  omega
theorem fw_15_70 (h : Int) (h0 : 0 ≤ h) (h1 : h < 4294967296) : fld pt15 h 70 = 0 := by
  rw [fl_15_70, hv_eq _ 0 (by simp only [List.forall_mem_cons, bitW_bd h _ h0, List.not_mem_nil, false_implies, implies_true, and_self]) (by decide) (by simp only [List.length_cons, List.length_nil]; decide)]
  simp only [hn]
theorem fw_15_73 (h : Int) (h0 : 0 ≤ h) (h1 : h < 4294967296) : fld pt15 h 73 = 0 := by
  rw [fl_15_73, hv_eq _ 0 (by simp only [List.forall_mem_cons, bitW_bd h _ h0, List.not_mem_nil, false_implies, implies_true, and_self]) (by decide) (by simp only [List.length_cons, List.length_nil]; decide)]
  simp only [hn]
theorem fw_15_75 (h : Int) (h0 : 0 ≤ h) (h1 : h < 4294967296) : fld pt15 h 75 = 0 := by
  rw [fl_15_75, hv_eq _ 0 (by simp only [List.forall_mem_cons, bitW_bd h _ h0, List.not_mem_nil, false_implies, implies_true, and_self]) (by decide) (by simp only [List.length_cons, List.length_nil]; decide)]
  simp only [hn]
theorem fw_15_76 (h : Int) (h0 : 0 ≤ h) (h1 : h < 4294967296) : fld pt15 h 76 = bitW h 20 := by
  rw [fl_15_76, hv_eq _ 0 (by simp only [List.forall_mem_cons, bitW_bd h _ h0, List.not_mem_nil, false_implies, implies_true, and_self]) (by decide) (by simp only [List.length_cons, List.length_nil]; decide)]
  simp only [hn]
  omega
theorem fw_15_80 (h : Int) (h0 : 0 ≤ h) (h1 : h < 4294967296) : fld pt15 h 80 = bitW h 24 := by
  rw [fl_15_80, hv_eq _ 0 (by simp only [List.forall_mem_cons, bitW_bd h _ h0, List.not_mem_nil, false_implies, implies_true, and_self]) (by decide) (by simp only [List.length_cons, List.length_nil]; decide)]
  simp only [hn]
  omega
theorem fw_15_81 (h : Int) (h0 : 0 ≤ h) (h1 : h < 4294967296) : fld pt15 h 81 = 0 := by
  rw [fl_15_81, hv_eq _ 0 (by simp only [List.forall_mem_cons, bitW_bd h _ h0, List.not_mem_nil, false_implies, implies_true, and_self]) (by decide) (by simp only [List.length_cons, List.length_nil]; decide)]
  simp only [hn]
theorem fw_15_83 (h : Int) (h0 : 0 ≤ h) (h1 : h < 4294967296) : fld pt15 h 83 = 0 := by
  rw [fl_15_83, hv_eq _ 0 (by simp only [List.forall_mem_cons, bitW_bd h _ h0, List.not_mem_nil, false_implies, implies_true, and_self]) (by decide) (by simp only [List.length_cons, List.length_nil]; decide)]
  simp only [hn]
theorem fw_15_85 (h : Int) (h0 : 0 ≤ h) (h1 : h < 4294967296) : fld pt15 h 85 = bitW h 23 := by
  rw [fl_15_85, hv_eq _ 0 (by simp only [List.forall_mem_cons, bitW_bd h _ h0, List.not_mem_nil, false_implies, implies_true, and_self]) (by decide) (by simp only [List.length_cons, List.length_nil]; decide)]
  simp only [hn]
  omega
theorem fw_15_87 (h : Int) (h0 : 0 ≤ h) (h1 : h < 4294967296) : fld pt15 h 87 = bitW h 21 := by
  rw [fl_15_87, hv_eq _ 0 (by simp only [List.forall_mem_cons, bitW_bd h _ h0, List.not_mem_nil, false_implies, implies_true, and_self]) (by decide) (by simp only [List.length_cons, List.length_nil]; decide)]
  simp only [hn]
  omega
theorem fw_15_97 (h : Int) (h0 : 0 ≤ h) (h1 : h < 4294967296) : fld pt15 h 97 = 16 * bitW h 11 + 8 * bitW h 10 + 4 * bitW h 9 + 2 * bitW h 8 + bitW h 7 := by
  rw [fl_15_97, hv_eq _ 0 (by simp only [List.forall_mem_cons, bitW_bd h _ h0, List.not_mem_nil, false_implies, implies_true, and_self]) (by decide) (by simp only [List.length_cons, List.length_nil]; decide)]
  simp only [hn]
  omega
theorem fw_15_99 (h : Int) (h0 : 0 ≤ h) (h1 : h < 4294967296) : fld pt15 h 99 = 8 * bitW h 31 + 4 * bitW h 30 + 2 * bitW h 29 + bitW h 28 := by
  rw [fl_15_99, hv_eq _ 0 (by simp only [List.forall_mem_cons, bitW_bd h _ h0, List.not_mem_nil, false_implies, implies_true, and_self]) (by decide) (by simp only [List.length_cons, List.length_nil]; decide)]
  simp only [hn]
  omega
theorem fw_15_100 (h : Int) (h0 : 0 ≤ h) (h1 : h < 4294967296) : fld pt15 h 100 = 8 * bitW h 15 + 4 * bitW h 14 + 2 * bitW h 13 + bitW h 12 := by
  rw [fl_15_100, hv_eq _ 0 (by simp only [List.forall_mem_cons, bitW_bd h _ h0, List.not_mem_nil, false_implies, implies_true, and_self]) (by decide) (by simp only [List.length_cons, List.length_nil]; decide)]
  simp only [hn]
  omega
theorem fw_15_108 (h : Int) (h0 : 0 ≤ h) (h1 : h < 4294967296) : fld pt15 h 108 = 0 := by
  rw [fl_15_108, hv_eq _ 0 (by simp only [List.forall_mem_cons, bitW_bd h _ h0, List.not_mem_nil, false_implies, implies_true, and_self]) (by decide) (by simp only [List.length_cons, List.length_nil]; decide)]
  simp only [hn]
theorem fw_15_109 (h : Int) (h0 : 0 ≤ h) (h1 : h < 4294967296) : fld pt15 h 109 = 8 * bitW h 3 + 4 * bitW h 2 + 2 * bitW h 1 + bitW h 0 := by
  rw [fl_15_109, hv_eq _ 0 (by simp only [List.forall_mem_cons, bitW_bd h _ h0, List.not_mem_nil, false_implies, implies_true, and_self]) (by decide) (by simp only [List.length_cons, List.length_nil]; decide)]
  simp only [hn]
  omega
theorem fw_15_110 (h : Int) (h0 : 0 ≤ h) (h1 : h < 4294967296) : fld pt15 h 110 = 8 * bitW h 19 + 4 * bitW h 18 + 2 * bitW h 17 + bitW h 16 := by
  rw [fl_15_110, hv_eq _ 0 (by simp only [List.forall_mem_cons, bitW_bd h _ h0, List.not_mem_nil, false_implies, implies_true, and_self]) (by decide) (by simp only [List.length_cons, List.length_nil]; decide)]
  simp only [hn]
  omega
theorem fw_15_115 (h : Int) (h0 : 0 ≤ h) (h1 : h < 4294967296) : fld pt15 h 115 = 0 := by
  rw [fl_15_115, hv_eq _ 0 (by simp only [List.forall_mem_cons, bitW_bd h _ h0, List.not_mem_nil, false_implies, implies_true, and_self]) (by decide) (by simp only [List.length_cons, List.length_nil]; decide)]
  simp only [hn]
theorem fw_15_116 (h : Int) (h0 : 0 ≤ h) (h1 : h < 4294967296) : fld pt15 h 116 = 2 * bitW h 6 + bitW h 5 := by
  rw [fl_15_116, hv_eq _ 0 (by simp only [List.forall_mem_cons, bitW_bd h _ h0, List.not_mem_nil, false_implies, implies_true, and_self]) (by decide) (by simp only [List.length_cons, List.length_nil]; decide)]
  simp only [hn]
  omega
theorem fw_16_65 (h : Int) (h0 : 0 ≤ h) (h1 : h < 4294967296) : fld pt16 h 65 = 0 := by
  rw [fl_16_65, hv_eq _ 0 (by simp only [List.forall_mem_cons, bitW_bd h _ h0, List.not_mem_nil, false_implies, implies_true, and_self]) (by decide) (by simp only [List.length_cons, List.length_nil]; decide)]
  simp only [hn]
theorem fw_16_66 (h : Int) (h0 : 0 ≤ h) (h1 : h < 4294967296) : fld pt16 h 66 = 0 := by
  rw [fl_16_66, hv_eq _ 0 (by simp only [List.forall_mem_cons, bitW_bd h _ h0, List.not_mem_nil, false_implies, implies_true, and_self]) (by decide) (by simp only [List.length_cons, List.length_nil]; decide)]
  simp only [hn]
theorem fw_16_70 (h : Int) (h0 : 0 ≤ h) (h1 : h < 4294967296) : fld pt16 h 70 = 0 := by
  rw [fl_16_70, hv_eq _ 0 (by simp only [List.forall_mem_cons, bitW_bd h _ h0, List.not_mem_nil, false_implies, implies_true, and_self]) (by decide) (by simp only [List.length_cons, List.length_nil]; decide)]
  simp only [hn]
theorem fw_16_73 (h : Int) (h0 : 0 ≤ h) (h1 : h < 4294967296) : fld pt16 h 73 = 0 := by
  rw [fl_16_73, hv_eq _ 0 (by simp only [List.forall_mem_cons, bitW_bd h _ h0, List.not_mem_nil, false_implies, implies_true, and_self]) (by decide) (by simp only [List.length_cons, List.length_nil]; decide)]
  simp only [hn]
theorem fw_16_75 (h : Int) (h0 : 0 ≤ h) (h1 : h < 4294967296) : fld pt16 h 75 = 0 := by
  rw [fl_16_75, hv_eq _ 0 (by simp only [List.forall_mem_cons, bitW_bd h _ h0, List.not_mem_nil, false_implies, implies_true, and_self]) (by decide) (by simp only [List.length_cons, List.length_nil]; decide)]
  simp only [hn]
theorem fw_16_76 (h : Int) (h0 : 0 ≤ h) (h1 : h < 4294967296) : fld pt16 h 76 = bitW h 20 := by
  rw [fl_16_76, hv_eq _ 0 (by simp only [List.forall_mem_cons, bitW_bd h _ h0, List.not_mem_nil, false_implies, implies_true, and_self]) (by decide) (by simp only [List.length_cons, List.length_nil]; decide)]
  simp only [hn]
  omega
theorem fw_16_80 (h : Int) (h0 : 0 ≤ h) (h1 : h < 4294967296) : fld pt16 h 80 = bitW h 24 := by
  rw [fl_16_80, hv_eq _ 0 (by simp only [List.forall_mem_cons, bitW_bd h _ h0, List.not_mem_nil, false_implies, implies_true, and_self]) (by decide) (by simp only [List.length_cons, List.length_nil]; decide)]
  simp only [hn]
  omega
theorem fw_16_81 (h : Int) (h0 : 0 ≤ h) (h1 : h < 4294967296) : fld pt16 h 81 = bitW h 22 := by
  rw [fl_16_81, hv_eq _ 0 (by simp only [List.forall_mem_cons, bitW_bd h _ h0, List.not_mem_nil, false_implies, implies_true, and_self]) (by decide) (by simp only [List.length_cons, List.length_nil]; decide)]
  simp only [hn]
  omega
theorem fw_16_83 (h : Int) (h0 : 0 ≤ h) (h1 : h < 4294967296) : fld pt16 h 83 = 0 := by
  rw [fl_16_83, hv_eq _ 0 (by simp only [List.forall_mem_cons, bitW_bd h _ h0, List.not_mem_nil, false_implies, implies_true, and_self]) (by decide) (by simp only [List.length_cons, List.length_nil]; decide)]
  simp only [hn]
theorem fw_16_85 (h : Int) (h0 : 0 ≤ h) (h1 : h < 4294967296) : fld pt16 h 85 = bitW h 23 := by
  rw [fl_16_85, hv_eq _ 0 (by simp only [List.forall_mem_cons, bitW_bd h _ h0, List.not_mem_nil, false_implies, implies_true, and_self]) (by decide) (by simp only [List.length_cons, List.length_nil]; decide)]
  simp only [hn]
  omega
theorem fw_16_87 (h : Int) (h0 : 0 ≤ h) (h1 : h < 4294967296) : fld pt16 h 87 = bitW h 21 := by
  rw [fl_16_87, hv_eq _ 0 (by simp only [List.forall_mem_cons, bitW_bd h _ h0, List.not_mem_nil, false_implies, implies_true, and_self]) (by decide) (by simp only [List.length_cons, List.length_nil]; decide)]
  simp only [hn]
  omega
theorem fw_16_97 (h : Int) (h0 : 0 ≤ h) (h1 : h < 4294967296) : fld pt16 h 97 = 0 := by
  rw [fl_16_97, hv_eq _ 0 (by simp only [List.forall_mem_cons, bitW_bd h _ h0, List.not_mem_nil, false_implies, implies_true, and_self]) (by decide) (by simp only [List.length_cons, List.length_nil]; decide)]
  simp only [hn]
theorem fw_16_99 (h : Int) (h0 : 0 ≤ h) (h1 : h < 4294967296) : fld pt16 h 99 = 8 * bitW h 31 + 4 * bitW h 30 + 2 * bitW h 29 + bitW h 28 := by
  rw [fl_16_99, hv_eq _ 0 (by simp only [List.forall_mem_cons, bitW_bd h _ h0, List.not_mem_nil, false_implies, implies_true, and_self]) (by decide) (by simp only [List.length_cons, List.length_nil]; decide)]
  simp only [hn]
  omega
theorem fw_16_100 (h : Int) (h0 : 0 ≤ h) (h1 : h < 4294967296) : fld pt16 h 100 = 0 := by
  rw [fl_16_100, hv_eq _ 0 (by simp only [List.forall_mem_cons, bitW_bd h _ h0, List.not_mem_nil, false_implies, implies_true, and_self]) (by decide) (by simp only [List.length_cons, List.length_nil]; decide)]
  simp only [hn]
theorem fw_16_108 (h : Int) (h0 : 0 ≤ h) (h1 : h < 4294967296) : fld pt16 h 108 = 32768 * bitW h 15 + 16384 * bitW h 14 + 8192 * bitW h 13 + 4096 * bitW h 12 + 2048 * bitW h 11 + 1024 * bitW h 10 + 512 * bitW h 9 + 256 * bitW h 8 + 128 * bitW h 7 + 64 * bitW h 6 + 32 * bitW h 5 + 16 * bitW h 4 + 8 * bitW h 3 + 4 * bitW h 2 + 2 * bitW h 1 + bitW h 0 := by
  rw [fl_16_108, hv_eq _ 0 (by simp only [List.forall_mem_cons, bitW_bd h _ h0, List.not_mem_nil, false_implies, implies_true, and_self]) (by decide) (by simp only [List.length_cons, List.length_nil]; decide)]
  simp only [hn]
  omega
theorem fw_16_109 (h : Int) (h0 : 0 ≤ h) (h1 : h < 4294967296) : fld pt16 h 109 = 0 := by
  rw [fl_16_109, hv_eq _ 0 (by simp only [List.forall_mem_cons, bitW_bd h _ h0, List.not_mem_nil, false_implies, implies_true, and_self]) (by decide) (by simp only [List.length_cons, List.length_nil]; decide)]
  simp only [hn]
theorem fw_16_110 (h : Int) (h0 : 0 ≤ h) (h1 : h < 4294967296) : fld pt16 h 110 = 8 * bitW h 19 + 4 * bitW h 18 + 2 * bitW h 17 + bitW h 16 := by
  rw [fl_16_110, hv_eq _ 0 (by simp only [List.forall_mem_cons, bitW_bd h _ h0, List.not_mem_nil, false_implies, implies_true, and_self]) (by decide) (by simp only [List.length_cons, List.length_nil]; decide)]
  simp only [hn]
  omega
theorem fw_16_115 (h : Int) (h0 : 0 ≤ h) (h1 : h < 4294967296) : fld pt16 h 115 = 0 := by
  rw [fl_16_115, hv_eq _ 0 (by simp only [List.forall_mem_cons, bitW_bd h _ h0, List.not_mem_nil, false_implies, implies_true, and_self]) (by decide) (by simp only [List.length_cons, List.length_nil]; decide)]
  simp only [hn]
theorem fw_16_116 (h : Int) (h0 : 0 ≤ h) (h1 : h < 4294967296) : fld pt16 h 116 = 0 := by
  rw [fl_16_116, hv_eq _ 0 (by simp only [List.forall_mem_cons, bitW_bd h _ h0, List.not_mem_nil, false_implies, implies_true, and_self]) (by decide) (by simp only [List.length_cons, List.length_nil]; decide)]
  simp only [hn]
theorem fw_17_65 (h : Int) (h0 : 0 ≤ h) (h1 : h < 4294967296) : fld pt17 h 65 = 0 := by
  rw [fl_17_65, hv_eq _ 0 (by simp only [List.forall_mem_cons, bitW_bd h _ h0, List.not_mem_nil, false_implies, implies_true, and_self]) (by decide) (by simp only [List.length_cons, List.length_nil]; decide)]
  simp only [hn]
theorem fw_17_66 (h : Int) (h0 : 0 ≤ h) (h1 : h < 4294967296) : fld pt17 h 66 = 0 := by
  rw [fl_17_66, hv_eq _ 0 (by simp only [List.forall_mem_cons, bitW_bd h _ h0, List.not_mem_nil, false_implies, implies_true, and_self]) (by decide) (by simp only [List.length_cons, List.length_nil]; decide)]
  simp only [hn]
theorem fw_17_70 (h : Int) (h0 : 0 ≤ h) (h1 : h < 4294967296) : fld pt17 h 70 = 0 := by
  rw [fl_17_70, hv_eq _ 0 (by simp only [List.forall_mem_cons, bitW_bd h _ h0, List.not_mem_nil, false_implies, implies_true, and_self]) (by decide) (by simp only [List.length_cons, List.length_nil]; decide)]
  simp only [hn]
theorem fw_17_73 (h : Int) (h0 : 0 ≤ h) (h1 : h < 4294967296) : fld pt17 h 73 = 8388608 * bitW h 23 + 4194304 * bitW h 22 + 2097152 * bitW h 21 + 1048576 * bitW h 20 + 524288 * bitW h 19 + 262144 * bitW h 18 + 131072 * bitW h 17 + 65536 * bitW h 16 + 32768 * bitW h 15 + 16384 * bitW h 14 + 8192 * bitW h 13 + 4096 * bitW h 12 + 2048 * bitW h 11 + 1024 * bitW h 10 + 512 * bitW h 9 + 256 * bitW h 8 + 128 * bitW h 7 + 64 * bitW h 6 + 32 * bitW h 5 + 16 * bitW h 4 + 8 * bitW h 3 + 4 * bitW h 2 + 2 * bitW h 1 + bitW h 0 := by
  rw [fl_17_73, hv_eq _ 0 (by simp only [List.forall_mem_cons, bitW_bd h _ h0, List.not_mem_nil, false_implies, implies_true, and_self]) (by decide) (by simp only [List.length_cons, List.length_nil]; decide)]
  simp only [hn]
  omega
theorem fw_17_75 (h : Int) (h0 : 0 ≤ h) (h1 : h < 4294967296) : fld pt17 h 75 = bitW h 24 := by
  rw [fl_17_75, hv_eq _ 0 (by simp only [List.forall_mem_cons, bitW_bd h _ h0, List.not_mem_nil, false_implies, implies_true, and_self]) (by decide) (by simp only [List.length_cons, List.length_nil]; decide)]
  simp only [hn]
  omega
theorem fw_17_76 (h : Int) (h0 : 0 ≤ h) (h1 : h < 4294967296) : fld pt17 h 76 = 0 := by
  rw [fl_17_76, hv_eq _ 0 (by simp only [List.forall_mem_cons, bitW_bd h _ h0, List.not_mem_nil, false_implies, implies_true, and_self]) (by decide) (by simp only [List.length_cons, List.length_nil]; decide)]
  simp only [hn]
theorem fw_17_80 (h : Int) (h0 : 0 ≤ h) (h1 : h < 4294967296) : fld pt17 h 80 = 0 := by
  rw [fl_17_80, hv_eq _ 0 (by simp only [List.forall_mem_cons, bitW_bd h _ h0, List.not_mem_nil, false_implies, implies_true, and_self]) (by decide) (by simp only [List.length_cons, List.length_nil]; decide)]
  simp only [hn]
theorem fw_17_81 (h : Int) (h0 : 0 ≤ h) (h1 : h < 4294967296) : fld pt17 h 81 = 0 := by
  rw [fl_17_81, hv_eq _ 0 (by simp only [List.forall_mem_cons, bitW_bd h _ h0, List.not_mem_nil, false_implies, implies_true, and_self]) (by decide) (by simp only [List.length_cons, List.length_nil]; decide)]
  simp only [hn]
theorem fw_17_83 (h : Int) (h0 : 0 ≤ h) (h1 : h < 4294967296) : fld pt17 h 83 = 0 := by
  rw [fl_17_83, hv_eq _ 0 (by simp only [List.forall_mem_cons, bitW_bd h _ h0, List.not_mem_nil, false_implies, implies_true, and_self]) (by decide) (by simp only [List.length_cons, List.length_nil]; decide)]
  simp only [hn]
theorem fw_17_85 (h : Int) (h0 : 0 ≤ h) (h1 : h < 4294967296) : fld pt17 h 85 = 0 := by
  rw [fl_17_85, hv_eq _ 0 (by simp only [List.forall_mem_cons, bitW_bd h _ h0, List.not_mem_nil, false_implies, implies_true, and_self]) (by decide) (by simp only [List.length_cons, List.length_nil]; decide)]
  simp only [hn]
theorem fw_17_97 (h : Int) (h0 : 0 ≤ h) (h1 : h < 4294967296) : fld pt17 h 97 = 0 := by
  rw [fl_17_97, hv_eq _ 0 (by simp only [List.forall_mem_cons, bitW_bd h _ h0, List.not_mem_nil, false_implies, implies_true, and_self]) (by decide) (by simp only [List.length_cons, List.length_nil]; decide)]
  simp only [hn]
theorem fw_17_99 (h : Int) (h0 : 0 ≤ h) (h1 : h < 4294967296) : fld pt17 h 99 = 8 * bitW h 31 + 4 * bitW h 30 + 2 * bitW h 29 + bitW h 28 := by
  rw [fl_17_99, hv_eq _ 0 (by simp only [List.forall_mem_cons, bitW_bd h _ h0, List.not_mem_nil, false_implies, implies_true, and_self]) (by decide) (by simp only [List.length_cons, List.length_nil]; decide)]
  simp only [hn]
  omega
theorem fw_17_100 (h : Int) (h0 : 0 ≤ h) (h1 : h < 4294967296) : fld pt17 h 100 = 0 := by
  rw [fl_17_100, hv_eq _ 0 (by simp only [List.forall_mem_cons, bitW_bd h _ h0, List.not_mem_nil, false_implies, implies_true, and_self]) (by decide) (by simp only [List.length_cons, List.length_nil]; decide)]
  simp only [hn]
theorem fw_17_108 (h : Int) (h0 : 0 ≤ h) (h1 : h < 4294967296) : fld pt17 h 108 = 0 := by
  rw [fl_17_108, hv_eq _ 0 (by simp only [List.forall_mem_cons, bitW_bd h _ h0, List.not_mem_nil, false_implies, implies_true, and_self]) (by decide) (by simp only [List.length_cons, List.length_nil]; decide)]
  simp only [hn]
theorem fw_17_109 (h : Int) (h0 : 0 ≤ h) (h1 : h < 4294967296) : fld pt17 h 109 = 0 := by
  rw [fl_17_109, hv_eq _ 0 (by simp only [List.forall_mem_cons, bitW_bd h _ h0, List.not_mem_nil, false_implies, implies_true, and_self]) (by decide) (by simp only [List.length_cons, List.length_nil]; decide)]
  simp only [hn]
theorem fw_17_110 (h : Int) (h0 : 0 ≤ h) (h1 : h < 4294967296) : fld pt17 h 110 = 0 := by
  rw [fl_17_110, hv_eq _ 0 (by simp only [List.forall_mem_cons, bitW_bd h _ h0, List.not_mem_nil, false_implies, implies_true, and_self]) (by decide) (by simp only [List.length_cons, List.length_nil]; decide)]
  simp only [hn]
theorem fw_17_115 (h : Int) (h0 : 0 ≤ h) (h1 : h < 4294967296) : fld pt17 h 115 = 0 := by
  rw [fl_17_115, hv_eq _ 0 (by simp only [List.forall_mem_cons, bitW_bd h _ h0, List.not_mem_nil, false_implies, implies_true, and_self]) (by decide) (by simp only [List.length_cons, List.length_nil]; decide)]
  simp only [hn]
theorem fw_17_116 (h : Int) (h0 : 0 ≤ h) (h1 : h < 4294967296) : fld pt17 h 116 = 0 := by
  rw [fl_17_116, hv_eq _ 0 (by simp only [List.forall_mem_cons, bitW_bd h _ h0, List.not_mem_nil, false_implies, implies_true, and_self]) (by decide) (by simp only [List.length_cons, List.length_nil]; decide)]
  simp only [hn]
theorem fw_18_65 (h : Int) (h0 : 0 ≤ h) (h1 : h < 4294967296) : fld pt18 h 65 = 0 := by
  rw [fl_18_65, hv_eq _ 0 (by simp only [List.forall_mem_cons, bitW_bd h _ h0, List.not_mem_nil, false_implies, implies_true, and_self]) (by decide) (by simp only [List.length_cons, List.length_nil]; decide)]
  simp only [hn]
theorem fw_18_66 (h : Int) (h0 : 0 ≤ h) (h1 : h < 4294967296) : fld pt18 h 66 = 0 := by
  rw [fl_18_66, hv_eq _ 0 (by simp only [List.forall_mem_cons, bitW_bd h _ h0, List.not_mem_nil, false_implies, implies_true, and_self]) (by decide) (by simp only [List.length_cons, List.length_nil]; decide)]
  simp only [hn]
theorem fw_18_70 (h : Int) (h0 : 0 ≤ h) (h1 : h < 4294967296) : fld pt18 h 70 = 0 := by
  rw [fl_18_70, hv_eq _ 0 (by simp only [List.forall_mem_cons, bitW_bd h _ h0, List.not_mem_nil, false_implies, implies_true, and_self]) (by decide) (by simp only [List.length_cons, List.length_nil]; decide)]
  simp only [hn]
theorem fw_18_73 (h : Int) (h0 : 0 ≤ h) (h1 : h < 4294967296) : fld pt18 h 73 = 128 * bitW h 23 + 64 * bitW h 22 + 32 * bitW h 21 + 16 * bitW h 20 + 8 * bitW h 19 + 4 * bitW h 18 + 2 * bitW h 17 + bitW h 16 := by
  rw [fl_18_73, hv_eq _ 0 (by simp only [List.forall_mem_cons, bitW_bd h _ h0, List.not_mem_nil, false_implies, implies_true, and_self]) (by decide) (by simp only [List.length_cons, List.length_nil]; decide)]
  simp only [hn]
  omega
theorem fw_18_75 (h : Int) (h0 : 0 ≤ h) (h1 : h < 4294967296) : fld pt18 h 75 = 0 := by
  rw [fl_18_75, hv_eq _ 0 (by simp only [List.forall_mem_cons, bitW_bd h _ h0, List.not_mem_nil, false_implies, implies_true, and_self]) (by decide) (by simp only [List.length_cons, List.length_nil]; decide)]
  simp only [hn]
theorem fw_18_76 (h : Int) (h0 : 0 ≤ h) (h1 : h < 4294967296) : fld pt18 h 76 = 0 := by
  rw [fl_18_76, hv_eq _ 0 (by simp only [List.forall_mem_cons, bitW_bd h _ h0, List.not_mem_nil, false_implies, implies_true, and_self]) (by decide) (by simp only [List.length_cons, List.length_nil]; decide)]
  simp only [hn]
theorem fw_18_80 (h : Int) (h0 : 0 ≤ h) (h1 : h < 4294967296) : fld pt18 h 80 = 0 := by
  rw [fl_18_80, hv_eq _ 0 (by simp only [List.forall_mem_cons, bitW_bd h _ h0, List.not_mem_nil, false_implies, implies_true, and_self]) (by decide) (by simp only [List.length_cons, List.length_nil]; decide)]
  simp only [hn]
theorem fw_18_81 (h : Int) (h0 : 0 ≤ h) (h1 : h < 4294967296) : fld pt18 h 81 = 0 := by
  rw [fl_18_81, hv_eq _ 0 (by simp only [List.forall_mem_cons, bitW_bd h _ h0, List.not_mem_nil, false_implies, implies_true, and_self]) (by decide) (by simp only [List.length_cons, List.length_nil]; decide)]
  simp only [hn]
theorem fw_18_83 (h : Int) (h0 : 0 ≤ h) (h1 : h < 4294967296) : fld pt18 h 83 = 0 := by
  rw [fl_18_83, hv_eq _ 0 (by simp only [List.forall_mem_cons, bitW_bd h _ h0, List.not_mem_nil, false_implies, implies_true, and_self]) (by decide) (by simp only [List.length_cons, List.length_nil]; decide)]
  simp only [hn]
theorem fw_18_85 (h : Int) (h0 : 0 ≤ h) (h1 : h < 4294967296) : fld pt18 h 85 = 0 := by
  rw [fl_18_85, hv_eq _ 0 (by simp only [List.forall_mem_cons, bitW_bd h _ h0, List.not_mem_nil, false_implies, implies_true, and_self]) (by decide) (by simp only [List.length_cons, List.length_nil]; decide)]
  simp only [hn]
theorem fw_18_97 (h : Int) (h0 : 0 ≤ h) (h1 : h < 4294967296) : fld pt18 h 97 = 0 := by
  rw [fl_18_97, hv_eq _ 0 (by simp only [List.forall_mem_cons, bitW_bd h _ h0, List.not_mem_nil, false_implies, implies_true, and_self]) (by decide) (by simp only [List.length_cons, List.length_nil]; decide)]
  simp only [hn]
theorem fw_18_99 (h : Int) (h0 : 0 ≤ h) (h1 : h < 4294967296) : fld pt18 h 99 = 8 * bitW h 31 + 4 * bitW h 30 + 2 * bitW h 29 + bitW h 28 := by
  rw [fl_18_99, hv_eq _ 0 (by simp only [List.forall_mem_cons, bitW_bd h _ h0, List.not_mem_nil, false_implies, implies_true, and_self]) (by decide) (by simp only [List.length_cons, List.length_nil]; decide)]
  simp only [hn]
  omega
theorem fw_18_100 (h : Int) (h0 : 0 ≤ h) (h1 : h < 4294967296) : fld pt18 h 100 = 0 := by
  rw [fl_18_100, hv_eq _ 0 (by simp only [List.forall_mem_cons, bitW_bd h _ h0, List.not_mem_nil, false_implies, implies_true, and_self]) (by decide) (by simp only [List.length_cons, List.length_nil]; decide)]
  simp only [hn]
theorem fw_18_108 (h : Int) (h0 : 0 ≤ h) (h1 : h < 4294967296) : fld pt18 h 108 = 0 := by
  rw [fl_18_108, hv_eq _ 0 (by simp only [List.forall_mem_cons, bitW_bd h _ h0, List.not_mem_nil, false_implies, implies_true, and_self]) (by decide) (by simp only [List.length_cons, List.length_nil]; decide)]
  simp only [hn]
theorem fw_18_109 (h : Int) (h0 : 0 ≤ h) (h1 : h < 4294967296) : fld pt18 h 109 = 0 := by
  rw [fl_18_109, hv_eq _ 0 (by simp only [List.forall_mem_cons, bitW_bd h _ h0, List.not_mem_nil, false_implies, implies_true, and_self]) (by decide) (by simp only [List.length_cons, List.length_nil]; decide)]
  simp only [hn]
theorem fw_18_110 (h : Int) (h0 : 0 ≤ h) (h1 : h < 4294967296) : fld pt18 h 110 = 0 := by
  rw [fl_18_110, hv_eq _ 0 (by simp only [List.forall_mem_cons, bitW_bd h _ h0, List.not_mem_nil, false_implies, implies_true, and_self]) (by decide) (by simp only [List.length_cons, List.length_nil]; decide)]
  simp only [hn]
theorem fw_18_115 (h : Int) (h0 : 0 ≤ h) (h1 : h < 4294967296) : fld pt18 h 115 = 0 := by
  rw [fl_18_115, hv_eq _ 0 (by simp only [List.forall_mem_cons, bitW_bd h _ h0, List.not_mem_nil, false_implies, implies_true, and_self]) (by decide) (by simp only [List.length_cons, List.length_nil]; decide)]
  simp only [hn]
theorem fw_18_116 (h : Int) (h0 : 0 ≤ h) (h1 : h < 4294967296) : fld pt18 h 116 = 0 := by
  rw [fl_18_116, hv_eq _ 0 (by simp only [List.forall_mem_cons, bitW_bd h _ h0, List.not_mem_nil, false_implies, implies_true, and_self]) (by decide) (by simp only [List.length_cons, List.length_nil]; decide)]
  simp only [hn]
theorem fs_0 (h : Int) (h0 : 0 ≤ h) (h1 : h < 4294967296) : fits pt0 h = true ↔ bitW h 27 = 0 ∧ bitW h 26 = 0 ∧ bitW h 25 = 0 ∧ bitW h 24 = 0 ∧ bitW h 23 = 0 ∧ bitW h 22 = 0 ∧ bitW h 7 = 1 ∧ bitW h 6 = 0 ∧ bitW h 5 = 0 ∧ bitW h 4 = 1 := by
  rw [ft_0]
  simp only [fitL, bne_iff_ne, ne_eq, ite_not, Bool.if_false_right, Bool.if_false_left, Bool.and_eq_true, decide_eq_true_eq, and_true, Bool.not_eq_true', decide_eq_false_iff_not, Classical.not_not]
theorem fs_1 (h : Int) (h0 : 0 ≤ h) (h1 : h < 4294967296) : fits pt1 h = true ↔ bitW h 27 = 0 ∧ bitW h 26 = 0 ∧ bitW h 25 = 0 ∧ bitW h 24 = 0 ∧ bitW h 23 = 1 ∧ bitW h 7 = 1 ∧ bitW h 6 = 0 ∧ bitW h 5 = 0 ∧ bitW h 4 = 1 := by
  rw [ft_1]
  simp only [fitL, bne_iff_ne, ne_eq, ite_not, Bool.if_false_right, Bool.if_false_left, Bool.and_eq_true, decide_eq_true_eq, and_true, Bool.not_eq_true', decide_eq_false_iff_not, Classical.not_not]
theorem fs_2 (h : Int) (h0 : 0 ≤ h) (h1 : h < 4294967296) : fits pt2 h = true ↔ bitW h 27 = 0 ∧ bitW h 26 = 0 ∧ bitW h 25 = 0 ∧ bitW h 24 = 1 ∧ bitW h 23 = 0 ∧ bitW h 21 = 0 ∧ bitW h 20 = 0 ∧ bitW h 11 = 0 ∧ bitW h 10 = 0 ∧ bitW h 9 = 0 ∧ bitW h 8 = 0 ∧ bitW h 7 = 1 ∧ bitW h 6 = 0 ∧ bitW h 5 = 0 ∧ bitW h 4 = 1 := by
  rw [ft_2]
  simp only [fitL, bne_iff_ne, ne_eq, ite_not, Bool.if_false_right, Bool.if_false_left, Bool.and_eq_true, decide_eq_true_eq, and_true, Bool.not_eq_true', decide_eq_false_iff_not, Classical.not_not]
theorem fs_3 (h : Int) (h0 : 0 ≤ h) (h1 : h < 4294967296) : fits pt3 h = true ↔ bitW h 27 = 0 ∧ bitW h 26 = 0 ∧ bitW h 25 = 0 ∧ bitW h 22 = 0 ∧ bitW h 20 = 1 ∧ bitW h 7 = 1 ∧ bitW h 4 = 1 := by
  rw [ft_3]
  simp only [fitL, bne_iff_ne, ne_eq, ite_not, Bool.if_false_right, Bool.if_false_left, Bool.and_eq_true, decide_eq_true_eq, and_true, Bool.not_eq_true', decide_eq_false_iff_not, Classical.not_not]
theorem fs_4 (h : Int) (h0 : 0 ≤ h) (h1 : h < 4294967296) : fits pt4 h = true ↔ bitW h 27 = 0 ∧ bitW h 26 = 0 ∧ bitW h 25 = 0 ∧ bitW h 22 = 0 ∧ bitW h 20 = 0 ∧ bitW h 7 = 1 ∧ bitW h 6 = 0 ∧ bitW h 5 = 1 ∧ bitW h 4 = 1 := by
  rw [ft_4]
  simp only [fitL, bne_iff_ne, ne_eq, ite_not, Bool.if_false_right, Bool.if_false_left, Bool.and_eq_true, decide_eq_true_eq, and_true, Bool.not_eq_true', decide_eq_false_iff_not, Classical.not_not]
theorem fs_5 (h : Int) (h0 : 0 ≤ h) (h1 : h < 4294967296) : fits pt5 h = true ↔ bitW h 27 = 0 ∧ bitW h 26 = 0 ∧ bitW h 25 = 0 ∧ bitW h 22 = 1 ∧ bitW h 20 = 1 ∧ bitW h 7 = 1 ∧ bitW h 4 = 1 := by
  rw [ft_5]
  simp only [fitL, bne_iff_ne, ne_eq, ite_not, Bool.if_false_right, Bool.if_false_left, Bool.and_eq_true, decide_eq_true_eq, and_true, Bool.not_eq_true', decide_eq_false_iff_not, Classical.not_not]
theorem fs_6 (h : Int) (h0 : 0 ≤ h) (h1 : h < 4294967296) : fits pt6 h = true ↔ bitW h 27 = 0 ∧ bitW h 26 = 0 ∧ bitW h 25 = 0 ∧ bitW h 22 = 1 ∧ bitW h 20 = 0 ∧ bitW h 7 = 1 ∧ bitW h 6 = 0 ∧ bitW h 5 = 1 ∧ bitW h 4 = 1 := by
  rw [ft_6]
  simp only [fitL, bne_iff_ne, ne_eq, ite_not, Bool.if_false_right, Bool.if_false_left, Bool.and_eq_true, decide_eq_true_eq, and_true, Bool.not_eq_true', decide_eq_false_iff_not, Classical.not_not]
theorem fs_7 (h : Int) (h0 : 0 ≤ h) (h1 : h < 4294967296) : fits pt7 h = true ↔ bitW h 27 = 0 ∧ bitW h 26 = 0 ∧ bitW h 25 = 0 ∧ bitW h 24 = 1 ∧ bitW h 23 = 0 ∧ bitW h 22 = 0 ∧ bitW h 21 = 1 ∧ bitW h 20 = 0 ∧ bitW h 19 = 1 ∧ bitW h 18 = 1 ∧ bitW h 17 = 1 ∧ bitW h 16 = 1 ∧ bitW h 15 = 1 ∧ bitW h 14 = 1 ∧ bitW h 13 = 1 ∧ bitW h 12 = 1 ∧ bitW h 11 = 1 ∧ bitW h 10 = 1 ∧ bitW h 9 = 1 ∧ bitW h 8 = 1 ∧ bitW h 7 = 0 ∧ bitW h 6 = 0 ∧ bitW h 5 = 0 ∧ bitW h 4 = 1 := by
  rw [ft_7]
  simp only [fitL, bne_iff_ne, ne_eq, ite_not, Bool.if_false_right, Bool.if_false_left, Bool.and_eq_true, decide_eq_true_eq, and_true, Bool.not_eq_true', decide_eq_false_iff_not, Classical.not_not]
theorem fs_8 (h : Int) (h0 : 0 ≤ h) (h1 : h < 4294967296) : fits pt8 h = true ↔ bitW h 27 = 0 ∧ bitW h 26 = 0 ∧ bitW h 25 = 0 ∧ bitW h 24 = 1 ∧ bitW h 23 = 0 ∧ bitW h 21 = 0 ∧ bitW h 20 = 0 ∧ bitW h 19 = 1 ∧ bitW h 18 = 1 ∧ bitW h 17 = 1 ∧ bitW h 16 = 1 ∧ bitW h 11 = 0 ∧ bitW h 10 = 0 ∧ bitW h 9 = 0 ∧ bitW h 8 = 0 ∧ bitW h 7 = 0 ∧ bitW h 6 = 0 ∧ bitW h 5 = 0 ∧ bitW h 4 = 0 ∧ bitW h 3 = 0 ∧ bitW h 2 = 0 ∧ bitW h 1 = 0 ∧ bitW h 0 = 0 := by
  rw [ft_8]
  simp only [fitL, bne_iff_ne, ne_eq, ite_not, Bool.if_false_right, Bool.if_false_left, Bool.and_eq_true, decide_eq_true_eq, and_true, Bool.not_eq_true', decide_eq_false_iff_not, Classical.not_not]
theorem fs_9 (h : Int) (h0 : 0 ≤ h) (h1 : h < 4294967296) : fits pt9 h = true ↔ bitW h 27 = 0 ∧ bitW h 26 = 0 ∧ bitW h 25 = 0 ∧ bitW h 24 = 1 ∧ bitW h 23 = 0 ∧ bitW h 21 = 1 ∧ bitW h 20 = 0 ∧ bitW h 15 = 1 ∧ bitW h 14 = 1 ∧ bitW h 13 = 1 ∧ bitW h 12 = 1 ∧ bitW h 11 = 0 ∧ bitW h 10 = 0 ∧ bitW h 9 = 0 ∧ bitW h 8 = 0 ∧ bitW h 7 = 0 ∧ bitW h 6 = 0 ∧ bitW h 5 = 0 ∧ bitW h 4 = 0 := by
  rw [ft_9]
  simp only [fitL, bne_iff_ne, ne_eq, ite_not, Bool.if_false_right, Bool.if_false_left, Bool.and_eq_true, decide_eq_true_eq, and_true, Bool.not_eq_true', decide_eq_false_iff_not, Classical.not_not]
theorem fs_10 (h : Int) (h0 : 0 ≤ h) (h1 : h < 4294967296) : fits pt10 h = true ↔ bitW h 27 = 0 ∧ bitW h 26 = 0 ∧ bitW h 25 = 1 ∧ bitW h 24 = 1 ∧ bitW h 23 = 0 ∧ bitW h 21 = 1 ∧ bitW h 20 = 0 ∧ bitW h 15 = 1 ∧ bitW h 14 = 1 ∧ bitW h 13 = 1 ∧ bitW h 12 = 1 := by
  rw [ft_10]
  simp only [fitL, bne_iff_ne, ne_eq, ite_not, Bool.if_false_right, Bool.if_false_left, Bool.and_eq_true, decide_eq_true_eq, and_true, Bool.not_eq_true', decide_eq_false_iff_not, Classical.not_not]
theorem fs_11 (h : Int) (h0 : 0 ≤ h) (h1 : h < 4294967296) : fits pt11 h = true ↔ bitW h 27 = 0 ∧ bitW h 26 = 0 ∧ bitW h 25 = 0 ∧ bitW h 4 = 0 := by
  rw [ft_11]
  simp only [fitL, bne_iff_ne, ne_eq, ite_not, Bool.if_false_right, Bool.if_false_left, Bool.and_eq_true, decide_eq_true_eq, and_true, Bool.not_eq_true', decide_eq_false_iff_not, Classical.not_not]
theorem fs_12 (h : Int) (h0 : 0 ≤ h) (h1 : h < 4294967296) : fits pt12 h = true ↔ bitW h 27 = 0 ∧ bitW h 26 = 0 ∧ bitW h 25 = 0 ∧ bitW h 7 = 0 ∧ bitW h 4 = 1 := by
  rw [ft_12]
  simp only [fitL, bne_iff_ne, ne_eq, ite_not, Bool.if_false_right, Bool.if_false_left, Bool.and_eq_true, decide_eq_true_eq, and_true, Bool.not_eq_true', decide_eq_false_iff_not, Classical.not_not]
theorem fs_13 (h : Int) (h0 : 0 ≤ h) (h1 : h < 4294967296) : fits pt13 h = true ↔ bitW h 27 = 0 ∧ bitW h 26 = 0 ∧ bitW h 25 = 1 := by
  rw [ft_13]
  simp only [fitL, bne_iff_ne, ne_eq, ite_not, Bool.if_false_right, Bool.if_false_left, Bool.and_eq_true, decide_eq_true_eq, and_true, Bool.not_eq_true', decide_eq_false_iff_not, Classical.not_not]
theorem fs_14 (h : Int) (h0 : 0 ≤ h) (h1 : h < 4294967296) : fits pt14 h = true ↔ bitW h 27 = 0 ∧ bitW h 26 = 1 ∧ bitW h 25 = 0 := by
  rw [ft_14]
  simp only [fitL, bne_iff_ne, ne_eq, ite_not, Bool.if_false_right, Bool.if_false_left, Bool.and_eq_true, decide_eq_true_eq, and_true, Bool.not_eq_true', decide_eq_false_iff_not, Classical.not_not]
theorem fs_15 (h : Int) (h0 : 0 ≤ h) (h1 : h < 4294967296) : fits pt15 h = true ↔ bitW h 27 = 0 ∧ bitW h 26 = 1 ∧ bitW h 25 = 1 ∧ bitW h 4 = 0 := by
  rw [ft_15]
  simp only [fitL, bne_iff_ne, ne_eq, ite_not, Bool.if_false_right, Bool.if_false_left, Bool.and_eq_true, decide_eq_true_eq, and_true, Bool.not_eq_true', decide_eq_false_iff_not, Classical.not_not]
theorem fs_16 (h : Int) (h0 : 0 ≤ h) (h1 : h < 4294967296) : fits pt16 h = true ↔ bitW h 27 = 1 ∧ bitW h 26 = 0 ∧ bitW h 25 = 0 := by
  rw [ft_16]
  simp only [fitL, bne_iff_ne, ne_eq, ite_not, Bool.if_false_right, Bool.if_false_left, Bool.and_eq_true, decide_eq_true_eq, and_true, Bool.not_eq_true', decide_eq_false_iff_not, Classical.not_not]
theorem fs_17 (h : Int) (h0 : 0 ≤ h) (h1 : h < 4294967296) : fits pt17 h = true ↔ bitW h 27 = 1 ∧ bitW h 26 = 0 ∧ bitW h 25 = 1 := by
  rw [ft_17]
  simp only [fitL, bne_iff_ne, ne_eq, ite_not, Bool.if_false_right, Bool.if_false_left, Bool.and_eq_true, decide_eq_true_eq, and_true, Bool.not_eq_true', decide_eq_false_iff_not, Classical.not_not]
theorem fs_18 (h : Int) (h0 : 0 ≤ h) (h1 : h < 4294967296) : fits pt18 h = true ↔ bitW h 27 = 1 ∧ bitW h 26 = 1 ∧ bitW h 25 = 1 ∧ bitW h 24 = 1 := by
  rw [ft_18]
  simp only [fitL, bne_iff_ne, ne_eq, ite_not, Bool.if_false_right, Bool.if_false_left, Bool.and_eq_true, decide_eq_true_eq, and_true, Bool.not_eq_true', decide_eq_false_iff_not, Classical.not_not]
theorem pb_1_15 (h : Int) (h0 : 0 ≤ h) (h1 : h < 4294967296) : bits .and .u32 (h.fdiv 1) 15 = 8 * bitW h 3 + 4 * bitW h 2 + 2 * bitW h 1 + bitW h 0 := by
  rw [fdiv_lit _ _ (by decide), and_m4 _ _ (by decide)]
  refine (bs_eq h h0 4 0).trans ?_
  simp only [bs, Nat.reduceAdd]
  omega
theorem pa_1_15 (h : Int) (h0 : 0 ≤ h) (h1 : h < 4294967296) : IntKind.i64.wrap (bits .and .u32 (h.fdiv 1) 15) = 8 * bitW h 3 + 4 * bitW h 2 + 2 * bitW h 1 + bitW h 0 := by
  rw [pb_1_15 h h0 h1]
  have bd := bds h h0
  rw [wi64_in _ (by omega) (by omega)]
theorem pb_1_65535 (h : Int) (h0 : 0 ≤ h) (h1 : h < 4294967296) : bits .and .u32 (h.fdiv 1) 65535 = 32768 * bitW h 15 + 16384 * bitW h 14 + 8192 * bitW h 13 + 4096 * bitW h 12 + 2048 * bitW h 11 + 1024 * bitW h 10 + 512 * bitW h 9 + 256 * bitW h 8 + 128 * bitW h 7 + 64 * bitW h 6 + 32 * bitW h 5 + 16 * bitW h 4 + 8 * bitW h 3 + 4 * bitW h 2 + 2 * bitW h 1 + bitW h 0 := by
  rw [fdiv_lit _ _ (by decide), and_m16 _ _ (by decide)]
  refine (bs_eq h h0 16 0).trans ?_
  simp only [bs, Nat.reduceAdd]
  omega
theorem pa_1_65535 (h : Int) (h0 : 0 ≤ h) (h1 : h < 4294967296) : IntKind.i64.wrap (bits .and .u32 (h.fdiv 1) 65535) = 32768 * bitW h 15 + 16384 * bitW h 14 + 8192 * bitW h 13 + 4096 * bitW h 12 + 2048 * bitW h 11 + 1024 * bitW h 10 + 512 * bitW h 9 + 256 * bitW h 8 + 128 * bitW h 7 + 64 * bitW h 6 + 32 * bitW h 5 + 16 * bitW h 4 + 8 * bitW h 3 + 4 * bitW h 2 + 2 * bitW h 1 + bitW h 0 := by
  rw [pb_1_65535 h h0 h1]
  have bd := bds h h0
  rw [wi64_in _ (by omega) (by omega)]
theorem pb_16_1 (h : Int) (h0 : 0 ≤ h) (h1 : h < 4294967296) : bits .and .u32 (h.fdiv 16) 1 = bitW h 4 := by
  rw [fdiv_lit _ _ (by decide), and_m1 _ _ (by decide)]
  refine (bs_eq h h0 1 4).trans ?_
  simp only [bs, Nat.reduceAdd]
  omega
theorem pa_16_1 (h : Int) (h0 : 0 ≤ h) (h1 : h < 4294967296) : IntKind.i64.wrap (bits .and .u32 (h.fdiv 16) 1) = bitW h 4 := by
  rw [pb_16_1 h h0 h1]
  have bd := bds h h0
  rw [wi64_in _ (by omega) (by omega)]
theorem pb_32_3 (h : Int) (h0 : 0 ≤ h) (h1 : h < 4294967296) : bits .and .u32 (h.fdiv 32) 3 = 2 * bitW h 6 + bitW h 5 := by
  rw [fdiv_lit _ _ (by decide), and_m2 _ _ (by decide)]
  refine (bs_eq h h0 2 5).trans ?_
  simp only [bs, Nat.reduceAdd]
  omega
theorem pa_32_3 (h : Int) (h0 : 0 ≤ h) (h1 : h < 4294967296) : IntKind.i64.wrap (bits .and .u32 (h.fdiv 32) 3) = 2 * bitW h 6 + bitW h 5 := by
  rw [pb_32_3 h h0 h1]
  have bd := bds h h0
  rw [wi64_in _ (by omega) (by omega)]
theorem pb_128_1 (h : Int) (h0 : 0 ≤ h) (h1 : h < 4294967296) : bits .and .u32 (h.fdiv 128) 1 = bitW h 7 := by
  rw [fdiv_lit _ _ (by decide), and_m1 _ _ (by decide)]
  refine (bs_eq h h0 1 7).trans ?_
  simp only [bs, Nat.reduceAdd]
  omega
theorem pa_128_1 (h : Int) (h0 : 0 ≤ h) (h1 : h < 4294967296) : IntKind.i64.wrap (bits .and .u32 (h.fdiv 128) 1) = bitW h 7 := by
  rw [pb_128_1 h h0 h1]
  have bd := bds h h0
  rw [wi64_in _ (by omega) (by omega)]
theorem pb_128_31 (h : Int) (h0 : 0 ≤ h) (h1 : h < 4294967296) : bits .and .u32 (h.fdiv 128) 31 = 16 * bitW h 11 + 8 * bitW h 10 + 4 * bitW h 9 + 2 * bitW h 8 + bitW h 7 := by
  rw [fdiv_lit _ _ (by decide), and_m5 _ _ (by decide)]
  refine (bs_eq h h0 5 7).trans ?_
  simp only [bs, Nat.reduceAdd]
  omega
theorem pa_128_31 (h : Int) (h0 : 0 ≤ h) (h1 : h < 4294967296) : IntKind.i64.wrap (bits .and .u32 (h.fdiv 128) 31) = 16 * bitW h 11 + 8 * bitW h 10 + 4 * bitW h 9 + 2 * bitW h 8 + bitW h 7 := by
  rw [pb_128_31 h h0 h1]
  have bd := bds h h0
  rw [wi64_in _ (by omega) (by omega)]
theorem pb_256_15 (h : Int) (h0 : 0 ≤ h) (h1 : h < 4294967296) : bits .and .u32 (h.fdiv 256) 15 = 8 * bitW h 11 + 4 * bitW h 10 + 2 * bitW h 9 + bitW h 8 := by
  rw [fdiv_lit _ _ (by decide), and_m4 _ _ (by decide)]
  refine (bs_eq h h0 4 8).trans ?_
  simp only [bs, Nat.reduceAdd]
  omega
theorem pa_256_15 (h : Int) (h0 : 0 ≤ h) (h1 : h < 4294967296) : IntKind.i64.wrap (bits .and .u32 (h.fdiv 256) 15) = 8 * bitW h 11 + 4 * bitW h 10 + 2 * bitW h 9 + bitW h 8 := by
  rw [pb_256_15 h h0 h1]
  have bd := bds h h0
  rw [wi64_in _ (by omega) (by omega)]
theorem pb_4096_15 (h : Int) (h0 : 0 ≤ h) (h1 : h < 4294967296) : bits .and .u32 (h.fdiv 4096) 15 = 8 * bitW h 15 + 4 * bitW h 14 + 2 * bitW h 13 + bitW h 12 := by
  rw [fdiv_lit _ _ (by decide), and_m4 _ _ (by decide)]
  refine (bs_eq h h0 4 12).trans ?_
  simp only [bs, Nat.reduceAdd]
  omega
theorem pa_4096_15 (h : Int) (h0 : 0 ≤ h) (h1 : h < 4294967296) : IntKind.i64.wrap (bits .and .u32 (h.fdiv 4096) 15) = 8 * bitW h 15 + 4 * bitW h 14 + 2 * bitW h 13 + bitW h 12 := by
  rw [pb_4096_15 h h0 h1]
  have bd := bds h h0
  rw [wi64_in _ (by omega) (by omega)]
theorem pb_65536_15 (h : Int) (h0 : 0 ≤ h) (h1 : h < 4294967296) : bits .and .u32 (h.fdiv 65536) 15 = 8 * bitW h 19 + 4 * bitW h 18 + 2 * bitW h 17 + bitW h 16 := by
  rw [fdiv_lit _ _ (by decide), and_m4 _ _ (by decide)]
  refine (bs_eq h h0 4 16).trans ?_
  simp only [bs, Nat.reduceAdd]
  omega
theorem pa_65536_15 (h : Int) (h0 : 0 ≤ h) (h1 : h < 4294967296) : IntKind.i64.wrap (bits .and .u32 (h.fdiv 65536) 15) = 8 * bitW h 19 + 4 * bitW h 18 + 2 * bitW h 17 + bitW h 16 := by
  rw [pb_65536_15 h h0 h1]
  have bd := bds h h0
  rw [wi64_in _ (by omega) (by omega)]
theorem pb_65536_255 (h : Int) (h0 : 0 ≤ h) (h1 : h < 4294967296) : bits .and .u32 (h.fdiv 65536) 255 = 128 * bitW h 23 + 64 * bitW h 22 + 32 * bitW h 21 + 16 * bitW h 20 + 8 * bitW h 19 + 4 * bitW h 18 + 2 * bitW h 17 + bitW h 16 := by
  rw [fdiv_lit _ _ (by decide), and_m8 _ _ (by decide)]
  refine (bs_eq h h0 8 16).trans ?_
  simp only [bs, Nat.reduceAdd]
  omega
theorem pa_65536_255 (h : Int) (h0 : 0 ≤ h) (h1 : h < 4294967296) : IntKind.i64.wrap (bits .and .u32 (h.fdiv 65536) 255) = 128 * bitW h 23 + 64 * bitW h 22 + 32 * bitW h 21 + 16 * bitW h 20 + 8 * bitW h 19 + 4 * bitW h 18 + 2 * bitW h 17 + bitW h 16 := by
  rw [pb_65536_255 h h0 h1]
  have bd := bds h h0
  rw [wi64_in _ (by omega) (by omega)]
theorem pb_1048576_1 (h : Int) (h0 : 0 ≤ h) (h1 : h < 4294967296) : bits .and .u32 (h.fdiv 1048576) 1 = bitW h 20 := by
  rw [fdiv_lit _ _ (by decide), and_m1 _ _ (by decide)]
  refine (bs_eq h h0 1 20).trans ?_
  simp only [bs, Nat.reduceAdd]
  omega
theorem pa_1048576_1 (h : Int) (h0 : 0 ≤ h) (h1 : h < 4294967296) : IntKind.i64.wrap (bits .and .u32 (h.fdiv 1048576) 1) = bitW h 20 := by
  rw [pb_1048576_1 h h0 h1]
  have bd := bds h h0
  rw [wi64_in _ (by omega) (by omega)]
theorem pb_2097152_1 (h : Int) (h0 : 0 ≤ h) (h1 : h < 4294967296) : bits .and .u32 (h.fdiv 2097152) 1 = bitW h 21 := by
  rw [fdiv_lit _ _ (by decide), and_m1 _ _ (by decide)]
  refine (bs_eq h h0 1 21).trans ?_
  simp only [bs, Nat.reduceAdd]
  omega
theorem pa_2097152_1 (h : Int) (h0 : 0 ≤ h) (h1 : h < 4294967296) : IntKind.i64.wrap (bits .and .u32 (h.fdiv 2097152) 1) = bitW h 21 := by
  rw [pb_2097152_1 h h0 h1]
  have bd := bds h h0
  rw [wi64_in _ (by omega) (by omega)]
theorem pb_2097152_15 (h : Int) (h0 : 0 ≤ h) (h1 : h < 4294967296) : bits .and .u32 (h.fdiv 2097152) 15 = 8 * bitW h 24 + 4 * bitW h 23 + 2 * bitW h 22 + bitW h 21 := by
  rw [fdiv_lit _ _ (by decide), and_m4 _ _ (by decide)]
  refine (bs_eq h h0 4 21).trans ?_
  simp only [bs, Nat.reduceAdd]
  omega
theorem pa_2097152_15 (h : Int) (h0 : 0 ≤ h) (h1 : h < 4294967296) : IntKind.i64.wrap (bits .and .u32 (h.fdiv 2097152) 15) = 8 * bitW h 24 + 4 * bitW h 23 + 2 * bitW h 22 + bitW h 21 := by
  rw [pb_2097152_15 h h0 h1]
  have bd := bds h h0
  rw [wi64_in _ (by omega) (by omega)]
theorem pb_4194304_1 (h : Int) (h0 : 0 ≤ h) (h1 : h < 4294967296) : bits .and .u32 (h.fdiv 4194304) 1 = bitW h 22 := by
  rw [fdiv_lit _ _ (by decide), and_m1 _ _ (by decide)]
  refine (bs_eq h h0 1 22).trans ?_
  simp only [bs, Nat.reduceAdd]
  omega
theorem pa_4194304_1 (h : Int) (h0 : 0 ≤ h) (h1 : h < 4294967296) : IntKind.i64.wrap (bits .and .u32 (h.fdiv 4194304) 1) = bitW h 22 := by
  rw [pb_4194304_1 h h0 h1]
  have bd := bds h h0
  rw [wi64_in _ (by omega) (by omega)]
theorem pb_8388608_1 (h : Int) (h0 : 0 ≤ h) (h1 : h < 4294967296) : bits .and .u32 (h.fdiv 8388608) 1 = bitW h 23 := by
  rw [fdiv_lit _ _ (by decide), and_m1 _ _ (by decide)]
  refine (bs_eq h h0 1 23).trans ?_
  simp only [bs, Nat.reduceAdd]
  omega
theorem pa_8388608_1 (h : Int) (h0 : 0 ≤ h) (h1 : h < 4294967296) : IntKind.i64.wrap (bits .and .u32 (h.fdiv 8388608) 1) = bitW h 23 := by
  rw [pb_8388608_1 h h0 h1]
  have bd := bds h h0
  rw [wi64_in _ (by omega) (by omega)]
theorem pb_16777216_1 (h : Int) (h0 : 0 ≤ h) (h1 : h < 4294967296) : bits .and .u32 (h.fdiv 16777216) 1 = bitW h 24 := by
  rw [fdiv_lit _ _ (by decide), and_m1 _ _ (by decide)]
  refine (bs_eq h h0 1 24).trans ?_
  simp only [bs, Nat.reduceAdd]
  omega
theorem pa_16777216_1 (h : Int) (h0 : 0 ≤ h) (h1 : h < 4294967296) : IntKind.i64.wrap (bits .and .u32 (h.fdiv 16777216) 1) = bitW h 24 := by
  rw [pb_16777216_1 h h0 h1]
  have bd := bds h h0
  rw [wi64_in _ (by omega) (by omega)]
theorem pb_16777216_15 (h : Int) (h0 : 0 ≤ h) (h1 : h < 4294967296) : bits .and .u32 (h.fdiv 16777216) 15 = 8 * bitW h 27 + 4 * bitW h 26 + 2 * bitW h 25 + bitW h 24 := by
  rw [fdiv_lit _ _ (by decide), and_m4 _ _ (by decide)]
  refine (bs_eq h h0 4 24).trans ?_
  simp only [bs, Nat.reduceAdd]
  omega
theorem pa_16777216_15 (h : Int) (h0 : 0 ≤ h) (h1 : h < 4294967296) : IntKind.i64.wrap (bits .and .u32 (h.fdiv 16777216) 15) = 8 * bitW h 27 + 4 * bitW h 26 + 2 * bitW h 25 + bitW h 24 := by
  rw [pb_16777216_15 h h0 h1]
  have bd := bds h h0
  rw [wi64_in _ (by omega) (by omega)]
theorem pb_33554432_1 (h : Int) (h0 : 0 ≤ h) (h1 : h < 4294967296) : bits .and .u32 (h.fdiv 33554432) 1 = bitW h 25 := by
  rw [fdiv_lit _ _ (by decide), and_m1 _ _ (by decide)]
  refine (bs_eq h h0 1 25).trans ?_
  simp only [bs, Nat.reduceAdd]
  omega
theorem pa_33554432_1 (h : Int) (h0 : 0 ≤ h) (h1 : h < 4294967296) : IntKind.i64.wrap (bits .and .u32 (h.fdiv 33554432) 1) = bitW h 25 := by
  rw [pb_33554432_1 h h0 h1]
  have bd := bds h h0
  rw [wi64_in _ (by omega) (by omega)]
theorem pb_33554432_7 (h : Int) (h0 : 0 ≤ h) (h1 : h < 4294967296) : bits .and .u32 (h.fdiv 33554432) 7 = 4 * bitW h 27 + 2 * bitW h 26 + bitW h 25 := by
  rw [fdiv_lit _ _ (by decide), and_m3 _ _ (by decide)]
  refine (bs_eq h h0 3 25).trans ?_
  simp only [bs, Nat.reduceAdd]
  omega
theorem pa_33554432_7 (h : Int) (h0 : 0 ≤ h) (h1 : h < 4294967296) : IntKind.i64.wrap (bits .and .u32 (h.fdiv 33554432) 7) = 4 * bitW h 27 + 2 * bitW h 26 + bitW h 25 := by
  rw [pb_33554432_7 h h0 h1]
  have bd := bds h h0
  rw [wi64_in _ (by omega) (by omega)]
theorem pm_255 (h : Int) (h0 : 0 ≤ h) (h1 : h < 4294967296) : bits .and .u32 h 255 = 128 * bitW h 7 + 64 * bitW h 6 + 32 * bitW h 5 + 16 * bitW h 4 + 8 * bitW h 3 + 4 * bitW h 2 + 2 * bitW h 1 + bitW h 0 := by
  rw [and_m8 _ _ (by decide)]
  have e := bs_eq h h0 8 0
  rw [Int.pow_zero, Int.ediv_one] at e
  refine e.trans ?_
  simp only [bs, Nat.reduceAdd]
  omega
theorem pm_4095 (h : Int) (h0 : 0 ≤ h) (h1 : h < 4294967296) : bits .and .u32 h 4095 = 2048 * bitW h 11 + 1024 * bitW h 10 + 512 * bitW h 9 + 256 * bitW h 8 + 128 * bitW h 7 + 64 * bitW h 6 + 32 * bitW h 5 + 16 * bitW h 4 + 8 * bitW h 3 + 4 * bitW h 2 + 2 * bitW h 1 + bitW h 0 := by
  rw [and_m12 _ _ (by decide)]
  have e := bs_eq h h0 12 0
  rw [Int.pow_zero, Int.ediv_one] at e
  refine e.trans ?_
  simp only [bs, Nat.reduceAdd]
  omega
theorem pm_15 (h : Int) (h0 : 0 ≤ h) (h1 : h < 4294967296) : bits .and .u32 h 15 = 8 * bitW h 3 + 4 * bitW h 2 + 2 * bitW h 1 + bitW h 0 := by
  rw [and_m4 _ _ (by decide)]
  have e := bs_eq h h0 4 0
  rw [Int.pow_zero, Int.ediv_one] at e
  refine e.trans ?_
  simp only [bs, Nat.reduceAdd]
  omega
theorem pc_28 (h : Int) (h0 : 0 ≤ h) (h1 : h < 4294967296) : IntKind.i64.wrap (h.fdiv 268435456) = 8 * bitW h 31 + 4 * bitW h 30 + 2 * bitW h 29 + bitW h 28 := by
  have e := bs_eq h h0 4 28
  rw [fdiv_lit _ _ (by decide), wi64_in _ (by omega) (by omega)]
  have q : h / 268435456 = h / 2 ^ 28 % 2 ^ 4 := by omega
  rw [q, e]
  simp only [bs, Nat.reduceAdd]
  omega
theorem ps_24 (h : Int) (h0 : 0 ≤ h) (h1 : h < 4294967296) : IntKind.u32.wrap ((IntKind.i32.wrap (IntKind.u32.wrap (h * 256))).fdiv 64) = 4 * (4194304 * bitW h 22 + 2097152 * bitW h 21 + 1048576 * bitW h 20 + 524288 * bitW h 19 + 262144 * bitW h 18 + 131072 * bitW h 17 + 65536 * bitW h 16 + 32768 * bitW h 15 + 16384 * bitW h 14 + 8192 * bitW h 13 + 4096 * bitW h 12 + 2048 * bitW h 11 + 1024 * bitW h 10 + 512 * bitW h 9 + 256 * bitW h 8 + 128 * bitW h 7 + 64 * bitW h 6 + 32 * bitW h 5 + 16 * bitW h 4 + 8 * bitW h 3 + 4 * bitW h 2 + 2 * bitW h 1 + bitW h 0) + 4261412864 * bitW h 23 := by
  have e := bs_eq h h0 24 0
  have e2 := bs_eq h h0 23 0
  have e3 := bitW_eq h 23 h0
  have bd := bitW_bd h 23 h0
  rw [Int.pow_zero, Int.ediv_one] at e e2
  rw [fdiv_lit _ _ (by decide), wu32, wu32, wi32]
  have q : 4194304 * bitW h 22 + 2097152 * bitW h 21 + 1048576 * bitW h 20 + 524288 * bitW h 19 + 262144 * bitW h 18 + 131072 * bitW h 17 + 65536 * bitW h 16 + 32768 * bitW h 15 + 16384 * bitW h 14 + 8192 * bitW h 13 + 4096 * bitW h 12 + 2048 * bitW h 11 + 1024 * bitW h 10 + 512 * bitW h 9 + 256 * bitW h 8 + 128 * bitW h 7 + 64 * bitW h 6 + 32 * bitW h 5 + 16 * bitW h 4 + 8 * bitW h 3 + 4 * bitW h 2 + 2 * bitW h 1 + bitW h 0 = h % 2 ^ 23 := by
    rw [e2]; simp only [bs, Nat.reduceAdd]; omega
  rw [q, e3]
  omega
theorem or_n : ∀ (y x : Fin 16), bits .or .u32 ((y.val : Int) * 16) (x.val : Int) = 16 * (y.val : Int) + x.val := by decide +kernel
theorem or_n' (y x : Int) (a : 0 ≤ y) (b : y < 16) (c : 0 ≤ x) (d : x < 16) : bits .or .u32 (y * 16) x = 16 * y + x := by
  have := or_n ⟨y.toNat, by omega⟩ ⟨x.toNat, by omega⟩
  simpa [Int.toNat_of_nonneg a, Int.toNat_of_nonneg c] using this
theorem ol_1 (h : Int) (h0 : 0 ≤ h) (h1 : h < 4294967296) : bits .or .u32 (bits .and .u32 (h.fdiv 16) 240) (bits .and .u32 h 15) = 16 * (8 * bitW h 11 + 4 * bitW h 10 + 2 * bitW h 9 + bitW h 8) + (8 * bitW h 3 + 4 * bitW h 2 + 2 * bitW h 1 + bitW h 0) := by
  rw [pm_15 h h0 h1]
  have bd := bds h h0
  have e := bs_eq h h0 4 8
  have z : bits .and .u32 (h.fdiv 16) 240 = (8 * bitW h 11 + 4 * bitW h 10 + 2 * bitW h 9 + bitW h 8) * 16 := by
    rw [fdiv_lit _ _ (by decide)]
    have := and_sh .u32 rfl (h / 16) (by omega) (by simp [IntKind.bits]; omega) 4 4 (by decide)
    refine this.trans ?_
    have q : h / 16 / 2 ^ 4 % 2 ^ 4 = h / 2 ^ 8 % 2 ^ 4 := by omega
    rw [q, e]
    simp only [bs, Nat.reduceAdd]
    omega
  rw [z]
  exact or_n' _ _ (by omega) (by omega) (by omega) (by omega)
theorem ex1 {b : Int} {m v : Bool} (hb : 0 ≤ b ∧ b ≤ 1) (e : ((b == 1) && m) = v) (hm : m = true) (hv : v = true) : b = 1 := by
  subst hm; subst hv; simpa using e
theorem ex0 {b : Int} {m v : Bool} (hb : 0 ≤ b ∧ b ≤ 1) (e : ((b == 1) && m) = v) (hm : m = true) (hv : v = false) : b = 0 := by
  subst hm; subst hv; simp at e; omega
theorem mk_1048720 (h : Int) (h0 : 0 ≤ h) (h1 : h < 4294967296) : (bits .and .u32 h 1048720 == 1048720) = true ↔ bitW h 4 = 1 ∧ bitW h 7 = 1 ∧ bitW h 20 = 1 := by
  refine (mask_iff h h0 h1 1048720 1048720 (by decide) (by decide)).trans ⟨fun e => ⟨ex1 (bitW_bd h 4 h0) (e 4 (by decide)) rfl rfl, ex1 (bitW_bd h 7 h0) (e 7 (by decide)) rfl rfl, ex1 (bitW_bd h 20 h0) (e 20 (by decide)) rfl rfl⟩, fun e i hi => ?_⟩
  obtain ⟨q4, q7, q20⟩ := e
  have hi' : i = 0 ∨ i = 1 ∨ i = 2 ∨ i = 3 ∨ i = 4 ∨ i = 5 ∨ i = 6 ∨ i = 7 ∨ i = 8 ∨ i = 9 ∨ i = 10 ∨ i = 11 ∨ i = 12 ∨ i = 13 ∨ i = 14 ∨ i = 15 ∨ i = 16 ∨ i = 17 ∨ i = 18 ∨ i = 19 ∨ i = 20 ∨ i = 21 ∨ i = 22 ∨ i = 23 ∨ i = 24 ∨ i = 25 ∨ i = 26 ∨ i = 27 ∨ i = 28 ∨ i = 29 ∨ i = 30 ∨ i = 31 := by omega
  rcases hi' with rfl | rfl | rfl | rfl | rfl | rfl | rfl | rfl | rfl | rfl | rfl | rfl | rfl | rfl | rfl | rfl | rfl | rfl | rfl | rfl | rfl | rfl | rfl | rfl | rfl | rfl | rfl | rfl | rfl | rfl | rfl | rfl
  · exact Bool.and_false _
  · exact Bool.and_false _
  · exact Bool.and_false _
  · exact Bool.and_false _
  · rw [q4]; rfl
  · exact Bool.and_false _
  · exact Bool.and_false _
  · rw [q7]; rfl
  · exact Bool.and_false _
  · exact Bool.and_false _
  · exact Bool.and_false _
  · exact Bool.and_false _
  · exact Bool.and_false _
  · exact Bool.and_false _
  · exact Bool.and_false _
  · exact Bool.and_false _
  · exact Bool.and_false _
  · exact Bool.and_false _
  · exact Bool.and_false _
  · exact Bool.and_false _
  · rw [q20]; rfl
  · exact Bool.and_false _
  · exact Bool.and_false _
  · exact Bool.and_false _
  · exact Bool.and_false _
  · exact Bool.and_false _
  · exact Bool.and_false _
  · exact Bool.and_false _
  · exact Bool.and_false _
  · exact Bool.and_false _
  · exact Bool.and_false _
  · exact Bool.and_false _
theorem mk_1048816 (h : Int) (h0 : 0 ≤ h) (h1 : h < 4294967296) : (bits .and .u32 h 1048816 == 176) = true ↔ bitW h 4 = 1 ∧ bitW h 5 = 1 ∧ bitW h 6 = 0 ∧ bitW h 7 = 1 ∧ bitW h 20 = 0 := by
  refine (mask_iff h h0 h1 1048816 176 (by decide) (by decide)).trans ⟨fun e => ⟨ex1 (bitW_bd h 4 h0) (e 4 (by decide)) rfl rfl, ex1 (bitW_bd h 5 h0) (e 5 (by decide)) rfl rfl, ex0 (bitW_bd h 6 h0) (e 6 (by decide)) rfl rfl, ex1 (bitW_bd h 7 h0) (e 7 (by decide)) rfl rfl, ex0 (bitW_bd h 20 h0) (e 20 (by decide)) rfl rfl⟩, fun e i hi => ?_⟩
  obtain ⟨q4, q5, q6, q7, q20⟩ := e
  have hi' : i = 0 ∨ i = 1 ∨ i = 2 ∨ i = 3 ∨ i = 4 ∨ i = 5 ∨ i = 6 ∨ i = 7 ∨ i = 8 ∨ i = 9 ∨ i = 10 ∨ i = 11 ∨ i = 12 ∨ i = 13 ∨ i = 14 ∨ i = 15 ∨ i = 16 ∨ i = 17 ∨ i = 18 ∨ i = 19 ∨ i = 20 ∨ i = 21 ∨ i = 22 ∨ i = 23 ∨ i = 24 ∨ i = 25 ∨ i = 26 ∨ i = 27 ∨ i = 28 ∨ i = 29 ∨ i = 30 ∨ i = 31 := by omega
  rcases hi' with rfl | rfl | rfl | rfl | rfl | rfl | rfl | rfl | rfl | rfl | rfl | rfl | rfl | rfl | rfl | rfl | rfl | rfl | rfl | rfl | rfl | rfl | rfl | rfl | rfl | rfl | rfl | rfl | rfl | rfl | rfl | rfl
  · exact Bool.and_false _
  · exact Bool.and_false _
  · exact Bool.and_false _
  · exact Bool.and_false _
  · rw [q4]; rfl
  · rw [q5]; rfl
  · rw [q6]; rfl
  · rw [q7]; rfl
  · exact Bool.and_false _
  · exact Bool.and_false _
  · exact Bool.and_false _
  · exact Bool.and_false _
  · exact Bool.and_false _
  · exact Bool.and_false _
  · exact Bool.and_false _
  · exact Bool.and_false _
  · exact Bool.and_false _
  · exact Bool.and_false _
  · exact Bool.and_false _
  · exact Bool.and_false _
  · rw [q20]; rfl
  · exact Bool.and_false _
  · exact Bool.and_false _
  · exact Bool.and_false _
  · exact Bool.and_false _
  · exact Bool.and_false _
  · exact Bool.and_false _
  · exact Bool.and_false _
  · exact Bool.and_false _
  · exact Bool.and_false _
  · exact Bool.and_false _
  · exact Bool.and_false _
theorem mk_260047088 (h : Int) (h0 : 0 ≤ h) (h1 : h < 4294967296) : (bits .and .u32 h 260047088 == 8388752) = true ↔ bitW h 4 = 1 ∧ bitW h 5 = 0 ∧ bitW h 6 = 0 ∧ bitW h 7 = 1 ∧ bitW h 23 = 1 ∧ bitW h 24 = 0 ∧ bitW h 25 = 0 ∧ bitW h 26 = 0 ∧ bitW h 27 = 0 := by
  refine (mask_iff h h0 h1 260047088 8388752 (by decide) (by decide)).trans ⟨fun e => ⟨ex1 (bitW_bd h 4 h0) (e 4 (by decide)) rfl rfl, ex0 (bitW_bd h 5 h0) (e 5 (by decide)) rfl rfl, ex0 (bitW_bd h 6 h0) (e 6 (by decide)) rfl rfl, ex1 (bitW_bd h 7 h0) (e 7 (by decide)) rfl rfl, ex1 (bitW_bd h 23 h0) (e 23 (by decide)) rfl rfl, ex0 (bitW_bd h 24 h0) (e 24 (by decide)) rfl rfl, ex0 (bitW_bd h 25 h0) (e 25 (by decide)) rfl rfl, ex0 (bitW_bd h 26 h0) (e 26 (by decide)) rfl rfl, ex0 (bitW_bd h 27 h0) (e 27 (by decide)) rfl rfl⟩, fun e i hi => ?_⟩
  obtain ⟨q4, q5, q6, q7, q23, q24, q25, q26, q27⟩ := e
  have hi' : i = 0 ∨ i = 1 ∨ i = 2 ∨ i = 3 ∨ i = 4 ∨ i = 5 ∨ i = 6 ∨ i = 7 ∨ i = 8 ∨ i = 9 ∨ i = 10 ∨ i = 11 ∨ i = 12 ∨ i = 13 ∨ i = 14 ∨ i = 15 ∨ i = 16 ∨ i = 17 ∨ i = 18 ∨ i = 19 ∨ i = 20 ∨ i = 21 ∨ i = 22 ∨ i = 23 ∨ i = 24 ∨ i = 25 ∨ i = 26 ∨ i = 27 ∨ i = 28 ∨ i = 29 ∨ i = 30 ∨ i = 31 := by omega
  rcases hi' with rfl | rfl | rfl | rfl | rfl | rfl | rfl | rfl | rfl | rfl | rfl | rfl | rfl | rfl | rfl | rfl | rfl | rfl | rfl | rfl | rfl | rfl | rfl | rfl | rfl | rfl | rfl | rfl | rfl | rfl | rfl | rfl
  · exact Bool.and_false _
  · exact Bool.and_false _
  · exact Bool.and_false _
  · exact Bool.and_false _
  · rw [q4]; rfl
  · rw [q5]; rfl
  · rw [q6]; rfl
  · rw [q7]; rfl
  · exact Bool.and_false _
  · exact Bool.and_false _
  · exact Bool.and_false _
  · exact Bool.and_false _
  · exact Bool.and_false _
  · exact Bool.and_false _
  · exact Bool.and_false _
  · exact Bool.and_false _
  · exact Bool.and_false _
  · exact Bool.and_false _
  · exact Bool.and_false _
  · exact Bool.and_false _
  · exact Bool.and_false _
  · exact Bool.and_false _
  · exact Bool.and_false _
  · rw [q23]; rfl
  · rw [q24]; rfl
  · rw [q25]; rfl
  · rw [q26]; rfl
  · rw [q27]; rfl
  · exact Bool.and_false _
  · exact Bool.and_false _
  · exact Bool.and_false _
  · exact Bool.and_false _
theorem mk_263196656 (h : Int) (h0 : 0 ≤ h) (h1 : h < 4294967296) : (bits .and .u32 h 263196656 == 16777360) = true ↔ bitW h 4 = 1 ∧ bitW h 5 = 0 ∧ bitW h 6 = 0 ∧ bitW h 7 = 1 ∧ bitW h 8 = 0 ∧ bitW h 9 = 0 ∧ bitW h 10 = 0 ∧ bitW h 11 = 0 ∧ bitW h 20 = 0 ∧ bitW h 21 = 0 ∧ bitW h 23 = 0 ∧ bitW h 24 = 1 ∧ bitW h 25 = 0 ∧ bitW h 26 = 0 ∧ bitW h 27 = 0 := by
  refine (mask_iff h h0 h1 263196656 16777360 (by decide) (by decide)).trans ⟨fun e => ⟨ex1 (bitW_bd h 4 h0) (e 4 (by decide)) rfl rfl, ex0 (bitW_bd h 5 h0) (e 5 (by decide)) rfl rfl, ex0 (bitW_bd h 6 h0) (e 6 (by decide)) rfl rfl, ex1 (bitW_bd h 7 h0) (e 7 (by decide)) rfl rfl, ex0 (bitW_bd h 8 h0) (e 8 (by decide)) rfl rfl, ex0 (bitW_bd h 9 h0) (e 9 (by decide)) rfl rfl, ex0 (bitW_bd h 10 h0) (e 10 (by decide)) rfl rfl, ex0 (bitW_bd h 11 h0) (e 11 (by decide)) rfl rfl, ex0 (bitW_bd h 20 h0) (e 20 (by decide)) rfl rfl, ex0 (bitW_bd h 21 h0) (e 21 (by decide)) rfl rfl, ex0 (bitW_bd h 23 h0) (e 23 (by decide)) rfl rfl, ex1 (bitW_bd h 24 h0) (e 24 (by decide)) rfl rfl, ex0 (bitW_bd h 25 h0) (e 25 (by decide)) rfl rfl, ex0 (bitW_bd h 26 h0) (e 26 (by decide)) rfl rfl, ex0 (bitW_bd h 27 h0) (e 27 (by decide)) rfl rfl⟩, fun e i hi => ?_⟩
  obtain ⟨q4, q5, q6, q7, q8, q9, q10, q11, q20, q21, q23, q24, q25, q26, q27⟩ := e
  have hi' : i = 0 ∨ i = 1 ∨ i = 2 ∨ i = 3 ∨ i = 4 ∨ i = 5 ∨ i = 6 ∨ i = 7 ∨ i = 8 ∨ i = 9 ∨ i = 10 ∨ i = 11 ∨ i = 12 ∨ i = 13 ∨ i = 14 ∨ i = 15 ∨ i = 16 ∨ i = 17 ∨ i = 18 ∨ i = 19 ∨ i = 20 ∨ i = 21 ∨ i = 22 ∨ i = 23 ∨ i = 24 ∨ i = 25 ∨ i = 26 ∨ i = 27 ∨ i = 28 ∨ i = 29 ∨ i = 30 ∨ i = 31 := by omega
  rcases hi' with rfl | rfl | rfl | rfl | rfl | rfl | rfl | rfl | rfl | rfl | rfl | rfl | rfl | rfl | rfl | rfl | rfl | rfl | rfl | rfl | rfl | rfl | rfl | rfl | rfl | rfl | rfl | rfl | rfl | rfl | rfl | rfl
  · exact Bool.and_false _
  · exact Bool.and_false _
  · exact Bool.and_false _
  · exact Bool.and_false _
  · rw [q4]; rfl
  · rw [q5]; rfl
  · rw [q6]; rfl
  · rw [q7]; rfl
  · rw [q8]; rfl
  · rw [q9]; rfl
  · rw [q10]; rfl
  · rw [q11]; rfl
  · exact Bool.and_false _
  · exact Bool.and_false _
  · exact Bool.and_false _
  · exact Bool.and_false _
  · exact Bool.and_false _
  · exact Bool.and_false _
  · exact Bool.and_false _
  · exact Bool.and_false _
  · rw [q20]; rfl
  · rw [q21]; rfl
  · exact Bool.and_false _
  · rw [q23]; rfl
  · rw [q24]; rfl
  · rw [q25]; rfl
  · rw [q26]; rfl
  · rw [q27]; rfl
  · exact Bool.and_false _
  · exact Bool.and_false _
  · exact Bool.and_false _
  · exact Bool.and_false _
theorem mk_263254016 (h : Int) (h0 : 0 ≤ h) (h1 : h < 4294967296) : (bits .and .u32 h 263254016 == 52490240) = true ↔ bitW h 12 = 1 ∧ bitW h 13 = 1 ∧ bitW h 14 = 1 ∧ bitW h 15 = 1 ∧ bitW h 20 = 0 ∧ bitW h 21 = 1 ∧ bitW h 23 = 0 ∧ bitW h 24 = 1 ∧ bitW h 25 = 1 ∧ bitW h 26 = 0 ∧ bitW h 27 = 0 := by
  refine (mask_iff h h0 h1 263254016 52490240 (by decide) (by decide)).trans ⟨fun e => ⟨ex1 (bitW_bd h 12 h0) (e 12 (by decide)) rfl rfl, ex1 (bitW_bd h 13 h0) (e 13 (by decide)) rfl rfl, ex1 (bitW_bd h 14 h0) (e 14 (by decide)) rfl rfl, ex1 (bitW_bd h 15 h0) (e 15 (by decide)) rfl rfl, ex0 (bitW_bd h 20 h0) (e 20 (by decide)) rfl rfl, ex1 (bitW_bd h 21 h0) (e 21 (by decide)) rfl rfl, ex0 (bitW_bd h 23 h0) (e 23 (by decide)) rfl rfl, ex1 (bitW_bd h 24 h0) (e 24 (by decide)) rfl rfl, ex1 (bitW_bd h 25 h0) (e 25 (by decide)) rfl rfl, ex0 (bitW_bd h 26 h0) (e 26 (by decide)) rfl rfl, ex0 (bitW_bd h 27 h0) (e 27 (by decide)) rfl rfl⟩, fun e i hi => ?_⟩
  obtain ⟨q12, q13, q14, q15, q20, q21, q23, q24, q25, q26, q27⟩ := e
  have hi' : i = 0 ∨ i = 1 ∨ i = 2 ∨ i = 3 ∨ i = 4 ∨ i = 5 ∨ i = 6 ∨ i = 7 ∨ i = 8 ∨ i = 9 ∨ i = 10 ∨ i = 11 ∨ i = 12 ∨ i = 13 ∨ i = 14 ∨ i = 15 ∨ i = 16 ∨ i = 17 ∨ i = 18 ∨ i = 19 ∨ i = 20 ∨ i = 21 ∨ i = 22 ∨ i = 23 ∨ i = 24 ∨ i = 25 ∨ i = 26 ∨ i = 27 ∨ i = 28 ∨ i = 29 ∨ i = 30 ∨ i = 31 := by omega
  rcases hi' with rfl | rfl | rfl | rfl | rfl | rfl | rfl | rfl | rfl | rfl | rfl | rfl | rfl | rfl | rfl | rfl | rfl | rfl | rfl | rfl | rfl | rfl | rfl | rfl | rfl | rfl | rfl | rfl | rfl | rfl | rfl | rfl
  · exact Bool.and_false _
  · exact Bool.and_false _
  · exact Bool.and_false _
  · exact Bool.and_false _
  · exact Bool.and_false _
  · exact Bool.and_false _
  · exact Bool.and_false _
  · exact Bool.and_false _
  · exact Bool.and_false _
  · exact Bool.and_false _
  · exact Bool.and_false _
  · exact Bool.and_false _
  · rw [q12]; rfl
  · rw [q13]; rfl
  · rw [q14]; rfl
  · rw [q15]; rfl
  · exact Bool.and_false _
  · exact Bool.and_false _
  · exact Bool.and_false _
  · exact Bool.and_false _
  · rw [q20]; rfl
  · rw [q21]; rfl
  · exact Bool.and_false _
  · rw [q23]; rfl
  · rw [q24]; rfl
  · rw [q25]; rfl
  · rw [q26]; rfl
  · rw [q27]; rfl
  · exact Bool.and_false _
  · exact Bool.and_false _
  · exact Bool.and_false _
  · exact Bool.and_false _
theorem mk_263258096 (h : Int) (h0 : 0 ≤ h) (h1 : h < 4294967296) : (bits .and .u32 h 263258096 == 18935808) = true ↔ bitW h 4 = 0 ∧ bitW h 5 = 0 ∧ bitW h 6 = 0 ∧ bitW h 7 = 0 ∧ bitW h 8 = 0 ∧ bitW h 9 = 0 ∧ bitW h 10 = 0 ∧ bitW h 11 = 0 ∧ bitW h 12 = 1 ∧ bitW h 13 = 1 ∧ bitW h 14 = 1 ∧ bitW h 15 = 1 ∧ bitW h 20 = 0 ∧ bitW h 21 = 1 ∧ bitW h 23 = 0 ∧ bitW h 24 = 1 ∧ bitW h 25 = 0 ∧ bitW h 26 = 0 ∧ bitW h 27 = 0 := by
  refine (mask_iff h h0 h1 263258096 18935808 (by decide) (by decide)).trans ⟨fun e => ⟨ex0 (bitW_bd h 4 h0) (e 4 (by decide)) rfl rfl, ex0 (bitW_bd h 5 h0) (e 5 (by decide)) rfl rfl, ex0 (bitW_bd h 6 h0) (e 6 (by decide)) rfl rfl, ex0 (bitW_bd h 7 h0) (e 7 (by decide)) rfl rfl, ex0 (bitW_bd h 8 h0) (e 8 (by decide)) rfl rfl, ex0 (bitW_bd h 9 h0) (e 9 (by decide)) rfl rfl, ex0 (bitW_bd h 10 h0) (e 10 (by decide)) rfl rfl, ex0 (bitW_bd h 11 h0) (e 11 (by decide)) rfl rfl, ex1 (bitW_bd h 12 h0) (e 12 (by decide)) rfl rfl, ex1 (bitW_bd h 13 h0) (e 13 (by decide)) rfl rfl, ex1 (bitW_bd h 14 h0) (e 14 (by decide)) rfl rfl, ex1 (bitW_bd h 15 h0) (e 15 (by decide)) rfl rfl, ex0 (bitW_bd h 20 h0) (e 20 (by decide)) rfl rfl, ex1 (bitW_bd h 21 h0) (e 21 (by decide)) rfl rfl, ex0 (bitW_bd h 23 h0) (e 23 (by decide)) rfl rfl, ex1 (bitW_bd h 24 h0) (e 24 (by decide)) rfl rfl, ex0 (bitW_bd h 25 h0) (e 25 (by decide)) rfl rfl, ex0 (bitW_bd h 26 h0) (e 26 (by decide)) rfl rfl, ex0 (bitW_bd h 27 h0) (e 27 (by decide)) rfl rfl⟩, fun e i hi => ?_⟩
  obtain ⟨q4, q5, q6, q7, q8, q9, q10, q11, q12, q13, q14, q15, q20, q21, q23, q24, q25, q26, q27⟩ := e
  have hi' : i = 0 ∨ i = 1 ∨ i = 2 ∨ i = 3 ∨ i = 4 ∨ i = 5 ∨ i = 6 ∨ i = 7 ∨ i = 8 ∨ i = 9 ∨ i = 10 ∨ i = 11 ∨ i = 12 ∨ i = 13 ∨ i = 14 ∨ i = 15 ∨ i = 16 ∨ i = 17 ∨ i = 18 ∨ i = 19 ∨ i = 20 ∨ i = 21 ∨ i = 22 ∨ i = 23 ∨ i = 24 ∨ i = 25 ∨ i = 26 ∨ i = 27 ∨ i = 28 ∨ i = 29 ∨ i = 30 ∨ i = 31 := by omega
  rcases hi' with rfl | rfl | rfl | rfl | rfl | rfl | rfl | rfl | rfl | rfl | rfl | rfl | rfl | rfl | rfl | rfl | rfl | rfl | rfl | rfl | rfl | rfl | rfl | rfl | rfl | rfl | rfl | rfl | rfl | rfl | rfl | rfl
  · exact Bool.and_false _
  · exact Bool.and_false _
  · exact Bool.and_false _
  · exact Bool.and_false _
  · rw [q4]; rfl
  · rw [q5]; rfl
  · rw [q6]; rfl
  · rw [q7]; rfl
  · rw [q8]; rfl
  · rw [q9]; rfl
  · rw [q10]; rfl
  · rw [q11]; rfl
  · rw [q12]; rfl
  · rw [q13]; rfl
  · rw [q14]; rfl
  · rw [q15]; rfl
  · exact Bool.and_false _
  · exact Bool.and_false _
  · exact Bool.and_false _
  · exact Bool.and_false _
  · rw [q20]; rfl
  · rw [q21]; rfl
  · exact Bool.and_false _
  · rw [q23]; rfl
  · rw [q24]; rfl
  · rw [q25]; rfl
  · rw [q26]; rfl
  · rw [q27]; rfl
  · exact Bool.and_false _
  · exact Bool.and_false _
  · exact Bool.and_false _
  · exact Bool.and_false _
theorem mk_264179711 (h : Int) (h0 : 0 ≤ h) (h1 : h < 4294967296) : (bits .and .u32 h 264179711 == 17760256) = true ↔ bitW h 0 = 0 ∧ bitW h 1 = 0 ∧ bitW h 2 = 0 ∧ bitW h 3 = 0 ∧ bitW h 4 = 0 ∧ bitW h 5 = 0 ∧ bitW h 6 = 0 ∧ bitW h 7 = 0 ∧ bitW h 8 = 0 ∧ bitW h 9 = 0 ∧ bitW h 10 = 0 ∧ bitW h 11 = 0 ∧ bitW h 16 = 1 ∧ bitW h 17 = 1 ∧ bitW h 18 = 1 ∧ bitW h 19 = 1 ∧ bitW h 20 = 0 ∧ bitW h 21 = 0 ∧ bitW h 23 = 0 ∧ bitW h 24 = 1 ∧ bitW h 25 = 0 ∧ bitW h 26 = 0 ∧ bitW h 27 = 0 := by
  refine (mask_iff h h0 h1 264179711 17760256 (by decide) (by decide)).trans ⟨fun e => ⟨ex0 (bitW_bd h 0 h0) (e 0 (by decide)) rfl rfl, ex0 (bitW_bd h 1 h0) (e 1 (by decide)) rfl rfl, ex0 (bitW_bd h 2 h0) (e 2 (by decide)) rfl rfl, ex0 (bitW_bd h 3 h0) (e 3 (by decide)) rfl rfl, ex0 (bitW_bd h 4 h0) (e 4 (by decide)) rfl rfl, ex0 (bitW_bd h 5 h0) (e 5 (by decide)) rfl rfl, ex0 (bitW_bd h 6 h0) (e 6 (by decide)) rfl rfl, ex0 (bitW_bd h 7 h0) (e 7 (by decide)) rfl rfl, ex0 (bitW_bd h 8 h0) (e 8 (by decide)) rfl rfl, ex0 (bitW_bd h 9 h0) (e 9 (by decide)) rfl rfl, ex0 (bitW_bd h 10 h0) (e 10 (by decide)) rfl rfl, ex0 (bitW_bd h 11 h0) (e 11 (by decide)) rfl rfl, ex1 (bitW_bd h 16 h0) (e 16 (by decide)) rfl rfl, ex1 (bitW_bd h 17 h0) (e 17 (by decide)) rfl rfl, ex1 (bitW_bd h 18 h0) (e 18 (by decide)) rfl rfl, ex1 (bitW_bd h 19 h0) (e 19 (by decide)) rfl rfl, ex0 (bitW_bd h 20 h0) (e 20 (by decide)) rfl rfl, ex0 (bitW_bd h 21 h0) (e 21 (by decide)) rfl rfl, ex0 (bitW_bd h 23 h0) (e 23 (by decide)) rfl rfl, ex1 (bitW_bd h 24 h0) (e 24 (by decide)) rfl rfl, ex0 (bitW_bd h 25 h0) (e 25 (by decide)) rfl rfl, ex0 (bitW_bd h 26 h0) (e 26 (by decide)) rfl rfl, ex0 (bitW_bd h 27 h0) (e 27 (by decide)) rfl rfl⟩, fun e i hi => ?_⟩
  obtain ⟨q0, q1, q2, q3, q4, q5, q6, q7, q8, q9, q10, q11, q16, q17, q18, q19, q20, q21, q23, q24, q25, q26, q27⟩ := e
  have hi' : i = 0 ∨ i = 1 ∨ i = 2 ∨ i = 3 ∨ i = 4 ∨ i = 5 ∨ i = 6 ∨ i = 7 ∨ i = 8 ∨ i = 9 ∨ i = 10 ∨ i = 11 ∨ i = 12 ∨ i = 13 ∨ i = 14 ∨ i = 15 ∨ i = 16 ∨ i = 17 ∨ i = 18 ∨ i = 19 ∨ i = 20 ∨ i = 21 ∨ i = 22 ∨ i = 23 ∨ i = 24 ∨ i = 25 ∨ i = 26 ∨ i = 27 ∨ i = 28 ∨ i = 29 ∨ i = 30 ∨ i = 31 := by omega
  rcases hi' with rfl | rfl | rfl | rfl | rfl | rfl | rfl | rfl | rfl | rfl | rfl | rfl | rfl | rfl | rfl | rfl | rfl | rfl | rfl | rfl | rfl | rfl | rfl | rfl | rfl | rfl | rfl | rfl | rfl | rfl | rfl | rfl
  · rw [q0]; rfl
  · rw [q1]; rfl
  · rw [q2]; rfl
  · rw [q3]; rfl
  · rw [q4]; rfl
  · rw [q5]; rfl
  · rw [q6]; rfl
  · rw [q7]; rfl
  · rw [q8]; rfl
  · rw [q9]; rfl
  · rw [q10]; rfl
  · rw [q11]; rfl
  · exact Bool.and_false _
  · exact Bool.and_false _
  · exact Bool.and_false _
  · exact Bool.and_false _
  · rw [q16]; rfl
  · rw [q17]; rfl
  · rw [q18]; rfl
  · rw [q19]; rfl
  · rw [q20]; rfl
  · rw [q21]; rfl
  · exact Bool.and_false _
  · rw [q23]; rfl
  · rw [q24]; rfl
  · rw [q25]; rfl
  · rw [q26]; rfl
  · rw [q27]; rfl
  · exact Bool.and_false _
  · exact Bool.and_false _
  · exact Bool.and_false _
  · exact Bool.and_false _
theorem mk_264241392 (h : Int) (h0 : 0 ≤ h) (h1 : h < 4294967296) : (bits .and .u32 h 264241392 == 144) = true ↔ bitW h 4 = 1 ∧ bitW h 5 = 0 ∧ bitW h 6 = 0 ∧ bitW h 7 = 1 ∧ bitW h 22 = 0 ∧ bitW h 23 = 0 ∧ bitW h 24 = 0 ∧ bitW h 25 = 0 ∧ bitW h 26 = 0 ∧ bitW h 27 = 0 := by
  refine (mask_iff h h0 h1 264241392 144 (by decide) (by decide)).trans ⟨fun e => ⟨ex1 (bitW_bd h 4 h0) (e 4 (by decide)) rfl rfl, ex0 (bitW_bd h 5 h0) (e 5 (by decide)) rfl rfl, ex0 (bitW_bd h 6 h0) (e 6 (by decide)) rfl rfl, ex1 (bitW_bd h 7 h0) (e 7 (by decide)) rfl rfl, ex0 (bitW_bd h 22 h0) (e 22 (by decide)) rfl rfl, ex0 (bitW_bd h 23 h0) (e 23 (by decide)) rfl rfl, ex0 (bitW_bd h 24 h0) (e 24 (by decide)) rfl rfl, ex0 (bitW_bd h 25 h0) (e 25 (by decide)) rfl rfl, ex0 (bitW_bd h 26 h0) (e 26 (by decide)) rfl rfl, ex0 (bitW_bd h 27 h0) (e 27 (by decide)) rfl rfl⟩, fun e i hi => ?_⟩
  obtain ⟨q4, q5, q6, q7, q22, q23, q24, q25, q26, q27⟩ := e
  have hi' : i = 0 ∨ i = 1 ∨ i = 2 ∨ i = 3 ∨ i = 4 ∨ i = 5 ∨ i = 6 ∨ i = 7 ∨ i = 8 ∨ i = 9 ∨ i = 10 ∨ i = 11 ∨ i = 12 ∨ i = 13 ∨ i = 14 ∨ i = 15 ∨ i = 16 ∨ i = 17 ∨ i = 18 ∨ i = 19 ∨ i = 20 ∨ i = 21 ∨ i = 22 ∨ i = 23 ∨ i = 24 ∨ i = 25 ∨ i = 26 ∨ i = 27 ∨ i = 28 ∨ i = 29 ∨ i = 30 ∨ i = 31 := by omega
  rcases hi' with rfl | rfl | rfl | rfl | rfl | rfl | rfl | rfl | rfl | rfl | rfl | rfl | rfl | rfl | rfl | rfl | rfl | rfl | rfl | rfl | rfl | rfl | rfl | rfl | rfl | rfl | rfl | rfl | rfl | rfl | rfl | rfl
  · exact Bool.and_false _
  · exact Bool.and_false _
  · exact Bool.and_false _
  · exact Bool.and_false _
  · rw [q4]; rfl
  · rw [q5]; rfl
  · rw [q6]; rfl
  · rw [q7]; rfl
  · exact Bool.and_false _
  · exact Bool.and_false _
  · exact Bool.and_false _
  · exact Bool.and_false _
  · exact Bool.and_false _
  · exact Bool.and_false _
  · exact Bool.and_false _
  · exact Bool.and_false _
  · exact Bool.and_false _
  · exact Bool.and_false _
  · exact Bool.and_false _
  · exact Bool.and_false _
  · exact Bool.and_false _
  · exact Bool.and_false _
  · rw [q22]; rfl
  · rw [q23]; rfl
  · rw [q24]; rfl
  · rw [q25]; rfl
  · rw [q26]; rfl
  · rw [q27]; rfl
  · exact Bool.and_false _
  · exact Bool.and_false _
  · exact Bool.and_false _
  · exact Bool.and_false _
theorem mk_268435440 (h : Int) (h0 : 0 ≤ h) (h1 : h < 4294967296) : (bits .and .u32 h 268435440 == 19922704) = true ↔ bitW h 4 = 1 ∧ bitW h 5 = 0 ∧ bitW h 6 = 0 ∧ bitW h 7 = 0 ∧ bitW h 8 = 1 ∧ bitW h 9 = 1 ∧ bitW h 10 = 1 ∧ bitW h 11 = 1 ∧ bitW h 12 = 1 ∧ bitW h 13 = 1 ∧ bitW h 14 = 1 ∧ bitW h 15 = 1 ∧ bitW h 16 = 1 ∧ bitW h 17 = 1 ∧ bitW h 18 = 1 ∧ bitW h 19 = 1 ∧ bitW h 20 = 0 ∧ bitW h 21 = 1 ∧ bitW h 22 = 0 ∧ bitW h 23 = 0 ∧ bitW h 24 = 1 ∧ bitW h 25 = 0 ∧ bitW h 26 = 0 ∧ bitW h 27 = 0 := by
  refine (mask_iff h h0 h1 268435440 19922704 (by decide) (by decide)).trans ⟨fun e => ⟨ex1 (bitW_bd h 4 h0) (e 4 (by decide)) rfl rfl, ex0 (bitW_bd h 5 h0) (e 5 (by decide)) rfl rfl, ex0 (bitW_bd h 6 h0) (e 6 (by decide)) rfl rfl, ex0 (bitW_bd h 7 h0) (e 7 (by decide)) rfl rfl, ex1 (bitW_bd h 8 h0) (e 8 (by decide)) rfl rfl, ex1 (bitW_bd h 9 h0) (e 9 (by decide)) rfl rfl, ex1 (bitW_bd h 10 h0) (e 10 (by decide)) rfl rfl, ex1 (bitW_bd h 11 h0) (e 11 (by decide)) rfl rfl, ex1 (bitW_bd h 12 h0) (e 12 (by decide)) rfl rfl, ex1 (bitW_bd h 13 h0) (e 13 (by decide)) rfl rfl, ex1 (bitW_bd h 14 h0) (e 14 (by decide)) rfl rfl, ex1 (bitW_bd h 15 h0) (e 15 (by decide)) rfl rfl, ex1 (bitW_bd h 16 h0) (e 16 (by decide)) rfl rfl, ex1 (bitW_bd h 17 h0) (e 17 (by decide)) rfl rfl, ex1 (bitW_bd h 18 h0) (e 18 (by decide)) rfl rfl, ex1 (bitW_bd h 19 h0) (e 19 (by decide)) rfl rfl, ex0 (bitW_bd h 20 h0) (e 20 (by decide)) rfl rfl, ex1 (bitW_bd h 21 h0) (e 21 (by decide)) rfl rfl, ex0 (bitW_bd h 22 h0) (e 22 (by decide)) rfl rfl, ex0 (bitW_bd h 23 h0) (e 23 (by decide)) rfl rfl, ex1 (bitW_bd h 24 h0) (e 24 (by decide)) rfl rfl, ex0 (bitW_bd h 25 h0) (e 25 (by decide)) rfl rfl, ex0 (bitW_bd h 26 h0) (e 26 (by decide)) rfl rfl, ex0 (bitW_bd h 27 h0) (e 27 (by decide)) rfl rfl⟩, fun e i hi => ?_⟩
  obtain ⟨q4, q5, q6, q7, q8, q9, q10, q11, q12, q13, q14, q15, q16, q17, q18, q19, q20, q21, q22, q23, q24, q25, q26, q27⟩ := e
  have hi' : i = 0 ∨ i = 1 ∨ i = 2 ∨ i = 3 ∨ i = 4 ∨ i = 5 ∨ i = 6 ∨ i = 7 ∨ i = 8 ∨ i = 9 ∨ i = 10 ∨ i = 11 ∨ i = 12 ∨ i = 13 ∨ i = 14 ∨ i = 15 ∨ i = 16 ∨ i = 17 ∨ i = 18 ∨ i = 19 ∨ i = 20 ∨ i = 21 ∨ i = 22 ∨ i = 23 ∨ i = 24 ∨ i = 25 ∨ i = 26 ∨ i = 27 ∨ i = 28 ∨ i = 29 ∨ i = 30 ∨ i = 31 := by omega
  rcases hi' with rfl | rfl | rfl | rfl | rfl | rfl | rfl | rfl | rfl | rfl | rfl | rfl | rfl | rfl | rfl | rfl | rfl | rfl | rfl | rfl | rfl | rfl | rfl | rfl | rfl | rfl | rfl | rfl | rfl | rfl | rfl | rfl
  · exact Bool.and_false _
  · exact Bool.and_false _
  · exact Bool.and_false _
  · exact Bool.and_false _
  · rw [q4]; rfl
  · rw [q5]; rfl
  · rw [q6]; rfl
  · rw [q7]; rfl
  · rw [q8]; rfl
  · rw [q9]; rfl
  · rw [q10]; rfl
  · rw [q11]; rfl
  · rw [q12]; rfl
  · rw [q13]; rfl
  · rw [q14]; rfl
  · rw [q15]; rfl
  · rw [q16]; rfl
  · rw [q17]; rfl
  · rw [q18]; rfl
  · rw [q19]; rfl
  · rw [q20]; rfl
  · rw [q21]; rfl
  · rw [q22]; rfl
  · rw [q23]; rfl
  · rw [q24]; rfl
  · rw [q25]; rfl
  · rw [q26]; rfl
  · rw [q27]; rfl
  · exact Bool.and_false _
  · exact Bool.and_false _
  · exact Bool.and_false _
  · exact Bool.and_false _
end Go.Proofs.Ytbnglhfhmhnimaa

