import Derived.Test.YtbnglhfhmhnimaaU
set_option linter.unusedVariables false
set_option linter.unusedSimpArgs false
namespace Go.Proofs.Ytbnglhfhmhnimaa
open Go Go.Proofs Go.Proofs.Ytbnglhfhmhnimaa.Ev
set_option maxRecDepth 100000
def bitW (w : Int) (k : Nat) : Int := (w.fdiv (2 ^ k)).tmod 2
def fitL (w : Int) : List (Nat × Int) → Bool
  | [] => true
  | (k, v) :: r => if (bitW w k != v) = true then false else fitL w r
def hv : List Int → Int → Int
  | [], x => x
  | b :: r, x => hv r (IntKind.i64.wrap (IntKind.i64.wrap (2 * x) + IntKind.i64.wrap b))
def hn : List Int → Int → Int
  | [], x => x
  | b :: r, x => hn r (2 * x + b)
theorem hv_eq : ∀ (l : List Int) (x : Int), (∀ b ∈ l, 0 ≤ b ∧ b ≤ 1) → 0 ≤ x → (x + 1) * 2 ^ l.length ≤ 2 ^ 40 → hv l x = hn l x
  | [], _, _, _, _ => rfl
  | b :: r, x, hb, h0, h1 => by
    have hb0 := hb b List.mem_cons_self
    rw [List.length_cons, Int.pow_succ] at h1
    have hp : (1 : Int) ≤ 2 ^ r.length := Int.pow_pos (by decide)
    have h2 : (x + 1) * 2 ≤ (x + 1) * (2 ^ r.length * 2) := Int.mul_le_mul_of_nonneg_left (by omega) (by omega)
    have e : IntKind.i64.wrap (IntKind.i64.wrap (2 * x) + IntKind.i64.wrap b) = 2 * x + b := by
      rw [wi64_in (2 * x) (by omega) (by omega), wi64_in b (by omega) (by omega), wi64_in _ (by omega) (by omega)]
    rw [hv, hn, e]
    refine hv_eq r _ (fun c hc => hb c (List.mem_cons_of_mem _ hc)) (by omega) ?_
    have h3 : (2 * x + b + 1) * 2 ^ r.length ≤ ((x + 1) * 2) * 2 ^ r.length := Int.mul_le_mul_of_nonneg_right (by omega) (by omega)
    have h4 : (x + 1) * 2 * 2 ^ r.length = (x + 1) * (2 ^ r.length * 2) := by rw [Int.mul_assoc, Int.mul_comm 2]
    omega
theorem bitW_eq (h : Int) (k : Nat) (h0 : 0 ≤ h) : bitW h k = h / 2 ^ k % 2 := by
  unfold bitW
  rw [fdiv_pow, tmod_n]
  exact Int.ediv_nonneg h0 (Int.le_of_lt (Int.pow_pos (by decide)))
theorem bitW_bd (h : Int) (k : Nat) (h0 : 0 ≤ h) : 0 ≤ bitW h k ∧ bitW h k ≤ 1 := by rw [bitW_eq h k h0]; omega
/-- So many bits from one on. -/
def bs (h : Int) : Nat → Nat → Int
  | _, 0 => 0
  | a, n + 1 => bitW h a + 2 * bs h (a + 1) n
theorem bs_eq (h : Int) (h0 : 0 ≤ h) : ∀ n a, h / 2 ^ a % 2 ^ n = bs h a n
  | 0, a => by simp [bs, Int.emod_one]
  | n + 1, a => by
    have ih := bs_eq h h0 n (a + 1)
    have e : h / 2 ^ (a + 1) = h / 2 ^ a / 2 := by
      rw [Int.pow_succ, ← Int.ediv_ediv_of_nonneg (Int.le_of_lt (Int.pow_pos (by decide)))]
    rw [e] at ih
    rw [bs, ← ih, bitW_eq h a h0]
    generalize h / 2 ^ a = x
    have p : (0 : Int) < 2 ^ n := Int.pow_pos (by decide)
    rw [Int.pow_succ, Int.mul_comm (2 ^ n) 2]
    have h1 := Int.emod_add_mul_ediv x 2
    have h2 := Int.emod_add_mul_ediv (x / 2) (2 ^ n)
    have h3 := Int.emod_nonneg (x / 2) (Int.ne_of_gt p)
    have h4 := Int.emod_lt_of_pos (x / 2) p
    have h5 : x = (x % 2 + 2 * (x / 2 % 2 ^ n)) + (2 * 2 ^ n) * (x / 2 / 2 ^ n) := by
      have : 2 * 2 ^ n * (x / 2 / 2 ^ n) = 2 * (2 ^ n * (x / 2 / 2 ^ n)) := Int.mul_assoc _ _ _
      omega
    have h6 : (x % 2 + 2 * (x / 2 % 2 ^ n) + 2 * 2 ^ n * (x / 2 / 2 ^ n)) % (2 * 2 ^ n) = x % 2 + 2 * (x / 2 % 2 ^ n) := by
      rw [Int.add_mul_emod_self_left, Int.emod_eq_of_lt (by omega) (by omega)]
    exact (congrArg (· % (2 * 2 ^ n)) h5).trans h6
/-- A masked word, by its bits. -/
theorem tb (h : Int) (h0 : 0 ≤ h) (k : Nat) : h.toNat.testBit k = (bitW h k == 1) := by
  rw [bitW_eq h k h0, Nat.testBit_eq_decide_div_mod_eq]
  obtain ⟨n, rfl⟩ := Int.eq_ofNat_of_zero_le h0
  simp only [Int.toNat_natCast]
  have key : ∀ m : Nat, decide (m = 1) = ((m : Int) == 1) := by
    intro m
    by_cases hm : m = 1
    · subst hm; rfl
    · rw [decide_eq_false hm]
      symm
      rw [beq_eq_false_iff_ne]
      omega
  exact (key _).trans (by simp)
theorem and_iff (h M V : Nat) (hh : h < 2 ^ 32) (hV : V < 2 ^ 32) : (h &&& M = V) ↔ ∀ i, i < 32 → (h.testBit i && M.testBit i) = V.testBit i := by
  refine ⟨fun e i _ => by rw [← e, Nat.testBit_and], fun e => Nat.eq_of_testBit_eq fun i => ?_⟩
  rw [Nat.testBit_and]
  by_cases hi : i < 32
  · exact e i hi
  · have p : 2 ^ 32 ≤ 2 ^ i := Nat.pow_le_pow_right (by decide) (by omega)
    rw [Nat.testBit_lt_two_pow (Nat.lt_of_lt_of_le hh p), Nat.testBit_lt_two_pow (Nat.lt_of_lt_of_le hV p)]; rfl
theorem mask_iff (h : Int) (h0 : 0 ≤ h) (h1 : h < 4294967296) (M V : Nat) (hM : M < 2 ^ 32) (hV : V < 2 ^ 32) : (bits .and .u32 h (M : Int) == (V : Int)) = true ↔ ∀ i, i < 32 → ((bitW h i == 1) && M.testBit i) = V.testBit i := by
  have e : h = ((h.toNat : Nat) : Int) := (Int.toNat_of_nonneg h0).symm
  have hlt : h.toNat < 2 ^ 32 := by omega
  rw [beq_iff_eq, show bits .and .u32 h (M : Int) = bits .and .u32 ((h.toNat : Nat) : Int) (M : Int) by rw [← e], bits_and_n .u32 rfl _ _ hlt hM]
  rw [show (((h.toNat &&& M : Nat) : Int) = (V : Int)) ↔ (h.toNat &&& M = V) from by omega, and_iff _ _ _ hlt hV]
  simp only [tb h h0]
theorem sz_0 : szOK pt0 = true := by kernel_rfl
theorem ft_0 (w : Int) : fits pt0 w = fitL w [(27, 0), (26, 0), (25, 0), (24, 0), (23, 0), (22, 0), (7, 1), (6, 0), (5, 0), (4, 1)] := by kernel_rfl
theorem fl_0_65 (w : Int) : fld pt0 w 65 = hv [bitW w 21] 0 := by kernel_rfl
theorem fl_0_66 (w : Int) : fld pt0 w 66 = hv [] 0 := by kernel_rfl
theorem fl_0_70 (w : Int) : fld pt0 w 70 = hv [bitW w 20] 0 := by kernel_rfl
theorem fl_0_73 (w : Int) : fld pt0 w 73 = hv [] 0 := by kernel_rfl
theorem fl_0_75 (w : Int) : fld pt0 w 75 = hv [] 0 := by kernel_rfl
theorem fl_0_76 (w : Int) : fld pt0 w 76 = hv [] 0 := by kernel_rfl
theorem fl_0_80 (w : Int) : fld pt0 w 80 = hv [] 0 := by kernel_rfl
theorem fl_0_81 (w : Int) : fld pt0 w 81 = hv [] 0 := by kernel_rfl
theorem fl_0_83 (w : Int) : fld pt0 w 83 = hv [] 0 := by kernel_rfl
theorem fl_0_85 (w : Int) : fld pt0 w 85 = hv [] 0 := by kernel_rfl
theorem fl_0_97 (w : Int) : fld pt0 w 97 = hv [] 0 := by kernel_rfl
theorem fl_0_99 (w : Int) : fld pt0 w 99 = hv [bitW w 31, bitW w 30, bitW w 29, bitW w 28] 0 := by kernel_rfl
theorem fl_0_100 (w : Int) : fld pt0 w 100 = hv [bitW w 19, bitW w 18, bitW w 17, bitW w 16] 0 := by kernel_rfl
theorem fl_0_108 (w : Int) : fld pt0 w 108 = hv [] 0 := by kernel_rfl
theorem fl_0_109 (w : Int) : fld pt0 w 109 = hv [bitW w 3, bitW w 2, bitW w 1, bitW w 0] 0 := by kernel_rfl
theorem fl_0_110 (w : Int) : fld pt0 w 110 = hv [bitW w 15, bitW w 14, bitW w 13, bitW w 12] 0 := by kernel_rfl
theorem fl_0_115 (w : Int) : fld pt0 w 115 = hv [bitW w 11, bitW w 10, bitW w 9, bitW w 8] 0 := by kernel_rfl
theorem fl_0_116 (w : Int) : fld pt0 w 116 = hv [] 0 := by kernel_rfl
theorem sz_1 : szOK pt1 = true := by kernel_rfl
theorem ft_1 (w : Int) : fits pt1 w = fitL w [(27, 0), (26, 0), (25, 0), (24, 0), (23, 1), (7, 1), (6, 0), (5, 0), (4, 1)] := by kernel_rfl
theorem fl_1_65 (w : Int) : fld pt1 w 65 = hv [bitW w 21] 0 := by kernel_rfl
theorem fl_1_66 (w : Int) : fld pt1 w 66 = hv [] 0 := by kernel_rfl
theorem fl_1_70 (w : Int) : fld pt1 w 70 = hv [bitW w 20] 0 := by kernel_rfl
theorem fl_1_73 (w : Int) : fld pt1 w 73 = hv [] 0 := by kernel_rfl
theorem fl_1_75 (w : Int) : fld pt1 w 75 = hv [] 0 := by kernel_rfl
theorem fl_1_76 (w : Int) : fld pt1 w 76 = hv [] 0 := by kernel_rfl
theorem fl_1_80 (w : Int) : fld pt1 w 80 = hv [] 0 := by kernel_rfl
theorem fl_1_81 (w : Int) : fld pt1 w 81 = hv [] 0 := by kernel_rfl
theorem fl_1_83 (w : Int) : fld pt1 w 83 = hv [bitW w 22] 0 := by kernel_rfl
theorem fl_1_85 (w : Int) : fld pt1 w 85 = hv [] 0 := by kernel_rfl
theorem fl_1_97 (w : Int) : fld pt1 w 97 = hv [] 0 := by kernel_rfl
theorem fl_1_99 (w : Int) : fld pt1 w 99 = hv [bitW w 31, bitW w 30, bitW w 29, bitW w 28] 0 := by kernel_rfl
theorem fl_1_100 (w : Int) : fld pt1 w 100 = hv [bitW w 19, bitW w 18, bitW w 17, bitW w 16] 0 := by kernel_rfl
theorem fl_1_108 (w : Int) : fld pt1 w 108 = hv [] 0 := by kernel_rfl
theorem fl_1_109 (w : Int) : fld pt1 w 109 = hv [bitW w 3, bitW w 2, bitW w 1, bitW w 0] 0 := by kernel_rfl
theorem fl_1_110 (w : Int) : fld pt1 w 110 = hv [bitW w 15, bitW w 14, bitW w 13, bitW w 12] 0 := by kernel_rfl
theorem fl_1_115 (w : Int) : fld pt1 w 115 = hv [bitW w 11, bitW w 10, bitW w 9, bitW w 8] 0 := by kernel_rfl
theorem fl_1_116 (w : Int) : fld pt1 w 116 = hv [] 0 := by kernel_rfl
theorem sz_2 : szOK pt2 = true := by kernel_rfl
theorem ft_2 (w : Int) : fits pt2 w = fitL w [(27, 0), (26, 0), (25, 0), (24, 1), (23, 0), (21, 0), (20, 0), (11, 0), (10, 0), (9, 0), (8, 0), (7, 1), (6, 0), (5, 0), (4, 1)] := by kernel_rfl
theorem fl_2_65 (w : Int) : fld pt2 w 65 = hv [] 0 := by kernel_rfl
theorem fl_2_66 (w : Int) : fld pt2 w 66 = hv [bitW w 22] 0 := by kernel_rfl
theorem fl_2_70 (w : Int) : fld pt2 w 70 = hv [] 0 := by kernel_rfl
theorem fl_2_73 (w : Int) : fld pt2 w 73 = hv [] 0 := by kernel_rfl
theorem fl_2_75 (w : Int) : fld pt2 w 75 = hv [] 0 := by kernel_rfl
theorem fl_2_76 (w : Int) : fld pt2 w 76 = hv [] 0 := by kernel_rfl
theorem fl_2_80 (w : Int) : fld pt2 w 80 = hv [] 0 := by kernel_rfl
theorem fl_2_81 (w : Int) : fld pt2 w 81 = hv [] 0 := by kernel_rfl
theorem fl_2_83 (w : Int) : fld pt2 w 83 = hv [] 0 := by kernel_rfl
theorem fl_2_85 (w : Int) : fld pt2 w 85 = hv [] 0 := by kernel_rfl
theorem fl_2_97 (w : Int) : fld pt2 w 97 = hv [] 0 := by kernel_rfl
theorem fl_2_99 (w : Int) : fld pt2 w 99 = hv [bitW w 31, bitW w 30, bitW w 29, bitW w 28] 0 := by kernel_rfl
theorem fl_2_100 (w : Int) : fld pt2 w 100 = hv [bitW w 15, bitW w 14, bitW w 13, bitW w 12] 0 := by kernel_rfl
theorem fl_2_108 (w : Int) : fld pt2 w 108 = hv [] 0 := by kernel_rfl
theorem fl_2_109 (w : Int) : fld pt2 w 109 = hv [bitW w 3, bitW w 2, bitW w 1, bitW w 0] 0 := by kernel_rfl
theorem fl_2_110 (w : Int) : fld pt2 w 110 = hv [bitW w 19, bitW w 18, bitW w 17, bitW w 16] 0 := by kernel_rfl
theorem fl_2_115 (w : Int) : fld pt2 w 115 = hv [] 0 := by kernel_rfl
theorem fl_2_116 (w : Int) : fld pt2 w 116 = hv [] 0 := by kernel_rfl
theorem sz_3 : szOK pt3 = true := by kernel_rfl
theorem ft_3 (w : Int) : fits pt3 w = fitL w [(27, 0), (26, 0), (25, 0), (22, 0), (20, 1), (7, 1), (4, 1)] := by kernel_rfl
theorem fl_3_65 (w : Int) : fld pt3 w 65 = hv [] 0 := by kernel_rfl
theorem fl_3_66 (w : Int) : fld pt3 w 66 = hv [] 0 := by kernel_rfl
theorem fl_3_70 (w : Int) : fld pt3 w 70 = hv [] 0 := by kernel_rfl
theorem fl_3_72 (w : Int) : fld pt3 w 72 = hv [bitW w 6, bitW w 5] 0 := by kernel_rfl
theorem fl_3_73 (w : Int) : fld pt3 w 73 = hv [] 0 := by kernel_rfl
theorem fl_3_75 (w : Int) : fld pt3 w 75 = hv [] 0 := by kernel_rfl
theorem fl_3_80 (w : Int) : fld pt3 w 80 = hv [bitW w 24] 0 := by kernel_rfl
theorem fl_3_81 (w : Int) : fld pt3 w 81 = hv [] 0 := by kernel_rfl
theorem fl_3_83 (w : Int) : fld pt3 w 83 = hv [] 0 := by kernel_rfl
theorem fl_3_85 (w : Int) : fld pt3 w 85 = hv [bitW w 23] 0 := by kernel_rfl
theorem fl_3_87 (w : Int) : fld pt3 w 87 = hv [bitW w 21] 0 := by kernel_rfl
theorem fl_3_97 (w : Int) : fld pt3 w 97 = hv [] 0 := by kernel_rfl
theorem fl_3_99 (w : Int) : fld pt3 w 99 = hv [bitW w 31, bitW w 30, bitW w 29, bitW w 28] 0 := by kernel_rfl
theorem fl_3_100 (w : Int) : fld pt3 w 100 = hv [bitW w 15, bitW w 14, bitW w 13, bitW w 12] 0 := by kernel_rfl
theorem fl_3_108 (w : Int) : fld pt3 w 108 = hv [] 0 := by kernel_rfl
theorem fl_3_109 (w : Int) : fld pt3 w 109 = hv [bitW w 3, bitW w 2, bitW w 1, bitW w 0] 0 := by kernel_rfl
theorem fl_3_110 (w : Int) : fld pt3 w 110 = hv [bitW w 19, bitW w 18, bitW w 17, bitW w 16] 0 := by kernel_rfl
theorem fl_3_115 (w : Int) : fld pt3 w 115 = hv [] 0 := by kernel_rfl
theorem fl_3_116 (w : Int) : fld pt3 w 116 = hv [] 0 := by kernel_rfl
theorem sz_4 : szOK pt4 = true := by kernel_rfl
theorem ft_4 (w : Int) : fits pt4 w = fitL w [(27, 0), (26, 0), (25, 0), (22, 0), (20, 0), (7, 1), (6, 0), (5, 1), (4, 1)] := by kernel_rfl
theorem fl_4_65 (w : Int) : fld pt4 w 65 = hv [] 0 := by kernel_rfl
theorem fl_4_66 (w : Int) : fld pt4 w 66 = hv [] 0 := by kernel_rfl
theorem fl_4_70 (w : Int) : fld pt4 w 70 = hv [] 0 := by kernel_rfl
theorem fl_4_73 (w : Int) : fld pt4 w 73 = hv [] 0 := by kernel_rfl
theorem fl_4_75 (w : Int) : fld pt4 w 75 = hv [] 0 := by kernel_rfl
theorem fl_4_80 (w : Int) : fld pt4 w 80 = hv [bitW w 24] 0 := by kernel_rfl
theorem fl_4_81 (w : Int) : fld pt4 w 81 = hv [] 0 := by kernel_rfl
theorem fl_4_83 (w : Int) : fld pt4 w 83 = hv [] 0 := by kernel_rfl
theorem fl_4_85 (w : Int) : fld pt4 w 85 = hv [bitW w 23] 0 := by kernel_rfl
theorem fl_4_87 (w : Int) : fld pt4 w 87 = hv [bitW w 21] 0 := by kernel_rfl
theorem fl_4_97 (w : Int) : fld pt4 w 97 = hv [] 0 := by kernel_rfl
theorem fl_4_99 (w : Int) : fld pt4 w 99 = hv [bitW w 31, bitW w 30, bitW w 29, bitW w 28] 0 := by kernel_rfl
theorem fl_4_100 (w : Int) : fld pt4 w 100 = hv [bitW w 15, bitW w 14, bitW w 13, bitW w 12] 0 := by kernel_rfl
theorem fl_4_108 (w : Int) : fld pt4 w 108 = hv [] 0 := by kernel_rfl
theorem fl_4_109 (w : Int) : fld pt4 w 109 = hv [bitW w 3, bitW w 2, bitW w 1, bitW w 0] 0 := by kernel_rfl
theorem fl_4_110 (w : Int) : fld pt4 w 110 = hv [bitW w 19, bitW w 18, bitW w 17, bitW w 16] 0 := by kernel_rfl
theorem fl_4_115 (w : Int) : fld pt4 w 115 = hv [] 0 := by kernel_rfl
theorem fl_4_116 (w : Int) : fld pt4 w 116 = hv [] 0 := by kernel_rfl
theorem sz_5 : szOK pt5 = true := by kernel_rfl
theorem ft_5 (w : Int) : fits pt5 w = fitL w [(27, 0), (26, 0), (25, 0), (22, 1), (20, 1), (7, 1), (4, 1)] := by kernel_rfl
theorem fl_5_65 (w : Int) : fld pt5 w 65 = hv [] 0 := by kernel_rfl
theorem fl_5_66 (w : Int) : fld pt5 w 66 = hv [] 0 := by kernel_rfl
theorem fl_5_70 (w : Int) : fld pt5 w 70 = hv [] 0 := by kernel_rfl
theorem fl_5_72 (w : Int) : fld pt5 w 72 = hv [bitW w 6, bitW w 5] 0 := by kernel_rfl
theorem fl_5_73 (w : Int) : fld pt5 w 73 = hv [bitW w 11, bitW w 10, bitW w 9, bitW w 8, bitW w 3, bitW w 2, bitW w 1, bitW w 0] 0 := by kernel_rfl
theorem fl_5_75 (w : Int) : fld pt5 w 75 = hv [] 0 := by kernel_rfl
theorem fl_5_80 (w : Int) : fld pt5 w 80 = hv [bitW w 24] 0 := by kernel_rfl
theorem fl_5_81 (w : Int) : fld pt5 w 81 = hv [] 0 := by kernel_rfl
theorem fl_5_83 (w : Int) : fld pt5 w 83 = hv [] 0 := by kernel_rfl
theorem fl_5_85 (w : Int) : fld pt5 w 85 = hv [bitW w 23] 0 := by kernel_rfl
theorem fl_5_87 (w : Int) : fld pt5 w 87 = hv [bitW w 21] 0 := by kernel_rfl
theorem fl_5_97 (w : Int) : fld pt5 w 97 = hv [] 0 := by kernel_rfl
theorem fl_5_99 (w : Int) : fld pt5 w 99 = hv [bitW w 31, bitW w 30, bitW w 29, bitW w 28] 0 := by kernel_rfl
theorem fl_5_100 (w : Int) : fld pt5 w 100 = hv [bitW w 15, bitW w 14, bitW w 13, bitW w 12] 0 := by kernel_rfl
theorem fl_5_108 (w : Int) : fld pt5 w 108 = hv [] 0 := by kernel_rfl
theorem fl_5_109 (w : Int) : fld pt5 w 109 = hv [] 0 := by kernel_rfl
theorem fl_5_110 (w : Int) : fld pt5 w 110 = hv [bitW w 19, bitW w 18, bitW w 17, bitW w 16] 0 := by kernel_rfl
theorem fl_5_115 (w : Int) : fld pt5 w 115 = hv [] 0 := by kernel_rfl
theorem fl_5_116 (w : Int) : fld pt5 w 116 = hv [] 0 := by kernel_rfl
theorem sz_6 : szOK pt6 = true := by kernel_rfl
theorem ft_6 (w : Int) : fits pt6 w = fitL w [(27, 0), (26, 0), (25, 0), (22, 1), (20, 0), (7, 1), (6, 0), (5, 1), (4, 1)] := by kernel_rfl
theorem fl_6_65 (w : Int) : fld pt6 w 65 = hv [] 0 := by kernel_rfl
theorem fl_6_66 (w : Int) : fld pt6 w 66 = hv [] 0 := by kernel_rfl
theorem fl_6_70 (w : Int) : fld pt6 w 70 = hv [] 0 := by kernel_rfl
theorem fl_6_73 (w : Int) : fld pt6 w 73 = hv [bitW w 11, bitW w 10, bitW w 9, bitW w 8, bitW w 3, bitW w 2, bitW w 1, bitW w 0] 0 := by kernel_rfl
theorem fl_6_75 (w : Int) : fld pt6 w 75 = hv [] 0 := by kernel_rfl
theorem fl_6_80 (w : Int) : fld pt6 w 80 = hv [bitW w 24] 0 := by kernel_rfl
theorem fl_6_81 (w : Int) : fld pt6 w 81 = hv [] 0 := by kernel_rfl
theorem fl_6_83 (w : Int) : fld pt6 w 83 = hv [] 0 := by kernel_rfl
theorem fl_6_85 (w : Int) : fld pt6 w 85 = hv [bitW w 23] 0 := by kernel_rfl
theorem fl_6_87 (w : Int) : fld pt6 w 87 = hv [bitW w 21] 0 := by kernel_rfl
theorem fl_6_97 (w : Int) : fld pt6 w 97 = hv [] 0 := by kernel_rfl
theorem fl_6_99 (w : Int) : fld pt6 w 99 = hv [bitW w 31, bitW w 30, bitW w 29, bitW w 28] 0 := by kernel_rfl
theorem fl_6_100 (w : Int) : fld pt6 w 100 = hv [bitW w 15, bitW w 14, bitW w 13, bitW w 12] 0 := by kernel_rfl
theorem fl_6_108 (w : Int) : fld pt6 w 108 = hv [] 0 := by kernel_rfl
theorem fl_6_109 (w : Int) : fld pt6 w 109 = hv [] 0 := by kernel_rfl
theorem fl_6_110 (w : Int) : fld pt6 w 110 = hv [bitW w 19, bitW w 18, bitW w 17, bitW w 16] 0 := by kernel_rfl
theorem fl_6_115 (w : Int) : fld pt6 w 115 = hv [] 0 := by kernel_rfl
theorem fl_6_116 (w : Int) : fld pt6 w 116 = hv [] 0 := by kernel_rfl
theorem sz_7 : szOK pt7 = true := by kernel_rfl
theorem ft_7 (w : Int) : fits pt7 w = fitL w [(27, 0), (26, 0), (25, 0), (24, 1), (23, 0), (22, 0), (21, 1), (20, 0), (19, 1), (18, 1), (17, 1), (16, 1), (15, 1), (14, 1), (13, 1), (12, 1), (11, 1), (10, 1), (9, 1), (8, 1), (7, 0), (6, 0), (5, 0), (4, 1)] := by kernel_rfl
theorem fl_7_65 (w : Int) : fld pt7 w 65 = hv [] 0 := by kernel_rfl
theorem fl_7_66 (w : Int) : fld pt7 w 66 = hv [] 0 := by kernel_rfl
theorem fl_7_70 (w : Int) : fld pt7 w 70 = hv [] 0 := by kernel_rfl
theorem fl_7_73 (w : Int) : fld pt7 w 73 = hv [] 0 := by kernel_rfl
theorem fl_7_75 (w : Int) : fld pt7 w 75 = hv [] 0 := by kernel_rfl
theorem fl_7_76 (w : Int) : fld pt7 w 76 = hv [] 0 := by kernel_rfl
theorem fl_7_80 (w : Int) : fld pt7 w 80 = hv [] 0 := by kernel_rfl
theorem fl_7_81 (w : Int) : fld pt7 w 81 = hv [] 0 := by kernel_rfl
theorem fl_7_83 (w : Int) : fld pt7 w 83 = hv [] 0 := by kernel_rfl
theorem fl_7_85 (w : Int) : fld pt7 w 85 = hv [] 0 := by kernel_rfl
theorem fl_7_97 (w : Int) : fld pt7 w 97 = hv [] 0 := by kernel_rfl
theorem fl_7_99 (w : Int) : fld pt7 w 99 = hv [bitW w 31, bitW w 30, bitW w 29, bitW w 28] 0 := by kernel_rfl
theorem fl_7_100 (w : Int) : fld pt7 w 100 = hv [] 0 := by kernel_rfl
theorem fl_7_108 (w : Int) : fld pt7 w 108 = hv [] 0 := by kernel_rfl
theorem fl_7_109 (w : Int) : fld pt7 w 109 = hv [bitW w 3, bitW w 2, bitW w 1, bitW w 0] 0 := by kernel_rfl
theorem fl_7_110 (w : Int) : fld pt7 w 110 = hv [] 0 := by kernel_rfl
theorem fl_7_115 (w : Int) : fld pt7 w 115 = hv [] 0 := by kernel_rfl
theorem fl_7_116 (w : Int) : fld pt7 w 116 = hv [] 0 := by kernel_rfl
theorem sz_8 : szOK pt8 = true := by kernel_rfl
theorem ft_8 (w : Int) : fits pt8 w = fitL w [(27, 0), (26, 0), (25, 0), (24, 1), (23, 0), (21, 0), (20, 0), (19, 1), (18, 1), (17, 1), (16, 1), (11, 0), (10, 0), (9, 0), (8, 0), (7, 0), (6, 0), (5, 0), (4, 0), (3, 0), (2, 0), (1, 0), (0, 0)] := by kernel_rfl
theorem fl_8_65 (w : Int) : fld pt8 w 65 = hv [] 0 := by kernel_rfl
theorem fl_8_66 (w : Int) : fld pt8 w 66 = hv [] 0 := by kernel_rfl
theorem fl_8_70 (w : Int) : fld pt8 w 70 = hv [] 0 := by kernel_rfl
theorem fl_8_73 (w : Int) : fld pt8 w 73 = hv [] 0 := by kernel_rfl
theorem fl_8_75 (w : Int) : fld pt8 w 75 = hv [] 0 := by kernel_rfl
theorem fl_8_76 (w : Int) : fld pt8 w 76 = hv [] 0 := by kernel_rfl
theorem fl_8_80 (w : Int) : fld pt8 w 80 = hv [] 0 := by kernel_rfl
theorem fl_8_81 (w : Int) : fld pt8 w 81 = hv [bitW w 22] 0 := by kernel_rfl
theorem fl_8_83 (w : Int) : fld pt8 w 83 = hv [] 0 := by kernel_rfl
theorem fl_8_85 (w : Int) : fld pt8 w 85 = hv [] 0 := by kernel_rfl
theorem fl_8_97 (w : Int) : fld pt8 w 97 = hv [] 0 := by kernel_rfl
theorem fl_8_99 (w : Int) : fld pt8 w 99 = hv [bitW w 31, bitW w 30, bitW w 29, bitW w 28] 0 := by kernel_rfl
theorem fl_8_100 (w : Int) : fld pt8 w 100 = hv [bitW w 15, bitW w 14, bitW w 13, bitW w 12] 0 := by kernel_rfl
theorem fl_8_108 (w : Int) : fld pt8 w 108 = hv [] 0 := by kernel_rfl
theorem fl_8_109 (w : Int) : fld pt8 w 109 = hv [] 0 := by kernel_rfl
theorem fl_8_110 (w : Int) : fld pt8 w 110 = hv [] 0 := by kernel_rfl
theorem fl_8_115 (w : Int) : fld pt8 w 115 = hv [] 0 := by kernel_rfl
theorem fl_8_116 (w : Int) : fld pt8 w 116 = hv [] 0 := by kernel_rfl
theorem sz_9 : szOK pt9 = true := by kernel_rfl
theorem ft_9 (w : Int) : fits pt9 w = fitL w [(27, 0), (26, 0), (25, 0), (24, 1), (23, 0), (21, 1), (20, 0), (15, 1), (14, 1), (13, 1), (12, 1), (11, 0), (10, 0), (9, 0), (8, 0), (7, 0), (6, 0), (5, 0), (4, 0)] := by kernel_rfl
theorem fl_9_65 (w : Int) : fld pt9 w 65 = hv [] 0 := by kernel_rfl
theorem fl_9_66 (w : Int) : fld pt9 w 66 = hv [] 0 := by kernel_rfl
theorem fl_9_70 (w : Int) : fld pt9 w 70 = hv [] 0 := by kernel_rfl
theorem fl_9_73 (w : Int) : fld pt9 w 73 = hv [] 0 := by kernel_rfl
theorem fl_9_75 (w : Int) : fld pt9 w 75 = hv [] 0 := by kernel_rfl
theorem fl_9_76 (w : Int) : fld pt9 w 76 = hv [] 0 := by kernel_rfl
theorem fl_9_80 (w : Int) : fld pt9 w 80 = hv [] 0 := by kernel_rfl
theorem fl_9_81 (w : Int) : fld pt9 w 81 = hv [bitW w 22] 0 := by kernel_rfl
theorem fl_9_83 (w : Int) : fld pt9 w 83 = hv [] 0 := by kernel_rfl
theorem fl_9_85 (w : Int) : fld pt9 w 85 = hv [] 0 := by kernel_rfl
theorem fl_9_97 (w : Int) : fld pt9 w 97 = hv [] 0 := by kernel_rfl
theorem fl_9_99 (w : Int) : fld pt9 w 99 = hv [bitW w 31, bitW w 30, bitW w 29, bitW w 28] 0 := by kernel_rfl
theorem fl_9_100 (w : Int) : fld pt9 w 100 = hv [] 0 := by kernel_rfl
theorem fl_9_108 (w : Int) : fld pt9 w 108 = hv [bitW w 19, bitW w 18, bitW w 17, bitW w 16] 0 := by kernel_rfl
theorem fl_9_109 (w : Int) : fld pt9 w 109 = hv [bitW w 3, bitW w 2, bitW w 1, bitW w 0] 0 := by kernel_rfl
theorem fl_9_110 (w : Int) : fld pt9 w 110 = hv [] 0 := by kernel_rfl
theorem fl_9_115 (w : Int) : fld pt9 w 115 = hv [] 0 := by kernel_rfl
theorem fl_9_116 (w : Int) : fld pt9 w 116 = hv [] 0 := by kernel_rfl
theorem sz_10 : szOK pt10 = true := by kernel_rfl
theorem ft_10 (w : Int) : fits pt10 w = fitL w [(27, 0), (26, 0), (25, 1), (24, 1), (23, 0), (21, 1), (20, 0), (15, 1), (14, 1), (13, 1), (12, 1)] := by kernel_rfl
theorem fl_10_65 (w : Int) : fld pt10 w 65 = hv [] 0 := by kernel_rfl
theorem fl_10_66 (w : Int) : fld pt10 w 66 = hv [] 0 := by kernel_rfl
theorem fl_10_70 (w : Int) : fld pt10 w 70 = hv [] 0 := by kernel_rfl
theorem fl_10_73 (w : Int) : fld pt10 w 73 = hv [bitW w 7, bitW w 6, bitW w 5, bitW w 4, bitW w 3, bitW w 2, bitW w 1, bitW w 0] 0 := by kernel_rfl
theorem fl_10_75 (w : Int) : fld pt10 w 75 = hv [] 0 := by kernel_rfl
theorem fl_10_76 (w : Int) : fld pt10 w 76 = hv [] 0 := by kernel_rfl
theorem fl_10_80 (w : Int) : fld pt10 w 80 = hv [] 0 := by kernel_rfl
theorem fl_10_81 (w : Int) : fld pt10 w 81 = hv [bitW w 22] 0 := by kernel_rfl
theorem fl_10_83 (w : Int) : fld pt10 w 83 = hv [] 0 := by kernel_rfl
theorem fl_10_85 (w : Int) : fld pt10 w 85 = hv [] 0 := by kernel_rfl
theorem fl_10_97 (w : Int) : fld pt10 w 97 = hv [bitW w 11, bitW w 10, bitW w 9, bitW w 8] 0 := by kernel_rfl
theorem fl_10_99 (w : Int) : fld pt10 w 99 = hv [bitW w 31, bitW w 30, bitW w 29, bitW w 28] 0 := by kernel_rfl
theorem fl_10_100 (w : Int) : fld pt10 w 100 = hv [] 0 := by kernel_rfl
theorem fl_10_108 (w : Int) : fld pt10 w 108 = hv [bitW w 19, bitW w 18, bitW w 17, bitW w 16] 0 := by kernel_rfl
theorem fl_10_109 (w : Int) : fld pt10 w 109 = hv [] 0 := by kernel_rfl
theorem fl_10_110 (w : Int) : fld pt10 w 110 = hv [] 0 := by kernel_rfl
theorem fl_10_115 (w : Int) : fld pt10 w 115 = hv [] 0 := by kernel_rfl
theorem fl_10_116 (w : Int) : fld pt10 w 116 = hv [] 0 := by kernel_rfl
theorem sz_11 : szOK pt11 = true := by kernel_rfl
theorem ft_11 (w : Int) : fits pt11 w = fitL w [(27, 0), (26, 0), (25, 0), (4, 0)] := by kernel_rfl
theorem fl_11_65 (w : Int) : fld pt11 w 65 = hv [] 0 := by kernel_rfl
theorem fl_11_66 (w : Int) : fld pt11 w 66 = hv [] 0 := by kernel_rfl
theorem fl_11_70 (w : Int) : fld pt11 w 70 = hv [bitW w 20] 0 := by kernel_rfl
theorem fl_11_73 (w : Int) : fld pt11 w 73 = hv [] 0 := by kernel_rfl
theorem fl_11_75 (w : Int) : fld pt11 w 75 = hv [] 0 := by kernel_rfl
theorem fl_11_76 (w : Int) : fld pt11 w 76 = hv [] 0 := by kernel_rfl
theorem fl_11_80 (w : Int) : fld pt11 w 80 = hv [] 0 := by kernel_rfl
theorem fl_11_81 (w : Int) : fld pt11 w 81 = hv [] 0 := by kernel_rfl
theorem fl_11_83 (w : Int) : fld pt11 w 83 = hv [] 0 := by kernel_rfl
theorem fl_11_85 (w : Int) : fld pt11 w 85 = hv [] 0 := by kernel_rfl
theorem fl_11_97 (w : Int) : fld pt11 w 97 = hv [bitW w 11, bitW w 10, bitW w 9, bitW w 8, bitW w 7] 0 := by kernel_rfl
theorem fl_11_99 (w : Int) : fld pt11 w 99 = hv [bitW w 31, bitW w 30, bitW w 29, bitW w 28] 0 := by kernel_rfl
theorem fl_11_100 (w : Int) : fld pt11 w 100 = hv [bitW w 15, bitW w 14, bitW w 13, bitW w 12] 0 := by kernel_rfl
theorem fl_11_108 (w : Int) : fld pt11 w 108 = hv [] 0 := by kernel_rfl
theorem fl_11_109 (w : Int) : fld pt11 w 109 = hv [bitW w 3, bitW w 2, bitW w 1, bitW w 0] 0 := by kernel_rfl
theorem fl_11_110 (w : Int) : fld pt11 w 110 = hv [bitW w 19, bitW w 18, bitW w 17, bitW w 16] 0 := by kernel_rfl
theorem fl_11_111 (w : Int) : fld pt11 w 111 = hv [bitW w 24, bitW w 23, bitW w 22, bitW w 21] 0 := by kernel_rfl
theorem fl_11_115 (w : Int) : fld pt11 w 115 = hv [] 0 := by kernel_rfl
theorem fl_11_116 (w : Int) : fld pt11 w 116 = hv [bitW w 6, bitW w 5] 0 := by kernel_rfl
theorem sz_12 : szOK pt12 = true := by kernel_rfl
theorem ft_12 (w : Int) : fits pt12 w = fitL w [(27, 0), (26, 0), (25, 0), (7, 0), (4, 1)] := by kernel_rfl
theorem fl_12_65 (w : Int) : fld pt12 w 65 = hv [] 0 := by kernel_rfl
theorem fl_12_66 (w : Int) : fld pt12 w 66 = hv [] 0 := by kernel_rfl
theorem fl_12_70 (w : Int) : fld pt12 w 70 = hv [bitW w 20] 0 := by kernel_rfl
theorem fl_12_73 (w : Int) : fld pt12 w 73 = hv [] 0 := by kernel_rfl
theorem fl_12_75 (w : Int) : fld pt12 w 75 = hv [] 0 := by kernel_rfl
theorem fl_12_76 (w : Int) : fld pt12 w 76 = hv [] 0 := by kernel_rfl
theorem fl_12_80 (w : Int) : fld pt12 w 80 = hv [] 0 := by kernel_rfl
theorem fl_12_81 (w : Int) : fld pt12 w 81 = hv [] 0 := by kernel_rfl
theorem fl_12_83 (w : Int) : fld pt12 w 83 = hv [] 0 := by kernel_rfl
theorem fl_12_85 (w : Int) : fld pt12 w 85 = hv [] 0 := by kernel_rfl
theorem fl_12_97 (w : Int) : fld pt12 w 97 = hv [] 0 := by kernel_rfl
theorem fl_12_99 (w : Int) : fld pt12 w 99 = hv [bitW w 31, bitW w 30, bitW w 29, bitW w 28] 0 := by kernel_rfl
theorem fl_12_100 (w : Int) : fld pt12 w 100 = hv [bitW w 15, bitW w 14, bitW w 13, bitW w 12] 0 := by kernel_rfl
theorem fl_12_108 (w : Int) : fld pt12 w 108 = hv [] 0 := by kernel_rfl
theorem fl_12_109 (w : Int) : fld pt12 w 109 = hv [bitW w 3, bitW w 2, bitW w 1, bitW w 0] 0 := by kernel_rfl
theorem fl_12_110 (w : Int) : fld pt12 w 110 = hv [bitW w 19, bitW w 18, bitW w 17, bitW w 16] 0 := by kernel_rfl
theorem fl_12_111 (w : Int) : fld pt12 w 111 = hv [bitW w 24, bitW w 23, bitW w 22, bitW w 21] 0 := by kernel_rfl
theorem fl_12_115 (w : Int) : fld pt12 w 115 = hv [bitW w 11, bitW w 10, bitW w 9, bitW w 8] 0 := by kernel_rfl
theorem fl_12_116 (w : Int) : fld pt12 w 116 = hv [bitW w 6, bitW w 5] 0 := by kernel_rfl
theorem sz_13 : szOK pt13 = true := by kernel_rfl
theorem ft_13 (w : Int) : fits pt13 w = fitL w [(27, 0), (26, 0), (25, 1)] := by kernel_rfl
theorem fl_13_65 (w : Int) : fld pt13 w 65 = hv [] 0 := by kernel_rfl
theorem fl_13_66 (w : Int) : fld pt13 w 66 = hv [] 0 := by kernel_rfl
theorem fl_13_70 (w : Int) : fld pt13 w 70 = hv [bitW w 20] 0 := by kernel_rfl
theorem fl_13_73 (w : Int) : fld pt13 w 73 = hv [bitW w 7, bitW w 6, bitW w 5, bitW w 4, bitW w 3, bitW w 2, bitW w 1, bitW w 0] 0 := by kernel_rfl
theorem fl_13_75 (w : Int) : fld pt13 w 75 = hv [] 0 := by kernel_rfl
theorem fl_13_76 (w : Int) : fld pt13 w 76 = hv [] 0 := by kernel_rfl
theorem fl_13_80 (w : Int) : fld pt13 w 80 = hv [] 0 := by kernel_rfl
theorem fl_13_81 (w : Int) : fld pt13 w 81 = hv [] 0 := by kernel_rfl
theorem fl_13_83 (w : Int) : fld pt13 w 83 = hv [] 0 := by kernel_rfl
theorem fl_13_85 (w : Int) : fld pt13 w 85 = hv [] 0 := by kernel_rfl
theorem fl_13_97 (w : Int) : fld pt13 w 97 = hv [bitW w 11, bitW w 10, bitW w 9, bitW w 8] 0 := by kernel_rfl
theorem fl_13_99 (w : Int) : fld pt13 w 99 = hv [bitW w 31, bitW w 30, bitW w 29, bitW w 28] 0 := by kernel_rfl
theorem fl_13_100 (w : Int) : fld pt13 w 100 = hv [bitW w 15, bitW w 14, bitW w 13, bitW w 12] 0 := by kernel_rfl
theorem fl_13_108 (w : Int) : fld pt13 w 108 = hv [] 0 := by kernel_rfl
theorem fl_13_109 (w : Int) : fld pt13 w 109 = hv [] 0 := by kernel_rfl
theorem fl_13_110 (w : Int) : fld pt13 w 110 = hv [bitW w 19, bitW w 18, bitW w 17, bitW w 16] 0 := by kernel_rfl
theorem fl_13_111 (w : Int) : fld pt13 w 111 = hv [bitW w 24, bitW w 23, bitW w 22, bitW w 21] 0 := by kernel_rfl
theorem fl_13_115 (w : Int) : fld pt13 w 115 = hv [] 0 := by kernel_rfl
theorem fl_13_116 (w : Int) : fld pt13 w 116 = hv [] 0 := by kernel_rfl
theorem sz_14 : szOK pt14 = true := by kernel_rfl
theorem ft_14 (w : Int) : fits pt14 w = fitL w [(27, 0), (26, 1), (25, 0)] := by kernel_rfl
theorem fl_14_65 (w : Int) : fld pt14 w 65 = hv [] 0 := by kernel_rfl
theorem fl_14_66 (w : Int) : fld pt14 w 66 = hv [bitW w 22] 0 := by kernel_rfl
theorem fl_14_70 (w : Int) : fld pt14 w 70 = hv [] 0 := by kernel_rfl
theorem fl_14_73 (w : Int) : fld pt14 w 73 = hv [bitW w 11, bitW w 10, bitW w 9, bitW w 8, bitW w 7, bitW w 6, bitW w 5, bitW w 4, bitW w 3, bitW w 2, bitW w 1, bitW w 0] 0 := by kernel_rfl
theorem fl_14_75 (w : Int) : fld pt14 w 75 = hv [] 0 := by kernel_rfl
theorem fl_14_76 (w : Int) : fld pt14 w 76 = hv [bitW w 20] 0 := by kernel_rfl
theorem fl_14_80 (w : Int) : fld pt14 w 80 = hv [bitW w 24] 0 := by kernel_rfl
theorem fl_14_81 (w : Int) : fld pt14 w 81 = hv [] 0 := by kernel_rfl
theorem fl_14_83 (w : Int) : fld pt14 w 83 = hv [] 0 := by kernel_rfl
theorem fl_14_85 (w : Int) : fld pt14 w 85 = hv [bitW w 23] 0 := by kernel_rfl
theorem fl_14_87 (w : Int) : fld pt14 w 87 = hv [bitW w 21] 0 := by kernel_rfl
theorem fl_14_97 (w : Int) : fld pt14 w 97 = hv [] 0 := by kernel_rfl
theorem fl_14_99 (w : Int) : fld pt14 w 99 = hv [bitW w 31, bitW w 30, bitW w 29, bitW w 28] 0 := by kernel_rfl
theorem fl_14_100 (w : Int) : fld pt14 w 100 = hv [bitW w 15, bitW w 14, bitW w 13, bitW w 12] 0 := by kernel_rfl
theorem fl_14_108 (w : Int) : fld pt14 w 108 = hv [] 0 := by kernel_rfl
theorem fl_14_109 (w : Int) : fld pt14 w 109 = hv [] 0 := by kernel_rfl
theorem fl_14_110 (w : Int) : fld pt14 w 110 = hv [bitW w 19, bitW w 18, bitW w 17, bitW w 16] 0 := by kernel_rfl
theorem fl_14_115 (w : Int) : fld pt14 w 115 = hv [] 0 := by kernel_rfl
theorem fl_14_116 (w : Int) : fld pt14 w 116 = hv [] 0 := by kernel_rfl
theorem sz_15 : szOK pt15 = true := by kernel_rfl
theorem ft_15 (w : Int) : fits pt15 w = fitL w [(27, 0), (26, 1), (25, 1), (4, 0)] := by kernel_rfl
theorem fl_15_65 (w : Int) : fld pt15 w 65 = hv [] 0 := by kernel_rfl
theorem fl_15_66 (w : Int) : fld pt15 w 66 = hv [bitW w 22] 0 := by kernel_rfl
theorem fl_15_70 (w : Int) : fld pt15 w 70 = hv [] 0 := by kernel_rfl
theorem fl_15_73 (w : Int) : fld pt15 w 73 = hv [] 0 := by kernel_rfl
theorem fl_15_75 (w : Int) : fld pt15 w 75 = hv [] 0 := by kernel_rfl
theorem fl_15_76 (w : Int) : fld pt15 w 76 = hv [bitW w 20] 0 := by kernel_rfl
theorem fl_15_80 (w : Int) : fld pt15 w 80 = hv [bitW w 24] 0 := by kernel_rfl
theorem fl_15_81 (w : Int) : fld pt15 w 81 = hv [] 0 := by kernel_rfl
theorem fl_15_83 (w : Int) : fld pt15 w 83 = hv [] 0 := by kernel_rfl
theorem fl_15_85 (w : Int) : fld pt15 w 85 = hv [bitW w 23] 0 := by kernel_rfl
theorem fl_15_87 (w : Int) : fld pt15 w 87 = hv [bitW w 21] 0 := by kernel_rfl
theorem fl_15_97 (w : Int) : fld pt15 w 97 = hv [bitW w 11, bitW w 10, bitW w 9, bitW w 8, bitW w 7] 0 := by kernel_rfl
theorem fl_15_99 (w : Int) : fld pt15 w 99 = hv [bitW w 31, bitW w 30, bitW w 29, bitW w 28] 0 := by kernel_rfl
theorem fl_15_100 (w : Int) : fld pt15 w 100 = hv [bitW w 15, bitW w 14, bitW w 13, bitW w 12] 0 := by kernel_rfl
theorem fl_15_108 (w : Int) : fld pt15 w 108 = hv [] 0 := by kernel_rfl
theorem fl_15_109 (w : Int) : fld pt15 w 109 = hv [bitW w 3, bitW w 2, bitW w 1, bitW w 0] 0 := by kernel_rfl
theorem fl_15_110 (w : Int) : fld pt15 w 110 = hv [bitW w 19, bitW w 18, bitW w 17, bitW w 16] 0 := by kernel_rfl
theorem fl_15_115 (w : Int) : fld pt15 w 115 = hv [] 0 := by kernel_rfl
theorem fl_15_116 (w : Int) : fld pt15 w 116 = hv [bitW w 6, bitW w 5] 0 := by kernel_rfl
theorem sz_16 : szOK pt16 = true := by kernel_rfl
theorem ft_16 (w : Int) : fits pt16 w = fitL w [(27, 1), (26, 0), (25, 0)] := by kernel_rfl
theorem fl_16_65 (w : Int) : fld pt16 w 65 = hv [] 0 := by kernel_rfl
theorem fl_16_66 (w : Int) : fld pt16 w 66 = hv [] 0 := by kernel_rfl
theorem fl_16_70 (w : Int) : fld pt16 w 70 = hv [] 0 := by kernel_rfl
theorem fl_16_73 (w : Int) : fld pt16 w 73 = hv [] 0 := by kernel_rfl
theorem fl_16_75 (w : Int) : fld pt16 w 75 = hv [] 0 := by kernel_rfl
theorem fl_16_76 (w : Int) : fld pt16 w 76 = hv [bitW w 20] 0 := by kernel_rfl
theorem fl_16_80 (w : Int) : fld pt16 w 80 = hv [bitW w 24] 0 := by kernel_rfl
theorem fl_16_81 (w : Int) : fld pt16 w 81 = hv [bitW w 22] 0 := by kernel_rfl
theorem fl_16_83 (w : Int) : fld pt16 w 83 = hv [] 0 := by kernel_rfl
theorem fl_16_85 (w : Int) : fld pt16 w 85 = hv [bitW w 23] 0 := by kernel_rfl
theorem fl_16_87 (w : Int) : fld pt16 w 87 = hv [bitW w 21] 0 := by kernel_rfl
theorem fl_16_97 (w : Int) : fld pt16 w 97 = hv [] 0 := by kernel_rfl
theorem fl_16_99 (w : Int) : fld pt16 w 99 = hv [bitW w 31, bitW w 30, bitW w 29, bitW w 28] 0 := by kernel_rfl
theorem fl_16_100 (w : Int) : fld pt16 w 100 = hv [] 0 := by kernel_rfl
theorem fl_16_108 (w : Int) : fld pt16 w 108 = hv [bitW w 15, bitW w 14, bitW w 13, bitW w 12, bitW w 11, bitW w 10, bitW w 9, bitW w 8, bitW w 7, bitW w 6, bitW w 5, bitW w 4, bitW w 3, bitW w 2, bitW w 1, bitW w 0] 0 := by kernel_rfl
theorem fl_16_109 (w : Int) : fld pt16 w 109 = hv [] 0 := by kernel_rfl
theorem fl_16_110 (w : Int) : fld pt16 w 110 = hv [bitW w 19, bitW w 18, bitW w 17, bitW w 16] 0 := by kernel_rfl
theorem fl_16_115 (w : Int) : fld pt16 w 115 = hv [] 0 := by kernel_rfl
theorem fl_16_116 (w : Int) : fld pt16 w 116 = hv [] 0 := by kernel_rfl
theorem sz_17 : szOK pt17 = true := by kernel_rfl
theorem ft_17 (w : Int) : fits pt17 w = fitL w [(27, 1), (26, 0), (25, 1)] := by kernel_rfl
theorem fl_17_65 (w : Int) : fld pt17 w 65 = hv [] 0 := by kernel_rfl
theorem fl_17_66 (w : Int) : fld pt17 w 66 = hv [] 0 := by kernel_rfl
theorem fl_17_70 (w : Int) : fld pt17 w 70 = hv [] 0 := by kernel_rfl
theorem fl_17_73 (w : Int) : fld pt17 w 73 = hv [bitW w 23, bitW w 22, bitW w 21, bitW w 20, bitW w 19, bitW w 18, bitW w 17, bitW w 16, bitW w 15, bitW w 14, bitW w 13, bitW w 12, bitW w 11, bitW w 10, bitW w 9, bitW w 8, bitW w 7, bitW w 6, bitW w 5, bitW w 4, bitW w 3, bitW w 2, bitW w 1, bitW w 0] 0 := by kernel_rfl
theorem fl_17_75 (w : Int) : fld pt17 w 75 = hv [bitW w 24] 0 := by kernel_rfl
theorem fl_17_76 (w : Int) : fld pt17 w 76 = hv [] 0 := by kernel_rfl
theorem fl_17_80 (w : Int) : fld pt17 w 80 = hv [] 0 := by kernel_rfl
theorem fl_17_81 (w : Int) : fld pt17 w 81 = hv [] 0 := by kernel_rfl
theorem fl_17_83 (w : Int) : fld pt17 w 83 = hv [] 0 := by kernel_rfl
theorem fl_17_85 (w : Int) : fld pt17 w 85 = hv [] 0 := by kernel_rfl
theorem fl_17_97 (w : Int) : fld pt17 w 97 = hv [] 0 := by kernel_rfl
theorem fl_17_99 (w : Int) : fld pt17 w 99 = hv [bitW w 31, bitW w 30, bitW w 29, bitW w 28] 0 := by kernel_rfl
theorem fl_17_100 (w : Int) : fld pt17 w 100 = hv [] 0 := by kernel_rfl
theorem fl_17_108 (w : Int) : fld pt17 w 108 = hv [] 0 := by kernel_rfl
theorem fl_17_109 (w : Int) : fld pt17 w 109 = hv [] 0 := by kernel_rfl
theorem fl_17_110 (w : Int) : fld pt17 w 110 = hv [] 0 := by kernel_rfl
theorem fl_17_115 (w : Int) : fld pt17 w 115 = hv [] 0 := by kernel_rfl
theorem fl_17_116 (w : Int) : fld pt17 w 116 = hv [] 0 := by kernel_rfl
theorem sz_18 : szOK pt18 = true := by kernel_rfl
theorem ft_18 (w : Int) : fits pt18 w = fitL w [(27, 1), (26, 1), (25, 1), (24, 1)] := by kernel_rfl
theorem fl_18_65 (w : Int) : fld pt18 w 65 = hv [] 0 := by kernel_rfl
theorem fl_18_66 (w : Int) : fld pt18 w 66 = hv [] 0 := by kernel_rfl
theorem fl_18_70 (w : Int) : fld pt18 w 70 = hv [] 0 := by kernel_rfl
theorem fl_18_73 (w : Int) : fld pt18 w 73 = hv [bitW w 23, bitW w 22, bitW w 21, bitW w 20, bitW w 19, bitW w 18, bitW w 17, bitW w 16] 0 := by kernel_rfl
theorem fl_18_75 (w : Int) : fld pt18 w 75 = hv [] 0 := by kernel_rfl
theorem fl_18_76 (w : Int) : fld pt18 w 76 = hv [] 0 := by kernel_rfl
theorem fl_18_80 (w : Int) : fld pt18 w 80 = hv [] 0 := by kernel_rfl
theorem fl_18_81 (w : Int) : fld pt18 w 81 = hv [] 0 := by kernel_rfl
theorem fl_18_83 (w : Int) : fld pt18 w 83 = hv [] 0 := by kernel_rfl
theorem fl_18_85 (w : Int) : fld pt18 w 85 = hv [] 0 := by kernel_rfl
theorem fl_18_97 (w : Int) : fld pt18 w 97 = hv [] 0 := by kernel_rfl
theorem fl_18_99 (w : Int) : fld pt18 w 99 = hv [bitW w 31, bitW w 30, bitW w 29, bitW w 28] 0 := by kernel_rfl
theorem fl_18_100 (w : Int) : fld pt18 w 100 = hv [] 0 := by kernel_rfl
theorem fl_18_108 (w : Int) : fld pt18 w 108 = hv [] 0 := by kernel_rfl
theorem fl_18_109 (w : Int) : fld pt18 w 109 = hv [] 0 := by kernel_rfl
theorem fl_18_110 (w : Int) : fld pt18 w 110 = hv [] 0 := by kernel_rfl
theorem fl_18_115 (w : Int) : fld pt18 w 115 = hv [] 0 := by kernel_rfl
theorem fl_18_116 (w : Int) : fld pt18 w 116 = hv [] 0 := by kernel_rfl
end Go.Proofs.Ytbnglhfhmhnimaa

