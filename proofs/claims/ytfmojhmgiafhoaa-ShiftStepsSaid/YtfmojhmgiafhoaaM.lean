import Derived.Test.YtfmojhmgiafhoaaEv
set_option linter.unusedVariables false
set_option linter.unusedSimpArgs false
namespace Go.Proofs.Ytfmojhmgiafhoaa.Sh
open Go Go.Proofs.Ytfmojhmgiafhoaa.Ev

/-! Shifts, place by place, and at once. -/
def one (k x : Nat) : Nat × Bool :=
  if k = 0 then (x * 2 % 4294967296, decide (2147483648 ≤ x))
  else if k = 1 then (x / 2, x % 2 == 1)
  else if k = 2 then (if 2147483648 ≤ x then x / 2 + 2147483648 else x / 2, x % 2 == 1)
  else (x / 2 + x % 2 * 2147483648, x % 2 == 1)
def it (k : Nat) : Nat → Nat → Bool → Nat × Bool
  | 0, x, c => (x, c)
  | n + 1, x, c => one k (it k n x c).1

theorem one_lt (k x : Nat) (h : x < 4294967296) : (one k x).1 < 4294967296 := by
  unfold one; split <;> (try split) <;> (try split) <;> (try split) <;> simp only [] <;> omega
theorem it_lt (k : Nat) (x : Nat) (c : Bool) (h : x < 4294967296) : ∀ n, (it k n x c).1 < 4294967296
  | 0 => h
  | n + 1 => one_lt k _ (it_lt k x c h n)

theorem it_left (x : Nat) (c : Bool) (h : x < 4294967296) : ∀ n, it 0 (n + 1) x c = (x * 2 ^ (n + 1) % 4294967296, decide (x * 2 ^ (n + 1) / 4294967296 % 2 = 1))
  | 0 => by
    refine Prod.ext ?_ ?_
    · simp [it, one]
    · show decide (2147483648 ≤ x) = _; rw [Bool.eq_iff_iff, decide_eq_true_iff, decide_eq_true_iff]; omega
  | n + 1 => by
    rw [it, it_left x c h n]
    simp only [one, if_true]
    rw [show x * 2 ^ (n + 1 + 1) = x * 2 ^ (n + 1) * 2 by rw [Nat.pow_succ 2 (n + 1), Nat.mul_assoc]]
    generalize x * 2 ^ (n + 1) = a
    congr 1
    · omega
    · rw [decide_eq_decide]; omega

theorem it_right (x : Nat) (c : Bool) : ∀ n, it 1 (n + 1) x c = (x / 2 ^ (n + 1), x / 2 ^ n % 2 == 1)
  | 0 => by simp [it, one]
  | n + 1 => by
    rw [it, it_right x c n]
    simp only [one]
    rw [show x / 2 ^ (n + 1 + 1) = x / 2 ^ (n + 1) / 2 by rw [Nat.pow_succ 2 (n + 1), ← Nat.div_div_eq_div_mul]]
    simp

/-- A word as a number with its sign. -/
def sg (x : Nat) : Int := if 2147483648 ≤ x then (x : Int) - 4294967296 else x
theorem sg_bd (x : Nat) (h : x < 4294967296) : -2147483648 ≤ sg x ∧ sg x < 2147483648 := by unfold sg; split <;> omega

theorem ediv_bd (s : Int) (n : Nat) (h : -2147483648 ≤ s ∧ s < 2147483648) : -2147483648 ≤ s / 2 ^ n ∧ s / 2 ^ n < 2147483648 := by
  have hp : (0 : Int) < 2 ^ n := Int.pow_pos (by decide)
  have hp1 : (1 : Int) ≤ 2 ^ n := hp
  constructor
  · rw [Int.le_ediv_iff_mul_le hp]
    have : (-2147483648 : Int) * 2 ^ n ≤ -2147483648 * 1 := Int.mul_le_mul_of_nonpos_left (by decide) hp1
    omega
  · rw [Int.ediv_lt_iff_lt_mul hp]
    have : (2147483648 : Int) * 1 ≤ 2147483648 * 2 ^ n := Int.mul_le_mul_of_nonneg_left hp1 (by decide)
    omega

theorem it_copies (x : Nat) (c : Bool) (h : x < 4294967296) : ∀ n, it 2 (n + 1) x c = ((sg x / 2 ^ (n + 1) % 4294967296).toNat, decide (sg x / 2 ^ n % 2 = 1))
  | 0 => by
    refine Prod.ext ?_ ?_
    · by_cases e : 2147483648 ≤ x
      · simp [it, one, sg, e]; omega
      · simp [it, one, sg, e]; omega
    · by_cases e : 2147483648 ≤ x
      · simp [it, one, sg, e]; rw [Bool.eq_iff_iff]; simp; omega
      · simp [it, one, sg, e]; rw [Bool.eq_iff_iff]; simp; omega
  | n + 1 => by
    rw [it, it_copies x c h n]
    have hb := ediv_bd (sg x) (n + 1) (sg_bd x h)
    rw [show sg x / 2 ^ (n + 1 + 1) = sg x / 2 ^ (n + 1) / 2 by rw [Int.pow_succ (2 : Int) (n + 1), Int.ediv_ediv_of_nonneg (Int.le_of_lt (Int.pow_pos (by decide)))]]
    generalize sg x / 2 ^ (n + 1) = s at hb ⊢
    simp only [one]
    simp
    refine ⟨?_, ?_⟩
    · split <;> omega
    · rw [Bool.eq_iff_iff]; simp; omega

def rot (m x : Nat) : Nat := x / 2 ^ m + x % 2 ^ m * 2 ^ (32 - m)
theorem rot_step (m x : Nat) (hm : m < 32) : (rot m x / 2 + rot m x % 2 * 2147483648) = rot (m + 1) x := by
  unfold rot
  have e1 : 2 ^ (32 - m) = 2 * 2 ^ (31 - m) := by rw [← Nat.pow_succ']; congr 1; omega
  have e2 : 32 - (m + 1) = 31 - m := by omega
  have e3 : x / 2 ^ (m + 1) = x / 2 ^ m / 2 := by rw [Nat.pow_succ, ← Nat.div_div_eq_div_mul]
  have e4 : x % 2 ^ (m + 1) = x % 2 ^ m + 2 ^ m * (x / 2 ^ m % 2) := by rw [Nat.pow_succ, Nat.mod_mul]
  have e5 : 2 ^ m * 2 ^ (31 - m) = 2147483648 := by rw [← Nat.pow_add, show m + (31 - m) = 31 by omega]
  rw [e1, e2, e3, e4]
  generalize x / 2 ^ m = a
  generalize x % 2 ^ m = b
  generalize 2 ^ (31 - m) = q at *
  generalize 2 ^ m = p at *
  have e6 : (b + p * (a % 2)) * q = b * q + a % 2 * 2147483648 := by
    rw [Nat.add_mul, Nat.mul_right_comm, e5, Nat.mul_comm 2147483648]
  have e7 : b * (2 * q) = 2 * (b * q) := by rw [Nat.mul_left_comm]
  rw [e6, e7]
  omega
theorem rot_32 (x : Nat) (h : x < 4294967296) : rot 32 x = rot 0 x := by
  unfold rot
  simp only [Nat.reducePow, Nat.reduceSub, Nat.pow_zero, Nat.sub_zero]
  omega
theorem rot_0 (x : Nat) : rot 0 x = x := by unfold rot; simp; omega

theorem it_turn (x : Nat) (c : Bool) (h : x < 4294967296) : ∀ n, (it 3 n x c).1 = rot (n % 32) x
  | 0 => by simp [it, rot_0]
  | n + 1 => by
    rw [it]
    simp only [one]
    simp
    rw [it_turn x c h n, rot_step _ _ (Nat.mod_lt _ (by decide))]
    by_cases e : n % 32 = 31
    · rw [e, rot_32 x h]; congr 1; omega
    · congr 1; omega
theorem it_turn_c (x : Nat) (c : Bool) (h : x < 4294967296) (n : Nat) : (it 3 (n + 1) x c).2 = decide (2147483648 ≤ (it 3 (n + 1) x c).1) := by
  have hl := it_lt 3 x c h n
  rw [it]
  simp only [one]
  simp
  rw [Bool.eq_iff_iff]; simp; omega

theorem left_val (X N : Nat) : X * 2 ^ (min N 64) % 18446744073709551616 % 4294967296 = X * 2 ^ N % 4294967296 := by
  by_cases h : N ≤ 64
  · rw [Nat.min_eq_left h]; omega
  · rw [Nat.min_eq_right (by omega), show N = (N - 64) + 64 by omega, Nat.pow_add, ← Nat.mul_assoc]
    generalize X * 2 ^ (N - 64) = a
    omega
theorem left_car (X N : Nat) : X * 2 ^ (min N 64) % 18446744073709551616 / 4294967296 % 2 = X * 2 ^ N / 4294967296 % 2 := by
  by_cases h : N ≤ 64
  · rw [Nat.min_eq_left h]; generalize X * 2 ^ N = a; omega
  · rw [Nat.min_eq_right (by omega), show N = (N - 64) + 64 by omega, Nat.pow_add, ← Nat.mul_assoc]
    generalize X * 2 ^ (N - 64) = a
    omega
theorem pow_big (X N : Nat) (hX : X < 4294967296) (h : 32 ≤ N) : X / 2 ^ N = 0 := by
  apply Nat.div_eq_of_lt
  exact Nat.lt_of_lt_of_le hX (Nat.pow_le_pow_right (n := 2) (by decide) h)
theorem right_val (X N : Nat) (hX : X < 4294967296) : X * 4294967296 / 2 ^ (min N 64) / 4294967296 = X / 2 ^ N := by
  by_cases h : N ≤ 64
  · rw [Nat.min_eq_left h, Nat.div_div_eq_div_mul, Nat.mul_div_mul_right _ _ (by decide)]
  · rw [Nat.min_eq_right (by omega), pow_big X N hX (by omega)]; omega
theorem right_car (X n : Nat) (hX : X < 4294967296) : X * 4294967296 / 2 ^ (min (n + 1) 64) / 2147483648 % 2 = X / 2 ^ n % 2 := by
  by_cases h : n + 1 ≤ 64
  · rw [Nat.min_eq_left h, Nat.div_div_eq_div_mul, Nat.pow_succ, Nat.mul_assoc, Nat.mul_div_mul_right _ _ (by decide)]
  · rw [Nat.min_eq_right (by omega), pow_big X n hX (by omega)]; omega
theorem sg_big (s : Int) (h : -2147483648 ≤ s ∧ s < 2147483648) (N : Nat) (hN : 31 ≤ N) : s / 2 ^ N = if s < 0 then -1 else 0 := by
  have hp : (2147483648 : Int) ≤ 2 ^ N := by
    have : (2 : Int) ^ 31 ≤ 2 ^ N := by exact_mod_cast Nat.pow_le_pow_right (n := 2) (by decide) hN
    simpa using this
  split
  · rw [Int.ediv_eq_iff_of_pos (by omega)]; omega
  · exact Int.ediv_eq_zero_of_lt (by omega) (by omega)
theorem sg_wi (X : Nat) (hX : X < 4294967296) : IntKind.i32.wrap (X : Int) = sg X := by
  rw [wi32]; unfold sg; split <;> omega
theorem rot_code (X m : Nat) (hX : X < 4294967296) (hm : m < 32) : (X * 2 ^ ((32 - m) % 32) % 4294967296) ||| (X / 2 ^ (32 - (32 - m) % 32)) = rot m X := by
  by_cases h : m = 0
  · subst h
    simp only [Nat.sub_zero, Nat.mod_self, Nat.pow_zero, Nat.mul_one]
    rw [Nat.mod_eq_of_lt hX, rot_0, show X / 2 ^ 32 = 0 from pow_big X 32 hX (by decide), Nat.or_zero]
  · have e1 : (32 - m) % 32 = 32 - m := Nat.mod_eq_of_lt (by omega)
    have e2 : 32 - (32 - m) = m := by omega
    rw [e1, e2]
    have e3 : X * 2 ^ (32 - m) % 4294967296 = 2 ^ (32 - m) * (X % 2 ^ m) := by
      rw [show (4294967296 : Nat) = 2 ^ (32 - m) * 2 ^ m by rw [← Nat.pow_add, show 32 - m + m = 32 by omega], Nat.mul_comm X, Nat.mul_mod_mul_left]
    have e4 : X / 2 ^ m < 2 ^ (32 - m) := by
      rw [Nat.div_lt_iff_lt_mul (Nat.two_pow_pos m), ← Nat.pow_add, show 32 - m + m = 32 by omega]; exact hX
    rw [e3, ← Nat.two_pow_add_eq_or_of_lt e4]
    unfold rot
    rw [Nat.mul_comm (X % 2 ^ m)]; omega
theorem bits_or_u32 (a b : Nat) (ha : a < 4294967296) (hb : b < 4294967296) : bits .or .u32 (a : Int) (b : Int) = ((a ||| b : Nat) : Int) := by
  have hlt : a ||| b < 2 ^ 32 := Nat.or_lt_two_pow ha hb
  unfold bits
  simp only [wu32]
  rw [BitVec.toNat_or, BitVec.toNat_ofInt, BitVec.toNat_ofInt]
  simp only [IntKind.bits]
  have h1 : ((a : Int) % ((2 ^ 32 : Nat) : Int)).toNat = a := by omega
  have h2 : ((b : Int) % ((2 ^ 32 : Nat) : Int)).toNat = b := by omega
  rw [h1, h2]
  omega

def regV (k x y : Int) (c : Bool) : Int := ((it (k % 4).toNat (y % 256).toNat x.toNat c).1 : Int)
def regC (k x y : Int) (c : Bool) : Bool := (it (k % 4).toNat (y % 256).toNat x.toNat c).2
def u32 (x : Int) : Bool := decide (0 ≤ x ∧ x < 4294967296)
end Go.Proofs.Ytfmojhmgiafhoaa.Sh
