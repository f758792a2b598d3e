import Derived.Test.YtpfdemmoapjjpaaB
set_option linter.unusedVariables false
set_option linter.unusedSimpArgs false
namespace Go.Proofs.Ytpfdemmoapjjpaa
open Go Go.Proofs Go.Proofs.Ytpfdemmoapjjpaa.Ev
def u16 (x : Int) : Bool := decide (0 ≤ x ∧ x < 65536)
theorem u16_iff (x : Int) : u16 x = true ↔ 0 ≤ x ∧ x < 65536 := by simp [u16]
theorem q3 (x : Int) : decide (x % 8 < 0) = false ∧ decide (x % 8 > 15) = false := by
  rw [decide_eq_false_iff_not, decide_eq_false_iff_not]; omega
theorem q4 (x : Int) : decide (x % 16 < 0) = false ∧ decide (x % 16 > 15) = false := by
  rw [decide_eq_false_iff_not, decide_eq_false_iff_not]; omega
theorem q5 (x : Int) : decide (x % 32 ≥ 0) = true ∧ decide (x % 32 < 32) = true := by
  rw [decide_eq_true_eq, decide_eq_true_eq]; omega
theorem or_i64 (x y : Nat) (hx : x < 65536) (hy : y < 65536) : bits .or .i64 x y = ((x ||| y : Nat) : Int) := by
  have h : x ||| y < 2 ^ 16 := Nat.or_lt_two_pow hx hy
  unfold bits
  simp only []
  rw [BitVec.toNat_or]
  have e1 : (BitVec.ofInt IntKind.i64.bits (x : Int)).toNat = x := ofInt_nat _ x (by show x < 2 ^ 64; omega)
  have e2 : (BitVec.ofInt IntKind.i64.bits (y : Int)).toNat = y := ofInt_nat _ y (by show y < 2 ^ 64; omega)
  rw [e1, e2]
  exact wi64_in _ (by omega) (by omega)
theorem or_bd (x y b : Int) (n : Nat) (hb : b = 2 ^ n) (hn : n ≤ 16) (h0 : 0 ≤ x ∧ x < b) (h1 : 0 ≤ y ∧ y < b) : 0 ≤ bits .or .i64 x y ∧ bits .or .i64 x y < b := by
  obtain ⟨m, rfl⟩ := Int.eq_ofNat_of_zero_le h0.1
  obtain ⟨k, rfl⟩ := Int.eq_ofNat_of_zero_le h1.1
  have e : b = ((2 ^ n : Nat) : Int) := by rw [hb]; simp
  have hm : m < 2 ^ n := by have := h0.2; rw [e] at this; exact_mod_cast this
  have hk : k < 2 ^ n := by have := h1.2; rw [e] at this; exact_mod_cast this
  have h16 : 2 ^ n ≤ 2 ^ 16 := Nat.pow_le_pow_right (by decide) hn
  rw [or_i64 m k (by omega) (by omega), e]
  have := Nat.or_lt_two_pow hm hk
  constructor
  · omega
  · exact_mod_cast this
theorem or4 (x : Int) (y : Int) : decide (bits .or .i64 (x % 2 * 8) (y % 8) < 0) = false ∧ decide (bits .or .i64 (x % 2 * 8) (y % 8) > 15) = false := by
  have := or_bd (x % 2 * 8) (y % 8) 16 4 (by decide) (by decide) (by omega) (by omega)
  rw [decide_eq_false_iff_not, decide_eq_false_iff_not]; omega
theorem or14 (x : Int) (y : Int) : decide (bits .or .i64 (x % 256) (y % 2 * 16384) ≥ 0) = true ∧ decide (bits .or .i64 (x % 256) (y % 2 * 16384) < 65536) = true := by
  have := or_bd (x % 256) (y % 2 * 16384) 65536 16 (by decide) (by decide) (by omega) (by omega)
  rw [decide_eq_true_eq, decide_eq_true_eq]; omega
theorem or15 (x : Int) (y : Int) : decide (bits .or .i64 (x % 256) (y % 2 * 32768) ≥ 0) = true ∧ decide (bits .or .i64 (x % 256) (y % 2 * 32768) < 65536) = true := by
  have := or_bd (x % 256) (y % 2 * 32768) 65536 16 (by decide) (by decide) (by omega) (by omega)
  rw [decide_eq_true_eq, decide_eq_true_eq]; omega
theorem sel4 (x : Int) : decide (selI [1, 2, 1, 3] (x % 4) < 0) = false ∧ decide (selI [1, 2, 1, 3] (x % 4) > 15) = false := by
  have : x % 4 = 0 ∨ x % 4 = 1 ∨ x % 4 = 2 ∨ x % 4 = 3 := by omega
  rcases this with h | h | h | h <;> rw [h] <;> decide
set_option maxHeartbeats 8000000 in
set_option maxRecDepth 10000 in
theorem fields_l (h : Int) (hw : u16 h = true) : lawP (fnTree Try.prog orc1 (tabL fns) 20000 Try.f5 [.c (.i false .u16 h)] []) := by
  rw [fields_p]
  rw [u16_iff] at hw
  simp (disch := first | decide | omega) only [and_m1, and_m2, and_m3, and_m4, and_m5, and_m7, and_m8, and_m11, fdiv_lit, wi64_in, q3, q4, q5, or4, or14, or15, sel4, Int.ediv_one, true_and, and_true, and_self, beq_self_eq_true, Bool.and_self, Bool.and_true, Bool.false_xor, Bool.xor_false, implies_true]
  (repeat' first | apply And.intro | intro _) <;> first | rfl | trivial | (simp only [decide_eq_false_iff_not, decide_eq_true_eq, beqd, bne0, Bool.not_eq_true', Bool.not_eq_false'] at *; omega) | (simp only [inB, Bool.and_eq_true, decide_eq_true_eq]; omega) | (simp; done)
end Go.Proofs.Ytpfdemmoapjjpaa
