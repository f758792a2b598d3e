import Derived.Test.YtdkegheacceecaaH
import Derived.Test.YtdkegheacceecaaEx
set_option linter.unusedVariables false
set_option linter.unusedSimpArgs false
namespace Go.Proofs.Ytdkegheacceecaa
open Go Go.Proofs Go.Proofs.Ytdkegheacceecaa.Ev
set_option maxRecDepth 100000
theorem or1 : ∀ p q : Fin 32, bits .or .i64 ((p.val : Nat) : Int) (((q.val * 32 : Nat)) : Int) = ((p.val + q.val * 32 : Nat) : Int) := by decide +kernel
theorem or2 : ∀ p : Fin 1024, ∀ q : Fin 32, bits .or .i64 ((p.val : Nat) : Int) (((q.val * 1024 : Nat)) : Int) = ((p.val + q.val * 1024 : Nat) : Int) := by decide +kernel
theorem w_id (x : Int) (h0 : 0 ≤ x) (h1 : x < 4611686018427387904) : IntKind.i64.wrap x = x := by rw [wi64]; omega
theorem jn (p q r : Int) (p0 : 0 ≤ p) (p1 : p ≤ 31) (q0 : 0 ≤ q) (q1 : q ≤ 31) (r0 : 0 ≤ r) (r1 : r ≤ 31) :
    IntKind.u16.wrap (bits .or .i64 (bits .or .i64 p (IntKind.i64.wrap (q * 32))) (IntKind.i64.wrap (r * 1024))) = p + 32 * q + 1024 * r := by
  rw [w_id _ (by omega) (by omega), w_id _ (by omega) (by omega)]
  obtain ⟨p, rfl⟩ := Int.eq_ofNat_of_zero_le p0
  obtain ⟨q, rfl⟩ := Int.eq_ofNat_of_zero_le q0
  obtain ⟨r, rfl⟩ := Int.eq_ofNat_of_zero_le r0
  have h1 := or1 ⟨p, by omega⟩ ⟨q, by omega⟩
  have h2 := or2 ⟨p + q * 32, by omega⟩ ⟨r, by omega⟩
  dsimp only at h1 h2
  have e1 : ((q : Int) * 32) = ((q * 32 : Nat) : Int) := by simp
  have e2 : ((r : Int) * 1024) = ((r * 1024 : Nat) : Int) := by simp
  rw [e1, e2, h1, h2, wu16]
  have : p + q * 32 + r * 1024 < 65536 := by omega
  push_cast
  omega
theorem b15' (x : Int) : bits .and .u16 x 32767 = x % 32768 := and_mask .u16 x 15 (.inl (by decide))
theorem b5' (x : Int) : bits .and .u16 x 31 = x % 32 := and_mask .u16 x 5 (.inl (by decide))
theorem g32 (x : Int) : x.fdiv 32 = x / 32 := fdiv_lit _ _ (by decide)
theorem g1024 (x : Int) : x.fdiv 1024 = x / 1024 := fdiv_lit _ _ (by decide)
theorem td16 (x : Int) (h0 : 0 ≤ x) : x.tdiv 16 = x / 16 := Int.tdiv_eq_ediv_of_nonneg h0
theorem a16 (p q : Int) (p0 : 0 ≤ p) (p1 : p ≤ 31) (q0 : 0 ≤ q) (q1 : q ≤ 31) : (if (31 : Int) < IntKind.i64.wrap ((IntKind.i64.wrap (IntKind.i64.wrap (p * 16) + IntKind.i64.wrap (q * 0))).tdiv 16) then (31 : Int) else IntKind.i64.wrap ((IntKind.i64.wrap (IntKind.i64.wrap (p * 16) + IntKind.i64.wrap (q * 0))).tdiv 16)) = p := by
  rw [w_id (p * 16) (by omega) (by omega), w_id (q * 0) (by omega) (by omega), w_id (p * 16 + q * 0) (by omega) (by omega), td16 _ (by omega), w_id _ (by omega) (by omega)]
  split <;> omega
theorem a0 (p q : Int) (p0 : 0 ≤ p) (p1 : p ≤ 31) (q0 : 0 ≤ q) (q1 : q ≤ 31) : (if (31 : Int) < IntKind.i64.wrap ((IntKind.i64.wrap (IntKind.i64.wrap (p * 0) + IntKind.i64.wrap (q * 16))).tdiv 16) then (31 : Int) else IntKind.i64.wrap ((IntKind.i64.wrap (IntKind.i64.wrap (p * 0) + IntKind.i64.wrap (q * 16))).tdiv 16)) = q := by
  rw [w_id (p * 0) (by omega) (by omega), w_id (q * 16) (by omega) (by omega), w_id (p * 0 + q * 16) (by omega) (by omega), td16 _ (by omega), w_id _ (by omega) (by omega)]
  split <;> omega
theorem a8 (p : Int) (p0 : 0 ≤ p) (p1 : p ≤ 31) : (if (31 : Int) < IntKind.i64.wrap ((IntKind.i64.wrap (IntKind.i64.wrap (p * 8) + IntKind.i64.wrap (p * 8))).tdiv 16) then (31 : Int) else IntKind.i64.wrap ((IntKind.i64.wrap (IntKind.i64.wrap (p * 8) + IntKind.i64.wrap (p * 8))).tdiv 16)) = p := by
  rw [w_id (p * 8) (by omega) (by omega), w_id (p * 8 + p * 8) (by omega) (by omega), td16 _ (by omega), w_id _ (by omega) (by omega)]
  split <;> omega
theorem d0 (p : Int) (p0 : 0 ≤ p) (p1 : p ≤ 31) : IntKind.i64.wrap (p - IntKind.i64.wrap ((IntKind.i64.wrap (p * 0)).tdiv 16)) = p := by
  rw [w_id (p * 0) (by omega) (by omega), td16 _ (by omega), w_id (p * 0 / 16) (by omega) (by omega), w_id _ (by omega) (by omega)]
  omega
theorem d16 (p : Int) (p0 : 0 ≤ p) (p1 : p ≤ 31) : IntKind.i64.wrap (p - IntKind.i64.wrap ((IntKind.i64.wrap (p * 16)).tdiv 16)) = 0 := by
  rw [w_id (p * 16) (by omega) (by omega), td16 _ (by omega), w_id (p * 16 / 16) (by omega) (by omega), w_id _ (by omega) (by omega)]
  omega
theorem l0 (p : Int) (p0 : 0 ≤ p) (p1 : p ≤ 31) : IntKind.i64.wrap (p + IntKind.i64.wrap ((IntKind.i64.wrap (IntKind.i64.wrap (31 - p) * 0)).tdiv 16)) = p := by
  rw [w_id (31 - p) (by omega) (by omega), w_id ((31 - p) * 0) (by omega) (by omega), td16 _ (by omega), w_id ((31 - p) * 0 / 16) (by omega) (by omega), w_id _ (by omega) (by omega)]
  omega
theorem l16 (p : Int) (p0 : 0 ≤ p) (p1 : p ≤ 31) : IntKind.i64.wrap (p + IntKind.i64.wrap ((IntKind.i64.wrap (IntKind.i64.wrap (31 - p) * 16)).tdiv 16)) = 31 := by
  rw [w_id (31 - p) (by omega) (by omega), w_id ((31 - p) * 16) (by omega) (by omega), td16 _ (by omega), w_id ((31 - p) * 16 / 16) (by omega) (by omega), w_id _ (by omega) (by omega)]
  omega
theorem k0 (x : Int) : IntKind.i64.wrap (bits .and .u16 x 31) = x % 32 := by rw [b5', w_id _ (by omega) (by omega)]
theorem hb (x : Int) : 0 ≤ x % 32 ∧ x % 32 ≤ 31 := by omega
end Go.Proofs.Ytdkegheacceecaa

