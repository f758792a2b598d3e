import Derived.Test.YtpddbhfebhpohaaB
set_option linter.unusedVariables false
set_option linter.unusedSimpArgs false
namespace Go.Proofs.Ytpddbhfebhpohaa
open Go Go.Proofs Go.Proofs.Ytpddbhfebhpohaa.Ev Go.Proofs.Ytpddbhfebhpohaa.Ev.Ho
set_option maxRecDepth 100000

theorem msk (x : Int) (h0 : 0 ≤ x) (h1 : x ≤ 65535) : 0 ≤ bits .and .u16 x 63456 ∧ bits .and .u16 x 63456 ≤ 65535 ∧ bits .and .u16 x 63456 / 4096 % 4 = x / 4096 % 4 := by
  obtain ⟨m, rfl⟩ : ∃ m : Nat, x = m := ⟨x.toNat, by omega⟩
  have e : bits .and .u16 (m : Int) 63456 = ((m &&& 63456 : Nat) : Int) := bits_and_n .u16 rfl m 63456 (by show m < 2 ^ 16; omega) (by decide)
  have h2 : m &&& 63456 ≤ 63456 := Nat.and_le_right
  have h3 : (m &&& 63456) / 4096 = m / 4096 % 16 := by
    have a := Nat.shiftRight_and_distrib (a := m) (b := 63456) (i := 12)
    rw [Nat.shiftRight_eq_div_pow, Nat.shiftRight_eq_div_pow, Nat.shiftRight_eq_div_pow] at a
    have b := Nat.and_two_pow_sub_one_eq_mod (m / 4096) 4
    exact a.trans b
  rw [e]
  omega
theorem and15 (x : Int) (h0 : 0 ≤ x) (h1 : x ≤ 65535) : (bits .and .u16 x 32768 != 0) = on x := by
  have e : bits .and .u16 x 32768 = x / 32768 % 2 * 32768 := and_sh .u16 rfl x h0 (by show x < 2 ^ 16; omega) 15 1 (by decide)
  rw [e]; unfold on
  have : x / 32768 % 2 = 0 ∨ x / 32768 % 2 = 1 := by omega
  rcases this with h | h <;> rw [h] <;> decide
theorem tmu (x : Int) : IntKind.i64.wrap (bits .and .u16 (x.fdiv 4096) 3) = tm x := by
  have e : bits .and .u16 (x.fdiv 4096) 3 = x.fdiv 4096 % 4 := and_mask .u16 _ 2 (.inl (by decide))
  rw [e, fdiv_lit _ _ (by decide), wi64]; unfold tm; omega
theorem onr (x : Int) (h0 : 0 ≤ x) (h1 : x ≤ 65535) : (((IntKind.i64.wrap x).fdiv 32768).tmod 2 == 1) = on x := by
  have e : IntKind.i64.wrap x = x := by rw [wi64]; omega
  rw [e, fdiv_lit _ _ (by decide), Int.tmod_eq_emod_of_nonneg (by omega)]; unfold on; rfl
theorem tmr (x : Int) (h0 : 0 ≤ x) (h1 : x ≤ 65535) : ((IntKind.i64.wrap x).fdiv 4096).tmod 4 = tm x := by
  have e : IntKind.i64.wrap x = x := by rw [wi64]; omega
  rw [e, fdiv_lit _ _ (by decide), Int.tmod_eq_emod_of_nonneg (by omega)]; rfl
theorem or_add (a b : Int) (h0 : 0 ≤ a) (h1 : a < 65536) (h2 : 0 ≤ b) (h3 : b < 65536) : bits .or .u32 (a * 65536) b = a * 65536 + b := by
  obtain ⟨m, rfl⟩ : ∃ m : Nat, a = m := ⟨a.toNat, by omega⟩
  obtain ⟨k, rfl⟩ : ∃ k : Nat, b = k := ⟨b.toNat, by omega⟩
  have e : ((m : Int) * 65536) = ((m * 65536 : Nat) : Int) := by omega
  rw [e, bits_or_n .u32 rfl _ _ (by show m * 65536 < 2 ^ 32; omega) (by show k < 2 ^ 32; omega)]
  have := Nat.two_pow_add_eq_or_of_lt (i := 16) (b := k) (by omega) m
  rw [show m * 65536 = 2 ^ 16 * m by omega, ← this]; omega
theorem or_add' (a b : Int) (h0 : 0 ≤ a) (h1 : a < 65536) (h2 : 0 ≤ b) (h3 : b < 65536) : bits .or .u32 b (a * 65536) = b + a * 65536 := by
  obtain ⟨m, rfl⟩ : ∃ m : Nat, a = m := ⟨a.toNat, by omega⟩
  obtain ⟨k, rfl⟩ : ∃ k : Nat, b = k := ⟨b.toNat, by omega⟩
  have e : ((m : Int) * 65536) = ((m * 65536 : Nat) : Int) := by omega
  rw [e, bits_or_n .u32 rfl _ _ (by show k < 2 ^ 32; omega) (by show m * 65536 < 2 ^ 32; omega), Nat.or_comm]
  have := Nat.two_pow_add_eq_or_of_lt (i := 16) (b := k) (by omega) m
  rw [show m * 65536 = 2 ^ 16 * m by omega, ← this]; omega
theorem lo_u (a x : Int) (h0 : 0 ≤ a) (h1 : a ≤ 4294967295) (h2 : 0 ≤ x) (h3 : x ≤ 65535) : bits .or .u32 (bits .andNot .u32 a 65535) (IntKind.u32.wrap x) = a / 65536 * 65536 + x := by
  have e1 : bits .andNot .u32 a 65535 = a / 65536 * 65536 := by
    rw [andNot_u32 _ _ (by decide) (by decide)]
    have := and_sh .u32 rfl a h0 (by show a < 2 ^ 32; omega) 16 16 (by decide)
    have e : ((2 ^ 16 - 1) * 2 ^ 16 : Int) = 4294967295 - 65535 := by decide
    rw [e] at this
    rw [this]; omega
  have e2 : IntKind.u32.wrap x = x := by rw [wu32]; omega
  rw [e1, e2, or_add _ _ (by omega) (by omega) h2 (by omega)]
theorem hi_u (a m : Int) (h2 : 0 ≤ m) (h3 : m < 65536) : bits .or .u32 (bits .and .u32 a 65535) (IntKind.u32.wrap (IntKind.u32.wrap m * 65536)) = a % 65536 + m * 65536 := by
  have e1 : bits .and .u32 a 65535 = a % 65536 := and_mask .u32 _ 16 (.inl (by decide))
  have e2 : IntKind.u32.wrap (IntKind.u32.wrap m * 65536) = m * 65536 := by rw [wu32, wu32]; omega
  rw [e1, e2, or_add' _ _ h2 h3 (by omega) (by omega)]
theorem m12 (x : Int) : bits .and .u16 x 4095 = x % 4096 := and_mask .u16 _ 12 (.inl (by decide))
theorem m11 (x : Int) : bits .and .u16 x 2047 = x % 2048 := and_mask .u16 _ 11 (.inl (by decide))
theorem m14 (x : Int) : bits .and .u16 x 16383 = x % 16384 := and_mask .u16 _ 14 (.inl (by decide))
theorem lo_r (a x : Int) (h0 : 0 ≤ a) (h1 : a ≤ 4294967295) (h2 : 0 ≤ x) (h3 : x ≤ 65535) : IntKind.u32.wrap (IntKind.u32.wrap (IntKind.u32.wrap (a.tdiv 65536) * 65536) + IntKind.u32.wrap x) = a / 65536 * 65536 + x := by
  rw [Int.tdiv_eq_ediv_of_nonneg h0, wu32, wu32, wu32, wu32]; omega
theorem hi_r (a m : Int) (h0 : 0 ≤ a) (h2 : 0 ≤ m) (h3 : m < 65536) : IntKind.u32.wrap (a.tmod 65536 + IntKind.u32.wrap (m * 65536)) = a % 65536 + m * 65536 := by
  rw [Int.tmod_eq_emod_of_nonneg h0, wu32, wu32]; omega
end Go.Proofs.Ytpddbhfebhpohaa

