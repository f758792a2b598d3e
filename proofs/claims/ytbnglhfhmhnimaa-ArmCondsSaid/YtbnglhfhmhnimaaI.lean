import Derived.Test.YtbnglhfhmhnimaaH
set_option linter.unusedVariables false
set_option linter.unusedSimpArgs false
namespace Go.Proofs.Ytbnglhfhmhnimaa
open Go Go.Proofs Go.Proofs.Ytbnglhfhmhnimaa.Ev
theorem or_hi (m k : Int) (h0 : 0 ≤ m) (h1 : m < 268435456) (k0 : 0 ≤ k) (k1 : k < 16) : bits .or .u32 m (k * 268435456) = m + k * 268435456 := by
  obtain ⟨a, rfl⟩ := Int.eq_ofNat_of_zero_le h0
  obtain ⟨b, rfl⟩ := Int.eq_ofNat_of_zero_le k0
  rw [show ((b : Int) * 268435456) = ((268435456 * b : Nat) : Int) by rw [Int.natCast_mul, Int.mul_comm]; rfl]
  rw [bits_or_n .u32 rfl a (268435456 * b) (by show a < 4294967296; omega) (by show 268435456 * b < 4294967296; omega)]
  rw [Nat.or_comm, show 268435456 * b = 2 ^ 28 * b from rfl, ← Nat.two_pow_add_eq_or_of_lt (i := 28) (by show a < 268435456; omega) b]
  rw [Int.natCast_add, Int.natCast_mul, Int.add_comm, Int.mul_comm]
set_option maxRecDepth 100000 in
theorem conds_l (E : World) (w c : Int) : Holds (lawP (fnTree (pe E) (orcC E) (tabL fns) 20000 Try.f4 [.c (.i false .u32 w), .c (.i false .i64 c)] [])) := ⟨by
  show lawP (fnTree (pe E) (orcX (gI E) (gB E) E) (tabL fns) 20000 Try.f4 [.c (.i false .u32 w), .c (.i false .i64 c)] [])
  rw [conds_p]
  generalize gI E = gi
  generalize gB E = gb
  have c0 : 0 ≤ c % 16 := Int.emod_nonneg _ (by decide)
  have c1 : c % 16 < 16 := Int.emod_lt_of_pos _ (by decide)
  have m0 : 0 ≤ w % 268435456 := Int.emod_nonneg _ (by decide)
  have m1 : w % 268435456 < 268435456 := Int.emod_lt_of_pos _ (by decide)
  rw [and_m4 .i64 c (by decide), and_m28 .u32 w (by decide)]
  generalize c % 16 = k at *
  generalize w % 268435456 = m at *
  rw [wu32_in k (by omega) (by omega), wu32_in (k * 268435456) (by omega) (by omega), or_hi m k m0 m1 c0 c1]
  have e1 : (m + k * 268435456) % 268435456 = m := by omega
  have e2 : (m + k * 268435456).fdiv 268435456 = k := by rw [fdiv_lit _ _ (by decide)]; omega
  rw [e1, e2, wi64_in k (by omega) (by omega)]
  simp only [beq_self_eq_true, Bool.false_xor, Bool.and_true]⟩
end Go.Proofs.Ytbnglhfhmhnimaa

