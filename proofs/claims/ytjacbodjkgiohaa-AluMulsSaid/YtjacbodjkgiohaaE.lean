import Derived.Test.YtjacbodjkgiohaaD
set_option linter.unusedVariables false
set_option linter.unusedSimpArgs false
namespace Go.Proofs.Ytjacbodjkgiohaa
open Go Go.Proofs Go.Proofs.Ytjacbodjkgiohaa.Ev
theorem or_halves (h l : Int) (h0 : 0 ≤ h) (h1 : h < 4294967296) (l0 : 0 ≤ l) (l1 : l < 4294967296) :
    bits .or .u64 (IntKind.u64.wrap (IntKind.u64.wrap h * 4294967296)) (IntKind.u64.wrap l) = h * 4294967296 + l := by
  rw [w64u h (by omega) (by omega), w64u l (by omega) (by omega), w64u (h * 4294967296) (by omega) (by omega)]
  obtain ⟨x, rfl⟩ := Int.eq_ofNat_of_zero_le h0
  obtain ⟨y, rfl⟩ := Int.eq_ofNat_of_zero_le l0
  have e : ((x : Int) * 4294967296) = ((2 ^ 32 * x : Nat) : Int) := by omega
  have hy : y < 2 ^ 32 := by omega
  rw [e, bits_or_n .u64 rfl _ _ (by simp only [IntKind.bits]; omega) (by simp only [IntKind.bits]; omega), ← Nat.two_pow_add_eq_or_of_lt hy]
  omega
theorem chains_l (a b : Int) (ha : 0 ≤ a ∧ a < 18446744073709551616) (hb : 0 ≤ b ∧ b < 18446744073709551616) : lawP (fnTree Try.prog orc2 (tabL fns) 1000 Try.f7 [.c (.i false .u64 a), .c (.i false .u64 b)] []) := by
  rw [chains_p]
  have wah : IntKind.u32.wrap (a.fdiv 4294967296) = a / 4294967296 := by rw [wu32, fdiv_lit _ _ (by decide)]; omega
  have wbh : IntKind.u32.wrap (b.fdiv 4294967296) = b / 4294967296 := by rw [wu32, fdiv_lit _ _ (by decide)]; omega
  rw [wah, wbh, wu32 a, wu32 b]
  obtain ⟨p, hp⟩ : ∃ p, a / 4294967296 = p := ⟨_, rfl⟩
  obtain ⟨q, hq⟩ : ∃ q, a % 4294967296 = q := ⟨_, rfl⟩
  obtain ⟨r, hr⟩ : ∃ p, b / 4294967296 = p := ⟨_, rfl⟩
  obtain ⟨s, hs⟩ : ∃ q, b % 4294967296 = q := ⟨_, rfl⟩
  have bp : 0 ≤ p ∧ p < 4294967296 := by omega
  have bq : 0 ≤ q ∧ q < 4294967296 := by omega
  have br : 0 ≤ r ∧ r < 4294967296 := by omega
  have bs : 0 ≤ s ∧ s < 4294967296 := by omega
  have ea : a = p * 4294967296 + q := by omega
  have eb : b = r * 4294967296 + s := by omega
  rw [hp, hq, hr, hs]
  clear wah wbh hp hq hr hs ha hb
  subst ea eb
  have x4 : dX 4 q s false = (q + s) % 4294967296 := rfl
  have c4 : dC 4 q s false false = decide (4294967296 ≤ q + s) := rfl
  have x5 : ∀ c, dX 5 p r c = (if c then p + r + 1 else p + r) % 4294967296 := fun c => by cases c <;> rfl
  have c5 : ∀ c, dC 5 p r c false = decide (4294967296 ≤ (if c then p + r + 1 else p + r)) := fun c => by cases c <;> rfl
  have x2 : dX 2 q s false = (q - s) % 4294967296 := rfl
  have c2 : dC 2 q s false false = decide (0 ≤ q - s) := rfl
  have x6 : ∀ c, dX 6 p r c = (if c then p - r else p - r - 1) % 4294967296 := fun c => by cases c <;> rfl
  have c6 : ∀ c, dC 6 p r c false = decide (0 ≤ (if c then p - r else p - r - 1)) := fun c => by cases c <;> rfl
  have m : ∀ x : Int, 0 ≤ x % 4294967296 ∧ x % 4294967296 < 4294967296 := fun x => ⟨Int.emod_nonneg _ (by decide), Int.emod_lt_of_pos _ (by decide)⟩
  rw [x4, c4, x5, c5, x2, c2, x6, c6, or_halves _ _ (m _).1 (m _).2 (m _).1 (m _).2, or_halves _ _ (m _).1 (m _).2 (m _).1 (m _).2, wu64 (p * 4294967296 + q + (r * 4294967296 + s)), wu64 (p * 4294967296 + q - (r * 4294967296 + s))]
  simp only [u32_iff, bp, bq, br, bs, true_and, and_self, Bool.false_xor]
  refine ⟨?_, ?_, ?_, ?_⟩
  · rw [beq_iff_eq]
    by_cases h : 4294967296 ≤ q + s
    · simp only [h, decide_true, if_true]; omega
    · simp only [h, decide_false, Bool.false_eq_true, if_false]; omega
  · rw [beq_iff_eq, decide_eq_decide]
    by_cases h : 4294967296 ≤ q + s
    · simp only [h, decide_true, if_true]; omega
    · simp only [h, decide_false, Bool.false_eq_true, if_false]; omega
  · rw [beq_iff_eq]
    by_cases h : 0 ≤ q - s
    · simp only [h, decide_true, if_true]; omega
    · simp only [h, decide_false, Bool.false_eq_true, if_false]; omega
  · rw [beq_iff_eq, decide_eq_decide]
    by_cases h : 0 ≤ q - s
    · simp only [h, decide_true, if_true]; omega
    · simp only [h, decide_false, Bool.false_eq_true, if_false]; omega
theorem xor1 (m : Int) : bits .xor .i64 m 1 % 16 = if m % 2 = 0 then m % 16 + 1 else m % 16 - 1 := by
  unfold bits
  simp only []
  rw [wi64, BitVec.toNat_xor, BitVec.toNat_ofInt, BitVec.toNat_ofInt]
  simp only [IntKind.bits]
  have e1 : ((1 : Int) % ((2 ^ 64 : Nat) : Int)).toNat = 1 := by decide
  rw [e1]
  have h : ((m % ((2 ^ 64 : Nat) : Int)).toNat ^^^ 1) % 2 ^ 4 = (m % ((2 ^ 64 : Nat) : Int)).toNat % 2 ^ 4 ^^^ 1 % 2 ^ 4 := Nat.xor_mod_two_pow
  have hm : (m % ((2 ^ 64 : Nat) : Int)).toNat % 2 ^ 4 = (m % 16).toNat := by omega
  rw [hm] at h
  generalize (m % ((2 ^ 64 : Nat) : Int)).toNat ^^^ 1 = z at *
  clear hm
  have e : m % 2 = m % 16 % 2 := by omega
  rw [e]
  have hk : m % 16 = 0 ∨ m % 16 = 1 ∨ m % 16 = 2 ∨ m % 16 = 3 ∨ m % 16 = 4 ∨ m % 16 = 5 ∨ m % 16 = 6 ∨ m % 16 = 7 ∨ m % 16 = 8 ∨ m % 16 = 9 ∨ m % 16 = 10 ∨ m % 16 = 11 ∨ m % 16 = 12 ∨ m % 16 = 13 ∨ m % 16 = 14 ∨ m % 16 = 15 := by omega
  generalize m % 16 = k at *
  rcases hk with rfl | rfl | rfl | rfl | rfl | rfl | rfl | rfl | rfl | rfl | rfl | rfl | rfl | rfl | rfl | rfl <;> simp at h ⊢ <;> omega
theorem holds_l (m : Int) (n z c v : Bool) : lawP (fnTree Try.prog orc2 (tabL fns) 1000 Try.f4 [.c (.i false .i64 m), .a [.b false n, .b false z, .b false c, .b false v]] []) := by
  rw [holds_p]
  have h := xor1 m
  generalize bits .xor .i64 m 1 = k at *
  have hn : evS k n z c v = !evS m n z c v := by
    unfold evS
    rcases (show m % 2 = 0 ∨ m % 2 = 1 by omega) with h0 | h0
    · have e1 : k % 16 = m % 16 + 1 := by rw [h, if_pos h0]
      have e2 : k % 2 = 1 := by omega
      have e3 : m % 16 + 1 - 1 = m % 16 := by omega
      rw [if_pos e2, if_neg (by omega), e1, e3]
    · have e1 : k % 16 = m % 16 - 1 := by rw [h, if_neg (by omega)]
      have e2 : k % 2 = 0 := by omega
      rw [if_neg (by omega), if_pos h0, e1, Bool.not_not]
  rw [hn]
  cases evS m n z c v <;> exact ⟨rfl, rfl⟩
end Go.Proofs.Ytjacbodjkgiohaa

