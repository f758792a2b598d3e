import Derived.Test.YtagfeilieoolkaaF
import Derived.Test.YtagfeilieoolkaaEw
set_option linter.unusedVariables false
set_option linter.unusedSimpArgs false
namespace Go.Proofs.Ytagfeilieoolkaa
open Go Go.Proofs Go.Proofs.Ytagfeilieoolkaa.Ev
theorem h_fst_sm (x : Int) : sm (fst x) = true := fst_sm x
section
variable (f0 f1 f2 s0 s1 s2 sv a : Int) (h0 : 0 ≤ f0 ∧ f0 ≤ 100) (h1 : 0 ≤ f1 ∧ f1 ≤ 100) (h2 : 0 ≤ f2 ∧ f2 ≤ 100) (h3 : 0 ≤ s0 ∧ s0 ≤ 100) (h4 : 0 ≤ s1 ∧ s1 ≤ 100) (h5 : 0 ≤ s2 ∧ s2 ≤ 100) (h6 : 0 ≤ sv ∧ sv ≤ 100)
include h0 h1 h2 h3 h4 h5 h6
theorem cost_pos (w c : Int) : decide (costV f0 f1 f2 s0 s1 s2 sv a w c < 1) = false := by
  rw [decide_eq_false_iff_not]
  have hs := sel3_bd s0 s1 s2 ((a / 16777216 - 8) / 2) h3 h4 h5
  have hf := sel3_bd f0 f1 f2 ((a / 16777216 - 8) / 2) h0 h1 h2
  unfold costV
  generalize selI [s0, s1, s2] ((a / 16777216 - 8) / 2) = S at *
  generalize selI [f0, f1, f2] ((a / 16777216 - 8) / 2) = F at *
  generalize mR a = r at *
  generalize a % 131072 = z at *
  clear h0 h1 h2 h3 h4 h5
  (repeat' split) <;> omega
omit h6 in
theorem cost_wide (c : Int) : decide (costV f0 f1 f2 s0 s1 s2 sv a 4 c < costV f0 f1 f2 s0 s1 s2 sv a 2 c) = false := by
  rw [decide_eq_false_iff_not]
  have hs := sel3_bd s0 s1 s2 ((a / 16777216 - 8) / 2) h3 h4 h5
  have hf := sel3_bd f0 f1 f2 ((a / 16777216 - 8) / 2) h0 h1 h2
  unfold costV
  generalize selI [s0, s1, s2] ((a / 16777216 - 8) / 2) = S at *
  generalize selI [f0, f1, f2] ((a / 16777216 - 8) / 2) = F at *
  generalize mR a = r at *
  generalize a % 131072 = z at *
  clear h0 h1 h2 h3 h4 h5
  simp only [if_true, if_false, Int.reduceEq]
  (repeat' split) <;> omega
omit h0 h1 h2 h3 h4 h5 h6 in
theorem cost_byte (c : Int) : (costV f0 f1 f2 s0 s1 s2 sv a 1 c != costV f0 f1 f2 s0 s1 s2 sv a 2 c) = false := by
  have : costV f0 f1 f2 s0 s1 s2 sv a 1 c = costV f0 f1 f2 s0 s1 s2 sv a 2 c := by
    unfold costV; simp only [if_false, Int.reduceEq]
  rw [this]; simp
omit h0 h1 h2 h3 h4 h5 h6 in
theorem cost_class (w : Int) (h : (mR a != 7) = true) : (costV f0 f1 f2 s0 s1 s2 sv a w 0 != costV f0 f1 f2 s0 s1 s2 sv a w 1) = false := by
  have h' : ¬ mR a = 7 := by simpa using h
  have : costV f0 f1 f2 s0 s1 s2 sv a w 0 = costV f0 f1 f2 s0 s1 s2 sv a w 1 := by
    unfold costV; simp only [h', if_false]
  rw [this]; simp
end
/-! turning -/
set_option maxRecDepth 100000 in
theorem rot_byte (n : Nat) (hn : n < 4294967296) : ((n % 256) * 16777216) ||| (n / 256) = (n % 256) * 16777216 + n / 256 := by
  have e : n % 256 * 16777216 = 2 ^ 24 * (n % 256) := by omega
  rw [e]; exact (Nat.two_pow_add_eq_or_of_lt (by omega) _).symm
theorem rot_back (m : Nat) (hm : m < 4294967296) : ((m % 16777216) * 256) ||| (m / 16777216) = (m % 16777216) * 256 + m / 16777216 := by
  have e : m % 16777216 * 256 = 2 ^ 8 * (m % 16777216) := by omega
  rw [e]; exact (Nat.two_pow_add_eq_or_of_lt (by omega) _).symm
set_option maxRecDepth 100000 in
theorem turn_l (a : Int) (ha : 0 ≤ a ∧ a < 4294967296) :
    (bits .or .u32 (IntKind.u32.wrap (bits .or .u32 (IntKind.u32.wrap (a * 16777216)) (a.fdiv 256) * 256)) ((bits .or .u32 (IntKind.u32.wrap (a * 16777216)) (a.fdiv 256)).fdiv 16777216) == a) = true := by
  obtain ⟨n, rfl⟩ := Int.eq_ofNat_of_zero_le ha.1
  have e1 : IntKind.u32.wrap ((n : Int) * 16777216) = ((n % 256 * 16777216 : Nat) : Int) := by rw [wu32]; omega
  have e2 : (n : Int).fdiv 256 = ((n / 256 : Nat) : Int) := by rw [fdiv_lit _ _ (by decide)]; omega
  have l1 : n % 256 * 16777216 < 2 ^ IntKind.u32.bits := by simp only [IntKind.bits]; omega
  have l2 : n / 256 < 2 ^ IntKind.u32.bits := by simp only [IntKind.bits]; omega
  rw [e1, e2, bits_or_n .u32 rfl _ _ l1 l2, rot_byte n (by omega)]
  obtain ⟨m, hm⟩ : ∃ m, n % 256 * 16777216 + n / 256 = m := ⟨_, rfl⟩
  have hm' : m < 4294967296 := by omega
  rw [hm]
  have e3 : IntKind.u32.wrap ((m : Int) * 256) = ((m % 16777216 * 256 : Nat) : Int) := by rw [wu32]; omega
  have e4 : (m : Int).fdiv 16777216 = ((m / 16777216 : Nat) : Int) := by rw [fdiv_lit _ _ (by decide)]; omega
  have l3 : m % 16777216 * 256 < 2 ^ IntKind.u32.bits := by simp only [IntKind.bits]; omega
  have l4 : m / 16777216 < 2 ^ IntKind.u32.bits := by simp only [IntKind.bits]; omega
  rw [e3, e4, bits_or_n .u32 rfl _ _ l3 l4, rot_back m hm', beq_iff_eq]
  omega
set_option maxRecDepth 100000 in
theorem low3 (a : Int) (ha : 0 ≤ a ∧ a < 4294967296) : bits .and .u32 (bits .andNot .u32 a 3) 3 = 0 := by
  obtain ⟨n, rfl⟩ := Int.eq_ofNat_of_zero_le ha.1
  have a1 := andNot_u32 n 3 (by decide) (by decide)
  have e1 : ((4294967295 : Int) - 3) = ((4294967292 : Nat) : Int) := rfl
  rw [e1, bits_and_n .u32 rfl _ _ (by simp only [IntKind.bits]; omega) (by simp only [IntKind.bits]; omega)] at a1
  rw [a1, and_m2 .u32 _ (by decide)]
  have : (n &&& 4294967292) % 2 ^ 2 = 0 := by
    rw [Nat.and_mod_two_pow]
    have : (4294967292 % 2 ^ 2 : Nat) = 0 := by decide
    rw [this, Nat.and_zero]
  omega
set_option maxRecDepth 100000 in
theorem turn_0 (a : Int) (ha : 0 ≤ a ∧ a < 4294967296) : (bits .or .u32 (IntKind.u32.wrap (a * 2 ^ min (0 : Int).toNat 32)) (a.fdiv (2 ^ min (32 : Int).toNat 32)) == a) = true := by
  obtain ⟨n, rfl⟩ := Int.eq_ofNat_of_zero_le ha.1
  have e0 : ((2 : Int) ^ min (0 : Int).toNat 32) = 1 := by decide
  have e5 : ((2 : Int) ^ min (32 : Int).toNat 32) = 4294967296 := by decide
  rw [e0, e5]
  have e1 : IntKind.u32.wrap ((n : Int) * 1) = (n : Int) := by rw [wu32]; omega
  have e2 : (n : Int).fdiv 4294967296 = ((0 : Nat) : Int) := by rw [fdiv_lit _ _ (by omega)]; omega
  rw [e1, e2, bits_or_n .u32 rfl _ _ (by simp only [IntKind.bits]; omega) (by decide), Nat.or_zero]; simp
theorem costs_l (a w d c : Int) (ha : u32 a = true) (hw : u16 w = true) : lawP (fnTree Try.prog orc2 (tabL fns) 1000 Try.f5 [.a [.i false .u32 a, .i false .u16 w, .i false .i64 d, .i false .i64 c]] []) := by
  rw [costs_p]
  have ha' := ha
  rw [u32_iff] at ha
  have z1 : IntKind.i64.wrap 0 = 0 := by decide
  have z2 : IntKind.i64.wrap ((-8) * 0) = 0 := by decide
  have z3 : IntKind.u64.wrap 0 = 0 := by decide
  have z4 : bits .and .u64 0 31 = 0 := by decide
  have z5 : IntKind.u64.wrap (32 - 0) = 32 := by decide
  have t1 := turn_l a ha
  have t0 := turn_0 a ha
  simp only [low3 a ha, z1, z2, z3, z4, z5, t1, t0]
  have F := fun x => (sm_iff _).1 (fst_sm x)
  have S := fun (p : Prop) [Decidable p] (n : Int) (h : 1 ≤ n ∧ n ≤ 8) => (sm_iff _).1 (ite_sm p n h)
  have b0 := F (w / 4 % 4)
  have b1 := F (w / 32 % 4)
  have b2 := F (w / 256 % 4)
  have b3 := S (w / 16 % 2 = 1) 2 (by decide)
  have b4 := S (w / 128 % 2 = 1) 4 (by decide)
  have b5 := S (w / 1024 % 2 = 1) 8 (by decide)
  have b6 := F (w % 4)
  have m0 := (sm_iff _).2 b0
  have m1 := (sm_iff _).2 b1
  have m2 := (sm_iff _).2 b2
  have m3 := (sm_iff _).2 b3
  have m4 := (sm_iff _).2 b4
  have m5 := (sm_iff _).2 b5
  have m6 := (sm_iff _).2 b6
  generalize fst (w / 4 % 4) = f0 at *
  generalize fst (w / 32 % 4) = f1 at *
  generalize fst (w / 256 % 4) = f2 at *
  generalize fst (w % 4) = sv at *
  generalize (if w / 16 % 2 = 1 then (1 : Int) else 2) = s0 at *
  generalize (if w / 128 % 2 = 1 then (1 : Int) else 4) = s1 at *
  generalize (if w / 1024 % 2 = 1 then (1 : Int) else 8) = s2 at *
  have P := cost_pos f0 f1 f2 s0 s1 s2 sv a b0 b1 b2 b3 b4 b5 b6
  have Q := cost_wide f0 f1 f2 s0 s1 s2 sv a b0 b1 b2 b3 b4 b5
  have R := cost_byte f0 f1 f2 s0 s1 s2 sv a
  have U := cost_class f0 f1 f2 s0 s1 s2 sv a
  simp only [ha', hw, m0, m1, m2, m3, m4, m5, m6, P, Q, R, true_and]
  have D : decide ((0 : Int) ≤ 0) = true := by decide
  have E : decide ((0 : Int) ≤ 32) = true := by decide
  by_cases h7 : (mR a != 7) = true
  · simp only [U _ h7, h7, D, E, true_implies, false_implies, and_self, and_true, true_and, Bool.true_eq_false, forall_const]
  · have h7' : (mR a != 7) = false := by simpa using h7
    simp only [h7', D, E, true_implies, false_implies, and_self, and_true, true_and, Bool.false_eq_true, forall_const]
end Go.Proofs.Ytagfeilieoolkaa

