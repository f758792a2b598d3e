import Derived.Test.YtchebhjbcjjhpaaX
set_option linter.unusedVariables false
set_option linter.unusedSimpArgs false
namespace Go.Proofs.Ytchebhjbcjjhpaa
open Go Go.Proofs Go.Proofs.Ytchebhjbcjjhpaa.Ev
set_option maxRecDepth 100000
theorem tb (X j : Nat) : X.testBit j = decide (X / 2 ^ j % 2 = 1) := by
  rw [Nat.testBit_eq_decide_div_mod_eq]
theorem an (X Y : Nat) (hX : X < 65536) (hY : Y < 65536) : a1 (X : Int) (Y : Int) = ((X &&& Y : Nat) : Int) := bits_and_n .u16 rfl X Y hX hY
theorem and_bit (X j : Nat) : (X &&& 2 ^ j == 0) = !(X.testBit j) := by
  cases h : X.testBit j
  · have : X &&& 2 ^ j = 0 := by
      apply Nat.eq_of_testBit_eq
      intro i
      rw [Nat.testBit_and, Nat.testBit_two_pow, Nat.zero_testBit]
      by_cases e : j = i
      · subst e; simp [h]
      · simp [e]
    rw [this]; rfl
  · have : X &&& 2 ^ j ≠ 0 := by
      intro h2
      have := congrArg (fun z => z.testBit j) h2
      simp [Nat.testBit_and, Nat.testBit_two_pow, h] at this
    simpa using this
theorem aB (X j : Nat) (hX : X < 65536) (hj : j < 16) (K : Int) (hK : K = ((2 ^ j : Nat) : Int)) : (a1 (X : Int) K == 0) = !(X.testBit j) := by
  have h2 : 2 ^ j < 65536 := Nat.lt_of_lt_of_le (Nat.pow_lt_pow_right (by decide) hj) (by decide)
  rw [hK, an X _ hX h2, ← and_bit]
  cases h : (X &&& 2 ^ j == 0)
  · simp at h ⊢; exact_mod_cast h
  · simp at h ⊢; exact_mod_cast h
theorem bitq (X j : Nat) (K : Int) (hK : K = ((2 ^ j : Nat) : Int)) : (((X : Int).fdiv K).tmod 2 == 1) = X.testBit j := by
  rw [hK, ← Int.ofNat_fdiv, tb]
  generalize X / 2 ^ j = q
  rw [show (((q : Nat) : Int)).tmod 2 = ((q % 2 : Nat) : Int) by rw [Int.tmod_eq_emod_of_nonneg (by omega)]; omega]
  by_cases h : q % 2 = 1
  · rw [h]; rfl
  · have h0 : q % 2 = 0 := by omega
    rw [h0]; rfl
theorem bitz (X j : Nat) (K : Int) (hK : K = ((2 ^ j : Nat) : Int)) : (((X : Int).fdiv K).tmod 2 == 0) = !(X.testBit j) := by
  rw [hK, ← Int.ofNat_fdiv, tb]
  generalize X / 2 ^ j = q
  rw [show (((q : Nat) : Int)).tmod 2 = ((q % 2 : Nat) : Int) by rw [Int.tmod_eq_emod_of_nonneg (by omega)]; omega]
  by_cases h : q % 2 = 1
  · rw [h]; rfl
  · have h0 : q % 2 = 0 := by omega
    rw [h0]; rfl
theorem rn_eq (c : Int) (h0 : 0 ≤ c) (h1 : c < 65536) : rnR c = (a1 c 128 != 0) := by
  obtain ⟨X, rfl⟩ := Int.eq_ofNat_of_zero_le h0
  have hX : X < 65536 := by omega
  unfold rnR
  rw [bitq X 7 128 rfl, bne, aB X 7 hX (by decide) 128 rfl, Bool.not_not]
theorem fl_eq (c : Int) (h0 : 0 ≤ c) (h1 : c < 65536) : flR c = (a1 c 4 == 0) := by
  obtain ⟨X, rfl⟩ := Int.eq_ofNat_of_zero_le h0
  have hX : X < 65536 := by omega
  unfold flR
  rw [bitz X 2 4 rfl, aB X 2 hX (by decide) 4 rfl]
theorem st_eq (c : Int) (h0 : 0 ≤ c) : stR c = stp c := by
  unfold stR stp
  rw [show a1 c 3 = c % 4 from and_m2 .u16 c (by decide), Int.tmod_eq_emod_of_nonneg h0]
theorem stp_cases (c : Int) : stp c = 1 ∨ stp c = 64 ∨ stp c = 256 ∨ stp c = 1024 := by
  unfold stp
  rw [show a1 c 3 = c % 4 from and_m2 .u16 c (by decide)]
  have : c % 4 = 0 ∨ c % 4 = 1 ∨ c % 4 = 2 ∨ c % 4 = 3 := by omega
  rcases this with h | h | h | h <;> rw [h]
  · exact .inl rfl
  · exact .inr (.inl rfl)
  · exact .inr (.inr (.inl rfl))
  · exact .inr (.inr (.inr rfl))
theorem al_ind (p : Nat → Int) (i : Nat) (h0 : 0 ≤ p (4 * i + 1)) (h1 : p (4 * i + 1) < 65536) : alC i (p (4 * i + 1)) = ind p i := by
  unfold alC ind cnt fol
  rw [rn_eq _ h0 h1, fl_eq _ h0 h1]
structure TR (I : Bool) (w rl ct cn sn RL CT CN SN : Int) : Prop where
  hrl : RL = rl
  hct : CT = ct
  r0 : 0 ≤ rl
  r1 : rl < 65536
  c0 : 0 ≤ ct
  c1 : ct < 65536
  n0 : 0 ≤ cn
  n1 : cn < 65536
  hi : I = true → 0 ≤ sn ∧ sn ≤ w ∧ CN = cn + (w - sn) / stp ct ∧ SN = (w - sn) % stp ct ∧ cn + (w - sn) / stp ct < 65536
  hn : I = false → CN = cn
theorem due_eq (ct cn sn : Int) (n0 : 0 ≤ cn) (n1 : cn < 65536) (s0 : 0 ≤ sn) (s1 : sn ≤ 1000001) : dueV ct cn sn = sn + (65536 - cn) * stp ct := by
  unfold dueV
  rw [wi64_in cn (by omega) (by omega), wi64_in (65536 - cn) (by omega) (by omega)]
  rcases stp_cases ct with h | h | h | h <;> rw [h] <;> rw [wi64_in ((65536 - cn) * _) (by omega) (by omega), wi64_in _ (by omega) (by omega)]
theorem due_gt {I : Bool} {w rl ct cn sn RL CT CN SN : Int} (h : TR I w rl ct cn sn RL CT CN SN) (hw : w ≤ 1000000) (hI : I = true) : w < dueV ct cn sn := by
  obtain ⟨h1, h2, _, _, h3⟩ := h.hi hI
  rw [due_eq ct cn sn h.n0 h.n1 h1 (by omega)]
  rcases stp_cases ct with e | e | e | e <;> rw [e] at h3 ⊢ <;> omega
theorem tim {I K b F : Bool} {w rl ct cn sn RL CT CN SN y : Int} (h : TR I w rl ct cn sn RL CT CN SN) (hw0 : 0 ≤ w) (hw : w ≤ 1000000) (hy : y = w + 1) (hF : F = false → I = true → y < dueV ct cn sn) (hb : F = false → b = false) :
    (cond I (IntKind.i64.wrap (SN + 1) == stp ct) (cond K b false) && IntKind.i64.wrap (CN + 1) == 65536) = (F && cond I (!(dueV ct cn sn != y)) (K && (b && !(cn != 65535)))) ∧
    TR I y rl ct (cond F (cond I (cond (dueV ct cn sn != y) cn rl) (cond K (cond b (cond (cn != 65535) (IntKind.u16.wrap (cn + 1)) rl) cn) cn)) cn) (cond F (cond I (cond (dueV ct cn sn != y) sn y) sn) sn)
      RL CT (cond (cond I (IntKind.i64.wrap (SN + 1) == stp ct) (cond K b false)) (cond (IntKind.i64.wrap (CN + 1) == 65536) RL (IntKind.i64.wrap (CN + 1))) CN) (cond I (cond (IntKind.i64.wrap (SN + 1) == stp ct) 0 (IntKind.i64.wrap (SN + 1))) SN) := by
  have n0 := h.n0
  have n1 := h.n1
  have r0 := h.r0
  have r1 := h.r1
  cases I with
  | false =>
    have hc := h.hn rfl
    subst hc
    have hwr : IntKind.i64.wrap (CN + 1) = CN + 1 := wi64_in _ (by omega) (by omega)
    rw [hwr]
    simp only [cond_false]
    have keep : TR false y rl ct CN sn RL CT CN SN := ⟨h.hrl, h.hct, r0, r1, h.c0, h.c1, n0, n1, fun e => (by cases e), fun _ => rfl⟩
    cases K with
    | false => simp only [cond_false, Bool.false_and, Bool.and_false]; exact ⟨trivial, by cases F <;> exact keep⟩
    | true =>
      cases b with
      | false => simp only [cond_false, cond_true, Bool.false_and, Bool.and_false]; exact ⟨trivial, by cases F <;> exact keep⟩
      | true =>
        have hF1 : F = true := by
          cases F with
          | true => rfl
          | false => have := hb rfl; cases this
        subst hF1
        simp only [cond_true, Bool.true_and]
        by_cases e : CN = 65535
        · subst e
          refine ⟨rfl, ?_⟩
          show TR false y rl ct rl sn RL CT RL SN
          exact ⟨h.hrl, h.hct, r0, r1, h.c0, h.c1, r0, r1, fun e => (by cases e), fun _ => h.hrl⟩
        · have e1 : (CN + 1 == 65536) = false := beq_eq_false_iff_ne.2 (by omega)
          have e2 : (CN != 65535) = true := bne_iff_ne.2 e
          have e3 : IntKind.u16.wrap (CN + 1) = CN + 1 := by rw [wu16]; omega
          rw [e1, e2, e3]
          exact ⟨rfl, h.hrl, h.hct, r0, r1, h.c0, h.c1, by show 0 ≤ CN + 1; omega, by show CN + 1 < 65536; omega, fun e => (by cases e), fun _ => rfl⟩
  | true =>
    obtain ⟨s0, s1, hC, hS, hl⟩ := h.hi rfl
    have hdue := due_eq ct cn sn n0 n1 s0 (by omega)
    have hgt := due_gt h hw rfl
    rw [hdue] at hF hgt ⊢
    simp only [cond_true]
    have key : ∀ st : Int, stp ct = st → (st = 1 ∨ st = 64 ∨ st = 256 ∨ st = 1024) →
        ((SN + 1 = st ∧ (y - sn) % st = 0 ∧ (y - sn) / st = (w - sn) / st + 1) ∨ (SN + 1 ≠ st ∧ (y - sn) % st = SN + 1 ∧ (y - sn) / st = (w - sn) / st)) ∧ 0 ≤ SN ∧ SN < 1024 ∧ 0 ≤ (w - sn) / st ∧
        (sn + (65536 - cn) * st = y → SN + 1 = st ∧ (w - sn) / st + 1 + cn = 65536) ∧ (y < sn + (65536 - cn) * st → cn + (y - sn) / st < 65536) := by
      intro st e hst
      rw [e] at hS
      subst hy
      rcases hst with e2 | e2 | e2 | e2 <;> subst e2 <;> omega
    obtain ⟨hh, q0, q1, d0, hd1, hd2⟩ := key _ rfl (stp_cases ct)
    have w1 : IntKind.i64.wrap (SN + 1) = SN + 1 := wi64_in _ (by omega) (by omega)
    have w2 : IntKind.i64.wrap (CN + 1) = CN + 1 := wi64_in _ (by omega) (by omega)
    rw [w1, w2]
    generalize hst : stp ct = st at *
    generalize sn + (65536 - cn) * st = du at *
    by_cases hd : du = y
    · obtain ⟨g1, g2⟩ := hd1 hd
      have hF1 : F = true := by
        cases F with
        | true => rfl
        | false => have := hF rfl rfl; omega
      subst hF1
      have e1 : (SN + 1 == st) = true := beq_iff_eq.2 g1
      have e2 : (CN + 1 == 65536) = true := beq_iff_eq.2 (by omega)
      have e3 : (du != y) = false := by rw [hd]; exact bne_self_eq_false y
      rw [e1, e2, e3]
      refine ⟨rfl, h.hrl, h.hct, r0, r1, h.c0, h.c1, r0, r1, fun _ => ?_, fun e => by cases e⟩
      show 0 ≤ y ∧ y ≤ y ∧ RL = rl + (y - y) / stp ct ∧ 0 = (y - y) % stp ct ∧ rl + (y - y) / stp ct < 65536
      rw [Int.sub_self, Int.zero_ediv, Int.zero_emod]
      have := h.hrl
      omega
    · have hlt := hd2 (by omega)
      have e3 : (du != y) = true := bne_iff_ne.2 hd
      rw [e3]
      simp only [cond_true, Bool.not_true, Bool.and_false]
      have e4 : ∀ A B : Int, cond F A A = A := fun A _ => by cases F <;> rfl
      rw [e4 cn 0, e4 sn 0]
      rcases hh with ⟨g1, g2, g3⟩ | ⟨g1, g2, g3⟩
      · have e1 : (SN + 1 == st) = true := beq_iff_eq.2 g1
        have e2 : (CN + 1 == 65536) = false := beq_eq_false_iff_ne.2 (by omega)
        rw [e1, e2]
        refine ⟨rfl, h.hrl, h.hct, r0, r1, h.c0, h.c1, n0, n1, fun _ => ?_, fun e => by cases e⟩
        show 0 ≤ sn ∧ sn ≤ y ∧ CN + 1 = cn + (y - sn) / stp ct ∧ 0 = (y - sn) % stp ct ∧ cn + (y - sn) / stp ct < 65536
        rw [hst]
        omega
      · have e1 : (SN + 1 == st) = false := beq_eq_false_iff_ne.2 g1
        rw [e1]
        refine ⟨rfl, h.hrl, h.hct, r0, r1, h.c0, h.c1, n0, n1, fun _ => ?_, fun e => by cases e⟩
        show 0 ≤ sn ∧ sn ≤ y ∧ CN = cn + (y - sn) / stp ct ∧ SN + 1 = (y - sn) % stp ct ∧ cn + (y - sn) / stp ct < 65536
        rw [hst]
        omega
end Go.Proofs.Ytchebhjbcjjhpaa

