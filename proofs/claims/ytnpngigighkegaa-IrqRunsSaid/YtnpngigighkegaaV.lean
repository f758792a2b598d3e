import Derived.Test.YtnpngigighkegaaU
set_option linter.unusedVariables false
set_option linter.unusedSimpArgs false
namespace Go.Proofs.Ytnpngigighkegaa
open Go Go.Proofs Go.Proofs.Ytnpngigighkegaa.Ev
set_option maxRecDepth 100000
def relB (n : Nat) (x : Int) (f : Nat → Bool) : Prop := ∃ X : Nat, x = (X : Int) ∧ X < 2 ^ n ∧ ∀ j, j < n → f j = X.testBit j
theorem tb (X j : Nat) : X.testBit j = decide (X / 2 ^ j % 2 = 1) := by
  rw [Nat.testBit_eq_decide_div_mod_eq]
theorem bt_n (X j : Nat) (hj : j ≤ 16) : bt (X : Int) (j : Int) = X.testBit j := by
  unfold bt
  rw [show ((j : Int)).toNat = j from rfl, Nat.min_eq_left hj, tb]
  rw [show ((2 : Int) ^ j) = ((2 ^ j : Nat) : Int) by push_cast; rfl, ← Int.ofNat_fdiv]
  generalize X / 2 ^ j = q
  rw [show (((q : Nat) : Int)).tmod 2 = ((q % 2 : Nat) : Int) by rw [Int.tmod_eq_emod_of_nonneg (by omega)]; omega]
  by_cases h : q % 2 = 1
  · rw [h]; rfl
  · have h0 : q % 2 = 0 := by omega
    rw [h0]; rfl
theorem an (X Y : Nat) (hX : X < 65536) (hY : Y < 65536) : a1 (X : Int) (Y : Int) = ((X &&& Y : Nat) : Int) := bits_and_n .u16 rfl X Y hX hY
theorem aK (X : Nat) (hX : X < 65536) : a1 (X : Int) 1023 = ((X % 1024 : Nat) : Int) := by
  rw [show (1023 : Int) = ((1023 : Nat) : Int) from rfl, an X 1023 hX (by decide), Nat.and_two_pow_sub_one_eq_mod X 10]
theorem aA (X : Nat) (hX : X < 65536) : a1 (X : Int) 16383 = ((X % 16384 : Nat) : Int) := by
  rw [show (16383 : Int) = ((16383 : Nat) : Int) from rfl, an X 16383 hX (by decide), Nat.and_two_pow_sub_one_eq_mod X 14]
theorem and_bit (X j : Nat) : (X &&& 2 ^ j == 0) = !(X.testBit j) := by
  cases h : X.testBit j
  · have : X &&& 2 ^ j = 0 := by
      apply Nat.eq_of_testBit_eq
      intro i
      rw [Nat.testBit_and, Nat.testBit_two_pow, Nat.zero_testBit]
      by_cases e : j = i
      · subst e; simp [h]
      · simp [e]
    rw [this]; rfl
  · have : X &&& 2 ^ j ≠ 0 := by
      intro h2
      have := congrArg (fun z => z.testBit j) h2
      simp [Nat.testBit_and, Nat.testBit_two_pow, h] at this
    simpa using this
theorem aB (X j : Nat) (hX : X < 65536) (hj : j < 16) (K : Int) (hK : K = ((2 ^ j : Nat) : Int)) : (a1 (X : Int) K == 0) = !(X.testBit j) := by
  have h2 : 2 ^ j < 65536 := Nat.lt_of_lt_of_le (Nat.pow_lt_pow_right (by decide) hj) (by decide)
  rw [hK, an X _ hX h2, ← and_bit]
  cases h : (X &&& 2 ^ j == 0)
  · simp at h ⊢; exact_mod_cast h
  · simp at h ⊢; exact_mod_cast h
theorem step_ne (z n : Nat) : decide (z % 2 ^ (n + 1) ≠ 0) = (decide (z % 2 ^ n ≠ 0) || z.testBit n) := by
  rw [tb, Nat.mod_pow_succ]
  have hp : 0 < 2 ^ n := Nat.two_pow_pos n
  have hb : z / 2 ^ n % 2 = 0 ∨ z / 2 ^ n % 2 = 1 := by omega
  rcases hb with h | h <;> rw [h]
  · simp
  · have : z % 2 ^ n + 2 ^ n * 1 ≠ 0 := by omega
    simp [this]
theorem step_eq (a b n : Nat) : decide (a % 2 ^ (n + 1) = b % 2 ^ (n + 1)) = (decide (a % 2 ^ n = b % 2 ^ n) && (a.testBit n == b.testBit n)) := by
  rw [tb, tb, Nat.mod_pow_succ, Nat.mod_pow_succ]
  have hp : 0 < 2 ^ n := Nat.two_pow_pos n
  have ha : a / 2 ^ n % 2 = 0 ∨ a / 2 ^ n % 2 = 1 := by omega
  have hb : b / 2 ^ n % 2 = 0 ∨ b / 2 ^ n % 2 = 1 := by omega
  have la := Nat.mod_lt a hp
  have lb := Nat.mod_lt b hp
  generalize a % 2 ^ n = x at *
  generalize b % 2 ^ n = y at *
  generalize 2 ^ n = p at *
  rcases ha with h1 | h1 <;> rcases hb with h2 | h2 <;> rw [h1, h2]
  · simp
  · rw [Nat.mul_zero, Nat.mul_one, Nat.add_zero]
    have : ¬ x = y + p := by omega
    simp [this]
  · rw [Nat.mul_zero, Nat.mul_one, Nat.add_zero]
    have : ¬ x + p = y := by omega
    simp [this]
  · have : (x + p * 1 = y + p * 1) = (x = y) := propext (by omega)
    simp [this]
theorem some_n (W K : Nat) (k : Nat → Bool) : ∀ n, n ≤ 10 → (∀ j, j < n → k j = K.testBit j) → someN (W : Int) k n = decide ((K &&& W) % 2 ^ n ≠ 0)
  | 0, _, _ => by simp [someN, Nat.mod_one]
  | n + 1, hn, hk => by
    unfold someN
    rw [some_n W K k n (by omega) (fun j hj => hk j (by omega)), hk n (by omega), bt_n W n (by omega), step_ne, Nat.testBit_and]
    cases W.testBit n <;> cases K.testBit n <;> cases decide ((K &&& W) % 2 ^ n ≠ 0) <;> rfl
theorem all_n (W K : Nat) (k : Nat → Bool) : ∀ n, n ≤ 10 → (∀ j, j < n → k j = K.testBit j) → allN (W : Int) k n = decide ((K &&& W) % 2 ^ n = W % 2 ^ n)
  | 0, _, _ => by simp [allN, Nat.mod_one]
  | n + 1, hn, hk => by
    unfold allN
    rw [all_n W K k n (by omega) (fun j hj => hk j (by omega)), hk n (by omega), bt_n W n (by omega), step_eq, Nat.testBit_and]
    cases W.testBit n <;> cases K.testBit n <;> cases decide ((K &&& W) % 2 ^ n = W % 2 ^ n) <;> rfl
theorem kp_eq (W : Nat) (hW : W < 65536) (ky : Int) (k : Nat → Bool) (h : relB 10 ky k) : pkV (W : Int) ky = kpV (W : Int) k := by
  obtain ⟨K, rfl, hK, hk⟩ := h
  have hK : K < 1024 := hK
  unfold pkV kpV
  have e1 : (a1 (W : Int) 16384 == 0) = !(W.testBit 14) := aB W 14 hW (by decide) _ rfl
  have e2 : (a1 (W : Int) 32768 == 0) = !(W.testBit 15) := aB W 15 hW (by decide) _ rfl
  have e3 : (a1 (W : Int) 32768 != 0) = W.testBit 15 := by rw [bne, e2, Bool.not_not]
  have b14 : bt (W : Int) 14 = W.testBit 14 := bt_n W 14 (by decide)
  have b15 : bt (W : Int) 15 = W.testBit 15 := bt_n W 15 (by decide)
  have hz : (K &&& W) % 1024 = K &&& W := Nat.mod_eq_of_lt (Nat.lt_of_le_of_lt Nat.and_le_left hK)
  have hm : K &&& (W % 1024) = K &&& W := by
    have e : K % 2 ^ 10 = K := Nat.mod_eq_of_lt hK
    have := @Nat.and_mod_two_pow K W 10
    rw [e] at this
    rw [← this]; exact hz
  have e4 : a1 (K : Int) (a1 (W : Int) 1023) = ((K &&& W : Nat) : Int) := by rw [aK W hW, an K _ (by omega) (by omega), hm]
  rw [e1, e3, e2, b14, b15, some_n W K k 10 (by decide) hk, all_n W K k 10 (by decide) hk, e4, aK W hW]
  rw [show (2 : Nat) ^ 10 = 1024 from rfl, hz]
  have f1 : ((((K &&& W : Nat) : Int)) == ((W % 1024 : Nat) : Int)) = decide (K &&& W = W % 1024) := by
    by_cases q : K &&& W = W % 1024
    · simp [q]
    · simp only [q, decide_false]; simp; omega
  have f2 : ((((K &&& W : Nat) : Int)) != 0) = decide (K &&& W ≠ 0) := by
    by_cases q : K &&& W = 0
    · simp [q]
    · rw [decide_eq_true q]; exact bne_iff_ne.2 (by omega)
  rw [f1, f2]
  simp
theorem relB_or {n : Nat} (hn : n ≤ 16) {x : Int} {f : Nat → Bool} (h : relB n x f) (y : Nat) (hy : y < n) : relB n (bits .or .u16 x ((2 ^ y : Nat) : Int)) (fun j => cond (Nat.beq j y) true (f j)) := by
  obtain ⟨X, rfl, hX, hf⟩ := h
  have hp : 2 ^ y < 2 ^ n := Nat.pow_lt_pow_right (by decide) hy
  have h16 : 2 ^ n ≤ 65536 := Nat.pow_le_pow_right (n := 2) (by decide) hn
  refine ⟨X ||| 2 ^ y, bits_or_n .u16 rfl X _ (by show X < 65536; omega) (by show 2 ^ y < 65536; omega), Nat.or_lt_two_pow hX hp, fun j hj => ?_⟩
  show cond (Nat.beq j y) true (f j) = _
  rw [Nat.testBit_or, Nat.testBit_two_pow, hf j hj]
  by_cases e : y = j
  · subst e; rw [Nat.beq_refl]; simp
  · have : Nat.beq j y = false := by
      cases hb : Nat.beq j y with
      | false => rfl
      | true => exact absurd (Nat.eq_of_beq_eq_true hb).symm e
    rw [this]; simp [e]
theorem relB_congr {n : Nat} {x : Int} {f g : Nat → Bool} (h : relB n x f) (hg : ∀ j, j < n → g j = f j) : relB n x g := by
  obtain ⟨X, h1, h2, h3⟩ := h
  exact ⟨X, h1, h2, fun j hj => (hg j hj).trans (h3 j hj)⟩
theorem rel_raise {rq : Int} {r : Nat → Bool} (h : relB 14 rq r) (y : Int) : relB 14 (prR rq y) (rrR r y) := by
  unfold prR
  cases hi : inR y with
  | false => exact relB_congr h fun j _ => by unfold rrR; rw [hi]; rfl
  | true =>
    have hi2 := hi
    unfold inR at hi2
    cases h1 : decide (y ≥ 0) <;> rw [h1] at hi2 <;> simp only [cond_true, cond_false] at hi2
    · cases hi2
    have h1 := of_decide_eq_true h1
    have h2 := of_decide_eq_true hi2
    obtain ⟨Y, rfl⟩ := Int.eq_ofNat_of_zero_le h1
    have hY : Y < 14 := by omega
    have e : IntKind.u16.wrap (1 * 2 ^ min ((Y : Int)).toNat 16) = ((2 ^ Y : Nat) : Int) := by
      rw [show ((Y : Int)).toNat = Y from rfl, Nat.min_eq_left (by omega), wu16]
      have : 2 ^ Y < 65536 := Nat.lt_of_lt_of_le (Nat.pow_lt_pow_right (by decide) hY) (by decide)
      rw [Int.one_mul, show ((2 : Int) ^ Y) = ((2 ^ Y : Nat) : Int) by push_cast; rfl]
      generalize 2 ^ Y = p at *
      exact Int.emod_eq_of_lt (by omega) (by omega)
    simp only [cond_true]
    rw [e]
    refine relB_congr (relB_or (by decide) h Y hY) fun j hj => ?_
    unfold rrR rsT
    rw [hi]
    simp only [cond_true]
    by_cases q : Y = j
    · subst q; rw [Nat.beq_refl, beq_self_eq_true]
    · have : Nat.beq j Y = false := by
        cases hb : Nat.beq j Y with
        | false => rfl
        | true => exact absurd (Nat.eq_of_beq_eq_true hb).symm q
      rw [this, show ((Y : Int) == (j : Int)) = false from beq_eq_false_iff_ne.2 (by omega)]
theorem rel_pk {rq : Int} {r : Nat → Bool} (h : relB 14 rq r) (b : Bool) : relB 14 (pkR b rq) (setB b 12 r) := by
  unfold pkR
  cases b with
  | false => exact relB_congr h fun j _ => rfl
  | true => exact relB_congr (relB_or (by decide) h 12 (by decide)) fun j _ => rfl
theorem relB_bt (n : Nat) (hn : n ≤ 16) (X : Nat) : relB n ((X % 2 ^ n : Nat) : Int) (fun j => bt (X : Int) (j : Int)) :=
  ⟨X % 2 ^ n, rfl, Nat.mod_lt _ (Nat.two_pow_pos n), fun j hj => by show bt (X : Int) (j : Int) = _; rw [bt_n X j (by omega), Nat.testBit_mod_two_pow, decide_eq_true hj, Bool.true_and]⟩
theorem rel_clr {rq : Int} {r : Nat → Bool} (h : relB 14 rq r) (X : Nat) (hX : X < 65536) : relB 14 (bits .andNot .u16 rq (X : Int)) (fun j => cond (bt (X : Int) (j : Int)) false (r j)) := by
  obtain ⟨R, rfl, hR, hf⟩ := h
  have hR' : R < 16384 := hR
  have e := bits_andNot_n .u16 (R : Int) X hX
  have e1 : 2 ^ IntKind.u16.bits - 1 - X = 65535 ^^^ X := (not_xor 16 X hX).symm
  rw [e1] at e
  have hx : 65535 ^^^ X < 2 ^ 16 := Nat.xor_lt_two_pow (by decide) hX
  refine ⟨R &&& (65535 ^^^ X), e.trans (bits_and_n .u16 rfl R _ (by show R < 65536; omega) hx), Nat.lt_of_le_of_lt Nat.and_le_left hR, fun j hj => ?_⟩
  show cond (bt (X : Int) (j : Int)) false (r j) = _
  rw [bt_n X j (by omega), Nat.testBit_and, Nat.testBit_xor, hf j hj, show (65535 : Nat).testBit j = true by rw [show (65535 : Nat) = 2 ^ 16 - 1 from rfl, Nat.testBit_two_pow_sub_one]; simp; omega]
  cases X.testBit j <;> cases R.testBit j <;> rfl
theorem wk_n (E R : Nat) (e r : Nat → Bool) (he : ∀ j, j < 14 → e j = E.testBit j) (hr : ∀ j, j < 14 → r j = R.testBit j) : ∀ n j, j + n = 14 → wkN e r n j = decide (((E &&& R) / 2 ^ j) % 2 ^ n ≠ 0)
  | 0, j, _ => by simp [wkN, Nat.mod_one]
  | n + 1, j, h => by
    unfold wkN
    rw [wk_n E R e r he hr n (j + 1) (by omega), he j (by omega), hr j (by omega)]
    have hz : (E.testBit j && R.testBit j) = (E &&& R).testBit j := (Nat.testBit_and _ _ _).symm
    have hc : (bif E.testBit j then R.testBit j else false) = (E.testBit j && R.testBit j) := by cases E.testBit j <;> rfl
    rw [hc, hz, tb]
    generalize E &&& R = z
    have e1 : z / 2 ^ (j + 1) = z / 2 ^ j / 2 := by rw [Nat.pow_succ, Nat.div_div_eq_div_mul]
    rw [e1]
    generalize z / 2 ^ j = q
    have e2 : q % 2 ^ (n + 1) = q % 2 + 2 * (q / 2 % 2 ^ n) := by rw [Nat.pow_succ, Nat.mul_comm, Nat.mod_mul]
    rw [e2]
    have hb : q % 2 = 0 ∨ q % 2 = 1 := by omega
    rcases hb with h1 | h1 <;> rw [h1]
    · generalize q / 2 % 2 ^ n = d
      have : decide (0 + 2 * d ≠ 0) = decide (d ≠ 0) := by congr 1; exact propext (by omega)
      rw [this]; rfl
    · generalize q / 2 % 2 ^ n = d
      have : decide (1 + 2 * d ≠ 0) = true := decide_eq_true (by omega)
      rw [this]; rfl
theorem rel_wakes {en rq : Int} {e r : Nat → Bool} (h1 : relB 14 en e) (h2 : relB 14 rq r) : pwkV en rq = wkN e r 14 0 := by
  obtain ⟨E, rfl, hE, he⟩ := h1
  obtain ⟨R, rfl, hR, hr⟩ := h2
  have hE' : E < 16384 := hE
  have hR' : R < 16384 := hR
  rw [wk_n E R e r he hr 14 0 rfl]
  unfold pwkV
  rw [an E R (by omega) (by omega), Nat.pow_zero, Nat.div_one, Nat.mod_eq_of_lt (Nat.lt_of_le_of_lt Nat.and_le_left hE)]
  by_cases q : E &&& R = 0
  · simp [q]
  · rw [decide_eq_true q]; exact bne_iff_ne.2 (by omega)
theorem p2_eq : ∀ n, n < 14 → p2 n = ((2 ^ n : Nat) : Int) := by decide
theorem sum_n (X : Nat) (f : Nat → Bool) : ∀ n, n ≤ 14 → (∀ j, j < n → f j = X.testBit j) → sumN f n = ((X % 2 ^ n : Nat) : Int)
  | 0, _, _ => by simp [sumN, Nat.mod_one]
  | n + 1, hn, hf => by
    unfold sumN
    rw [sum_n X f n (by omega) (fun j hj => hf j (by omega)), hf n (by omega), p2_eq n (by omega), Nat.mod_pow_succ, tb]
    have hp : 2 ^ n ≤ 2 ^ 13 := Nat.pow_le_pow_right (by decide) (by omega)
    have hl := Nat.mod_lt X (Nat.two_pow_pos n)
    have h13 : (2 : Nat) ^ 13 = 8192 := rfl
    have hb : X / 2 ^ n % 2 = 0 ∨ X / 2 ^ n % 2 = 1 := by omega
    rcases hb with h | h <;> rw [h]
    · simp
    · simp only [decide_true, cond_true]
      rw [wu16]
      generalize X % 2 ^ n = a at *
      generalize 2 ^ n = p at *
      rw [← Int.natCast_add, show ((a + p : Nat) : Int) % 65536 = ((a + p : Nat) : Int) from Int.emod_eq_of_lt (by omega) (by omega)]
      simp
theorem rel_sum {n : Nat} (hn : n ≤ 14) {x : Int} {f : Nat → Bool} (h : relB n x f) : sumN f n = x := by
  obtain ⟨X, rfl, hX, hf⟩ := h
  rw [sum_n X f n hn hf, Nat.mod_eq_of_lt hX]
theorem rel_keys {ky : Int} {k : Nat → Bool} (h : relB 10 ky k) : a1 (bits .xor .u16 65535 ky) 1023 = sumN (fun j => !(k j)) 10 := by
  obtain ⟨K, rfl, hK, hf⟩ := h
  have hK' : K < 1024 := hK
  have e := bits_xor_n .u16 rfl 65535 K (by decide) (by show K < 65536; omega)
  rw [show ((65535 : Nat) : Int) = 65535 from rfl] at e
  have hx : 65535 ^^^ K < 2 ^ 16 := Nat.xor_lt_two_pow (by decide) (by omega)
  rw [e, aK _ hx, sum_n (65535 ^^^ K) _ 10 (by decide) (fun j hj => by
    rw [Nat.testBit_xor, hf j hj, show (65535 : Nat).testBit j = true by rw [show (65535 : Nat) = 2 ^ 16 - 1 from rfl, Nat.testBit_two_pow_sub_one]; simp; omega]
    cases K.testBit j <;> rfl)]
structure Rel (en rq wa ky : Int) (pm : Bool) (e r k : Nat → Bool) (w : Int) (m : Bool) : Prop where
  he : relB 14 en e
  hr : relB 14 rq r
  hk : relB 10 ky k
  hw : w = wa
  hm : m = pm
  h0 : 0 ≤ wa
  h1 : wa < 65536
theorem Rel.raise {en rq wa ky : Int} {pm : Bool} {e r k : Nat → Bool} {w : Int} {m : Bool} (h : Rel en rq wa ky pm e r k w m) (y : Int) : Rel en (prR rq y) wa ky pm e (rrR r y) k w m :=
  ⟨h.he, rel_raise h.hr y, h.hk, h.hw, h.hm, h.h0, h.h1⟩
theorem a50175 (X : Nat) (hX : X < 65536) : ∃ Y : Nat, a1 (X : Int) 50175 = (Y : Int) ∧ Y < 65536 :=
  ⟨X &&& 50175, an X 50175 hX (by decide), Nat.lt_of_le_of_lt Nat.and_le_left hX⟩
theorem Rel.keys {en rq wa ky : Int} {pm : Bool} {e r k : Nat → Bool} {w : Int} {m : Bool} (h : Rel en rq wa ky pm e r k w m) (x : Int) (hx0 : 0 ≤ x) (hx1 : x < 65536) :
    Rel en (pkR (pkV wa (a1 x 1023)) rq) wa (a1 x 1023) pm e (setB (kpV w (fun j => bt x (j : Int))) 12 r) (fun j => bt x (j : Int)) w m := by
  obtain ⟨X, rfl⟩ := Int.eq_ofNat_of_zero_le hx0
  have hX : X < 65536 := by omega
  have hk' : relB 10 (a1 (X : Int) 1023) (fun j => bt (X : Int) (j : Int)) := by rw [aK X hX]; exact relB_bt 10 (by decide) X
  obtain ⟨W, hW⟩ := Int.eq_ofNat_of_zero_le h.h0
  have hW1 := h.h1
  refine ⟨h.he, ?_, hk', h.hw, h.hm, h.h0, h.h1⟩
  rw [h.hw, hW, kp_eq W (by omega) _ _ hk']
  exact rel_pk h.hr _
theorem Rel.write {en rq wa ky : Int} {pm : Bool} {e r k : Nat → Bool} {w : Int} {m : Bool} (h : Rel en rq wa ky pm e r k w m) (y x : Int) (hx0 : 0 ≤ x) (hx1 : x < 65536) :
    Rel (pwE en y x) (pwR rq ky y x) (pwW wa y x) ky (pwM pm y x) (rwE e y x) (rwR r k y x) k (pwW w y x) (rwM m y x) := by
  obtain ⟨X, rfl⟩ := Int.eq_ofNat_of_zero_le hx0
  have hX : X < 65536 := by omega
  obtain ⟨Y, hY, hY1⟩ := a50175 X hX
  have hkp : pkV (a1 (X : Int) 50175) ky = kpV (a1 (X : Int) 50175) k := by rw [hY]; exact kp_eq Y hY1 ky k h.hk
  unfold pwE pwR pwW pwM rwM
  cases c1 : (y == 306) with
  | true =>
    refine ⟨relB_congr h.he fun j _ => by unfold rwE; rw [c1]; rfl, ?_, h.hk, rfl, h.hm, by simp only [cond_true]; omega, by simp only [cond_true]; omega⟩
    simp only [cond_true]
    rw [hkp]
    exact relB_congr (rel_pk h.hr _) fun j _ => by unfold rwR; rw [c1]; rfl
  | false =>
    simp only [cond_false]
    cases c2 : (y == 512) with
    | true =>
      refine ⟨?_, relB_congr h.hr fun j _ => by unfold rwR; rw [c1, c2]; rfl, h.hk, h.hw, h.hm, h.h0, h.h1⟩
      simp only [cond_true]
      rw [aA X hX]
      exact relB_congr (relB_bt 14 (by decide) X) fun j _ => by unfold rwE; rw [c1, c2]; rfl
    | false =>
      simp only [cond_false]
      have he' : relB 14 en (rwE e y X) := relB_congr h.he fun j _ => by unfold rwE; rw [c1, c2]; rfl
      cases c3 : (y == 514) with
      | true =>
        refine ⟨he', ?_, h.hk, h.hw, h.hm, h.h0, h.h1⟩
        simp only [cond_true]
        exact relB_congr (rel_clr h.hr X hX) fun j _ => by unfold rwR; rw [c1, c2, c3]; rfl
      | false =>
        simp only [cond_false]
        have hr' : relB 14 rq (rwR r k y X) := relB_congr h.hr fun j _ => by unfold rwR; rw [c1, c2, c3]; rfl
        refine ⟨he', hr', h.hk, h.hw, ?_, h.h0, h.h1⟩
        cases c4 : (y == 520) with
        | true =>
          simp only [cond_true]
          rw [show bt (X : Int) 0 = X.testBit 0 from bt_n X 0 (by decide), bne, aB X 0 hX (by decide) 1 rfl, Bool.not_not]
        | false => exact h.hm
theorem Rel.read {en rq wa ky : Int} {pm : Bool} {e r k : Nat → Bool} {w : Int} {m : Bool} (h : Rel en rq wa ky pm e r k w m) (y : Int) : pdV en rq wa ky pm y = rdV e r k w m y := by
  unfold pdV rdV
  rw [rel_keys h.hk, rel_sum (by decide) h.he, rel_sum (by decide) h.hr, h.hw, h.hm]
theorem Rel.wakes {en rq wa ky : Int} {pm : Bool} {e r k : Nat → Bool} {w : Int} {m : Bool} (h : Rel en rq wa ky pm e r k w m) : pwkV en rq = wkN e r 14 0 := rel_wakes h.he h.hr
theorem Rel.fires {en rq wa ky : Int} {pm : Bool} {e r k : Nat → Bool} {w : Int} {m : Bool} (h : Rel en rq wa ky pm e r k w m) : (pwkV en rq && pm) = (m && wkN e r 14 0) := by
  rw [h.wakes, h.hm, Bool.and_comm]
end Go.Proofs.Ytnpngigighkegaa

