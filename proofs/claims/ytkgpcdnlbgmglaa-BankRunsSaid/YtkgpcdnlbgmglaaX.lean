import Derived.Test.YtkgpcdnlbgmglaaW
set_option linter.unusedVariables false
set_option linter.unusedSimpArgs false
namespace Go.Proofs.Ytkgpcdnlbgmglaa
open Go Go.Proofs Go.Proofs.Ytkgpcdnlbgmglaa.Ev
set_option maxRecDepth 100000
theorem beqN {a b : Nat} : (Nat.beq a b = true) ↔ a = b := ⟨Nat.eq_of_beq_eq_true, fun h => by subst h; exact Nat.beq_refl a⟩
theorem ofL_rk (f : Nat → Int) (j : Nat) (h : j < 103) : ofL (rk f) j = f j := by
  have : rk f = unL f 103 0 := rfl
  rw [this, ofL_un f 103 0 j h, Nat.zero_add]
theorem rel_ext {d d' r r' : Nat → Int} (hd : ∀ j, j < 45 → d' j = d j) (hr : ∀ j, j < 103 → r' j = r j) (h : rel d r) : rel d' r' := by
  have h0 := hd 0 (by decide)
  refine ⟨by rw [h0]; exact h.1, fun j hj => ?_⟩
  rw [hr j hj, h.2 j hj]
  unfold rf
  rw [h0]
  by_cases hh : ri (md (d 0)) j < 45
  · rw [if_pos hh, if_pos hh, hd _ hh]
  · rw [if_neg hh, if_neg hh]
theorem rel_of {d r : Nat → Int} (h : rel d r) : rel (ofL (bk d)) (ofL (rk r)) := rel_ext (ofL_bk d) (ofL_rk r) h
theorem rel_102 {d r : Nat → Int} (h : rel d r) : r 102 = d 0 := by
  rw [h.2 102 (by decide)]; rfl
theorem rel_md {d r : Nat → Int} (h : rel d r) : md2 (r 102) = md (d 0) := by rw [rel_102 h]; exact md2_md _ h.1.1 h.1.2
theorem rel_C {d r : Nat → Int} (h : rel d r) (i x : Int) : rel (setC d i x) (rsetV r i x) := by
  refine ⟨h.1, fun j hj => ?_⟩
  obtain ⟨K, hk, hK⟩ := kkN i
  have hm := md_lt (d 0)
  have hf := fC_all _ hm j hj K hk
  unfold fC at hf
  have hf := xor_eq hf
  show rrow r (pl (md2 (r 102)) (kk i)) (kk i) x j = if ri (md (d 0)) j < 45 then setC d i x (ri (md (d 0)) j) else 0
  rw [rel_md h, hK, pl_N _ _ hk]
  have hj2 := h.2 j hj
  unfold rf at hj2
  unfold rrow
  generalize md (d 0) = m at *
  generalize plN m K = p at *
  have hcell : cond ((K : Int) == ((j - 16 * p : Nat) : Int)) x (r j) = if j - 16 * p = K then x else r j := by
    rw [cond_nat]
    by_cases e : j - 16 * p = K
    · rw [if_pos (by omega), if_pos e]
    · rw [if_neg (by omega), if_neg e]
  rw [hcell]
  by_cases hb : (Nat.ble (16 * p) j && Nat.blt j (16 * p + 16)) = true
  · rw [hb] at hf ⊢
    rw [cond_true]
    by_cases e : j - 16 * p = K
    · have e1 : Nat.beq (j - 16 * p) K = true := beqN.2 e
      rw [e1] at hf
      have e2 : ri m j = K + 1 := beqN.1 hf.symm
      rw [if_pos e, e2, if_pos (by omega), setC_up d i x K _ hK (by omega), if_pos rfl]
    · have e1 : ¬ ri m j = K + 1 := fun h2 => e (beqN.1 (by rw [beqN.2 h2] at hf; exact hf))
      rw [if_neg e, hj2]
      by_cases hh : ri m j < 45
      · rw [if_pos hh, if_pos hh, setC_up d i x K _ hK hh, if_neg e1]
      · rw [if_neg hh, if_neg hh]
  · have hb' : (Nat.ble (16 * p) j && Nat.blt j (16 * p + 16)) = false := (Bool.not_eq_true _).mp hb
    rw [hb'] at hf ⊢
    rw [cond_false]
    have e1 : ¬ ri m j = K + 1 := fun h2 => by rw [beqN.2 h2] at hf; cases hf
    rw [hj2]
    by_cases hh : ri m j < 45
    · rw [if_pos hh, if_pos hh, setC_up d i x K _ hK hh, if_neg e1]
    · rw [if_neg hh, if_neg hh]
theorem rel_St {d r : Nat → Int} (h : rel d r) (x : Int) (h0 : 0 ≤ x) (h1 : x < 4294967296) : rel (setSt d x) (rst r x) := by
  refine ⟨⟨h0, h1⟩, fun j hj => ?_⟩
  have hm := md_lt (d 0)
  have hx := md_lt x
  have hf := fT_all _ hm _ hx j hj
  have hj2 := h.2 j hj
  unfold rf at hj2
  show cond (Nat.beq j 102) x (r j) = if ri (md x) j < 45 then setSt d x (ri (md x) j) else 0
  unfold fT at hf
  by_cases e : j = 102
  · subst e; rfl
  · have e1 : Nat.beq j 102 = false := by
      cases e2 : Nat.beq j 102 with
      | false => rfl
      | true => exact absurd (beqN.1 e2) e
    rw [e1] at hf ⊢
    rw [cond_false, hj2]
    rw [Bool.false_or, Bool.and_eq_true] at hf
    have hf1 := xor_eq hf.1
    have hf2 := hf.2
    unfold setSt
    generalize md x = b at *
    generalize md (d 0) = a at *
    by_cases hh : ri b j < 45
    · have h3 : Nat.blt (ri b j) 45 = true := Nat.ble_eq_true_of_le hh
      rw [h3] at hf1 hf2
      have h4 : ri a j < 45 := Nat.le_of_ble_eq_true hf1
      rw [Bool.not_true, Bool.false_or, Bool.and_eq_true] at hf2
      have h5 : pm a b (ri b j) = ri a j := beqN.1 hf2.2
      have h6 : ri b j ≠ 0 := fun e => by rw [e] at hf2; exact absurd hf2.1 (by decide)
      rw [if_pos h4, if_pos hh, if_neg h6, h5]
    · have h3 : Nat.blt (ri b j) 45 = false := by
        cases e2 : Nat.blt (ri b j) 45 with
        | false => rfl
        | true => exact absurd (Nat.le_of_ble_eq_true e2) hh
      rw [h3] at hf1
      have h4 : ¬ ri a j < 45 := fun e => by
        have : Nat.blt (ri a j) 45 = true := Nat.ble_eq_true_of_le e
        rw [this] at hf1; cases hf1
      rw [if_neg h4, if_neg hh]
theorem rel_Sv {d r : Nat → Int} (h : rel d r) (x : Int) : rel (setSv d x) (rssvV r x) := by
  have h00 : setSv d x 0 = d 0 := setSv_0 d x
  refine ⟨by rw [h00]; exact h.1, fun j hj => ?_⟩
  have hm := md_lt (d 0)
  have hf := fS_all _ hm j hj
  have hj2 := h.2 j hj
  unfold rf at hj2 ⊢
  rw [h00]
  show rsv r (md2 (r 102)) x j = _
  rw [rel_md h]
  unfold rsv setSv
  unfold fS at hf
  generalize md (d 0) = m at *
  cases e : Nat.beq m 0 with
  | true =>
    rw [Bool.not_true, Bool.false_and, cond_false, hj2]
    rfl
  | false =>
    rw [e, Bool.false_or] at hf
    have hf := xor_eq hf
    rw [Bool.not_false, Bool.true_and]
    cases e2 : Nat.beq j (96 + m) with
    | true =>
      rw [e2] at hf
      have e3 : ri m j = 39 + m := beqN.1 hf
      rw [e3, if_pos (by omega), beqN.2 rfl]; rfl
    | false =>
      rw [e2] at hf
      rw [cond_false, hj2, Bool.true_and, hf]
      rfl
theorem rel_U {d r : Nat → Int} (h : rel d r) (i x : Int) : rel (setU d i x) (rsusV r i x) := by
  have h00 : setU d i x 0 = d 0 := setU_0 d i x
  refine ⟨by rw [h00]; exact h.1, fun j hj => ?_⟩
  obtain ⟨K, hk, hK⟩ := kkN i
  have hm := md_lt (d 0)
  have hf := fU_all _ hm j hj K hk
  unfold fU at hf
  have hf := xor_eq hf
  have hj2 := h.2 j hj
  unfold rf at hj2 ⊢
  rw [h00]
  show rrow r 0 (kk i) x j = _
  rw [hK]
  have hu : up (md (d 0)) K < 45 := upLt _ hm K hk
  have hU := fun t ht => setU_up d i x K t hk hK ht
  unfold rrow
  generalize md (d 0) = m at *
  have hcell : cond ((K : Int) == ((j - 16 * 0 : Nat) : Int)) x (r j) = if j = K then x else r j := by
    rw [cond_nat]
    by_cases e : j = K
    · rw [if_pos (by omega), if_pos e]
    · rw [if_neg (by omega), if_neg e]
  rw [hcell]
  by_cases e : j = K
  · have e2 : ri m j = up m K := beqN.1 (hf.trans (beqN.2 e))
    have hb : (Nat.ble (16 * 0) j && Nat.blt j (16 * 0 + 16)) = true := by
      rw [Bool.and_eq_true]; exact ⟨Nat.ble_eq_true_of_le (by omega), Nat.ble_eq_true_of_le (by omega)⟩
    rw [hb, cond_true, if_pos e, e2, if_pos hu, hU _ hu, if_pos rfl]
  · have e1 : ¬ ri m j = up m K := fun h2 => e (beqN.1 (hf.symm.trans (beqN.2 h2)))
    rw [if_neg e]
    have : ∀ b : Bool, cond b (r j) (r j) = r j := fun b => by cases b <;> rfl
    rw [this, hj2]
    by_cases hh : ri m j < 45
    · rw [if_pos hh, if_pos hh, hU _ hh, if_neg e1]
    · rw [if_neg hh, if_neg hh]
theorem tab : ∀ l, l < 256 → ∀ q, q < 32 → (((l &&& 192) ||| q) ||| 128) = l / 64 * 64 + q + (if l / 128 % 2 = 1 then 0 else 128) := by decide +kernel
theorem rr_ar (x m : Nat) (hx : x < 4294967296) : rr x m = x / 64 * 64 + m % 32 + (if x / 128 % 2 = 1 then 0 else 128) := by
  have e1 : m &&& 31 = m % 32 := Nat.and_two_pow_sub_one_eq_mod m 5
  have hmod : rr x m % 256 = x % 256 / 64 * 64 + m % 32 + (if x % 256 / 128 % 2 = 1 then 0 else 128) := by
    rw [← tab (x % 256) (by omega) (m % 32) (by omega)]
    unfold rr
    rw [e1]
    have h8 : (256 : Nat) = 2 ^ 8 := rfl
    rw [h8, Nat.or_mod_two_pow, Nat.or_mod_two_pow, Nat.and_mod_two_pow]
    have e2 : m % 32 % 2 ^ 8 = m % 32 := Nat.mod_eq_of_lt (by omega)
    rw [e2]
  have hdiv : rr x m / 256 = x / 256 := by
    have h9 : ∀ y : Nat, y / 256 = y >>> 8 := fun y => (Nat.shiftRight_eq_div_pow y 8).symm
    rw [h9, h9]
    unfold rr
    rw [Nat.shiftRight_or_distrib, Nat.shiftRight_or_distrib, Nat.shiftRight_and_distrib, e1]
    have e2 : (m % 32) >>> 8 = 0 := by rw [← h9]; omega
    have e3 : x >>> 8 &&& 4294967232 >>> 8 = x >>> 8 := by
      have : (4294967232 >>> 8 : Nat) = 2 ^ 24 - 1 := by decide
      rw [this, Nat.and_two_pow_sub_one_eq_mod]
      exact Nat.mod_eq_of_lt (by rw [← h9]; omega)
    rw [e2, e3]
    simp
  have := Nat.div_add_mod (rr x m) 256
  rw [hmod, hdiv] at this
  rw [← this]
  split <;> split <;> omega
theorem wrap_in (z : Int) (h0 : 0 ≤ z) (h1 : z < 4294967296) : IntKind.u32.wrap z = z := by
  have h : IntKind.u32.wrap z = z % 4294967296 := rfl
  rw [h]; omega
theorem rentW_rr (x m : Nat) (hx : x < 4294967296) : rentW (x : Int) (m : Int) = ((rr x m : Nat) : Int) := by
  rw [rr_ar x m hx]
  have hu0 : u0 (x : Int) (m : Int) = ((x / 32 * 32 + m % 32 : Nat) : Int) := by
    unfold u0
    rw [Int.tmod_eq_emod_of_nonneg (by omega), Int.tmod_eq_emod_of_nonneg (by omega)]
    rw [wrap_in ((x : Int) - (x : Int) % 32) (by omega) (by omega), wrap_in _ (by omega) (by omega)]
    omega
  have tm : ∀ (y k : Nat), ((y : Int).fdiv (k : Int)).tmod 2 = ((y / k % 2 : Nat) : Int) := by
    intro y k
    rw [← Int.ofNat_fdiv]
    generalize y / k = q
    rw [Int.tmod_eq_emod_of_nonneg (by omega)]
    omega
  have hb5 : b5 (x : Int) (m : Int) = decide (x / 32 % 2 = 1) := by
    unfold b5
    rw [hu0, show ((32 : Int)) = ((32 : Nat) : Int) from rfl, tm]
    by_cases e : x / 32 % 2 = 1
    · rw [decide_eq_true e]; simp; omega
    · rw [decide_eq_false e]; simp; omega
  have hu1 : u1 (x : Int) (m : Int) = ((x / 64 * 64 + m % 32 : Nat) : Int) := by
    unfold u1
    rw [hb5, hu0]
    by_cases e : x / 32 % 2 = 1
    · rw [decide_eq_true e, cond_true, wrap_in _ (by omega) (by omega)]; omega
    · rw [decide_eq_false e, cond_false]; omega
  unfold rentW
  rw [hu1]
  have hb7 : b7 ((x / 64 * 64 + m % 32 : Nat) : Int) = !decide (x / 128 % 2 = 1) := by
    unfold b7
    rw [show ((128 : Int)) = ((128 : Nat) : Int) from rfl, tm]
    congr 1
    by_cases e : x / 128 % 2 = 1
    · rw [decide_eq_true e]; simp; omega
    · rw [decide_eq_false e]; simp; omega
  rw [hb7]
  by_cases e : x / 128 % 2 = 1
  · rw [decide_eq_true e, if_pos e]; rfl
  · rw [decide_eq_false e, if_neg e, Bool.not_false, cond_true, wrap_in _ (by omega) (by omega)]; omega
theorem rel_E {d r : Nat → Int} (h : rel d r) (m x : Int) (h0 : 0 ≤ m) (h1 : m < 4294967296) : rel (entV d m x) (rentV r m x) := by
  obtain ⟨m, rfl⟩ := Int.eq_ofNat_of_zero_le h0
  obtain ⟨s, hs⟩ := Int.eq_ofNat_of_zero_le h.1.1
  have hs1 : s < 4294967296 := by have := h.1.2; omega
  have e : entW d (m : Int) = ((rr s m : Nat) : Int) := entW_rr d s m hs1 (by omega) hs
  have e2 : rentW (r 102) (m : Int) = entW d (m : Int) := by rw [rel_102 h, hs, e, rentW_rr s m hs1]
  have hlt := rr_lt s m hs1
  unfold entV rentV entR
  rw [e2, rel_102 h]
  have g1 := rel_St h (entW d (m : Int)) (by rw [e]; omega) (by rw [e]; omega)
  have g2 := rel_ext (fun _ _ => rfl) (ofL_rk _) g1
  have g3 := rel_ext (fun _ _ => rfl) (ofL_rk _) (rel_Sv g2 (d 0))
  exact rel_C g3 14 x
theorem np {d r : Nat → Int} (h : rel d r) (h2 : (d 0 != r 102) = true) : false = true := by
  rw [rel_102 h] at h2; simp at h2
theorem savR {d r : Nat → Int} (h : rel d r) : rsavV r = savV d := by
  have hm := md_lt (d 0)
  unfold rsavV savV
  rw [rel_md h, rel_102 h]
  cases e : Nat.beq (md (d 0)) 0 with
  | true => rfl
  | false =>
    have h0 : md (d 0) ≠ 0 := fun e2 => by rw [e2] at e; cases e
    obtain ⟨g1, g2, g3⟩ := fV_all _ hm h0
    show r (96 + md (d 0)) = d (39 + md (d 0))
    rw [h.2 _ g3]
    unfold rf
    rw [g1, if_pos g2]
theorem ns {d r : Nat → Int} (h : rel d r) (h2 : (savV d != rsavV r) = true) : false = true := by
  rw [savR h] at h2; simp at h2
theorem sel_row (c : Nat → Int) (p K : Nat) (hk : K < 16) : selI (row c p) (K : Int) = c (16 * p + K) := by
  unfold row
  obtain h | h | h | h | h | h | h | h | h | h | h | h | h | h | h | h : K = 0 ∨ K = 1 ∨ K = 2 ∨ K = 3 ∨ K = 4 ∨ K = 5 ∨ K = 6 ∨ K = 7 ∨ K = 8 ∨ K = 9 ∨ K = 10 ∨ K = 11 ∨ K = 12 ∨ K = 13 ∨ K = 14 ∨ K = 15 := by omega
  all_goals (subst h; rfl)
theorem getV_k (d : Nat → Int) (K : Nat) (hk : K < 16) : getV d (K : Int) = d (K + 1) := by
  have h := kk_nat K hk
  have h : bits .and .i64 (K : Int) 15 = (K : Int) := h
  unfold getV
  rw [h]
  obtain h | h | h | h | h | h | h | h | h | h | h | h | h | h | h | h : K = 0 ∨ K = 1 ∨ K = 2 ∨ K = 3 ∨ K = 4 ∨ K = 5 ∨ K = 6 ∨ K = 7 ∨ K = 8 ∨ K = 9 ∨ K = 10 ∨ K = 11 ∨ K = 12 ∨ K = 13 ∨ K = 14 ∨ K = 15 := by omega
  all_goals (subst h; rfl)
theorem getR {d r : Nat → Int} (h : rel d r) (K : Nat) (hk : K < 16) : rgetV r (K : Int) = getV d (K : Int) := by
  have hm := md_lt (d 0)
  obtain ⟨g1, g2, g3, g4, g5⟩ := fG_all _ hm K hk
  unfold rgetV
  rw [rel_md h, kk_nat K hk, pl_N _ _ hk, sel_row _ _ _ hk, getV_k d K hk, h.2 _ g1]
  unfold rf
  rw [g2, if_pos (by omega)]
theorem usrR {d r : Nat → Int} (h : rel d r) (K : Nat) (hk : K < 16) : rusrV r (K : Int) = userV d (K : Int) := by
  have hm := md_lt (d 0)
  obtain ⟨g1, g2, g3, g4, g5⟩ := fG_all _ hm K hk
  unfold rusrV
  rw [kk_nat K hk, sel_row _ _ _ hk, userV_up d K hk, h.2 _ (by omega)]
  unfold rf
  rw [show 16 * 0 + K = K by omega, g4, if_pos g5]
end Go.Proofs.Ytkgpcdnlbgmglaa

