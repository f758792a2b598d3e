import Derived.Test.YtkgpcdnlbgmglaaJ
set_option linter.unusedVariables false
set_option linter.unusedSimpArgs false
namespace Go.Proofs.Ytkgpcdnlbgmglaa
open Go Go.Proofs Go.Proofs.Ytkgpcdnlbgmglaa.Ev
set_option maxRecDepth 100000
theorem kp0_eq (d : Nat → Int) (mode to : Int) (R : Prop) : kp0 d mode to R = R := by
  unfold kp0
  simp only [decide_true, true_and]
def up (m k : Nat) : Nat := if m ≠ 0 ∧ (k = 13 ∨ k = 14) then 17 + (k - 13) else if m = 1 ∧ 8 ≤ k ∧ k ≤ 12 then 29 + (k - 8) else k + 1
theorem userV_up (c : Nat → Int) (k : Nat) (hk : k < 16) : userV c (k : Int) = c (up (md (c 0)) k) := by
  unfold userV isE isM
  have hm := md_lt (c 0)
  generalize md (c 0) = m at *
  obtain h | h | h | h | h | h : m = 0 ∨ m = 1 ∨ m = 2 ∨ m = 3 ∨ m = 4 ∨ m = 5 := by omega
  all_goals
    subst h
    obtain h | h | h | h | h | h | h | h | h | h | h | h | h | h | h | h : k = 0 ∨ k = 1 ∨ k = 2 ∨ k = 3 ∨ k = 4 ∨ k = 5 ∨ k = 6 ∨ k = 7 ∨ k = 8 ∨ k = 9 ∨ k = 10 ∨ k = 11 ∨ k = 12 ∨ k = 13 ∨ k = 14 ∨ k = 15 := by omega
    all_goals (subst h; rfl)
def okB (a b k : Nat) : Bool := decide (k = 14 ∧ b = 0) || decide (up b k < 45 ∧ up b k ≠ 15 ∧ up b k ≠ 0 ∧ up b k ≠ 39 + b ∧ pm a b (up b k) = up a k)
theorem okB_all : ∀ a, a < 6 → ∀ b, b < 6 → ∀ k, k < 16 → okB a b k = true := by decide +kernel
theorem upOK (a : Nat) (ha : a < 6) (b : Nat) (hb : b < 6) (k : Nat) (hk : k < 16) : (k = 14 ∧ b = 0) ∨ (up b k < 45 ∧ up b k ≠ 15 ∧ up b k ≠ 0 ∧ up b k ≠ 39 + b ∧ pm a b (up b k) = up a k) := by
  have := okB_all a ha b hb k hk
  rwa [okB, Bool.or_eq_true, decide_eq_true_eq, decide_eq_true_eq] at this
theorem upLt : ∀ a, a < 6 → ∀ k, k < 16 → up a k < 45 := by decide +kernel
theorem setC14 (c : Nat → Int) (x : Int) (j : Nat) (hj : j ≠ 15) : setC c 14 x j = c j := by
  by_cases h : j < 17
  · obtain h | h | h | h | h | h | h | h | h | h | h | h | h | h | h | h | h : j = 0 ∨ j = 1 ∨ j = 2 ∨ j = 3 ∨ j = 4 ∨ j = 5 ∨ j = 6 ∨ j = 7 ∨ j = 8 ∨ j = 9 ∨ j = 10 ∨ j = 11 ∨ j = 12 ∨ j = 13 ∨ j = 14 ∨ j = 15 ∨ j = 16 := by omega
    all_goals (subst h; first | exact absurd rfl hj | rfl)
  · unfold setC
    repeat rw [if_neg (by omega)]
theorem md_entW (c : Nat → Int) (m : Int) (h : bits .and .u32 (entW c m) 31 = bits .and .u32 m 31) : md (entW c m) = md m := by
  unfold md; rw [h]
theorem kd_md (x : Int) (h : kdV x ≠ 0) : md x ≠ 0 := by
  intro h2
  apply h
  unfold md at h2
  unfold kdV
  revert h2
  cases (bits .and .u32 x 31 == 17) <;> cases (bits .and .u32 x 31 == 18) <;> cases (bits .and .u32 x 31 == 19) <;> cases (bits .and .u32 x 31 == 23) <;> cases (bits .and .u32 x 31 == 27) <;> intro h2 <;> first | rfl | (exact absurd h2 (by decide))
theorem bitr (r k : Nat) (h : r < 4294967296) (K : Int) (hK : K = ((2 ^ k : Nat) : Int)) : bits .and .u32 ((r : Int).fdiv K) 1 = ((r >>> k &&& 1 : Nat) : Int) := by
  rw [hK, ← Int.ofNat_fdiv, Nat.shiftRight_eq_div_pow]
  exact bits_and_n .u32 rfl _ 1 (by show _ < 4294967296; exact Nat.lt_of_le_of_lt (Nat.div_le_self _ _) h) (by decide)
def rr (x m : Nat) : Nat := (x &&& 4294967232 ||| (m &&& 31)) ||| 128
theorem rr_lt (x m : Nat) (hx : x < 4294967296) : rr x m < 4294967296 := by
  have h1 : x &&& 4294967232 < 2 ^ 32 := Nat.lt_of_le_of_lt Nat.and_le_left hx
  have h2 : m &&& 31 < 2 ^ 32 := Nat.lt_of_le_of_lt Nat.and_le_right (by decide)
  exact Nat.or_lt_two_pow (Nat.or_lt_two_pow h1 h2) (by decide)
theorem rr_31 (x m : Nat) : rr x m &&& 31 = m &&& 31 := by
  unfold rr
  simp only [Nat.and_or_distrib_right, Nat.and_assoc]
  simp
theorem rr_5 (x m : Nat) : rr x m >>> 5 &&& 1 = 0 := by
  unfold rr
  simp only [Nat.shiftRight_or_distrib, Nat.shiftRight_and_distrib, Nat.and_or_distrib_right, Nat.and_assoc]
  simp
theorem rr_7 (x m : Nat) : rr x m >>> 7 &&& 1 = 1 := by
  unfold rr
  simp only [Nat.shiftRight_or_distrib, Nat.shiftRight_and_distrib, Nat.and_or_distrib_right, Nat.and_assoc]
  simp
  have h : x >>> 7 % 2 = 0 ∨ x >>> 7 % 2 = 1 := by omega
  rcases h with h | h <;> rw [h] <;> rfl
theorem rr_h (x m k : Nat) (hk : k = 28 ∨ k = 29 ∨ k = 30 ∨ k = 31) : rr x m >>> k &&& 1 = x >>> k &&& 1 := by
  unfold rr
  rcases hk with h | h | h | h <;> subst h <;>
    (simp only [Nat.shiftRight_or_distrib, Nat.shiftRight_and_distrib, Nat.and_or_distrib_right, Nat.and_assoc]; simp)
theorem entW_rr (c : Nat → Int) (x m : Nat) (hx : x < 4294967296) (hm : m < 4294967296) (hc : c 0 = (x : Int)) : entW c (m : Int) = ((rr x m : Nat) : Int) := by
  unfold entW rr
  have h1 : x &&& 4294967232 < 2 ^ 32 := Nat.lt_of_le_of_lt Nat.and_le_left hx
  have h2 : m &&& 31 < 2 ^ 32 := Nat.lt_of_le_of_lt Nat.and_le_right (by decide)
  rw [hc]
  rw [show bits .andNot .u32 (x : Int) 63 = ((x &&& 4294967232 : Nat) : Int) from (bits_andNot_n .u32 _ 63 (by decide)).trans (bits_and_n .u32 rfl x _ hx (by decide))]
  rw [show bits .and .u32 (m : Int) 31 = ((m &&& 31 : Nat) : Int) from bits_and_n .u32 rfl m 31 hm (by decide)]
  rw [bits_or_n .u32 rfl _ _ h1 h2]
  exact bits_or_n .u32 rfl _ 128 (Nat.or_lt_two_pow h1 h2) (by decide)

theorem eV_0 (d : Nat → Int) (mode to : Int) : eV d mode to 0 = entW (oD d) mode := by
  unfold eV entV
  rw [setC14 _ _ _ (by decide)]
  unfold setSv
  have : Nat.beq 0 (39 + md (setSt (ofL (bk d)) (entW (ofL (bk d)) mode) 0)) = false := by
    cases h : Nat.beq 0 (39 + md (setSt (ofL (bk d)) (entW (ofL (bk d)) mode) 0)) with
    | false => rfl
    | true => have := Nat.eq_of_beq_eq_true h; omega
  rw [this, Bool.and_false]
  rfl
theorem eE_j (d : Nat → Int) (mode to : Int) (j : Nat) (h : j < 45) : eE d mode to j = eV d mode to j := ofL_bk _ _ h
theorem eV_u (d : Nat → Int) (mode to : Int) (j : Nat) (hm : md (entW (oD d) mode) = md mode) (h1 : j ≠ 15) (h2 : j ≠ 0) (h3 : j ≠ 39 + md mode) : eV d mode to j = oD d (pm (md (oD d 0)) (md mode) j) := by
  unfold eV entV
  rw [setC14 _ _ _ h1]
  have hs0 : setSt (ofL (bk d)) (entW (ofL (bk d)) mode) 0 = entW (oD d) mode := rfl
  unfold setSv
  rw [hs0, hm]
  have : Nat.beq j (39 + md mode) = false := by
    cases h : Nat.beq j (39 + md mode) with
    | false => rfl
    | true => exact absurd (Nat.eq_of_beq_eq_true h) h3
  rw [this, Bool.and_false, cond_false]
  unfold setSt
  rw [if_neg h2]
  show oD d (pm (md (oD d 0)) (md (entW (oD d) mode)) j) = _
  rw [hm]
theorem user_eq (d : Nat → Int) (mode to : Int) (hm : md (entW (oD d) mode) = md mode) (k : Nat) (hk : k < 16) (h : k ≠ 14 ∨ md mode ≠ 0) : userV (eE d mode to) (k : Int) = userV (oD d) (k : Int) := by
  rw [userV_up _ k hk, userV_up _ k hk]
  have e0 : md (eE d mode to 0) = md mode := by rw [eE_j _ _ _ _ (by decide), eV_0, hm]
  rw [e0]
  rcases upOK (md (oD d 0)) (md_lt _) (md mode) (md_lt _) k hk with hh | ⟨h1, h2, h3, h4, h5⟩
  · omega
  · rw [eE_j _ _ _ _ h1, eV_u d mode to _ hm h2 h3 h4, h5]
theorem get14 (d : Nat → Int) (mode to : Int) : getV (eE d mode to) 14 = to := rfl
theorem sav_eq (d : Nat → Int) (mode to : Int) (hm : md (entW (oD d) mode) = md mode) (h : md mode ≠ 0) : savV (eE d mode to) = d 0 := by
  have e0 : md (eE d mode to 0) = md mode := by rw [eE_j _ _ _ _ (by decide), eV_0, hm]
  unfold savV
  rw [e0]
  have hb : Nat.beq (md mode) 0 = false := by
    cases h' : Nat.beq (md mode) 0 with
    | false => rfl
    | true => exact absurd (Nat.eq_of_beq_eq_true h') h
  rw [hb, cond_false, eE_j _ _ _ _ (by have := md_lt mode; omega)]
  unfold eV entV
  rw [setC14 _ _ _ (by omega)]
  have hs0 : setSt (ofL (bk d)) (entW (ofL (bk d)) mode) 0 = entW (oD d) mode := rfl
  unfold setSv
  rw [hs0, hm, hb, show Nat.beq (39 + md mode) (39 + md mode) = true from Nat.beq_refl _]
  rfl
theorem end_ok (E : World) (a : Option Addr) (n c : Nat) (mode to : Int) (d : Nat → Int) (hm0 : 0 ≤ mode) (hm1 : mode < 4294967296) (h0 : 0 ≤ d 0) (h1 : d 0 < 4294967296) :
    loopP (pe E) Try.f5 (fun v _ => SV.sim v (.c (.b false true))) (fun _ _ _ => False) (run (pe E) (orcF E) (tabL fns) 20000 0 (hdb5 E) (mkL Try.f5.ntmps (lb5 mode to d)) (sb5 d)) := by
  rw [enters_end E a n c mode to d]
  obtain ⟨m, rfl⟩ := Int.eq_ofNat_of_zero_le hm0
  obtain ⟨x, hx⟩ := Int.eq_ofNat_of_zero_le h0
  have hx1 : x < 4294967296 := by omega
  have hm1 : m < 4294967296 := by omega
  have hw : entW (oD d) (m : Int) = ((rr x m : Nat) : Int) := entW_rr (oD d) x m hx1 hm1 hx
  have hr := rr_lt x m hx1
  have F1 : bits .and .u32 (entW (oD d) (m : Int)) 31 = bits .and .u32 (m : Int) 31 := by
    rw [hw]
    exact (bits_and_n .u32 rfl _ 31 hr (by decide)).trans ((congrArg Int.ofNat (rr_31 x m)).trans (bits_and_n .u32 rfl m 31 hm1 (by decide)).symm)
  have hmd := md_entW (oD d) m F1
  have F2 : bits .and .u32 ((eV d m to 0).fdiv 32) 1 = 0 := by rw [eV_0, hw, bitr _ 5 hr 32 rfl, rr_5]; rfl
  have F3 : bits .and .u32 ((eV d m to 0).fdiv 128) 1 = 1 := by rw [eV_0, hw, bitr _ 7 hr 128 rfl, rr_7]; rfl
  have G (k : Nat) (K : Int) (hK : K = ((2 ^ k : Nat) : Int)) (hk : k = 28 ∨ k = 29 ∨ k = 30 ∨ k = 31) : bits .and .u32 ((eV d m to 0).fdiv K) 1 = bits .and .u32 ((d 0).fdiv K) 1 := by
    rw [eV_0, hw, hx, bitr _ k hr K hK, bitr _ k hx1 K hK, rr_h x m k hk]
  rw [← eV_0 d m to] at F1
  have G1 := G 31 2147483648 rfl (by decide)
  have G2 := G 30 1073741824 rfl (by decide)
  have G3 := G 29 536870912 rfl (by decide)
  have G4 := G 28 268435456 rfl (by decide)
  have U (k : Nat) (hk : k < 16) (h : k ≠ 14) := user_eq d m to hmd k hk (.inl h)
  have U14 (h : kdV m ≠ 0) := user_eq d m to hmd 14 (by decide) (.inr (kd_md _ h))
  have S (h : kdV m ≠ 0) := sav_eq d m to hmd (kd_md _ h)
  have u0 : userV (eE d m to) 0 = userV (oD d) 0 := U 0 (by decide) (by decide)
  have u1 : userV (eE d m to) 1 = userV (oD d) 1 := U 1 (by decide) (by decide)
  have u2 : userV (eE d m to) 2 = userV (oD d) 2 := U 2 (by decide) (by decide)
  have u3 : userV (eE d m to) 3 = userV (oD d) 3 := U 3 (by decide) (by decide)
  have u4 : userV (eE d m to) 4 = userV (oD d) 4 := U 4 (by decide) (by decide)
  have u5 : userV (eE d m to) 5 = userV (oD d) 5 := U 5 (by decide) (by decide)
  have u6 : userV (eE d m to) 6 = userV (oD d) 6 := U 6 (by decide) (by decide)
  have u7 : userV (eE d m to) 7 = userV (oD d) 7 := U 7 (by decide) (by decide)
  have u8 : userV (eE d m to) 8 = userV (oD d) 8 := U 8 (by decide) (by decide)
  have u9 : userV (eE d m to) 9 = userV (oD d) 9 := U 9 (by decide) (by decide)
  have u10 : userV (eE d m to) 10 = userV (oD d) 10 := U 10 (by decide) (by decide)
  have u11 : userV (eE d m to) 11 = userV (oD d) 11 := U 11 (by decide) (by decide)
  have u12 : userV (eE d m to) 12 = userV (oD d) 12 := U 12 (by decide) (by decide)
  have u13 : userV (eE d m to) 13 = userV (oD d) 13 := U 13 (by decide) (by decide)
  have u15 : userV (eE d m to) 15 = userV (oD d) 15 := U 15 (by decide) (by decide)
  have hg := get14 d m to
  simp only [kp0_eq, hg, F1, F2, F3, G1, G2, G3, G4, u0, u1, u2, u3, u4, u5, u6, u7, u8, u9, u10, u11, u12, u13, u15, bne_self_eq_false, beq_self_eq_true, Bool.and_true, Bool.xor_self]
  by_cases hk : kdV m = 0
  · simp [hk]
  · have u14 : userV (eE d m to) 14 = userV (oD d) 14 := U14 hk
    have s := S hk
    simp [hk, u14, s]
end Go.Proofs.Ytkgpcdnlbgmglaa

