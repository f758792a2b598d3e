import Derived.Test.YtkgpcdnlbgmglaaN
import Derived.Test.YtkgpcdnlbgmglaaT
set_option linter.unusedVariables false
set_option linter.unusedSimpArgs false
namespace Go.Proofs.Ytkgpcdnlbgmglaa
open Go Go.Proofs Go.Proofs.Ytkgpcdnlbgmglaa.Ev
set_option maxRecDepth 100000
def pq (M a e : Nat) : Nat := if a = M then 14 + e else 17 + 2 * M + e
def ri (a j : Nat) : Nat :=
  if j = 102 then 0 else if 96 ≤ j then (if j = 96 then 45 else j - 57)
  else if j / 16 = 0 then up a (j % 16)
  else if j % 16 = 13 ∨ j % 16 = 14 then pq (j / 16) a (j % 16 - 13)
  else if j / 16 = 1 ∧ 8 ≤ j % 16 ∧ j % 16 ≤ 12 then (if a = 1 then j % 16 + 1 else 26 + j % 16)
  else 45
def rf (d : Nat → Int) (j : Nat) : Int := if ri (md (d 0)) j < 45 then d (ri (md (d 0)) j) else 0
def rel (d r : Nat → Int) : Prop := (0 ≤ d 0 ∧ d 0 < 4294967296) ∧ ∀ j, j < 103 → r j = rf d j
def plN (m K : Nat) : Nat := if K = 13 ∨ K = 14 then m else if m = 1 ∧ 8 ≤ K ∧ K ≤ 12 then 1 else 0
theorem pl_N (m K : Nat) (h : K < 16) : pl m (K : Int) = plN m K := by
  unfold pl plN
  by_cases hm : m = 1
  · subst hm
    obtain h | h | h | h | h | h | h | h | h | h | h | h | h | h | h | h : K = 0 ∨ K = 1 ∨ K = 2 ∨ K = 3 ∨ K = 4 ∨ K = 5 ∨ K = 6 ∨ K = 7 ∨ K = 8 ∨ K = 9 ∨ K = 10 ∨ K = 11 ∨ K = 12 ∨ K = 13 ∨ K = 14 ∨ K = 15 := by omega
    all_goals (subst h; rfl)
  · have hb : Nat.beq m 1 = false := by
      cases e : Nat.beq m 1 with
      | false => rfl
      | true => exact absurd (Nat.eq_of_beq_eq_true e) hm
    rw [hb, if_neg (c := m = 1 ∧ 8 ≤ K ∧ K ≤ 12) (fun h => hm h.1)]
    obtain h | h | h | h | h | h | h | h | h | h | h | h | h | h | h | h : K = 0 ∨ K = 1 ∨ K = 2 ∨ K = 3 ∨ K = 4 ∨ K = 5 ∨ K = 6 ∨ K = 7 ∨ K = 8 ∨ K = 9 ∨ K = 10 ∨ K = 11 ∨ K = 12 ∨ K = 13 ∨ K = 14 ∨ K = 15 := by omega
    all_goals (subst h; rfl)
theorem kkN (i : Int) : ∃ K : Nat, K < 16 ∧ kk i = (K : Int) := by
  have h : kk i = i % 16 := and_m4 .i64 i (by decide)
  refine ⟨(i % 16).toNat, by omega, by rw [h]; omega⟩
theorem kk_nat (k : Nat) (h : k < 16) : kk (k : Int) = (k : Int) := by
  have h2 : kk (k : Int) = (k : Int) % 16 := and_m4 .i64 _ (by decide)
  rw [h2]; omega
theorem md2_md (x : Int) (h0 : 0 ≤ x) (h1 : x < 4294967296) : md2 x = md x := by
  obtain ⟨n, rfl⟩ := Int.eq_ofNat_of_zero_le h0
  have e : bits .and .u32 (n : Int) 31 = ((n &&& 31 : Nat) : Int) := bits_and_n .u32 rfl n 31 (by show n < 4294967296; omega) (by decide)
  have e2 : n &&& 31 = n % 32 := Nat.and_two_pow_sub_one_eq_mod n 5
  have e3 : Int.tmod (n : Int) 32 = ((n % 32 : Nat) : Int) := by rw [Int.tmod_eq_emod_of_nonneg h0]; rfl
  unfold md2 md
  rw [e, e2, e3]
theorem cond_nat (K k : Nat) (x y : Int) : cond ((K : Int) == (k : Int)) x y = if k + 1 = K + 1 then x else y := by
  by_cases h : K = k
  · subst h; simp
  · rw [if_neg (by omega)]
    have : ((K : Int) == (k : Int)) = false := by
      cases e : ((K : Int) == (k : Int)) with
      | false => rfl
      | true => exact absurd (Int.ofNat_inj.1 (eq_of_beq e)) h
    rw [this]; rfl
theorem setC_up (d : Nat → Int) (i x : Int) (K t : Nat) (hK : kk i = (K : Int)) (ht : t < 45) : setC d i x t = if t = K + 1 then x else d t := by
  by_cases h : t < 17
  · obtain h | h | h | h | h | h | h | h | h | h | h | h | h | h | h | h | h : t = 0 ∨ t = 1 ∨ t = 2 ∨ t = 3 ∨ t = 4 ∨ t = 5 ∨ t = 6 ∨ t = 7 ∨ t = 8 ∨ t = 9 ∨ t = 10 ∨ t = 11 ∨ t = 12 ∨ t = 13 ∨ t = 14 ∨ t = 15 ∨ t = 16 := by omega
    · subst h; rw [if_neg (by omega)]; rfl
    all_goals subst h
    · rw [← cond_nat K 0, ← hK]; rfl
    · rw [← cond_nat K 1, ← hK]; rfl
    · rw [← cond_nat K 2, ← hK]; rfl
    · rw [← cond_nat K 3, ← hK]; rfl
    · rw [← cond_nat K 4, ← hK]; rfl
    · rw [← cond_nat K 5, ← hK]; rfl
    · rw [← cond_nat K 6, ← hK]; rfl
    · rw [← cond_nat K 7, ← hK]; rfl
    · rw [← cond_nat K 8, ← hK]; rfl
    · rw [← cond_nat K 9, ← hK]; rfl
    · rw [← cond_nat K 10, ← hK]; rfl
    · rw [← cond_nat K 11, ← hK]; rfl
    · rw [← cond_nat K 12, ← hK]; rfl
    · rw [← cond_nat K 13, ← hK]; rfl
    · rw [← cond_nat K 14, ← hK]; rfl
    · rw [← cond_nat K 15, ← hK]; rfl
  · have e : ∀ K : Nat, K < 16 → t ≠ K + 1 := fun K hk => by omega
    have hk : K < 16 := by
      obtain ⟨K', h1, h2⟩ := kkN i
      rw [hK] at h2
      have := Int.ofNat_inj.1 h2
      omega
    rw [if_neg (e K hk)]
    unfold setC
    repeat rw [if_neg (by omega)]
theorem setU_up (d : Nat → Int) (i x : Int) (K t : Nat) (hk : K < 16) (hK : kk i = (K : Int)) (ht : t < 45) : setU d i x t = if t = up (md (d 0)) K then x else d t := by
  have hK' : bits .and .i64 i 15 = (K : Int) := hK
  have hC := setC_up d i x K t hK ht
  unfold setU isE isM setE setM
  rw [hK']
  rw [hC]
  generalize md (d 0) = m
  have hb : ∀ a : Nat, (!(Nat.beq (a + 2) 0)) = true := fun _ => rfl
  have hb1 : ∀ a : Nat, Nat.beq (a + 2) 1 = false := fun _ => rfl
  match m with
  | 0 => rfl
  | 1 =>
    obtain h | h | h | h | h | h | h | h | h | h | h | h | h | h | h | h : K = 0 ∨ K = 1 ∨ K = 2 ∨ K = 3 ∨ K = 4 ∨ K = 5 ∨ K = 6 ∨ K = 7 ∨ K = 8 ∨ K = 9 ∨ K = 10 ∨ K = 11 ∨ K = 12 ∨ K = 13 ∨ K = 14 ∨ K = 15 := by omega
    all_goals subst h
    all_goals first
      | rfl
      | (show (if t = 17 then x else if t = 18 then d 18 else d t) = if t = 17 then x else d t; split <;> first | rfl | (split <;> first | rfl | (rename_i h2; rw [h2])))
      | (show (if t = 17 then d 17 else if t = 18 then x else d t) = if t = 18 then x else d t; split <;> first | rfl | (rename_i h2; subst h2; rfl))
      | (show (if t = 29 then x else if t = 30 then d 30 else if t = 31 then d 31 else if t = 32 then d 32 else if t = 33 then d 33 else d t) = if t = 29 then x else d t; repeat' split) <;> first | rfl | (subst_vars; rfl) | (subst_vars; contradiction)
      | (show (if t = 29 then d 29 else if t = 30 then x else if t = 31 then d 31 else if t = 32 then d 32 else if t = 33 then d 33 else d t) = if t = 30 then x else d t; repeat' split) <;> first | rfl | (subst_vars; rfl) | (subst_vars; contradiction)
      | (show (if t = 29 then d 29 else if t = 30 then d 30 else if t = 31 then x else if t = 32 then d 32 else if t = 33 then d 33 else d t) = if t = 31 then x else d t; repeat' split) <;> first | rfl | (subst_vars; rfl) | (subst_vars; contradiction)
      | (show (if t = 29 then d 29 else if t = 30 then d 30 else if t = 31 then d 31 else if t = 32 then x else if t = 33 then d 33 else d t) = if t = 32 then x else d t; repeat' split) <;> first | rfl | (subst_vars; rfl) | (subst_vars; contradiction)
      | (show (if t = 29 then d 29 else if t = 30 then d 30 else if t = 31 then d 31 else if t = 32 then d 32 else if t = 33 then x else d t) = if t = 33 then x else d t; repeat' split) <;> first | rfl | (subst_vars; rfl) | (subst_vars; contradiction)
  | a + 2 =>
    rw [hb, hb1]
    simp only [Bool.true_and, Bool.false_and, cond_false]
    have hu : up (a + 2) K = if K = 13 ∨ K = 14 then 17 + (K - 13) else K + 1 := by
      unfold up
      by_cases h : K = 13 ∨ K = 14
      · rw [if_pos ⟨by omega, h⟩, if_pos h]
      · rw [if_neg (fun e => h e.2), if_neg h, if_neg (fun e => by omega)]
    rw [hu]
    obtain h | h | h | h | h | h | h | h | h | h | h | h | h | h | h | h : K = 0 ∨ K = 1 ∨ K = 2 ∨ K = 3 ∨ K = 4 ∨ K = 5 ∨ K = 6 ∨ K = 7 ∨ K = 8 ∨ K = 9 ∨ K = 10 ∨ K = 11 ∨ K = 12 ∨ K = 13 ∨ K = 14 ∨ K = 15 := by omega
    all_goals subst h
    all_goals first
      | rfl
      | (show (if t = 17 then x else if t = 18 then d 18 else d t) = if t = 17 then x else d t; split <;> first | rfl | (split <;> first | rfl | (rename_i h2; rw [h2])))
      | (show (if t = 17 then d 17 else if t = 18 then x else d t) = if t = 18 then x else d t; split <;> first | rfl | (rename_i h2; subst h2; rfl))
def fC (a j K : Nat) : Bool := Bool.xor (Bool.xor (Nat.ble (16 * plN a K) j && Nat.blt j (16 * plN a K + 16) && Nat.beq (j - 16 * plN a K) K) (Nat.beq (ri a j) (K + 1))) true
theorem fC_all : ∀ a, a < 6 → ∀ j, j < 103 → ∀ K, K < 16 → fC a j K = true := by decide +kernel
def fT (a b j : Nat) : Bool := Nat.beq j 102 || (Bool.xor (Bool.xor (Nat.blt (ri a j) 45) (Nat.blt (ri b j) 45)) true && (!(Nat.blt (ri b j) 45) || (!(Nat.beq (ri b j) 0) && Nat.beq (pm a b (ri b j)) (ri a j))))
theorem fT_all : ∀ a, a < 6 → ∀ b, b < 6 → ∀ j, j < 103 → fT a b j = true := by decide +kernel
def fS (a j : Nat) : Bool := Nat.beq a 0 || Bool.xor (Bool.xor (Nat.beq (ri a j) (39 + a)) (Nat.beq j (96 + a))) true
theorem fS_all : ∀ a, a < 6 → ∀ j, j < 103 → fS a j = true := by decide +kernel
def fU (a j K : Nat) : Bool := Bool.xor (Bool.xor (Nat.beq (ri a j) (up a K)) (Nat.beq j K)) true
theorem fU_all : ∀ a, a < 6 → ∀ j, j < 103 → ∀ K, K < 16 → fU a j K = true := by decide +kernel
theorem fG_all : ∀ a, a < 6 → ∀ K, K < 16 → (16 * plN a K + K < 103 ∧ ri a (16 * plN a K + K) = K + 1 ∧ plN a K < 6 ∧ ri a K = up a K ∧ up a K < 45) := by decide +kernel
theorem fV_all : ∀ a, a < 6 → a ≠ 0 → (ri a (96 + a) = 39 + a ∧ 39 + a < 45 ∧ 96 + a < 103) := by decide +kernel
theorem xor_eq {p q : Bool} (h : Bool.xor (Bool.xor p q) true = true) : p = q := by cases p <;> cases q <;> first | rfl | cases h
end Go.Proofs.Ytkgpcdnlbgmglaa

