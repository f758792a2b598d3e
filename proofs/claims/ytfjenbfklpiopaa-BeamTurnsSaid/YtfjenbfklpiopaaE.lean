import Derived.Test.YtfjenbfklpiopaaD
set_option linter.unusedVariables false
set_option linter.unusedSimpArgs false
namespace Go.Proofs.Ytfjenbfklpiopaa
open Go Go.Proofs Go.Proofs.Ytfjenbfklpiopaa.Ev

theorem mx_nn (n : Int) (h : 0 ≤ n) : mx n = n := by unfold mx; rw [if_neg (by omega)]
theorem ln_of (n : Int) (h : 0 ≤ n) : ln n = n / 1232 % 228 := by unfold ln; rw [mx_nn n h]
theorem nx_of (n : Int) (h : 0 ≤ n) : nx n = if n % 1232 < 960 then n - n % 1232 + 960 else n - n % 1232 + 1232 := by unfold nx; rw [mx_nn n h, pl_of n h]
theorem stays_calls (n w : Int) (hn : -9223372036854775808 ≤ n ∧ n < 9223372036854775808) (hw : u16 w = true) (W : World) :
    Calls Try.prog 4 #[.int .i64 n, .int .u16 w] W fun e w' => e = .returned (.bool true) ∧ RowKit.Grown W w' := by
  refine law_of_calls (ρ := fun _ => 0) ?_
  refine calls_loop (c := c4) orc2_ok tab_ok tab_sz mixed Try.func4 rfl (by decide) (vs := [.c (.i false .i64 n), .c (.i false .u16 w)]) (Nat.le_of_ble_eq_true rfl) 1000 100 (hh4 n w) (mu4 n w) (fun _ => hd4) (lv4 n w) (sv4 n w) (fun _ => rfl)
    (fun v _ => SV.sim v (.c (.b false true))) ?_ ?_ W 0 _ W (Inv.start W) (by simp [SV.ok, C.ok, okL])
  · rw [stays_pro]
    refine ⟨fun _ => rfl, fun h0 => ⟨fun _ => rfl, fun h1 => ?_⟩⟩
    rw [decide_eq_false_iff_not] at h0 h1
    have hx := nx_of n (by omega)
    have hb : n < nx n ∧ nx n ≤ n + 1232 := by rw [hx]; split <;> omega
    have e1 : decide (nx n ≤ n) = false := by rw [decide_eq_false_iff_not]; omega
    have e2 : IntKind.i64.wrap (nx n - n) = nx n - n := wi64_in _ (by omega) (by omega)
    have e3 : decide (nx n - n > 1232) = false := by rw [decide_eq_false_iff_not]; omega
    rw [e1, e2, e3]
    exact ⟨by rw [low_iff]; omega, (fun h => by cases h), fun _ => ⟨(fun h => by cases h), fun _ => ⟨n + 1, ⟨⟨by omega, by omega⟩, by omega, by omega⟩, rfl, rfl, ⟨⟨rfl, rfl⟩, ⟨rfl, rfl⟩, ⟨rfl, rfl⟩, rfl, wi64_in _ (by omega) (by omega)⟩, trivial⟩⟩⟩
  · intro j hj
    rw [stays_round]
    have hj : (0 ≤ n ∧ n ≤ 1125899906842624) ∧ n + 1 ≤ j ∧ j ≤ nx n := hj
    have hx := nx_of n (by omega)
    have hb : n < nx n ∧ nx n ≤ n + 1232 := by rw [hx]; split <;> omega
    refine ⟨fun h => ?_, fun _ => rfl⟩
    rw [decide_eq_true_eq] at h
    have l1 : low j = true := by rw [low_iff]; omega
    have l2 : low n = true := by rw [low_iff]; omega
    have p1 := pl_of n (by omega)
    have p2 := pl_of j (by omega)
    have q1 := ln_of n (by omega)
    have q2 := ln_of j (by omega)
    have hr : n / 1232 = j / 1232 ∧ (n % 1232 < 960 → j % 1232 < 960) ∧ (960 ≤ n % 1232 → 960 ≤ j % 1232) ∧ j % 1232 ≠ 0 ∧ j % 1232 ≠ 960 := by
      rw [hx] at h; split at h <;> omega
    have s1 : stV j w = stV n w := by
      have k : (960 ≤ j % 1232) = (960 ≤ n % 1232) := propext (by omega)
      unfold stV; rw [p1, p2, q1, q2, hr.1]; simp only [k]
    have a1 : asV j w = 0 := by unfold asV; rw [p2]; simp [hr.2.2.2.1, hr.2.2.2.2]
    rw [s1, a1]
    refine ⟨l1, hw, l2, hw, by simp, fun _ => ⟨l1, hw, by simp, fun _ => ⟨j + 1, ⟨⟨by omega, by omega⟩, by omega, by omega⟩, ?_, rfl, rfl, ⟨⟨rfl, rfl⟩, ⟨rfl, rfl⟩, ⟨rfl, rfl⟩, rfl, wi64_in _ (by omega) (by omega)⟩, trivial⟩⟩⟩
    show (nx n - (j + 1)).toNat < (nx n - j).toNat
    omega

theorem pc_bd (n : Int) : 0 ≤ pc n ∧ pc n < 1000 := ⟨Int.emod_nonneg _ (by decide), Int.emod_lt_of_pos _ (by decide)⟩
theorem bit1 (w i : Int) (k : IntKind) (hk : 1 < k.bits ∨ (k.signed = false ∧ 1 = k.bits)) (hi : 0 ≤ i) : bits .and k (w.fdiv i) 1 = w / i % 2 := by rw [and_m1 k _ hk, fdiv_lit _ _ hi]
theorem three (x y z : Int) (hx : x = 0 ∨ x = 1) (hy : y = 0 ∨ y = 1) (hz : z = 0 ∨ z = 1) : (x + 2 * y + 4 * z) / 1 % 2 = x ∧ (x + 2 * y + 4 * z) / 2 % 2 = y ∧ (x + 2 * y + 4 * z) / 4 % 2 = z := by omega
def b0 (j w : Int) : Int := if pl j = 0 ∧ ln j = 160 ∧ w / 8 % 2 = 1 then 1 else 0
def b1 (j w : Int) : Int := if pl j = 960 ∧ w / 16 % 2 = 1 then 1 else 0
def b2 (j w : Int) : Int := if pl j = 0 ∧ ln j = w / 256 ∧ w / 32 % 2 = 1 then 1 else 0
theorem asV_b (j w : Int) : asV j w = b0 j w + 2 * b1 j w + 4 * b2 j w := by
  unfold asV b0 b1 b2; (repeat' split) <;> rfl
theorem asV_bits (j w : Int) : asV j w / 1 % 2 = b0 j w ∧ asV j w / 2 % 2 = b1 j w ∧ asV j w / 4 % 2 = b2 j w := by
  rw [asV_b]
  exact three _ _ _ (by unfold b0; split <;> simp) (by unfold b1; split <;> simp) (by unfold b2; split <;> simp)
theorem k0_step (w d d' r q j : Int) (hr : r = 0 ∨ r = 960) (hd : d = 1232 * q + r) (hd' : d' = if r < 960 then d - r + 960 else d - r + 1232) (hp : pl j = r) (hl : ln j = q) (hw : w / 8 % 2 = 0 ∨ w / 8 % 2 = 1) : k0 w d + b0 j w = k0 w d' := by
  unfold k0 b0
  rw [hp, hl]
  generalize w / 8 % 2 = B at *
  subst hd'
  rcases hr with rfl | rfl <;> rcases hw with rfl | rfl <;> simp only [Int.reduceLT, if_true, if_false, Int.reduceEq, true_and, false_and, and_true, and_false] <;> (repeat' split) <;> omega
theorem k1_step (w d d' r q j : Int) (hr : r = 0 ∨ r = 960) (hd : d = 1232 * q + r) (hd' : d' = if r < 960 then d - r + 960 else d - r + 1232) (hp : pl j = r) (hw : w / 16 % 2 = 0 ∨ w / 16 % 2 = 1) : k1 w d + b1 j w = k1 w d' := by
  unfold k1 b1
  rw [hp]
  generalize w / 16 % 2 = B at *
  subst hd'
  rcases hr with rfl | rfl <;> rcases hw with rfl | rfl <;> simp only [Int.reduceLT, if_true, if_false, Int.reduceEq, true_and, false_and, and_true, and_false] <;> omega
theorem k2_step (w d d' r q j : Int) (hr : r = 0 ∨ r = 960) (hd : d = 1232 * q + r) (hd' : d' = if r < 960 then d - r + 960 else d - r + 1232) (hp : pl j = r) (hl : ln j = q) (hw : w / 32 % 2 = 0 ∨ w / 32 % 2 = 1) : k2 w d + b2 j w = k2 w d' := by
  unfold k2 b2
  rw [hp, hl]
  generalize w / 32 % 2 = B at *
  generalize w / 256 = V at *
  subst hd'
  rcases hr with rfl | rfl <;> rcases hw with rfl | rfl <;> simp only [Int.reduceLT, if_true, if_false, Int.reduceEq, true_and, false_and, and_true, and_false] <;> (repeat' split) <;> omega
theorem b_bd (j w : Int) : (0 ≤ b0 j w ∧ b0 j w ≤ 1) ∧ (0 ≤ b1 j w ∧ b1 j w ≤ 1) ∧ 0 ≤ b2 j w ∧ b2 j w ≤ 1 := by
  refine ⟨?_, ?_, ?_⟩
  · unfold b0; split <;> omega
  · unfold b1; split <;> omega
  · unfold b2; split <;> omega
theorem k_bd (w d : Int) (h : 0 ≤ d ∧ d ≤ 280896) : (0 ≤ k0 w d ∧ k0 w d ≤ 1000) ∧ (0 ≤ k1 w d ∧ k1 w d ≤ 1000) ∧ 0 ≤ k2 w d ∧ k2 w d ≤ 1000 := by
  refine ⟨?_, ?_, ?_⟩
  · unfold k0; split <;> omega
  · unfold k1; split <;> omega
  · unfold k2; split <;> omega
theorem counts_calls (n w : Int) (hn : -9223372036854775808 ≤ n ∧ n < 9223372036854775808) (hw : u16 w = true) (W : World) :
    Calls Try.prog 5 #[.int .i64 n, .int .u16 w] W fun e w' => e = .returned (.bool true) ∧ RowKit.Grown W w' := by
  refine law_of_calls (ρ := fun _ => 0) ?_
  have hp := pc_bd n
  have hbs : bs n = pc n * 280896 := rfl
  have hw' := hw
  rw [u16_iff] at hw'
  refine calls_loop (c := c5) orc2_ok tab_ok tab_sz mixed Try.func5 rfl (by decide) (vs := [.c (.i false .i64 n), .c (.i false .u16 w)]) (Nat.le_of_ble_eq_true rfl) 1000 6 (hh5 n w) (mu5 n w) (fun _ => hd5) (lv5 n w) (sv5 n w) (fun _ => rfl)
    (fun v _ => SV.sim v (.c (.b false true))) ?_ ?_ W 0 _ W (Inv.start W) (by simp [SV.ok, C.ok, okL])
  · rw [counts_pro]
    have t0 : -1000 < n.tmod 1000 ∧ n.tmod 1000 < 1000 := by
      have h1 := Int.tmod_lt_of_pos n (show (0 : Int) < 1000 by decide)
      have h2 := Int.lt_tmod_of_pos n (show (0 : Int) < 1000 by decide)
      omega
    have e1 : (IntKind.i64.wrap (n.tmod 1000 + 1000)).tmod 1000 = pc n := by
      rw [wi64_in _ (by omega) (by omega), tmod_n _ _ (by omega)]; rfl
    rw [e1]
    refine ⟨bs n, ⟨⟨by omega, by omega⟩, by omega⟩, rfl, rfl, ⟨⟨rfl, rfl⟩, ⟨rfl, rfl⟩, ⟨rfl, ?_⟩, ⟨rfl, ?_⟩, rfl⟩, ⟨rfl, ⟨rfl, ?_⟩, ⟨rfl, ?_⟩, rfl, ?_⟩, trivial⟩
    · rw [wi64_in _ (by omega) (by omega)]; rfl
    · rw [wi64_in (pc n + 1) (by omega) (by omega), wi64_in _ (by omega) (by omega)]; omega
    · simp [k0]
    · simp [k1]
    · unfold k2; rw [if_neg (by omega)]
  · intro j hj
    rw [counts_round]
    have hj : (bs n ≤ j ∧ j ≤ bs n + 280896) ∧ ((j - bs n) % 1232 = 0 ∨ (j - bs n) % 1232 = 960) := hj
    obtain ⟨d, hd⟩ : ∃ d, j - bs n = d := ⟨_, rfl⟩
    have w8 : w / 8 % 2 = 0 ∨ w / 8 % 2 = 1 := by omega
    have w16 : w / 16 % 2 = 0 ∨ w / 16 % 2 = 1 := by omega
    have w32 : w / 32 % 2 = 0 ∨ w / 32 % 2 = 1 := by omega
    rw [bit1 w 8 .u16 (by decide) (by decide), bit1 w 16 .u16 (by decide) (by decide), bit1 w 32 .u16 (by decide) (by decide), fdiv_lit w 256 (by decide)]
    refine ⟨fun h => ?_, fun h => ?_⟩
    · rw [decide_eq_true_eq] at h
      have l1 : low j = true := by rw [low_iff]; omega
      have p2 := pl_of j (by omega)
      have q2 := ln_of j (by omega)
      have hx := nx_of j (by omega)
      have r1 : j % 1232 = d % 1232 := by omega
      have r2 : j / 1232 % 228 = d / 1232 := by omega
      rw [bit1 (asV j w) 1 .u16 (by decide) (by decide), bit1 (asV j w) 2 .u16 (by decide) (by decide), bit1 (asV j w) 4 .u16 (by decide) (by decide)]
      refine ⟨l1, hw, l1, hw, l1, hw, l1, nx j, ⟨?_, ?_⟩, ?_, rfl, rfl, ⟨⟨rfl, rfl⟩, ⟨rfl, rfl⟩, ⟨rfl, rfl⟩, ⟨rfl, rfl⟩, rfl⟩, ⟨rfl, ⟨rfl, ?_⟩, ⟨rfl, ?_⟩, rfl, ?_⟩, trivial⟩
      · rw [hx]; split <;> omega
      · rw [hx]; split <;> omega
      · show (bs n + 280896 - nx j).toNat < (bs n + 280896 - j).toNat
        rw [hx]; split <;> omega
      all_goals
        have hD : nx j - bs n = if d % 1232 < 960 then d - d % 1232 + 960 else d - d % 1232 + 1232 := by rw [hx, r1]; split <;> omega
        have hA := asV_bits j w
        have hB := b_bd j w
        have hK := k_bd w d (by omega)
        have hr : d % 1232 = 0 ∨ d % 1232 = 960 := by omega
        rw [hd]
      · rw [hA.1, wi64_in (b0 j w) (by omega) (by omega), wi64_in (k0 w d + b0 j w) (by omega) (by omega)]
        exact k0_step w d _ (d % 1232) (d / 1232) j hr (by omega) hD (by rw [p2, r1]) (by rw [q2, r2]) w8
      · rw [hA.2.1, wi64_in (b1 j w) (by omega) (by omega), wi64_in (k1 w d + b1 j w) (by omega) (by omega)]
        exact k1_step w d _ (d % 1232) (d / 1232) j hr (by omega) hD (by rw [p2, r1]) w16
      · rw [hA.2.2, wi64_in (b2 j w) (by omega) (by omega), wi64_in (k2 w d + b2 j w) (by omega) (by omega)]
        exact k2_step w d _ (d % 1232) (d / 1232) j hr (by omega) hD (by rw [p2, r1]) (by rw [q2, r2]) w32
    · rw [decide_eq_false_iff_not] at h
      have hd' : j - bs n = 280896 := by omega
      have ej : j = bs n + 280896 := by omega
      have c0 : k0 w 280896 = w / 8 % 2 := rfl
      have c1 : k1 w 280896 = w / 16 % 2 * 228 := by unfold k1; rcases w16 with h | h <;> rw [h] <;> rfl
      rw [hd', c0, c1, wi64_in (w / 8 % 2) (by omega) (by omega), wi64_in (w / 16 % 2) (by omega) (by omega), wi64_in (w / 16 % 2 * 228) (by omega) (by omega), wi64_in (w / 256) (by omega) (by omega), wi64_in (w / 32 % 2) (by omega) (by omega)]
      refine ⟨fun h => ?_, fun h => ?_⟩
      · rw [decide_eq_true_eq] at h
        have c2 : k2 w 280896 = 0 := by unfold k2; rw [if_neg (by omega)]
        rw [c2]
        simp [ej]
      · rw [decide_eq_false_iff_not] at h
        have c2 : k2 w 280896 = w / 32 % 2 := by unfold k2; rw [if_pos (by omega)]
        rw [c2]
        simp [ej]

end Go.Proofs.Ytfjenbfklpiopaa

