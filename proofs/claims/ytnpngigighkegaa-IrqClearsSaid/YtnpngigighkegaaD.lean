import Derived.Test.YtnpngigighkegaaC
set_option linter.unusedVariables false
set_option linter.unusedSimpArgs false
namespace Go.Proofs.Ytnpngigighkegaa
open Go Go.Proofs Go.Proofs.Ytnpngigighkegaa.Ev

theorem or_lt (r y : Int) (h0 : 0 ≤ r) (h1 : r < 16384) (h2 : 0 ≤ y) (h3 : y < 16384) : 0 ≤ bits .or .u16 r y ∧ bits .or .u16 r y < 16384 := by
  obtain ⟨m, rfl⟩ := Int.eq_ofNat_of_zero_le h0
  obtain ⟨k, rfl⟩ := Int.eq_ofNat_of_zero_le h2
  have e1 : (m : Int) < 16384 := h1
  have e2 : (k : Int) < 16384 := h3
  rw [bits_or_n .u16 rfl m k (by show m < 65536; omega) (by show k < 65536; omega)]
  have : m ||| k < 2 ^ 14 := Nat.or_lt_two_pow (by show m < 16384; omega) (by show k < 16384; omega)
  have e3 : (2 : Nat) ^ 14 = 16384 := rfl
  omega
theorem andNot_lt (r y : Int) (h0 : 0 ≤ r) (h1 : r < 16384) (h2 : 0 ≤ y) (h3 : y < 65536) : 0 ≤ bits .andNot .u16 r y ∧ bits .andNot .u16 r y < 16384 := by
  obtain ⟨m, rfl⟩ := Int.eq_ofNat_of_zero_le h0
  obtain ⟨k, rfl⟩ := Int.eq_ofNat_of_zero_le h2
  have e1 : (m : Int) < 16384 := h1
  have e2 : (k : Int) < 65536 := h3
  rw [bits_andNot_n .u16 _ k (by show k < 65536; omega), bits_and_n .u16 rfl m _ (by show m < 65536; omega) (by show 65536 - 1 - k < 65536; omega)]
  have : m &&& (2 ^ IntKind.u16.bits - 1 - k) ≤ m := Nat.and_le_left
  omega
theorem pow_lt (b : Int) (h0 : 0 ≤ b) (h1 : b < 14) : 0 ≤ IntKind.u16.wrap (1 * 2 ^ min b.toNat 16) ∧ IntKind.u16.wrap (1 * 2 ^ min b.toNat 16) < 16384 := by
  obtain ⟨m, rfl⟩ := Int.eq_ofNat_of_zero_le h0
  have e1 : (m : Int) < 14 := h1
  have : m < 14 := by omega
  rw [show ((m : Int)).toNat = m from rfl]
  have hm : m = 0 ∨ m = 1 ∨ m = 2 ∨ m = 3 ∨ m = 4 ∨ m = 5 ∨ m = 6 ∨ m = 7 ∨ m = 8 ∨ m = 9 ∨ m = 10 ∨ m = 11 ∨ m = 12 ∨ m = 13 := by omega
  rcases hm with h | h | h | h | h | h | h | h | h | h | h | h | h | h <;> subst h <;> decide
theorem clears_calls (W : World) (a : Option Addr) (n c : Nat) (mask : Int) (hmx : n ≤ maxLen) (hz : a = none → n = 0) (he : ∀ j, j < n → eRow W a (j * 3) [.i .i64, .i .i64, .i .u16] = true) :
    Calls Try.prog 4 #[.slice a n c, .int .u16 mask] W fun e w' => e = .returned (.bool true) ∧ RowKit.Grown W w' := by
  have hE : ExtI W Rh0 0 W := ExtI.refl W _
  refine law_of_calls (P := pe W) (ρ := Rh0) ?_
  refine calls_loopT (c := c4) (P := pe W) orcA_ok tab_ok tab_sz mixed Try.func4 rfl (by decide) (vs := [.c (.es a n c), .c (.i false .u16 mask)]) (s := []) (Nat.le_of_ble_eq_true rfl) 20000 1606938044258990275541962092341162602522202993782792835301375 (hh4 W a n c mask) (mu4 W a n c mask) (fun _ => hd4 W) (lv4 W a n c mask) (sv4 W a n c mask) (fun _ => rfl) (fun x hx => ⟨rfl, rfl, Nat.le_of_ble_eq_true rfl⟩)
    (fun v _ => SV.sim v (.c (.b false true))) ?_ ?_ W 0 _ W (Inv.start hE) (by simp [SV.ok, C.ok, okL])
  · rw [clears_pro]
    refine ⟨fun _ => rfl, fun _ => ⟨⟨0, 0, 0, 0, 0, false⟩, ⟨Nat.zero_le _, by decide, by decide⟩, rfl, rfl, ⟨rfl, ⟨rfl, rfl⟩, rfl, rfl, ⟨rfl, rfl⟩, rfl, rfl⟩, ⟨rfl, ⟨rfl, rfl⟩, ⟨rfl, rfl⟩, ⟨rfl, rfl⟩, ⟨rfl, rfl⟩, rfl⟩, trivial⟩⟩
  · intro j hj
    rw [clears_round]
    obtain ⟨i, e, r, w, k, m⟩ := j
    have hj : i ≤ n ∧ 0 ≤ r ∧ r < 16384 := hj
    simp only [maxLen] at hmx
    refine ⟨fun h => ?_, fun h => ?_⟩
    · rw [decide_eq_true_eq] at h
      have hlt : i < n := by omega
      have hrow := he i hlt
      have hx : 0 ≤ eI W a (i * 3 + 2) ∧ eI W a (i * 3 + 2) < 65536 := by
        have := bounds_u16 (eOk_int (eRow_get _ _ 2 (.i .u16) hrow rfl)); omega
      have hwr : IntKind.i64.wrap ((i : Int) + 1) = ((i + 1 : Nat) : Int) := by rw [wi64_in _ (by omega) (by omega)]; simp
      have h4096 := or_lt r 4096 hj.2.1 hj.2.2 (by decide) (by decide)
      have han := andNot_lt r _ hj.2.1 hj.2.2 hx.1 hx.2
      refine ⟨by simp only [inB, Bool.and_eq_true, decide_eq_true_eq]; omega, some_of_lt hz hlt, by simpa using hrow, ?_⟩
      have hmu : mu4 W a n c mask (i + 1, e, r, w, k, m) < mu4 W a n c mask (i, e, r, w, k, m) := by show n - (i + 1) < n - i; omega
      have fin : ∀ (e' r' w' k' : Int) (m' : Bool), 0 ≤ r' ∧ r' < 16384 → ∃ x : Nat × Int × Int × Int × Int × Bool, (x.fst ≤ n ∧ (0 : Int) ≤ x.snd.snd.fst ∧ x.snd.snd.fst < (16384 : Int)) ∧ mu4 W a n c mask x < mu4 W a n c mask (i, e, r, w, k, m) ∧ hd4 W = hd4 W ∧ (50 : Nat) = (50 : Nat) ∧
          (C.es a n c = C.es a n c ∧ (IntKind.u16 = IntKind.u16 ∧ mask = mask) ∧ C.p (0 : Nat) (0 : Nat) = C.p (0 : Nat) (0 : Nat) ∧ C.es a n c = C.es a n c ∧ (IntKind.i64 = IntKind.i64 ∧ (↑n : Int) = (↑n : Int)) ∧ IntKind.i64 = IntKind.i64 ∧ IntKind.i64.wrap ((i : Int) + (1 : Int)) = (↑x.fst : Int)) ∧
          ((45 : Nat) = (45 : Nat) ∧ (IntKind.u16 = IntKind.u16 ∧ e' = x.snd.fst) ∧ (IntKind.u16 = IntKind.u16 ∧ r' = x.snd.snd.fst) ∧ (IntKind.u16 = IntKind.u16 ∧ w' = x.snd.snd.snd.fst) ∧ (IntKind.u16 = IntKind.u16 ∧ k' = x.snd.snd.snd.snd.fst) ∧ m' = x.snd.snd.snd.snd.snd) ∧ True := by
        intro e' r' w' k' m' hr
        exact ⟨⟨i + 1, e', r', w', k', m'⟩, ⟨hlt, hr.1, hr.2⟩, by show n - (i + 1) < n - i; omega, rfl, rfl, ⟨rfl, ⟨rfl, rfl⟩, rfl, rfl, ⟨rfl, rfl⟩, rfl, hwr⟩, ⟨rfl, ⟨rfl, rfl⟩, ⟨rfl, rfl⟩, ⟨rfl, rfl⟩, ⟨rfl, rfl⟩, rfl⟩, trivial⟩
      (repeat' first | apply And.intro | intro _) <;> first | exact fin _ _ _ _ _ h4096 | exact fin _ _ _ _ _ han | exact fin _ _ _ _ _ hj.2 | skip
      all_goals
        rename_i h1 h2
        rw [decide_eq_true_eq] at h1 h2
        have h1' : 0 ≤ eI W a (i * 3 + 1) := h1
        have h2' : eI W a (i * 3 + 1) < 14 := h2
      · rw [decide_eq_true_eq]; exact h1'
      · have hp := pow_lt _ h1' h2'
        exact fin _ _ _ _ _ (or_lt r _ hj.2.1 hj.2.2 hp.1 hp.2)
    · refine ⟨fun _ => by rw [decide_eq_true_eq]; exact hj.2.2, fun h' => ?_⟩
      simp at h'
end Go.Proofs.Ytnpngigighkegaa

