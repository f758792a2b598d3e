import Derived.Test.YtchebhjbcjjhpaaC
set_option linter.unusedVariables false
set_option linter.unusedSimpArgs false
namespace Go.Proofs.Ytchebhjbcjjhpaa
open Go Go.Proofs Go.Proofs.Ytchebhjbcjjhpaa.Ev

theorem nn_bd (n : Int) : 0 ≤ nn n ∧ nn n < 200 := ⟨Int.emod_nonneg _ (by decide), Int.emod_lt_of_pos _ (by decide)⟩
theorem nn_of (n : Int) : (IntKind.i64.wrap (n.tmod 200 + 200)).tmod 200 = nn n := by
  have h1 := Int.tmod_lt_of_pos n (show (0 : Int) < 200 by decide)
  have h2 := Int.lt_tmod_of_pos n (show (0 : Int) < 200 by decide)
  rw [wi64_in _ (by omega) (by omega), tmod_n _ _ (by omega)]; rfl
theorem u6_bd (x : Int) : 0 ≤ u6 x ∧ u6 x < 65536 := ⟨Int.emod_nonneg _ (by decide), Int.emod_lt_of_pos _ (by decide)⟩
theorem chain_calls (W : World) (st n : Int) : Calls Try.prog 7 #[.int .u32 st, .int .i64 n] W fun e w' => e = .returned (.bool true) ∧ RowKit.Grown W w' := by
  have hE : ExtI W Rh0 0 W := ExtI.refl W _
  have hn := nn_bd n
  have hs := u6_bd st
  have e3 : IntKind.u16.wrap st = u6 st := by rw [wu16]; rfl
  have e4 : IntKind.i64.wrap (u6 st) = u6 st := wi64_in _ (by omega) (by omega)
  refine law_of_calls (P := pe W) (ρ := Rh0) ?_
  refine calls_loopT (c := c7) (P := pe W) orcA_ok tab_ok tab_sz mixed Try.func7 rfl (by decide) (vs := [.c (.i false .u32 st), .c (.i false .i64 n)]) (s := []) (Nat.le_of_ble_eq_true rfl) 20000 1606938044258990275541962092341162602522202993782792835301375 (hh7 W st n) (mu7 W st n) (fun _ => hd7 W) (lv7 W st n) (sv7 W st n) (fun _ => rfl) (fun x hx => ⟨rfl, rfl, Nat.le_of_ble_eq_true rfl⟩)
    (fun v _ => SV.sim v (.c (.b false true))) ?_ ?_ W 0 _ W (Inv.start hE) (by simp [SV.ok, C.ok, okL])
  · rw [chain_pro]
    rw [nn_of, e3, e4]
    refine ⟨(1, u6 st), ⟨⟨by show (1 : Int) ≤ 1; omega, by show (1 : Int) ≤ nn n + 1; omega⟩, by show u6 st ≤ u6 st; omega, by show u6 st ≤ 65535; omega⟩, rfl, rfl, ⟨⟨rfl, rfl⟩, ⟨rfl, rfl⟩, rfl, ⟨rfl, rfl⟩, rfl, rfl⟩, ⟨rfl, ⟨rfl, rfl⟩, ⟨rfl, rfl⟩, ⟨rfl, rfl⟩, ⟨rfl, rfl⟩, ⟨rfl, rfl⟩, ⟨rfl, rfl⟩, ⟨rfl, rfl⟩, ⟨rfl, rfl⟩, ⟨rfl, rfl⟩, ⟨rfl, rfl⟩, ⟨rfl, rfl⟩, ⟨rfl, rfl⟩, ⟨rfl, rfl⟩, ⟨rfl, rfl⟩, ⟨rfl, rfl⟩, rfl, rfl⟩, trivial⟩
  · intro j hj
    rw [chain_round]
    obtain ⟨p, c⟩ := j
    have hj : (1 ≤ p ∧ p ≤ nn n + 1) ∧ u6 st ≤ c ∧ c ≤ 65535 := hj
    have e1 : IntKind.i64.wrap (p - 1 + 1) = p := by rw [wi64_in _ (by omega) (by omega)]; omega
    have e2 : IntKind.i64.wrap (c + 1) = c + 1 := wi64_in _ (by omega) (by omega)
    refine ⟨fun h => ?_, fun _ => rfl⟩
    rw [decide_eq_true_eq] at h
    have h : p ≤ nn n := h
    have e5 : IntKind.i64.wrap (p + 1) = p + 1 := wi64_in _ (by omega) (by omega)
    rw [e1, e2, e3, e4, e5]
    have d1 : ¬ (decide (p > p) = true) := by simp
    have d2 : ¬ ((p != p) = true) := by simp
    have hmu : mu7 W st n (p + 1, c + 1) < mu7 W st n (p, c) := by show (nn n + 1 - (p + 1)).toNat < (nn n + 1 - p).toNat; omega
    have hmu2 : mu7 W st n (p + 1, u6 st) < mu7 W st n (p, c) := by show (nn n + 1 - (p + 1)).toNat < (nn n + 1 - p).toNat; omega
    refine ⟨fun h1 => absurd h1 d1, fun _ => ⟨fun h1 => absurd h1 d2, fun _ => ⟨fun h2 => ?_, fun h2 => ?_⟩⟩⟩
    · have hc : c ≠ 65535 := by simpa using h2
      have e6 : IntKind.u16.wrap (c + 1) = c + 1 := wu16_in _ (by omega) (by omega)
      rw [e6, e2]
      refine ⟨fun h3 => absurd h3 (by simp; omega), fun _ => ⟨fun h3 => absurd h3 d2, fun _ => ⟨fun h3 => absurd h3 (by simp), fun _ => ?_⟩⟩⟩
      refine ⟨(p + 1, c + 1), ⟨⟨by show 1 ≤ p + 1; omega, by show p + 1 ≤ nn n + 1; omega⟩, by show u6 st ≤ c + 1; omega, by show c + 1 ≤ 65535; omega⟩, hmu, rfl, rfl, ⟨⟨rfl, rfl⟩, ⟨rfl, rfl⟩, rfl, ⟨rfl, rfl⟩, rfl, rfl⟩, ⟨rfl, ⟨rfl, rfl⟩, ⟨rfl, rfl⟩, ⟨rfl, rfl⟩, ⟨rfl, ?_⟩, ⟨rfl, rfl⟩, ⟨rfl, rfl⟩, ⟨rfl, rfl⟩, ⟨rfl, rfl⟩, ⟨rfl, rfl⟩, ⟨rfl, rfl⟩, ⟨rfl, rfl⟩, ⟨rfl, rfl⟩, ⟨rfl, rfl⟩, ⟨rfl, rfl⟩, ⟨rfl, rfl⟩, rfl, rfl⟩, trivial⟩
      show p = p + 1 - 1; omega
    · have hc : c = 65535 := by simpa using h2
      refine ⟨fun _ => ⟨fun h3 => absurd h3 d2, fun _ => ⟨fun h3 => absurd h3 (by simp), fun _ => ?_⟩⟩, fun h3 => absurd h3 (by rw [hc]; simp)⟩
      refine ⟨(p + 1, u6 st), ⟨⟨by show 1 ≤ p + 1; omega, by show p + 1 ≤ nn n + 1; omega⟩, by show u6 st ≤ u6 st; omega, by show u6 st ≤ 65535; omega⟩, hmu2, rfl, rfl, ⟨⟨rfl, rfl⟩, ⟨rfl, rfl⟩, rfl, ⟨rfl, rfl⟩, rfl, rfl⟩, ⟨rfl, ⟨rfl, rfl⟩, ⟨rfl, rfl⟩, ⟨rfl, rfl⟩, ⟨rfl, ?_⟩, ⟨rfl, rfl⟩, ⟨rfl, rfl⟩, ⟨rfl, rfl⟩, ⟨rfl, rfl⟩, ⟨rfl, rfl⟩, ⟨rfl, rfl⟩, ⟨rfl, rfl⟩, ⟨rfl, rfl⟩, ⟨rfl, rfl⟩, ⟨rfl, rfl⟩, ⟨rfl, rfl⟩, rfl, rfl⟩, trivial⟩
      show p = p + 1 - 1; omega
end Go.Proofs.Ytchebhjbcjjhpaa

