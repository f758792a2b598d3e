import Derived.Test.YtfjkjkhgmeemcaaC
set_option linter.unusedVariables false
set_option linter.unusedSimpArgs false
namespace Go.Proofs.Ytfjkjkhgmeemcaa
open Go Go.Proofs Go.Proofs.Ytfjkjkhgmeemcaa.Ev
theorem quick_calls (W : World) (a : Option Addr) (n c : Nat) (s m : Int) (hmx : n ≤ 9223372036854775807) (hz : a = none → n = 0) (he : ∀ j, j < n → eRow W a (j * 1) [.i .i64] = true) :
    Calls Try.prog 3 #[.slice a n c, .int .i64 s, .int .i64 m] W fun e w' => e = .returned (.bool true) ∧ RowKit.Grown W w' := by
  have hE : ExtI W Rh0 0 W := ExtI.refl W _
  refine law_of_calls (P := pe W) (ρ := Rh0) ?_
  refine calls_loopT (c := c3) (P := pe W) orcA_ok tab_ok tab_sz mixed Try.func3 rfl (by decide) (vs := [.c (.es a n c), .c (.i false .i64 s), .c (.i false .i64 m)]) (s := []) (Nat.le_of_ble_eq_true rfl) 20000 1606938044258990275541962092341162602522202993782792835301375 (hh3 W a n c s m) (mu3 W a n c s m) (fun _ => hd3 W) (lv3 W a n c s m) (sv3 W a n c s m) (fun _ => rfl) (fun x hx => ⟨rfl, rfl, Nat.le_of_ble_eq_true rfl⟩)
    (fun v _ => SV.sim v (.c (.b false true))) ?_ ?_ W 0 _ W (Inv.start hE) (by simp [SV.ok, C.ok, okL])
  · rw [quick_pro]
    have hm := mo_bd m
    have hs := ss_bd s
    have hss : IntKind.i64.wrap ((IntKind.i64.wrap (s.tmod 8 + 8)).tmod 8 + 1) = ss s := by
      have := mo_bd s
      rw [mo_of s, wi64_in _ (by omega) (by omega)]; rfl
    have e1 : IntKind.i64.wrap (ss s + mo m) = ss s + mo m := wi64_in _ (by omega) (by omega)
    rw [hss, mo_of m, e1]
    have dn : ∀ (q : Prop) [Decidable q] (r : Prop), ¬ q → (decide q = true → r) := fun q _ r hq h => absurd (of_decide_eq_true h) hq
    have hz : (0 : Int) ≤ 0 ∧ (0 : Int) < ss s := by omega
    exact ⟨fun _ => rfl, fun _ => ⟨dn _ _ (by omega), fun _ => ⟨dn _ _ (by omega), fun _ => ⟨(0, 134217730, 0, 0), ⟨Nat.zero_le _, ⟨by decide, by decide, by decide⟩, ⟨by decide, by decide⟩, hz⟩, rfl, rfl, ⟨⟨rfl, rfl⟩, ⟨rfl, rfl⟩, rfl, ⟨rfl, rfl⟩, rfl, ⟨rfl, rfl⟩, rfl, rfl⟩, ⟨rfl, ⟨rfl, rfl⟩, ⟨rfl, rfl⟩, rfl, rfl⟩, trivial⟩⟩⟩⟩
  · intro j hj
    rw [quick_round]
    obtain ⟨i, at0, h, p⟩ := j
    have hj : i ≤ n ∧ (0 ≤ at0 ∧ at0 < 4294967296 ∧ at0 % 2 = 0) ∧ (0 ≤ h ∧ h ≤ 8) ∧ 0 ≤ p ∧ p < ss s := hj
    obtain ⟨hin, ha, hb, hp⟩ := hj
    have hs := ss_bd s
    refine ⟨fun hlt0 => ?_, fun _ => rfl⟩
    rw [decide_eq_true_eq] at hlt0
    have hlt : i < n := by omega
    have hrow := he i hlt
    have hvb := bounds_i64 (eOk_int (eRow_get _ _ 0 (.i .i64) hrow rfl))
    have hs64 : IntKind.u64.wrap (ss s) = ss s := wu64_in _ (by omega) (by omega)
    refine ⟨by simp only [inB, Bool.and_eq_true, decide_eq_true_eq]; omega, some_of_lt hz hlt, by simpa using hrow, fun _ => fetch W a n c s m i at0 h p _ hlt hmx ha (kk_of _)  h p hb hp, fun hv => ⟨fun _ => fetch W a n c s m i at0 h p _ hlt hmx ha (kk_of _)  h p hb hp, fun _ => ⟨fun _ => fetch W a n c s m i at0 h p _ hlt hmx ha (kk_of _)  h p hb hp, fun h8 => ?_⟩⟩⟩
    rw [decide_eq_false_iff_not] at hv h8
    have hv : ¬ eI W a (i * 1 + 0) < 1 := hv
    have h8 : ¬ h ≥ 8 := h8
    obtain ⟨v, hve⟩ : ∃ v, eI W a (i * 1 + 0) = v := ⟨_, rfl⟩
    have hvb : -9223372036854775808 ≤ v ∧ v ≤ 9223372036854775807 := by rw [← hve]; simpa using hvb
    rw [hve] at hv
    have hp64 : IntKind.u64.wrap p = p := wu64_in _ (by omega) (by omega)
    have hv64 : IntKind.u64.wrap v = v := wu64_in _ (by omega) (by omega)
    have hq64 : IntKind.u64.wrap (p + v) = p + v := wu64_in _ (by omega) (by omega)
    have hd : (p + v).tdiv (ss s) = (p + v) / ss s := Int.tdiv_eq_ediv_of_nonneg (by omega)
    have hr : (p + v).tmod (ss s) = (p + v) % ss s := Int.tmod_eq_emod_of_nonneg (by omega)
    have hd0 : 0 ≤ (p + v) / ss s := Int.ediv_nonneg (by omega) (by omega)
    have hd1 : (p + v) / ss s ≤ p + v := Int.ediv_le_self _ (by omega)
    have hr0 := Int.emod_nonneg (p + v) (show ss s ≠ 0 by omega)
    have hr1 := Int.emod_lt_of_pos (p + v) (show 0 < ss s by omega)
    have hve2 : eI W a (((i : Int)).toNat * 1 + 0) = v := hve
    have hu64 : IntKind.u64.wrap ((p + v) / ss s) = (p + v) / ss s := wu64_in _ (by omega) (by omega)
    have h8w : IntKind.u64.wrap (IntKind.i64.wrap (8 - h)) = 8 - h := by rw [wi64_in (8 - h) (by omega) (by omega), wu64_in _ (by omega) (by omega)]
    rw [hve2, hs64, hp64, hv64, hq64, hd, hr, hu64, h8w]
    have nz : (!decide (ss s = 0)) = true := by simp; omega
    refine ⟨nz, fun _ => fetch W a n c s m i at0 h p _ hlt hmx ha (kk_of _) 8 0 (by omega) (by omega), fun hm => ⟨nz, ?_⟩⟩
    rw [decide_eq_false_iff_not] at hm
    refine fetch W a n c s m i at0 h p _ hlt hmx ha (kk_of _) _ _ ?_ ?_
    · show 0 ≤ IntKind.i64.wrap (h + IntKind.i64.wrap ((p + v) / ss s)) ∧ IntKind.i64.wrap (h + IntKind.i64.wrap ((p + v) / ss s)) ≤ 8
      rw [wi64_in ((p + v) / ss s) (by omega) (by omega), wi64_in _ (by omega) (by omega)]; omega
    · rw [wi64_in ((p + v) % ss s) (by omega) (by omega)]; omega
end Go.Proofs.Ytfjkjkhgmeemcaa

