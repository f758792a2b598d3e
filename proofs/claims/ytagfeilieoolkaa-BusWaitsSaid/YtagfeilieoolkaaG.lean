import Derived.Test.YtagfeilieoolkaaE
set_option linter.unusedVariables false
set_option linter.unusedSimpArgs false
namespace Go.Proofs.Ytagfeilieoolkaa
open Go Go.Proofs Go.Proofs.Ytagfeilieoolkaa.Ev
theorem vv_n (n m : Nat) (hn : n < 65536) (hm : m < 65536) : ((n &&& 65507) ||| (m &&& 28)) / 32 = n / 32 ∧ ((n &&& 65507) ||| (m &&& 28)) % 4 = n % 4 := by
  have a : ((n &&& 65507) ||| (m &&& 28)) / 2 ^ 5 = n / 2 ^ 5 := by
    rw [Nat.or_div_two_pow, Nat.and_div_two_pow, Nat.and_div_two_pow]
    have e1 : (65507 / 2 ^ 5 : Nat) = 2 ^ 11 - 1 := by decide
    have e2 : (28 / 2 ^ 5 : Nat) = 0 := by decide
    rw [e1, e2, Nat.and_two_pow_sub_one_eq_mod, Nat.and_zero, Nat.or_zero]
    omega
  have b : ((n &&& 65507) ||| (m &&& 28)) % 2 ^ 2 = n % 2 ^ 2 := by
    rw [Nat.or_mod_two_pow, Nat.and_mod_two_pow, Nat.and_mod_two_pow]
    have e1 : (65507 % 2 ^ 2 : Nat) = 2 ^ 2 - 1 := by decide
    have e2 : (28 % 2 ^ 2 : Nat) = 0 := by decide
    rw [e1, e2, Nat.and_two_pow_sub_one_eq_mod, Nat.and_zero, Nat.or_zero]
    omega
  exact ⟨a, b⟩
theorem vv_ok (w o : Int) (hw : 0 ≤ w ∧ w < 65536) (ho : 0 ≤ o ∧ o < 65536) : vv w o / 32 = w / 32 ∧ vv w o % 4 = w % 4 := by
  obtain ⟨n, rfl⟩ := Int.eq_ofNat_of_zero_le hw.1
  obtain ⟨m, rfl⟩ := Int.eq_ofNat_of_zero_le ho.1
  unfold vv
  have a := bits_andNot_n .u16 n 28 (by decide)
  have e1 : ((2 ^ IntKind.u16.bits - 1 - 28 : Nat) : Int) = ((65507 : Nat) : Int) := by decide
  have e2 : ((28 : Nat) : Int) = 28 := rfl
  rw [e1, bits_and_n .u16 rfl _ _ (by simp only [IntKind.bits]; omega) (by decide)] at a
  have b := bits_and_n .u16 rfl m 28 (by simp only [IntKind.bits]; omega) (by decide)
  rw [e2] at a b
  have l1 : (n &&& 65507) < 2 ^ IntKind.u16.bits := Nat.lt_of_le_of_lt Nat.and_le_left (by simp only [IntKind.bits]; omega)
  have l2 : (m &&& 28) < 2 ^ IntKind.u16.bits := Nat.lt_of_le_of_lt Nat.and_le_left (by simp only [IntKind.bits]; omega)
  rw [a, b, bits_or_n .u16 rfl _ _ l1 l2]
  have := vv_n n m (by omega) (by omega)
  omega
theorem vv_all (w o : Int) (hw' : 0 ≤ w ∧ w < 65536) (ho : 0 ≤ o ∧ o < 65536) : ∀ _ : Unit, vv w o / 32 = w / 32 ∧ vv w o % 4 = w % 4 ∧ vv w o / 128 = w / 128 ∧ vv w o / 256 = w / 256 ∧ vv w o / 1024 = w / 1024 := by
  intro _
  obtain ⟨v32, v4⟩ := vv_ok w o hw' ho
  refine ⟨v32, v4, ?_, ?_, ?_⟩
  · have e1 : vv w o / 128 = vv w o / 32 / 4 := by clear v32 v4; omega
    have e2 : w / 128 = w / 32 / 4 := by clear v32 v4; omega
    rw [e1, e2, v32]
  · have e1 : vv w o / 256 = vv w o / 32 / 8 := by clear v32 v4; omega
    have e2 : w / 256 = w / 32 / 8 := by clear v32 v4; omega
    rw [e1, e2, v32]
  · have e1 : vv w o / 1024 = vv w o / 32 / 32 := by clear v32 v4; omega
    have e2 : w / 1024 = w / 32 / 32 := by clear v32 v4; omega
    rw [e1, e2, v32]
theorem vv_bd (w o : Int) : u16 (vv w o) = true := by
  have := bits_bd .or .u16 rfl (bits .andNot .u16 w 28) (bits .and .u16 o 28)
  rw [u16_iff]; exact this
theorem selI_0 (a b c : Int) : selI [a, b, c] 0 = a := rfl
theorem selI_1 (a b c : Int) : selI [a, b, c] 1 = b := rfl
theorem selI_2 (a b c : Int) : selI [a, b, c] 2 = c := rfl
theorem fst_cases (x : Int) : fst x = 4 ∨ fst x = 3 ∨ fst x = 2 ∨ fst x = 8 := by
  unfold fst; (repeat' split) <;> simp
theorem ite_cases (c : Prop) [Decidable c] (n : Int) : (if c then 1 else n) = 1 ∨ (if c then (1 : Int) else n) = n := by split <;> simp
theorem cost_save (f0 f1 f2 s0 s1 s2 sv : Int) : costV f0 f1 f2 s0 s1 s2 sv 234881024 1 0 = 1 + sv := by
  have h : mR 234881024 = 8 := by decide
  unfold costV; rw [h]; rfl
theorem cost_rom (f0 f1 f2 s0 s1 s2 sv : Int) : costV f0 f1 f2 s0 s1 s2 sv 134217730 4 1 = 1 + s0 + (1 + s0) := by
  have h : mR 134217730 = 7 := by decide
  unfold costV; rw [h]; rfl
set_option maxHeartbeats 4000000 in
theorem waits_calls (w o : Int) (hw : u16 w = true) (ho : u16 o = true) (W : World) :
    Calls Try.prog 6 #[.int .u16 w, .int .u16 o] W fun e w' => e = .returned (.bool true) ∧ RowKit.Grown W w' := by
  refine law_of_calls (ρ := fun _ => 0) ?_
  have hv := vv_bd w o
  have hw' := hw
  rw [u16_iff] at hw' ho
  have V := vv_all w o hw' ho
  refine calls_loop (c := c6) orc2_ok tab_ok tab_sz mixed Try.func6 rfl (by decide) (vs := [.c (.i false .u16 w), .c (.i false .u16 o)]) (Nat.le_of_ble_eq_true rfl) 1000 100 (hh6 w o) (mu6 w o) (fun _ => hd6) (lv6 w o) (sv6 w o) (fun _ => rfl)
    (fun v _ => SV.sim v (.c (.b false true))) ?_ ?_ W 0 _ W (Inv.start W) (by simp [SV.ok, C.ok, okL])
  · rw [waits_pro]
    exact ⟨hw, hv, 0, ⟨by omega, by omega⟩, rfl, rfl, ⟨⟨rfl, rfl⟩, ⟨rfl, rfl⟩, rfl, rfl, rfl, rfl⟩, ⟨rfl, ⟨rfl, rfl⟩, ⟨rfl, rfl⟩, ⟨rfl, rfl⟩, ⟨rfl, rfl⟩, ⟨rfl, rfl⟩, ⟨rfl, rfl⟩, ⟨rfl, rfl⟩, rfl⟩, ⟨rfl, ⟨rfl, rfl⟩, ⟨rfl, rfl⟩, ⟨rfl, rfl⟩, ⟨rfl, rfl⟩, ⟨rfl, rfl⟩, ⟨rfl, rfl⟩, ⟨rfl, rfl⟩, rfl⟩, trivial⟩
  · intro j hj
    rw [waits_round]
    have hj : 0 ≤ j ∧ j ≤ 3 := hj
    refine ⟨fun h => ?_, fun h => ?_⟩
    · rw [decide_eq_true_eq] at h
      have hj1 : IntKind.i64.wrap (j + 1) = j + 1 := wi64_in _ (by omega) (by omega)
      have hmu : mu6 w o (j + 1) < mu6 w o j := by show (3 - (j + 1)).toNat < (3 - j).toNat; omega
      have hin : inB j 3 = true := inBl _ _ (by omega) (by omega)
      have h0 : decide (0 ≤ j) = true := by rw [decide_eq_true_eq]; omega
      have hF : selI [fst (w / 4 % 4), fst (w / 32 % 4), fst (w / 256 % 4)] j = 4 ∨ selI [fst (w / 4 % 4), fst (w / 32 % 4), fst (w / 256 % 4)] j = 3 ∨ selI [fst (w / 4 % 4), fst (w / 32 % 4), fst (w / 256 % 4)] j = 2 ∨ selI [fst (w / 4 % 4), fst (w / 32 % 4), fst (w / 256 % 4)] j = 8 := by
        rcases (show j = 0 ∨ j = 1 ∨ j = 2 by omega) with rfl | rfl | rfl
        · rw [selI_0]; exact fst_cases _
        · rw [selI_1]; exact fst_cases _
        · rw [selI_2]; exact fst_cases _
      have hS : selI [if w / 16 % 2 = 1 then 1 else 2, if w / 128 % 2 = 1 then 1 else 4, if w / 1024 % 2 = 1 then 1 else 8] j = 1 ∨ selI [if w / 16 % 2 = 1 then 1 else 2, if w / 128 % 2 = 1 then 1 else 4, if w / 1024 % 2 = 1 then 1 else 8] j = IntKind.i64.wrap (2 * 2 ^ min j.toNat (64 : Nat)) := by
        rcases (show j = 0 ∨ j = 1 ∨ j = 2 by omega) with rfl | rfl | rfl
        · rw [show IntKind.i64.wrap (2 * 2 ^ min (0 : Int).toNat (64 : Nat)) = 2 by decide +kernel, selI_0]; exact ite_cases _ 2
        · rw [show IntKind.i64.wrap (2 * 2 ^ min (1 : Int).toNat (64 : Nat)) = 4 by decide +kernel, selI_1]; exact ite_cases _ 4
        · rw [show IntKind.i64.wrap (2 * 2 ^ min (2 : Int).toNat (64 : Nat)) = 8 by decide +kernel, selI_2]; exact ite_cases _ 8
      have hFV : 0 < j → selI [fst (vv w o / 4 % 4), fst (vv w o / 32 % 4), fst (vv w o / 256 % 4)] j = selI [fst (w / 4 % 4), fst (w / 32 % 4), fst (w / 256 % 4)] j := by
        intro hj0
        rw [(V ()).1, (V ()).2.2.2.1]
        rcases (show j = 1 ∨ j = 2 by omega) with rfl | rfl
        · rw [selI_1, selI_1]
        · rw [selI_2, selI_2]
      have hSV : 0 < j → selI [if vv w o / 16 % 2 = 1 then 1 else 2, if vv w o / 128 % 2 = 1 then 1 else 4, if vv w o / 1024 % 2 = 1 then 1 else 8] j = selI [if w / 16 % 2 = 1 then 1 else 2, if w / 128 % 2 = 1 then 1 else 4, if w / 1024 % 2 = 1 then 1 else 8] j := by
        intro hj0
        rw [(V ()).2.2.1, (V ()).2.2.2.2]
        rcases (show j = 1 ∨ j = 2 by omega) with rfl | rfl
        · rw [selI_1, selI_1]
        · rw [selI_2, selI_2]
      generalize IntKind.i64.wrap (2 * 2 ^ min j.toNat (64 : Nat)) = P at *
      generalize selI [fst (w / 4 % 4), fst (w / 32 % 4), fst (w / 256 % 4)] j = F at *
      generalize selI [fst (vv w o / 4 % 4), fst (vv w o / 32 % 4), fst (vv w o / 256 % 4)] j = F' at *
      generalize selI [if w / 16 % 2 = 1 then 1 else 2, if w / 128 % 2 = 1 then 1 else 4, if w / 1024 % 2 = 1 then 1 else 8] j = S at *
      generalize selI [if vv w o / 16 % 2 = 1 then 1 else 2, if vv w o / 128 % 2 = 1 then 1 else 4, if vv w o / 1024 % 2 = 1 then 1 else 8] j = S' at *
      rcases hF with rfl | rfl | rfl | rfl
      · exact ⟨hin, hin, ⟨fun _ => ⟨fun _ => ⟨(fun h => absurd h (by decide)), fun _ => ⟨fun h1 => ⟨h0, (fun h2 => False.elim (hS.elim (fun e => absurd e (by simpa using h1)) (fun e => absurd e (by simpa using h2)))), fun _ => ⟨fun hj0 => ⟨hin, (fun hx => absurd (hFV (of_decide_eq_true hj0)) (by simpa using hx)), fun _ => ⟨hin, (fun hx => absurd (hSV (of_decide_eq_true hj0)) (by simpa using hx)), fun _ => ⟨_, ⟨by omega, by omega⟩, hmu, rfl, rfl, ⟨⟨rfl, rfl⟩, ⟨rfl, rfl⟩, rfl, rfl, rfl, hj1⟩, ⟨rfl, ⟨rfl, rfl⟩, ⟨rfl, rfl⟩, ⟨rfl, rfl⟩, ⟨rfl, rfl⟩, ⟨rfl, rfl⟩, ⟨rfl, rfl⟩, ⟨rfl, rfl⟩, rfl⟩, ⟨rfl, ⟨rfl, rfl⟩, ⟨rfl, rfl⟩, ⟨rfl, rfl⟩, ⟨rfl, rfl⟩, ⟨rfl, rfl⟩, ⟨rfl, rfl⟩, ⟨rfl, rfl⟩, rfl⟩, trivial⟩⟩⟩, fun _ => ⟨_, ⟨by omega, by omega⟩, hmu, rfl, rfl, ⟨⟨rfl, rfl⟩, ⟨rfl, rfl⟩, rfl, rfl, rfl, hj1⟩, ⟨rfl, ⟨rfl, rfl⟩, ⟨rfl, rfl⟩, ⟨rfl, rfl⟩, ⟨rfl, rfl⟩, ⟨rfl, rfl⟩, ⟨rfl, rfl⟩, ⟨rfl, rfl⟩, rfl⟩, ⟨rfl, ⟨rfl, rfl⟩, ⟨rfl, rfl⟩, ⟨rfl, rfl⟩, ⟨rfl, rfl⟩, ⟨rfl, rfl⟩, ⟨rfl, rfl⟩, ⟨rfl, rfl⟩, rfl⟩, trivial⟩⟩⟩, fun _ => ⟨fun hj0 => ⟨hin, (fun hx => absurd (hFV (of_decide_eq_true hj0)) (by simpa using hx)), fun _ => ⟨hin, (fun hx => absurd (hSV (of_decide_eq_true hj0)) (by simpa using hx)), fun _ => ⟨_, ⟨by omega, by omega⟩, hmu, rfl, rfl, ⟨⟨rfl, rfl⟩, ⟨rfl, rfl⟩, rfl, rfl, rfl, hj1⟩, ⟨rfl, ⟨rfl, rfl⟩, ⟨rfl, rfl⟩, ⟨rfl, rfl⟩, ⟨rfl, rfl⟩, ⟨rfl, rfl⟩, ⟨rfl, rfl⟩, ⟨rfl, rfl⟩, rfl⟩, ⟨rfl, ⟨rfl, rfl⟩, ⟨rfl, rfl⟩, ⟨rfl, rfl⟩, ⟨rfl, rfl⟩, ⟨rfl, rfl⟩, ⟨rfl, rfl⟩, ⟨rfl, rfl⟩, rfl⟩, trivial⟩⟩⟩, fun _ => ⟨_, ⟨by omega, by omega⟩, hmu, rfl, rfl, ⟨⟨rfl, rfl⟩, ⟨rfl, rfl⟩, rfl, rfl, rfl, hj1⟩, ⟨rfl, ⟨rfl, rfl⟩, ⟨rfl, rfl⟩, ⟨rfl, rfl⟩, ⟨rfl, rfl⟩, ⟨rfl, rfl⟩, ⟨rfl, rfl⟩, ⟨rfl, rfl⟩, rfl⟩, ⟨rfl, ⟨rfl, rfl⟩, ⟨rfl, rfl⟩, ⟨rfl, rfl⟩, ⟨rfl, rfl⟩, ⟨rfl, rfl⟩, ⟨rfl, rfl⟩, ⟨rfl, rfl⟩, rfl⟩, trivial⟩⟩⟩⟩, (fun h => absurd h (by decide))⟩, (fun h => absurd h (by decide))⟩⟩
      · exact ⟨hin, hin, ⟨fun _ => ⟨(fun h => absurd h (by decide)), fun _ => ⟨fun h1 => ⟨h0, (fun h2 => False.elim (hS.elim (fun e => absurd e (by simpa using h1)) (fun e => absurd e (by simpa using h2)))), fun _ => ⟨fun hj0 => ⟨hin, (fun hx => absurd (hFV (of_decide_eq_true hj0)) (by simpa using hx)), fun _ => ⟨hin, (fun hx => absurd (hSV (of_decide_eq_true hj0)) (by simpa using hx)), fun _ => ⟨_, ⟨by omega, by omega⟩, hmu, rfl, rfl, ⟨⟨rfl, rfl⟩, ⟨rfl, rfl⟩, rfl, rfl, rfl, hj1⟩, ⟨rfl, ⟨rfl, rfl⟩, ⟨rfl, rfl⟩, ⟨rfl, rfl⟩, ⟨rfl, rfl⟩, ⟨rfl, rfl⟩, ⟨rfl, rfl⟩, ⟨rfl, rfl⟩, rfl⟩, ⟨rfl, ⟨rfl, rfl⟩, ⟨rfl, rfl⟩, ⟨rfl, rfl⟩, ⟨rfl, rfl⟩, ⟨rfl, rfl⟩, ⟨rfl, rfl⟩, ⟨rfl, rfl⟩, rfl⟩, trivial⟩⟩⟩, fun _ => ⟨_, ⟨by omega, by omega⟩, hmu, rfl, rfl, ⟨⟨rfl, rfl⟩, ⟨rfl, rfl⟩, rfl, rfl, rfl, hj1⟩, ⟨rfl, ⟨rfl, rfl⟩, ⟨rfl, rfl⟩, ⟨rfl, rfl⟩, ⟨rfl, rfl⟩, ⟨rfl, rfl⟩, ⟨rfl, rfl⟩, ⟨rfl, rfl⟩, rfl⟩, ⟨rfl, ⟨rfl, rfl⟩, ⟨rfl, rfl⟩, ⟨rfl, rfl⟩, ⟨rfl, rfl⟩, ⟨rfl, rfl⟩, ⟨rfl, rfl⟩, ⟨rfl, rfl⟩, rfl⟩, trivial⟩⟩⟩, fun _ => ⟨fun hj0 => ⟨hin, (fun hx => absurd (hFV (of_decide_eq_true hj0)) (by simpa using hx)), fun _ => ⟨hin, (fun hx => absurd (hSV (of_decide_eq_true hj0)) (by simpa using hx)), fun _ => ⟨_, ⟨by omega, by omega⟩, hmu, rfl, rfl, ⟨⟨rfl, rfl⟩, ⟨rfl, rfl⟩, rfl, rfl, rfl, hj1⟩, ⟨rfl, ⟨rfl, rfl⟩, ⟨rfl, rfl⟩, ⟨rfl, rfl⟩, ⟨rfl, rfl⟩, ⟨rfl, rfl⟩, ⟨rfl, rfl⟩, ⟨rfl, rfl⟩, rfl⟩, ⟨rfl, ⟨rfl, rfl⟩, ⟨rfl, rfl⟩, ⟨rfl, rfl⟩, ⟨rfl, rfl⟩, ⟨rfl, rfl⟩, ⟨rfl, rfl⟩, ⟨rfl, rfl⟩, rfl⟩, trivial⟩⟩⟩, fun _ => ⟨_, ⟨by omega, by omega⟩, hmu, rfl, rfl, ⟨⟨rfl, rfl⟩, ⟨rfl, rfl⟩, rfl, rfl, rfl, hj1⟩, ⟨rfl, ⟨rfl, rfl⟩, ⟨rfl, rfl⟩, ⟨rfl, rfl⟩, ⟨rfl, rfl⟩, ⟨rfl, rfl⟩, ⟨rfl, rfl⟩, ⟨rfl, rfl⟩, rfl⟩, ⟨rfl, ⟨rfl, rfl⟩, ⟨rfl, rfl⟩, ⟨rfl, rfl⟩, ⟨rfl, rfl⟩, ⟨rfl, rfl⟩, ⟨rfl, rfl⟩, ⟨rfl, rfl⟩, rfl⟩, trivial⟩⟩⟩⟩, (fun h => absurd h (by decide))⟩⟩
      · exact ⟨hin, hin, ⟨(fun h => absurd h (by decide)), fun _ => ⟨fun h1 => ⟨h0, (fun h2 => False.elim (hS.elim (fun e => absurd e (by simpa using h1)) (fun e => absurd e (by simpa using h2)))), fun _ => ⟨fun hj0 => ⟨hin, (fun hx => absurd (hFV (of_decide_eq_true hj0)) (by simpa using hx)), fun _ => ⟨hin, (fun hx => absurd (hSV (of_decide_eq_true hj0)) (by simpa using hx)), fun _ => ⟨_, ⟨by omega, by omega⟩, hmu, rfl, rfl, ⟨⟨rfl, rfl⟩, ⟨rfl, rfl⟩, rfl, rfl, rfl, hj1⟩, ⟨rfl, ⟨rfl, rfl⟩, ⟨rfl, rfl⟩, ⟨rfl, rfl⟩, ⟨rfl, rfl⟩, ⟨rfl, rfl⟩, ⟨rfl, rfl⟩, ⟨rfl, rfl⟩, rfl⟩, ⟨rfl, ⟨rfl, rfl⟩, ⟨rfl, rfl⟩, ⟨rfl, rfl⟩, ⟨rfl, rfl⟩, ⟨rfl, rfl⟩, ⟨rfl, rfl⟩, ⟨rfl, rfl⟩, rfl⟩, trivial⟩⟩⟩, fun _ => ⟨_, ⟨by omega, by omega⟩, hmu, rfl, rfl, ⟨⟨rfl, rfl⟩, ⟨rfl, rfl⟩, rfl, rfl, rfl, hj1⟩, ⟨rfl, ⟨rfl, rfl⟩, ⟨rfl, rfl⟩, ⟨rfl, rfl⟩, ⟨rfl, rfl⟩, ⟨rfl, rfl⟩, ⟨rfl, rfl⟩, ⟨rfl, rfl⟩, rfl⟩, ⟨rfl, ⟨rfl, rfl⟩, ⟨rfl, rfl⟩, ⟨rfl, rfl⟩, ⟨rfl, rfl⟩, ⟨rfl, rfl⟩, ⟨rfl, rfl⟩, ⟨rfl, rfl⟩, rfl⟩, trivial⟩⟩⟩, fun _ => ⟨fun hj0 => ⟨hin, (fun hx => absurd (hFV (of_decide_eq_true hj0)) (by simpa using hx)), fun _ => ⟨hin, (fun hx => absurd (hSV (of_decide_eq_true hj0)) (by simpa using hx)), fun _ => ⟨_, ⟨by omega, by omega⟩, hmu, rfl, rfl, ⟨⟨rfl, rfl⟩, ⟨rfl, rfl⟩, rfl, rfl, rfl, hj1⟩, ⟨rfl, ⟨rfl, rfl⟩, ⟨rfl, rfl⟩, ⟨rfl, rfl⟩, ⟨rfl, rfl⟩, ⟨rfl, rfl⟩, ⟨rfl, rfl⟩, ⟨rfl, rfl⟩, rfl⟩, ⟨rfl, ⟨rfl, rfl⟩, ⟨rfl, rfl⟩, ⟨rfl, rfl⟩, ⟨rfl, rfl⟩, ⟨rfl, rfl⟩, ⟨rfl, rfl⟩, ⟨rfl, rfl⟩, rfl⟩, trivial⟩⟩⟩, fun _ => ⟨_, ⟨by omega, by omega⟩, hmu, rfl, rfl, ⟨⟨rfl, rfl⟩, ⟨rfl, rfl⟩, rfl, rfl, rfl, hj1⟩, ⟨rfl, ⟨rfl, rfl⟩, ⟨rfl, rfl⟩, ⟨rfl, rfl⟩, ⟨rfl, rfl⟩, ⟨rfl, rfl⟩, ⟨rfl, rfl⟩, ⟨rfl, rfl⟩, rfl⟩, ⟨rfl, ⟨rfl, rfl⟩, ⟨rfl, rfl⟩, ⟨rfl, rfl⟩, ⟨rfl, rfl⟩, ⟨rfl, rfl⟩, ⟨rfl, rfl⟩, ⟨rfl, rfl⟩, rfl⟩, trivial⟩⟩⟩⟩⟩
      · exact ⟨hin, hin, ⟨fun _ => ⟨fun _ => ⟨fun _ => ⟨(fun h => absurd h (by decide)), fun _ => ⟨fun h1 => ⟨h0, (fun h2 => False.elim (hS.elim (fun e => absurd e (by simpa using h1)) (fun e => absurd e (by simpa using h2)))), fun _ => ⟨fun hj0 => ⟨hin, (fun hx => absurd (hFV (of_decide_eq_true hj0)) (by simpa using hx)), fun _ => ⟨hin, (fun hx => absurd (hSV (of_decide_eq_true hj0)) (by simpa using hx)), fun _ => ⟨_, ⟨by omega, by omega⟩, hmu, rfl, rfl, ⟨⟨rfl, rfl⟩, ⟨rfl, rfl⟩, rfl, rfl, rfl, hj1⟩, ⟨rfl, ⟨rfl, rfl⟩, ⟨rfl, rfl⟩, ⟨rfl, rfl⟩, ⟨rfl, rfl⟩, ⟨rfl, rfl⟩, ⟨rfl, rfl⟩, ⟨rfl, rfl⟩, rfl⟩, ⟨rfl, ⟨rfl, rfl⟩, ⟨rfl, rfl⟩, ⟨rfl, rfl⟩, ⟨rfl, rfl⟩, ⟨rfl, rfl⟩, ⟨rfl, rfl⟩, ⟨rfl, rfl⟩, rfl⟩, trivial⟩⟩⟩, fun _ => ⟨_, ⟨by omega, by omega⟩, hmu, rfl, rfl, ⟨⟨rfl, rfl⟩, ⟨rfl, rfl⟩, rfl, rfl, rfl, hj1⟩, ⟨rfl, ⟨rfl, rfl⟩, ⟨rfl, rfl⟩, ⟨rfl, rfl⟩, ⟨rfl, rfl⟩, ⟨rfl, rfl⟩, ⟨rfl, rfl⟩, ⟨rfl, rfl⟩, rfl⟩, ⟨rfl, ⟨rfl, rfl⟩, ⟨rfl, rfl⟩, ⟨rfl, rfl⟩, ⟨rfl, rfl⟩, ⟨rfl, rfl⟩, ⟨rfl, rfl⟩, ⟨rfl, rfl⟩, rfl⟩, trivial⟩⟩⟩, fun _ => ⟨fun hj0 => ⟨hin, (fun hx => absurd (hFV (of_decide_eq_true hj0)) (by simpa using hx)), fun _ => ⟨hin, (fun hx => absurd (hSV (of_decide_eq_true hj0)) (by simpa using hx)), fun _ => ⟨_, ⟨by omega, by omega⟩, hmu, rfl, rfl, ⟨⟨rfl, rfl⟩, ⟨rfl, rfl⟩, rfl, rfl, rfl, hj1⟩, ⟨rfl, ⟨rfl, rfl⟩, ⟨rfl, rfl⟩, ⟨rfl, rfl⟩, ⟨rfl, rfl⟩, ⟨rfl, rfl⟩, ⟨rfl, rfl⟩, ⟨rfl, rfl⟩, rfl⟩, ⟨rfl, ⟨rfl, rfl⟩, ⟨rfl, rfl⟩, ⟨rfl, rfl⟩, ⟨rfl, rfl⟩, ⟨rfl, rfl⟩, ⟨rfl, rfl⟩, ⟨rfl, rfl⟩, rfl⟩, trivial⟩⟩⟩, fun _ => ⟨_, ⟨by omega, by omega⟩, hmu, rfl, rfl, ⟨⟨rfl, rfl⟩, ⟨rfl, rfl⟩, rfl, rfl, rfl, hj1⟩, ⟨rfl, ⟨rfl, rfl⟩, ⟨rfl, rfl⟩, ⟨rfl, rfl⟩, ⟨rfl, rfl⟩, ⟨rfl, rfl⟩, ⟨rfl, rfl⟩, ⟨rfl, rfl⟩, rfl⟩, ⟨rfl, ⟨rfl, rfl⟩, ⟨rfl, rfl⟩, ⟨rfl, rfl⟩, ⟨rfl, rfl⟩, ⟨rfl, rfl⟩, ⟨rfl, rfl⟩, ⟨rfl, rfl⟩, rfl⟩, trivial⟩⟩⟩⟩, (fun h => absurd h (by decide))⟩, (fun h => absurd h (by decide))⟩, (fun h => absurd h (by decide))⟩⟩
    · rw [decide_eq_false_iff_not] at h
      have hj3 : j = 3 := by omega
      have a := and_sh .u16 rfl w hw'.1 (by simp only [IntKind.bits]; omega) 14 1 (by decide)
      have a' : bits .and .u16 w 16384 = w / 16384 % 2 * 16384 := by simpa using a
      have b1 : (false ^^ (decide (w / 16384 % 2 = 1) == (bits .and .u16 w 16384 != 0))) = true := by
        rw [a', bne0, Bool.false_xor, beq_iff_eq, decide_eq_decide]; omega
      have b2 : (fst (w % 4) == fst (vv w o % 4)) = true := by rw [(V ()).2.1]; simp
      have s0 : sm (fst (w % 4)) = true := fst_sm _
      have s1 : sm (if w / 16 % 2 = 1 then 1 else 2) = true := ite_sm _ _ (by decide)
      rw [b1, b2, cost_save, cost_rom]
      simp only [fst_sm, ite_sm, s1]
      rw [sm_iff] at s0 s1
      have c1 : IntKind.i64.wrap (1 + fst (w % 4)) = 1 + fst (w % 4) := wi64_in _ (by omega) (by omega)
      have c2 : IntKind.i64.wrap (2 * (if w / 16 % 2 = 1 then 1 else 2)) = 2 * (if w / 16 % 2 = 1 then 1 else 2) := wi64_in _ (by omega) (by omega)
      have c3 : IntKind.i64.wrap (2 + 2 * (if w / 16 % 2 = 1 then 1 else 2)) = 2 + 2 * (if w / 16 % 2 = 1 then 1 else 2) := wi64_in _ (by omega) (by omega)
      rw [c1, c2, c3]
      have hc : ∀ z : Int, (1 + z + (1 + z) == 2 + 2 * z) = true := fun z => by rw [beq_iff_eq]; omega
      rw [hc]
      simp [fst_sm, ite_sm, u32]

end Go.Proofs.Ytagfeilieoolkaa

