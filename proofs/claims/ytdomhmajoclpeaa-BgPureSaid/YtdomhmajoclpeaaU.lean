import Derived.Test.YtdomhmajoclpeaaV
set_option linter.unusedVariables false
set_option linter.unusedSimpArgs false
namespace Go.Proofs.Ytdomhmajoclpeaa
open Go Go.Proofs Go.Proofs.Ytdomhmajoclpeaa.Ev Go.Proofs.Ytdomhmajoclpeaa.Ev.Ho Go.IntKind
set_option maxRecDepth 100000
theorem tb_i (x : Nat) (i : Nat) : (x / 2 ^ i % 2 = 1 ↔ x.testBit i = true) := by rw [Nat.testBit_eq_decide_div_mod_eq, decide_eq_true_eq]
theorem anot_n (c m : Nat) (hc : c < 65536) (hm : m < 65536) : bits .andNot .u16 (c : Int) (m : Int) = ((c &&& (65535 - m) : Nat) : Int) := by
  rw [bits_andNot_n .u16 _ m hm]
  exact bits_and_n .u16 rfl c _ hc (by show 2 ^ 16 - 1 - m < 2 ^ 16; omega)
theorem and_lt16 (c m : Nat) (hc : c < 65536) : c &&& m < 65536 := Nat.lt_of_le_of_lt Nat.and_le_left hc
theorem bg6 (c : Int) (h0 : 0 ≤ c) (h1 : c ≤ 65535) : bits .andNot .u16 c 64 / 64 % 2 = 0 ∧ 0 ≤ bits .andNot .u16 c 64 ∧ bits .andNot .u16 c 64 ≤ 65535 := by
  obtain ⟨n, rfl⟩ : ∃ n : Nat, c = n := ⟨c.toNat, by omega⟩
  have e : bits .andNot .u16 (n : Int) 64 = ((n &&& 65471 : Nat) : Int) := anot_n n 64 (by omega) (by omega)
  rw [e]
  have hl := and_lt16 n 65471 (by omega)
  have ht := tb_i (n &&& 65471) 6
  rw [Nat.testBit_and, show (65471 : Nat).testBit 6 = false by decide, Bool.and_false] at ht
  have hn : ¬((n &&& 65471) / 2 ^ 6 % 2 = 1) := fun h => absurd (ht.1 h) (by decide)
  rw [show (2 : Nat) ^ 6 = 64 by decide] at hn
  omega
theorem ctlM (c : Int) (h0 : 0 ≤ c) (h1 : c ≤ 65535) : (0 ≤ bits .or .u16 (bits .andNot .u16 c 135) 256 ∧ bits .or .u16 (bits .andNot .u16 c 135) 256 ≤ 65535) ∧ bits .or .u16 (bits .andNot .u16 c 135) 256 % 8 = 0 ∧ bits .or .u16 (bits .andNot .u16 c 135) 256 / 128 % 2 = 0 ∧ bits .or .u16 (bits .andNot .u16 c 135) 256 / 256 % 2 = 1 := by
  obtain ⟨n, rfl⟩ : ∃ n : Nat, c = n := ⟨c.toNat, by omega⟩
  have e : bits .andNot .u16 (n : Int) 135 = ((n &&& 65400 : Nat) : Int) := anot_n n 135 (by omega) (by omega)
  have hl := and_lt16 n 65400 (by omega)
  have e2 : bits .or .u16 ((n &&& 65400 : Nat) : Int) 256 = (((n &&& 65400) ||| 256 : Nat) : Int) := bits_or_n .u16 rfl (n &&& 65400) 256 hl (by decide)
  rw [e, e2]
  have hl2 : (n &&& 65400) ||| 256 < 2 ^ 16 := Nat.or_lt_two_pow hl (by decide)
  have h8 : ((n &&& 65400) ||| 256) % 2 ^ 3 = 0 := by
    rw [Nat.or_mod_two_pow, Nat.and_mod_two_pow, show 65400 % 2 ^ 3 = 0 by decide, Nat.and_zero]; rfl
  have t7 := tb_i ((n &&& 65400) ||| 256) 7
  rw [Nat.testBit_or, Nat.testBit_and, show (65400 : Nat).testBit 7 = false by decide, show (256 : Nat).testBit 7 = false by decide, Bool.and_false, Bool.or_false] at t7
  have n7 : ¬(((n &&& 65400) ||| 256) / 2 ^ 7 % 2 = 1) := fun h => absurd (t7.1 h) (by decide)
  have t8 := tb_i ((n &&& 65400) ||| 256) 8
  rw [Nat.testBit_or, show (256 : Nat).testBit 8 = true by decide, Bool.or_true] at t8
  have n8 := t8.2 rfl
  rw [show (2 : Nat) ^ 3 = 8 by decide] at h8
  rw [show (2 : Nat) ^ 7 = 128 by decide] at n7
  rw [show (2 : Nat) ^ 8 = 256 by decide] at n8
  rw [show (2 : Nat) ^ 16 = 65536 by decide] at hl2
  omega
theorem text_mod {s s' : Sc} {i ctl x x' line : Int} (hv : s'.v = s.v) (hvn : s'.vn = s.vn) (hp : s'.p = s.p) (hpn : s'.pn = s.pn) (hy : s'.ys = s.ys) (hX : (x' + selI s'.xs i % 512) % 512 = (x + selI s.xs i % 512) % 512) : textF s' i ctl x' line = textF s i ctl x line := by
  have e1 : (x' + selI s'.xs i % 512) % 256 = (x + selI s.xs i % 512) % 256 := by omega
  have e2 : (x' + selI s'.xs i % 512) % 8 = (x + selI s.xs i % 512) % 8 := by omega
  have e3 : ∀ a : Int, a = 1 ∨ a = 2 → (x' + selI s'.xs i % 512) / 256 % a = (x + selI s.xs i % 512) / 256 % a := by
    intro a ha; rcases ha with rfl | rfl <;> omega
  have e3' : (x' + selI s'.xs i % 512) / 256 % (if ctl / 16384 % 2 = 1 then 2 else 1) = (x + selI s.xs i % 512) / 256 % (if ctl / 16384 % 2 = 1 then 2 else 1) := e3 _ (by split <;> simp)
  unfold textF
  dsimp only
  rw [e1, e2, e3', hy, hv, hvn]
  unfold tdotF visF tileF
  rw [hv, hp, hpn]
theorem wu16b (v : Int) : 0 ≤ IntKind.u16.wrap v ∧ IntKind.u16.wrap v ≤ 65535 := by rw [wu16]; omega
theorem tmN (t : Int) (N : Int) (h : 0 < N) (hN : N < 1000000) : 0 ≤ (IntKind.i64.wrap (t.tmod N + N)).tmod N ∧ (IntKind.i64.wrap (t.tmod N + N)).tmod N < N := by
  have a := Int.lt_tmod_of_pos t h
  have b := Int.tmod_lt_of_pos t h
  rw [wi64_in _ (by omega) (by omega), Int.tmod_eq_emod_of_nonneg (by omega)]
  exact ⟨Int.emod_nonneg _ (by omega), Int.emod_lt_of_pos _ h⟩
def MV (d : Int) (la lb : List Int) : Prop := ∀ x : Int, 0 ≤ x → x + d < 240 → selI lb x = selI la (x + d)
theorem MV_of {F G : Int → Int} {d : Int} {a b c e a' b' c' e' : List Int} (h : AllF 240 F a b c e) (h' : AllF 240 G a' b' c' e') (hl : (a ++ (b ++ (c ++ e))).length = 240) (hl' : (a' ++ (b' ++ (c' ++ e'))).length = 240) (hd : 0 ≤ d) (hFG : ∀ x, 0 ≤ x → x + d < 240 → G x = F (x + d)) : MV d (a ++ (b ++ (c ++ e))) (a' ++ (b' ++ (c' ++ e'))) := fun x h0 h1 => by
  rw [sel_AllF h hl (by omega) h1, sel_AllF h' hl' h0 (by omega), hFG x h0 h1]
theorem dotU_eq {s : Sc} {i line W H : Int} (h : shP s.ctl i) (h0 : 0 ≤ line) (h1 : line < 160) (hW : wdF s i = W) (hH : hgF s i = H) (x : Int) : dotF s i x line = pixF s i (x / W * W) (line - line % H) (line % H) := by
  unfold dotF
  rw [@if_pos _ (Classical.propDecidable _) ⟨h, h0, h1⟩, hW, hH]
theorem dot_mv {s s' : Sc} {d : Int} (hc : s'.ctl = s.ctl) (hb : s'.bg = s.bg) (hv : s'.v = s.v) (hvn : s'.vn = s.vn) (hp : s'.p = s.p) (hpn : s'.pn = s.pn) (hy : s'.ys = s.ys) (h8 : s.ctl % 8 = 0) (h7 : s.ctl / 128 % 2 = 0) (hs : s.ctl / 256 % 2 = 1) (h6 : selI s.bg 0 / 64 % 2 = 0) (hX : (selI s'.xs 0) % 512 = (selI s.xs 0 + d) % 512) (x : Int) : dotF s' 0 x 7 = dotF s 0 (x + d) 7 := by
  have sh : shP s.ctl 0 := ⟨by decide, h7, by rw [show (8 + (0 : Int)).toNat = 8 by decide, show (2 : Int) ^ 8 = 256 by decide]; exact hs, .inl h8⟩
  have sh' : shP s'.ctl 0 := hc ▸ sh
  have w : wdF s 0 = 1 := by unfold wdF; rw [if_neg (by omega)]
  have g : hgF s 0 = 1 := by unfold hgF; rw [if_neg (by omega)]
  have w' : wdF s' 0 = 1 := by unfold wdF; rw [hb, if_neg (by omega)]
  have g' : hgF s' 0 = 1 := by unfold hgF; rw [hb, if_neg (by omega)]
  rw [dotU_eq sh (by decide) (by decide) w g, dotU_eq sh' (by decide) (by decide) w' g', pixT (.inl h8), pixT (.inl (hc ▸ h8)), hb]
  refine text_mod hv hvn hp hpn hy ?_
  simp only [Int.ediv_one, Int.mul_one]
  omega
end Go.Proofs.Ytdomhmajoclpeaa

