import Derived.Test.YtpddbhfebhpohaaP
set_option linter.unusedVariables false
set_option linter.unusedSimpArgs false
namespace Go.Proofs.Ytpddbhfebhpohaa
open Go Go.Proofs Go.Proofs.Ytpddbhfebhpohaa.Ev Go.Proofs.Ytpddbhfebhpohaa.Ev.Ho
set_option maxRecDepth 100000

theorem alw (w x : Int) (hw : w = 2 ∨ w = 4) (h0 : 0 ≤ x) (h1 : x ≤ 4294967295) : bits .andNot .u32 x (IntKind.u32.wrap (IntKind.i64.wrap (w - 1))) = al w x := by
  rcases hw with rfl | rfl
  · have e0 : IntKind.u32.wrap (IntKind.i64.wrap (2 - 1)) = 1 := by decide
    rw [e0, andNot_u32 _ _ (by decide) (by decide)]
    have := and_sh .u32 rfl x h0 (by show x < 2 ^ 32; omega) 1 31 (by decide)
    have e : ((2 ^ 31 - 1) * 2 ^ 1 : Int) = 4294967295 - 1 := by decide
    rw [e] at this
    rw [this]; unfold al; omega
  · have e0 : IntKind.u32.wrap (IntKind.i64.wrap (4 - 1)) = 3 := by decide
    rw [e0, andNot_u32 _ _ (by decide) (by decide)]
    have := and_sh .u32 rfl x h0 (by show x < 2 ^ 32; omega) 2 30 (by decide)
    have e : ((2 ^ 30 - 1) * 2 ^ 2 : Int) = 4294967295 - 3 := by decide
    rw [e] at this
    rw [this]; unfold al; omega
theorem al_bd (w x : Int) (hw : w = 2 ∨ w = 4) (h0 : 0 ≤ x) (h1 : x ≤ 4294967295) : 0 ≤ al w x ∧ al w x ≤ 4294967295 ∧ (33554432 ≤ x ↔ 33554432 ≤ al w x) := by
  rcases hw with rfl | rfl <;> unfold al <;> omega
theorem vl_bd (x : Int) : 0 ≤ vl x ∧ vl x ≤ 4294967295 := by
  have h := bits_bd .xor .u32 rfl (IntKind.u32.wrap (x * 2654435761)) (x.fdiv 128)
  have h2 : (2 : Int) ^ IntKind.u32.bits = 4294967296 := by decide
  rw [h2] at h
  exact ⟨h.1, by have := h.2; unfold vl; omega⟩
theorem vlT (x : Int) : bits .xor .u32 (IntKind.u32.wrap (x * 2654435761)) (x.fdiv 128) = vl x := by unfold vl; rfl
theorem vrT (w v : Int) (h0 : 0 ≤ v) (h1 : v ≤ 4294967295) : (bif w == 2 then bits .or .u32 (bits .and .u32 v 65535) (IntKind.u32.wrap (v * 65536)) else v) = if w = 2 then v % 65536 * 65536 + v % 65536 else v := by
  by_cases hw : w = 2
  · have e : (w == 2) = true := by simp [hw]
    rw [e, if_pos hw, cond_true]
    have e1 : bits .and .u32 v 65535 = v % 65536 := and_mask .u32 _ 16 (.inl (by decide))
    have e2 : IntKind.u32.wrap (v * 65536) = v % 65536 * 65536 := by rw [wu32]; omega
    rw [e1, e2, or_add' _ _ (by omega) (by omega) (by omega) (by omega)]; omega
  · have e : (w == 2) = false := by simp [hw]
    rw [e, if_neg hw, cond_false]
theorem vr_bd (w x : Int) : 0 ≤ vr w x ∧ vr w x ≤ 4294967295 := by
  have := vl_bd x
  unfold vr; split <;> omega
section
variable {l m : List C} {k : Nat} {ch w F T q V : Int} {c : Ch}
theorem rq_len (hl : l.length = k * 6) : (rApp l (k * 6) [C.i true IntKind.i64 ch, ofCell (Value.bool true), C.i false IntKind.u32 F, C.i true IntKind.u32 0, C.i false IntKind.i64 w, C.i false IntKind.i64 q]).length = k * 6 + 6 := by rw [len_app (by omega)]; rfl
theorem rq_get (hl : l.length = k * 6) (r : Nat) : (rApp l (k * 6) [C.i true IntKind.i64 ch, ofCell (Value.bool true), C.i false IntKind.u32 F, C.i true IntKind.u32 0, C.i false IntKind.i64 w, C.i false IntKind.i64 q])[k * 6 + r]? = [C.i true IntKind.i64 ch, ofCell (Value.bool true), C.i false IntKind.u32 F, C.i true IntKind.u32 0, C.i false IntKind.i64 w, C.i false IntKind.i64 q][r]? := by rw [get_app_ge (by omega) (by omega), Nat.add_sub_cancel_left]
theorem rq0 (hl : l.length = k * 6) : rI (rApp l (k * 6) [C.i true IntKind.i64 ch, ofCell (Value.bool true), C.i false IntKind.u32 F, C.i true IntKind.u32 0, C.i false IntKind.i64 w, C.i false IntKind.i64 q]) (k * 6) = ch := rI_congr (l' := [C.i true IntKind.i64 ch, ofCell (Value.bool true), C.i false IntKind.u32 F, C.i true IntKind.u32 0, C.i false IntKind.i64 w, C.i false IntKind.i64 q]) (q := 0) (rq_get hl 0)
theorem rq4 (hl : l.length = k * 6) : rI (rApp l (k * 6) [C.i true IntKind.i64 ch, ofCell (Value.bool true), C.i false IntKind.u32 F, C.i true IntKind.u32 0, C.i false IntKind.i64 w, C.i false IntKind.i64 q]) (k * 6 + 4) = w := rI_congr (l' := [C.i true IntKind.i64 ch, ofCell (Value.bool true), C.i false IntKind.u32 F, C.i true IntKind.u32 0, C.i false IntKind.i64 w, C.i false IntKind.i64 q]) (q := 4) (rq_get hl 4)
theorem rq5 (hl : l.length = k * 6) : rI (rApp l (k * 6) [C.i true IntKind.i64 ch, ofCell (Value.bool true), C.i false IntKind.u32 F, C.i true IntKind.u32 0, C.i false IntKind.i64 w, C.i false IntKind.i64 q]) (k * 6 + 5) = q := rI_congr (l' := [C.i true IntKind.i64 ch, ofCell (Value.bool true), C.i false IntKind.u32 F, C.i true IntKind.u32 0, C.i false IntKind.i64 w, C.i false IntKind.i64 q]) (q := 5) (rq_get hl 5)
theorem ao0 (hl : l.length = k * 6) : rOk (rApp l (k * 6) [C.i true IntKind.i64 ch, ofCell (Value.bool true), C.i false IntKind.u32 F, C.i true IntKind.u32 0, C.i false IntKind.i64 w, C.i false IntKind.i64 q]) (k * 6) (.i .i64) = true := rOk_congr (l' := [C.i true IntKind.i64 ch, ofCell (Value.bool true), C.i false IntKind.u32 F, C.i true IntKind.u32 0, C.i false IntKind.i64 w, C.i false IntKind.i64 q]) (q := 0) (rq_get hl 0)
theorem ao4 (hl : l.length = k * 6) : rOk (rApp l (k * 6) [C.i true IntKind.i64 ch, ofCell (Value.bool true), C.i false IntKind.u32 F, C.i true IntKind.u32 0, C.i false IntKind.i64 w, C.i false IntKind.i64 q]) (k * 6 + 4) (.i .i64) = true := rOk_congr (l' := [C.i true IntKind.i64 ch, ofCell (Value.bool true), C.i false IntKind.u32 F, C.i true IntKind.u32 0, C.i false IntKind.i64 w, C.i false IntKind.i64 q]) (q := 4) (rq_get hl 4)
theorem ao5 (hl : l.length = k * 6) : rOk (rApp l (k * 6) [C.i true IntKind.i64 ch, ofCell (Value.bool true), C.i false IntKind.u32 F, C.i true IntKind.u32 0, C.i false IntKind.i64 w, C.i false IntKind.i64 q]) (k * 6 + 5) (.i .i64) = true := rOk_congr (l' := [C.i true IntKind.i64 ch, ofCell (Value.bool true), C.i false IntKind.u32 F, C.i true IntKind.u32 0, C.i false IntKind.i64 w, C.i false IntKind.i64 q]) (q := 5) (rq_get hl 5)
theorem row2 (h : Row plS l) (hl : l.length = k * 6) : Row plS (rSet (rApp l (k * 6) [C.i true IntKind.i64 ch, ofCell (Value.bool true), C.i false IntKind.u32 F, C.i true IntKind.u32 0, C.i false IntKind.i64 w, C.i false IntKind.i64 q]) (k * 6 + 3) [C.i false IntKind.u32 T]) := by
  have h1 : Row plS (rApp l (k * 6) [C.i true IntKind.i64 ch, ofCell (Value.bool true), C.i false IntKind.u32 F, C.i true IntKind.u32 0, C.i false IntKind.i64 w, C.i false IntKind.i64 q]) := h.app (Row.one trivial) (by omega) (Nat.mul_mod_left _ _)
  refine h1.set1 (q := .i .u32) (by rw [rq_len hl]; omega) ?_ trivial
  have e : (k * 6 + 3) % plS.length = 3 := by show (k * 6 + 3) % 6 = 3; omega
  rw [e]; rfl
theorem row2n (h : Row plS l) (hl : l.length = k * 6) : Row plS (rApp l (k * 6) [C.i true IntKind.i64 ch, C.b true false, C.i true IntKind.u32 0, C.i false IntKind.u32 T, C.i false IntKind.i64 w, C.i false IntKind.i64 q]) := h.app (Row.one trivial) (by omega) (Nat.mul_mod_left _ _)
theorem row3 (h : Row [.i .u32] m) (hm : m.length = k) : Row [.i .u32] (rApp m (k * 1) [C.i false IntKind.u32 V]) :=
  h.app (Row.one trivial) (by omega) (by show k * 1 % 1 = 0; omega)
theorem r1t : Row plS [C.i true IntKind.i64 ch, ofCell (Value.bool true), C.i false IntKind.u32 F, C.i false IntKind.u32 T, C.i false IntKind.i64 w, C.i false IntKind.i64 q] := Row.one trivial
theorem r1n : Row plS [C.i true IntKind.i64 ch, C.b true false, C.i true IntKind.u32 0, C.i false IntKind.u32 T, C.i false IntKind.i64 w, C.i false IntKind.i64 q] := Row.one trivial
theorem r1w : Row [.i .u32] [C.i false IntKind.u32 V] := Row.one trivial
theorem rq_last (hm : m.length = k) : (rApp m (k * 1) [C.i false IntKind.u32 V]).length = k + 1 ∧ rI (rApp m (k * 1) [C.i false IntKind.u32 V]) k = V :=
  ⟨by rw [len_app (by omega)]; simp, rI_congr (l' := [C.i false IntKind.u32 V]) (q := 0) (by rw [get_app_ge (by omega) (by omega)]; congr 1; omega)⟩
theorem tn (k : Nat) : ((k : Int) + 1).toNat = k + 1 := by omega
theorem nx_r (hl : l.length = k * 6) (hm : m.length = k) (hr : 33554432 ≤ c.at_) (hF : F = al w c.at_) (hT : T = al w c.to) (hq : q = if c.first = true then 0 else 1) (hV : V = vr w F) :
    NX ch w c (k : Int) ((k + 1 : Nat) : Int) ((k + 1 : Nat) : Int) (rSet (rApp l (k * 6) [C.i true IntKind.i64 ch, ofCell (Value.bool true), C.i false IntKind.u32 F, C.i true IntKind.u32 0, C.i false IntKind.i64 w, C.i false IntKind.i64 q]) (k * 6 + 3) [C.i false IntKind.u32 T]) (rApp m (k * 1) [C.i false IntKind.u32 V]) := by
  have g2 : ∀ p, (rSet (rApp l (k * 6) [C.i true IntKind.i64 ch, ofCell (Value.bool true), C.i false IntKind.u32 F, C.i true IntKind.u32 0, C.i false IntKind.i64 w, C.i false IntKind.i64 q]) (k * 6 + 3) [C.i false IntKind.u32 T])[p]? = if p = k * 6 + 3 then some (C.i false IntKind.u32 T) else (rApp l (k * 6) [C.i true IntKind.i64 ch, ofCell (Value.bool true), C.i false IntKind.u32 F, C.i true IntKind.u32 0, C.i false IntKind.i64 w, C.i false IntKind.i64 q])[p]? := fun p => get_set1 (by rw [rq_len hl]; omega)
  have g3 : ∀ r, r < 6 → r ≠ 3 → (rSet (rApp l (k * 6) [C.i true IntKind.i64 ch, ofCell (Value.bool true), C.i false IntKind.u32 F, C.i true IntKind.u32 0, C.i false IntKind.i64 w, C.i false IntKind.i64 q]) (k * 6 + 3) [C.i false IntKind.u32 T])[k * 6 + r]? = [C.i true IntKind.i64 ch, ofCell (Value.bool true), C.i false IntKind.u32 F, C.i true IntKind.u32 0, C.i false IntKind.i64 w, C.i false IntKind.i64 q][r]? := fun r h1 h2 => by rw [g2, if_neg (by omega), rq_get hl]
  have hd : decide (33554432 ≤ c.at_) = true := decide_eq_true hr
  refine ⟨by omega, by omega, by rw [tn, len_set, rq_len hl]; omega, by rw [tn]; exact (rq_last hm).1, ?_, ?_⟩
  · rw [Int.toNat_natCast, hd, if_pos hr]
    refine ⟨?_, ?_, ?_, ?_, ?_, ?_⟩
    · exact rI_congr (l' := [C.i true IntKind.i64 ch, ofCell (Value.bool true), C.i false IntKind.u32 F, C.i true IntKind.u32 0, C.i false IntKind.i64 w, C.i false IntKind.i64 q]) (q := 0) (g3 0 (by decide) (by decide))
    · rw [rB_congr (l' := [C.i true IntKind.i64 ch, ofCell (Value.bool true), C.i false IntKind.u32 F, C.i true IntKind.u32 0, C.i false IntKind.i64 w, C.i false IntKind.i64 q]) (q := 1) (g3 1 (by decide) (by decide))]; rfl
    · rw [rI_congr (l' := [C.i true IntKind.i64 ch, ofCell (Value.bool true), C.i false IntKind.u32 F, C.i true IntKind.u32 0, C.i false IntKind.i64 w, C.i false IntKind.i64 q]) (q := 2) (g3 2 (by decide) (by decide))]; exact hF
    · rw [rI_congr (l' := [C.i false IntKind.u32 T]) (q := 0) (by rw [g2, if_pos rfl]; rfl)]; exact hT
    · exact rI_congr (l' := [C.i true IntKind.i64 ch, ofCell (Value.bool true), C.i false IntKind.u32 F, C.i true IntKind.u32 0, C.i false IntKind.i64 w, C.i false IntKind.i64 q]) (q := 4) (g3 4 (by decide) (by decide))
    · rw [rI_congr (l' := [C.i true IntKind.i64 ch, ofCell (Value.bool true), C.i false IntKind.u32 F, C.i true IntKind.u32 0, C.i false IntKind.i64 w, C.i false IntKind.i64 q]) (q := 5) (g3 5 (by decide) (by decide))]; exact hq
  · rw [Int.toNat_natCast, (rq_last hm).2]
    show V = if 33554432 ≤ c.at_ then vr w (al w c.at_) else c.last
    rw [if_pos hr, ← hF]; exact hV
theorem nx_n (hl : l.length = k * 6) (hm : m.length = k) (hr : ¬ 33554432 ≤ c.at_) (hT : T = al w c.to) (hq : q = if c.first = true then 0 else 1) (hV : V = c.last) :
    NX ch w c (k : Int) ((k + 1 : Nat) : Int) ((k + 1 : Nat) : Int) (rApp l (k * 6) [C.i true IntKind.i64 ch, C.b true false, C.i true IntKind.u32 0, C.i false IntKind.u32 T, C.i false IntKind.i64 w, C.i false IntKind.i64 q]) (rApp m (k * 1) [C.i false IntKind.u32 V]) := by
  have hg : ∀ r, (rApp l (k * 6) [C.i true IntKind.i64 ch, C.b true false, C.i true IntKind.u32 0, C.i false IntKind.u32 T, C.i false IntKind.i64 w, C.i false IntKind.i64 q])[k * 6 + r]? = [C.i true IntKind.i64 ch, C.b true false, C.i true IntKind.u32 0, C.i false IntKind.u32 T, C.i false IntKind.i64 w, C.i false IntKind.i64 q][r]? := fun r => by rw [get_app_ge (by omega) (by omega), Nat.add_sub_cancel_left]
  have hd : decide (33554432 ≤ c.at_) = false := decide_eq_false hr
  refine ⟨by omega, by omega, by rw [tn, len_app (by omega)]; show k * 6 + 6 = _; omega, by rw [tn]; exact (rq_last hm).1, ?_, ?_⟩
  · rw [Int.toNat_natCast, hd, if_neg hr]
    refine ⟨?_, ?_, ?_, ?_, ?_, ?_⟩
    · exact rI_congr (l' := [C.i true IntKind.i64 ch, C.b true false, C.i true IntKind.u32 0, C.i false IntKind.u32 T, C.i false IntKind.i64 w, C.i false IntKind.i64 q]) (q := 0) (hg 0)
    · rw [rB_congr (l' := [C.i true IntKind.i64 ch, C.b true false, C.i true IntKind.u32 0, C.i false IntKind.u32 T, C.i false IntKind.i64 w, C.i false IntKind.i64 q]) (q := 1) (hg 1)]; rfl
    · rw [rI_congr (l' := [C.i true IntKind.i64 ch, C.b true false, C.i true IntKind.u32 0, C.i false IntKind.u32 T, C.i false IntKind.i64 w, C.i false IntKind.i64 q]) (q := 2) (hg 2)]; rfl
    · rw [rI_congr (l' := [C.i true IntKind.i64 ch, C.b true false, C.i true IntKind.u32 0, C.i false IntKind.u32 T, C.i false IntKind.i64 w, C.i false IntKind.i64 q]) (q := 3) (hg 3)]; exact hT
    · exact rI_congr (l' := [C.i true IntKind.i64 ch, C.b true false, C.i true IntKind.u32 0, C.i false IntKind.u32 T, C.i false IntKind.i64 w, C.i false IntKind.i64 q]) (q := 4) (hg 4)
    · rw [rI_congr (l' := [C.i true IntKind.i64 ch, C.b true false, C.i true IntKind.u32 0, C.i false IntKind.u32 T, C.i false IntKind.i64 w, C.i false IntKind.i64 q]) (q := 5) (hg 5)]; exact hq
  · rw [Int.toNat_natCast, (rq_last hm).2]
    show V = if 33554432 ≤ c.at_ then vr w (al w c.at_) else c.last
    rw [if_neg hr]; exact hV
theorem nx_r0 (hr : 33554432 ≤ c.at_) (hF : F = al w c.at_) (hT : T = al w c.to) (hq : q = if c.first = true then 0 else 1) (hV : V = vr w F) : NX ch w c 0 1 1 [C.i true IntKind.i64 ch, ofCell (Value.bool true), C.i false IntKind.u32 F, C.i false IntKind.u32 T, C.i false IntKind.i64 w, C.i false IntKind.i64 q] [C.i false IntKind.u32 V] := by
  have hd : decide (33554432 ≤ c.at_) = true := decide_eq_true hr
  refine ⟨by omega, by omega, rfl, rfl, ?_, ?_⟩
  · rw [hd, if_pos hr]
    exact ⟨rfl, rfl, hF, hT, rfl, hq⟩
  · show V = if 33554432 ≤ c.at_ then vr w (al w c.at_) else c.last
    rw [if_pos hr, ← hF]; exact hV
theorem nx_n0 (hr : ¬ 33554432 ≤ c.at_) (hT : T = al w c.to) (hq : q = if c.first = true then 0 else 1) (hV : V = c.last) : NX ch w c 0 1 1 [C.i true IntKind.i64 ch, C.b true false, C.i true IntKind.u32 0, C.i false IntKind.u32 T, C.i false IntKind.i64 w, C.i false IntKind.i64 q] [C.i false IntKind.u32 V] := by
  have hd : decide (33554432 ≤ c.at_) = false := decide_eq_false hr
  refine ⟨by omega, by omega, rfl, rfl, ?_, ?_⟩
  · rw [hd, if_neg hr]
    exact ⟨rfl, rfl, rfl, hT, rfl, hq⟩
  · show V = if 33554432 ≤ c.at_ then vr w (al w c.at_) else c.last
    rw [if_neg hr]; exact hV
end
theorem qT (b : Bool) : (bif b then (0 : Int) else 1) = if b = true then 0 else 1 := by cases b <;> rfl
end Go.Proofs.Ytpddbhfebhpohaa

