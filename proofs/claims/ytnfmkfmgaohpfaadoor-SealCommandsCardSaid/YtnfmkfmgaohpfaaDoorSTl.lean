import Derived.Test.YtnfmkfmgaohpfaaDoorSS
set_option linter.unusedVariables false
set_option linter.unusedSimpArgs false
namespace Go.Proofs.YtnfmkfmgaohpfaaDoor
open Go Go.Proofs Go.Proofs.YtnfmkfmgaohpfaaDoor.Ev Go.Proofs.YtnfmkfmgaohpfaaDoor.Ev.Ho
set_option maxRecDepth 100000
theorem inB_iff {x : Int} {n : Nat} : inB x n = true ↔ 0 ≤ x ∧ x < n := by
  simp only [inB, Bool.and_eq_true, decide_eq_true_eq]
theorem ff_size (E : World) (c : Int) (h : 0 ≤ c) : ((repV E ff c).size : Int) = c := by
  rw [size_repV]; show ((c.toNat * 1 : Nat) : Int) = c; omega
theorem ff_b (E : World) (c i : Int) (h0 : 0 ≤ i) (h1 : i < c) : strB (repV E ff c) i = 255 := by
  rw [repV_eq]; exact strB_rep 255 c i h0 h1
theorem catB3 (x y z : ByteArray) : catB [x, y, z] = x ++ (y ++ z) := by
  refine txt_ext ?_
  rw [txt_catB, txt_append, txt_append]
  simp only [List.map_cons, List.map_nil, List.flatten_cons, List.flatten_nil, List.append_nil]
theorem ap_size {E : World} {m : ByteArray} {k a : Int} {d : ByteArray} (ha : 0 ≤ a) (hf : k = 3 ∨ a + (dat E k d).size ≤ m.size) : (apT E m k a d).size = m.size := by
  rw [apT_eq]
  split
  · have := ff_size E m.size (by omega); omega
  · have hf : a + (dat E k d).size ≤ m.size := by rcases hf with h | h; contradiction; exact h
    have z1 := size_strSl m 0 a (by omega) (by omega) (by omega)
    have z2 := size_strSl m (a + (dat E k d).size) m.size (by omega) (by omega) (by omega)
    rw [size_catB]
    simp only [List.map_cons, List.map_nil, List.sum_cons, List.sum_nil]; omega
theorem ap_b {E : World} {m : ByteArray} {k a : Int} {d : ByteArray} (ha : 0 ≤ a) (h3 : k ≠ 3) (hf : a + (dat E k d).size ≤ m.size) (i : Int) (h0 : 0 ≤ i) (h1 : i < m.size) :
    (i < a → strB (apT E m k a d) i = strB m i) ∧ (a ≤ i → i < a + (dat E k d).size → strB (apT E m k a d) i = strB (dat E k d) (i - a)) ∧ (a + (dat E k d).size ≤ i → strB (apT E m k a d) i = strB m i) := by
  have z1 := size_strSl m 0 a (by omega) (by omega) (by omega)
  rw [apT_eq, if_neg h3, catB3]
  refine ⟨fun h => ?_, fun h h' => ?_, fun h => ?_⟩
  · rw [strB_app_l _ _ _ (by omega), strB_strSl _ _ _ _ (by omega) (by omega) h0 (by omega), Int.zero_add]
  · rw [strB_app_r _ _ _ (by omega) (by omega), strB_app_l _ _ _ (by omega)]; congr 1; omega
  · rw [strB_app_r _ _ _ (by omega) (by omega), strB_app_r _ _ _ (by omega) (by omega), strB_strSl _ _ _ _ (by omega) (by omega) (by omega) (by omega)]; congr 1; omega
theorem strB_ext {x y : ByteArray} (hs : x.size = y.size) (h : ∀ i : Int, 0 ≤ i → i < x.size → strB x i = strB y i) : x = y := by
  refine txt_ext (List.ext_getElem? fun j => ?_)
  have l1 := size_txt x
  have l2 := size_txt y
  by_cases hj : j < x.size
  · have e := h j (by omega) (by omega)
    rw [strB_txt, strB_txt, show ((j : Int)).toNat = j by omega, List.getElem?_eq_getElem (by omega), List.getElem?_eq_getElem (by omega)] at e
    rw [List.getElem?_eq_getElem (by omega), List.getElem?_eq_getElem (by omega)]
    simp only at e
    congr 1
    exact UInt8.toNat_inj.1 (by omega)
  · rw [List.getElem?_eq_none (by omega), List.getElem?_eq_none (by omega)]
/- twice -/
theorem ap_twice {E : World} {m : ByteArray} {k a : Int} {d : ByteArray} (ha : 0 ≤ a) (hf : k = 3 ∨ a + (dat E k d).size ≤ m.size) : apT E (apT E m k a d) k a d = apT E m k a d := by
  have z := ap_size (d := d) ha hf
  by_cases h3 : k = 3
  · rw [apT_eq, if_pos h3, z, apT_eq, if_pos h3]
  · have hf : a + (dat E k d).size ≤ m.size := by rcases hf with h | h; contradiction; exact h
    have hf2 : a + (dat E k d).size ≤ (apT E m k a d).size := by omega
    have z2 := ap_size (E := E) (m := apT E m k a d) (k := k) (a := a) (d := d) ha (.inr hf2)
    refine strB_ext z2 fun i h0 h1 => ?_
    obtain ⟨p1, p2, p3⟩ := ap_b (E := E) (d := d) ha h3 hf i h0 (by omega)
    obtain ⟨q1, q2, q3⟩ := ap_b (E := E) (d := d) ha h3 hf2 i h0 (by omega)
    by_cases c1 : i < a
    · exact q1 c1
    · by_cases c2 : i < a + (dat E k d).size
      · rw [q2 (by omega) c2, p2 (by omega) c2]
      · exact q3 (by omega)
noncomputable def xC (k a : Int) (d : ByteArray) : MB := .o [.q (.i false .i64 k), .q (.i false .i64 a), .q (.str false d)] 36
noncomputable def rowB : MB := .row [.r .u8 0 255] 5
noncomputable def t21_td (E : World) : List Item := headOf (run (pe E) (orcC E) (tabL fns) 20000 (2 ^ 200 - 1) [.code (Tryd.f21.body.getD .skip)] ⟨Tryd.f21.ntmps, mkFrGo (Tr.mk 12) 0 [.c (.str false default), .a [.i false .i64 0, .i false .i64 0, .str false default]]⟩ [])
structure U8R (l : List C) (n : Nat) : Prop where
  z : n ≤ l.length
  c : ∀ (p : Nat) (c : C), l[p]? = some c → ∃ lt v, c = C.i lt .u8 v ∧ 0 ≤ v ∧ v ≤ 255
structure RH (E : World) (m : ByteArray) (k a : Int) (d : ByteArray) (n : Int) (l : List C) (i : Int) : Prop where
  u : U8R l m.size
  lo : ∀ p : Nat, (p : Int) < i → rI l p = strB (apT E m k a d) p
  hi : ∀ p : Nat, i ≤ p → p < m.size → rI l p = strB m p
  v : vlF k a d = true
  f : k = 3 ∨ a + (dat E k d).size ≤ m.size
  n : n = if k = 2 then 4096 else (d.size : Int)
  i : i ≤ m.size
theorem U8R.row {l : List C} {n : Nat} (h : U8R l n) : Row [Sp.r IntKind.u8 0 255] l := by
  refine ⟨by simp [Nat.mod_one], fun p c hc => ⟨.r .u8 0 255, by simp [Nat.mod_one], ?_⟩⟩
  obtain ⟨lt, v, rfl, h0, h1⟩ := h.c p c hc
  simp [chk, keq, h0, h1]
theorem U8R.at {l : List C} {n : Nat} (h : U8R l n) (p : Nat) (hp : p < n) : ∃ lt v, l[p]? = some (C.i lt .u8 v) ∧ rI l p = v ∧ 0 ≤ v ∧ v ≤ 255 := by
  have hz := h.z
  have hg : l[p]? = some l[p] := List.getElem?_eq_getElem (by omega)
  obtain ⟨lt, v, e, h0, h1⟩ := h.c p _ hg
  refine ⟨lt, v, by rw [hg, e], ?_, h0, h1⟩
  unfold rI rAt; rw [hg, e]; rfl
theorem U8R.u8 {l : List C} {n : Nat} (h : U8R l n) : rowU8 l n = true := by
  refine rowU8_iff.2 ⟨h.z, fun p hp => ?_⟩
  obtain ⟨lt, v, e, _⟩ := h.at p hp
  simp only [rOk, e]; rfl
theorem U8R.of (m : ByteArray) : U8R (rOf m) m.size ∧ ∀ p : Nat, p < m.size → rI (rOf m) p = strB m p := by
  have hl : (rOf m).length = m.size := by rw [rOf_eq, List.length_map, Array.length_toList]; rfl
  have hg : ∀ i : Nat, i < m.size → (rOf m)[i]? = some (C.i false .u8 (strB m i)) := fun i hi => by
    have hi' : i < (txt m).length := by rw [← size_txt]; exact hi
    rw [rOf_eq, strB_txt]
    show (List.map _ (txt m))[i]? = _
    rw [List.getElem?_map, show ((i : Int)).toNat = i by omega, List.getElem?_eq_getElem hi']
    rfl
  refine ⟨⟨by omega, fun p c hc => ?_⟩, fun p hp => ?_⟩
  · have hp : p < m.size := by
      rcases Nat.lt_or_ge p m.size with h | h
      · exact h
      · rw [List.getElem?_eq_none (by omega)] at hc; cases hc
    rw [hg p hp] at hc
    have hb := strB_bd m p
    exact ⟨false, _, (Option.some.inj hc).symm, hb.1, by omega⟩
  · unfold rI rAt; rw [hg p hp]; rfl
theorem U8R.set {l : List C} {n : Nat} (h : U8R l n) {i : Nat} (hi : i < n) {lt : Bool} {v : Int} (h0 : 0 ≤ v) (h1 : v ≤ 255) : U8R (rSet l i [C.i lt .u8 v]) n ∧ rI (rSet l i [C.i lt .u8 v]) i = v ∧ ∀ p : Nat, p ≠ i → rI (rSet l i [C.i lt .u8 v]) p = rI l p := by
  have hz := h.z
  have hg : ∀ p : Nat, (rSet l i [C.i lt .u8 v])[p]? = if p = i then some (C.i lt .u8 v) else l[p]? := fun p => by
    rw [get_set (by simp only [List.length_cons, List.length_nil]; omega)]
    simp only [List.length_cons, List.length_nil]
    by_cases hp : p = i
    · subst hp
      rw [if_pos (by omega), if_pos rfl, Nat.sub_self]; rfl
    · rw [if_neg (by omega), if_neg hp]
  refine ⟨⟨?_, fun p c hc => ?_⟩, ?_, fun p hp => ?_⟩
  · rcases Nat.lt_or_ge (rSet l i [C.i lt .u8 v]).length n with hh | hh
    · exfalso
      have e := hg (rSet l i [C.i lt .u8 v]).length
      rw [List.getElem?_eq_none (Nat.le_refl _)] at e
      by_cases hp : (rSet l i [C.i lt .u8 v]).length = i
      · rw [if_pos hp] at e; cases e
      · rw [if_neg hp, List.getElem?_eq_getElem (by omega)] at e; cases e
    · exact hh
  · rw [hg p] at hc
    by_cases hp : p = i
    · rw [if_pos hp] at hc
      exact ⟨lt, v, (Option.some.inj hc).symm, h0, h1⟩
    · rw [if_neg hp] at hc
      exact h.c p c hc
  · unfold rI rAt; rw [hg i, if_pos rfl]; rfl
  · unfold rI rAt; rw [hg p, if_neg hp]
theorem RH.step {E : World} {m : ByteArray} {k a : Int} {d : ByteArray} {n : Int} {l l' : List C} {i : Int} (h : RH E m k a d n l i) (h0 : 0 ≤ i) (hi : i < m.size) (hu : U8R l' m.size) (ho : ∀ p : Nat, p ≠ i.toNat → rI l' p = rI l p) (he : rI l' i.toNat = strB (apT E m k a d) i) : RH E m k a d n l' (i + 1) := by
  refine ⟨hu, fun p hp => ?_, fun p hp hp2 => ?_, h.v, h.f, h.n, by omega⟩
  · by_cases hpi : p = i.toNat
    · rw [hpi, he]; congr 1; omega
    · rw [ho p hpi]; exact h.lo p (by omega)
  · rw [ho p (by omega)]; exact h.hi p (by omega) hp2
theorem rowT_b {l : List C} {n : Nat} (h : U8R l n) (p : Nat) (hp : p < n) : strB (rowT l n) p = rI l p := by
  obtain ⟨lt, v, _, e, h0, h1⟩ := h.at p hp
  rw [rowT_eq, strB_txt, txt_bytesN, show ((p : Int)).toNat = p by omega, List.getElem?_map, List.getElem?_map, List.getElem?_range hp]
  simp only [Option.map_some]
  rw [e, UInt8.toNat_ofNat']
  show ((v.toNat % 256 : Nat) : Int) = v
  omega
theorem RH.fin {E : World} {m : ByteArray} {k a : Int} {d : ByteArray} {n : Int} {l : List C} {i : Int} (h : RH E m k a d n l i) (hi : ¬ i < m.size) : rowT l m.size = apT E m k a d := by
  have z := ap_size (E := E) (d := d) (vl_rg h.v).1.1 h.f
  have rz : (rowT l m.size).size = m.size := by rw [rowT_eq, size_bytesN, List.length_map, List.length_range]
  refine strB_ext (by omega) fun j h0 h1 => ?_
  obtain ⟨j, rfl⟩ := Int.eq_ofNat_of_zero_le h0
  rw [rowT_b h.u j (by omega)]
  exact h.lo j (by omega)
theorem cAnt {x : C} (h : x = ofCell (Value.int IntKind.u8 255)) : x = C.i true .u8 255 := h
end Go.Proofs.YtnfmkfmgaohpfaaDoor

