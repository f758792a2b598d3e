import Derived.Test.YtnfmkfmgaohpfaaDoorSI
set_option linter.unusedVariables false
set_option linter.unusedSimpArgs false
namespace Go.Proofs.YtnfmkfmgaohpfaaDoor
open Go Go.Proofs Go.Proofs.YtnfmkfmgaohpfaaDoor.Ev Go.Proofs.YtnfmkfmgaohpfaaDoor.Ev.Ho
set_option maxRecDepth 100000
noncomputable def xC (k a : Int) (d : ByteArray) : MB := .o [.q (.i false .i64 k), .q (.i false .i64 a), .q (.str false d)] 36
noncomputable def a7_td (E : World) : List Item := headOf (run (pe E) (orcB E) (tabL fns) 20000 (2 ^ 200 - 1) [.code (Tryd.f7.body.getD .skip)] ⟨Tryd.f7.ntmps, mkFrGo (Tr.mk 12) 0 [.c (.str false default), .a [.i false .i64 0, .i false .i64 0, .str false default]]⟩ [])
structure APH (E : World) (m : ByteArray) (k a : Int) (d s : ByteArray) (n i : Int) : Prop where
  e : s = apT E m k a d
  v : vlF k a d = true
  f : k = 3 ∨ a + (dat E k d).size ≤ m.size
  n : n = m.size
  i : i ≤ m.size
theorem inB_iff {x : Int} {n : Nat} : inB x n = true ↔ 0 ≤ x ∧ x < n := by
  simp only [inB, Bool.and_eq_true, decide_eq_true_eq]
theorem ff_size (E : World) (c : Int) (h : 0 ≤ c) : ((repV E ff c).size : Int) = c := by
  rw [size_repV]; show ((c.toNat * 1 : Nat) : Int) = c; omega
theorem ff_b (E : World) (c i : Int) (h0 : 0 ≤ i) (h1 : i < c) : strB (repV E ff c) i = 255 := by
  rw [repV_eq]; exact strB_rep 255 c i h0 h1
theorem catB3 (x y z : ByteArray) : catB [x, y, z] = x ++ (y ++ z) := by
  refine txt_ext ?_
  rw [txt_catB, txt_append, txt_append]
  simp only [List.map_cons, List.map_nil, List.flatten_cons, List.flatten_nil, List.append_nil]
theorem ap_size {E : World} {m : ByteArray} {k a : Int} {d : ByteArray} (ha : 0 ≤ a) (hf : k = 3 ∨ a + (dat E k d).size ≤ m.size) : (apT E m k a d).size = m.size := by
  rw [apT_eq]
  split
  · have := ff_size E m.size (by omega); omega
  · have hf : a + (dat E k d).size ≤ m.size := by rcases hf with h | h; contradiction; exact h
    have z1 := size_strSl m 0 a (by omega) (by omega) (by omega)
    have z2 := size_strSl m (a + (dat E k d).size) m.size (by omega) (by omega) (by omega)
    rw [size_catB]
    simp only [List.map_cons, List.map_nil, List.sum_cons, List.sum_nil]; omega
theorem ap_b {E : World} {m : ByteArray} {k a : Int} {d : ByteArray} (ha : 0 ≤ a) (h3 : k ≠ 3) (hf : a + (dat E k d).size ≤ m.size) (i : Int) (h0 : 0 ≤ i) (h1 : i < m.size) :
    (i < a → strB (apT E m k a d) i = strB m i) ∧ (a ≤ i → i < a + (dat E k d).size → strB (apT E m k a d) i = strB (dat E k d) (i - a)) ∧ (a + (dat E k d).size ≤ i → strB (apT E m k a d) i = strB m i) := by
  have z1 := size_strSl m 0 a (by omega) (by omega) (by omega)
  rw [apT_eq, if_neg h3, catB3]
  refine ⟨fun h => ?_, fun h h' => ?_, fun h => ?_⟩
  · rw [strB_app_l _ _ _ (by omega), strB_strSl _ _ _ _ (by omega) (by omega) h0 (by omega), Int.zero_add]
  · rw [strB_app_r _ _ _ (by omega) (by omega), strB_app_l _ _ _ (by omega)]; congr 1; omega
  · rw [strB_app_r _ _ _ (by omega) (by omega), strB_app_r _ _ _ (by omega) (by omega), strB_strSl _ _ _ _ (by omega) (by omega) (by omega) (by omega)]; congr 1; omega
theorem strB_ext {x y : ByteArray} (hs : x.size = y.size) (h : ∀ i : Int, 0 ≤ i → i < x.size → strB x i = strB y i) : x = y := by
  refine txt_ext (List.ext_getElem? fun j => ?_)
  have l1 := size_txt x
  have l2 := size_txt y
  by_cases hj : j < x.size
  · have e := h j (by omega) (by omega)
    rw [strB_txt, strB_txt, show ((j : Int)).toNat = j by omega, List.getElem?_eq_getElem (by omega), List.getElem?_eq_getElem (by omega)] at e
    rw [List.getElem?_eq_getElem (by omega), List.getElem?_eq_getElem (by omega)]
    simp only at e
    congr 1
    exact UInt8.toNat_inj.1 (by omega)
  · rw [List.getElem?_eq_none (by omega), List.getElem?_eq_none (by omega)]
theorem ap_twice {E : World} {m : ByteArray} {k a : Int} {d : ByteArray} (ha : 0 ≤ a) (hf : k = 3 ∨ a + (dat E k d).size ≤ m.size) : apT E (apT E m k a d) k a d = apT E m k a d := by
  have z := ap_size (d := d) ha hf
  by_cases h3 : k = 3
  · rw [apT_eq, if_pos h3, z, apT_eq, if_pos h3]
  · have hf : a + (dat E k d).size ≤ m.size := by rcases hf with h | h; contradiction; exact h
    have hf2 : a + (dat E k d).size ≤ (apT E m k a d).size := by omega
    have z2 := ap_size (E := E) (m := apT E m k a d) (k := k) (a := a) (d := d) ha (.inr hf2)
    refine strB_ext z2 fun i h0 h1 => ?_
    obtain ⟨p1, p2, p3⟩ := ap_b (E := E) (d := d) ha h3 hf i h0 (by omega)
    obtain ⟨q1, q2, q3⟩ := ap_b (E := E) (d := d) ha h3 hf2 i h0 (by omega)
    by_cases c1 : i < a
    · exact q1 c1
    · by_cases c2 : i < a + (dat E k d).size
      · rw [q2 (by omega) c2, p2 (by omega) c2]
      · exact q3 (by omega)
theorem zFT {a b : ByteArray} : ((false ^^ a == b) = true) ↔ a = b := by
  rw [← beqE]; cases (a == b) <;> simp
theorem zFF {a b : ByteArray} : ((false ^^ a == b) = false) ↔ a ≠ b := by
  rw [Ne, ← beqE]; cases (a == b) <;> simp
noncomputable def al_h0 (E : World) (m : ByteArray) (k a : Int) (d : ByteArray) (z : PX) : Hd := ⟨4, anyH, (a7_td E), [(0, .q (.str false m)), (3, .c (.p 0 0)), (5, .s), (33, .i .i64), (34, .r .i64 (0) (140737488351232))], [xC k a d], fun y => APH E m k a d (y.s 91005) (y.n 91033) (y.n 91034), fun y => ((m.size : Int) - y.n 91034).toNat⟩
noncomputable def al_hs (E : World) (m : ByteArray) (k a : Int) (d : ByteArray) (z : PX) : List Hd := [al_h0 E m k a d z]
theorem al_pro (E : World) (m : ByteArray) (k a : Int) (d : ByteArray) (z : PX) :
    (loopP (pe E) Tryd.f7 (endR ([] : List MB).length [] (.c .b) (fun z y => y.b 90000 = true) z) (headR ([] : List MB).length Tryd.f7.ntmps none (al_hs E m k a d z)) (run (pe E) (orcB E) (tabL fns) 20000 (2 ^ 200 - 1) [.code (Tryd.f7.body.getD .skip)] ⟨Tryd.f7.ntmps, mkFrGo (Tr.mk 12) 0 [.c (.str false m), .a [.i false .i64 k, .i false .i64 a, .str false d]]⟩ (mkM z [] [] 0))) =
    ((([] : SW) = [] ∧ GOK E) ∧ ∀ (y : PX), True ∧ True ∧ True → (([] : SW) = [] ∧ m.size ≤ (140737488351232 : Nat)) ∧ ∀ (y : PX), True ∧ True ∧ ApQ E m k a d (y.s (90000 :
      Nat)) (y.n (90001 : Nat)) → ((y.n (90001 : Nat) != (0 : Int)) = true → ((y.n (90001 : Nat) == (1 : Int)) = true → ([] : SW) = [] ∧ True ∧ (false ^^ y.s (90000 : Nat) ==
      ByteArray.mk #[]) = true) ∧ ((y.n (90001 : Nat) == (1 : Int)) = false → ([] : SW) = [] ∧ True ∧ false = true)) ∧ ((y.n (90001 : Nat) != (0 : Int)) = false → (((↑(y.s
      (90000 : Nat)).size : Int) != (↑m.size : Int)) = true → ([] : SW) = [] ∧ True ∧ false = true) ∧ (((↑(y.s (90000 : Nat)).size : Int) != (↑m.size : Int)) = false → a7_td E =
      a7_td E ∧ (117 : Nat) = (117 : Nat) ∧ ((renC (posN [(0 : Nat)]) (C.str false m) = C.str false m ∧ True) ∧ True ∧ True ∧ True ∧ (((0 : Int) ≤ (0 : Int) ∧ (0 : Int) ≤
      (140737488351232 : Int)) ∧ True) ∧ True) ∧ ((36 : Nat) = (36 : Nat) ∧ (C.i false IntKind.i64 k = C.i false IntKind.i64 k ∧ C.i false IntKind.i64 a = C.i false IntKind.i64
      a ∧ C.str false d = C.str false d ∧ True) ∧ ([] : SW) = []) ∧ APH E m k a d (y.s (90000 : Nat)) (↑(y.s (90000 : Nat)).size : Int) (0 : Int) ∧ True))) := by kernel_rfl
theorem al_r0 (E : World) (m : ByteArray) (k a : Int) (d : ByteArray) (z : PX) (y : PX) :
    (loopP (pe E) Tryd.f7 (endR ([] : List MB).length [] (.c .b) (fun z y => y.b 90000 = true) z) (headR ([] : List MB).length Tryd.f7.ntmps (some ((fun y => ((m.size : Int) - y.n 91034).toNat) y)) (al_hs E m k a d z))  (run (pe E) (orcB E) (tabL fns) 20000 (2 ^ 200 - 1) (a7_td E) (mkL Tryd.f7.ntmps (slC y [(0, .q (.str false m)), (3, .c (.p 0 0)), (5, .s), (33, .i .i64), (34, .r .i64 (0) (140737488351232))])) (mkM y [] [xC k a d] 0))) =
    ((decide (y.n (91034 : Nat) < y.n (91033 : Nat)) = true → ((k == (3 : Int)) = true → ((k == (1 : Int)) = true → inB (y.n (91034 : Nat)) (y.s (91005 : Nat)).size = true ∧
      inB (IntKind.i64.wrap (y.n (91034 : Nat) - a)) d.size = true ∧ ((strB (y.s (91005 : Nat)) (y.n (91034 : Nat)) != strB d (IntKind.i64.wrap (y.n (91034 : Nat) - a))) = true
      → ([] : SW) = [] ∧ True ∧ false = true) ∧ ((strB (y.s (91005 : Nat)) (y.n (91034 : Nat)) != strB d (IntKind.i64.wrap (y.n (91034 : Nat) - a))) = false → a7_td E = a7_td E
      ∧ (117 : Nat) = (117 : Nat) ∧ ((renC (posN [(0 : Nat)]) (C.str false m) = C.str false m ∧ True) ∧ True ∧ True ∧ True ∧ (((0 : Int) ≤ IntKind.i64.wrap (y.n (91034 : Nat) +
      (1 : Int)) ∧ IntKind.i64.wrap (y.n (91034 : Nat) + (1 : Int)) ≤ (140737488351232 : Int)) ∧ True) ∧ True) ∧ ((36 : Nat) = (36 : Nat) ∧ (C.i false IntKind.i64 k = C.i false
      IntKind.i64 k ∧ C.i false IntKind.i64 a = C.i false IntKind.i64 a ∧ C.str false d = C.str false d ∧ True) ∧ ([] : SW) = []) ∧ APH E m k a d (y.s (91005 : Nat)) (y.n (91033
      : Nat)) (IntKind.i64.wrap (y.n (91034 : Nat) + (1 : Int))) ∧ ((↑m.size : Int) - IntKind.i64.wrap (y.n (91034 : Nat) + (1 : Int))).toNat < ((↑m.size : Int) - y.n (91034 :
      Nat)).toNat ∧ True)) ∧ ((k == (1 : Int)) = false → inB (y.n (91034 : Nat)) (y.s (91005 : Nat)).size = true ∧ ((strB (y.s (91005 : Nat)) (y.n (91034 : Nat)) != (255 : Int))
      = true → ([] : SW) = [] ∧ True ∧ false = true) ∧ ((strB (y.s (91005 : Nat)) (y.n (91034 : Nat)) != (255 : Int)) = false → a7_td E = a7_td E ∧ (117 : Nat) = (117 : Nat) ∧
      ((renC (posN [(0 : Nat)]) (C.str false m) = C.str false m ∧ True) ∧ True ∧ True ∧ True ∧ (((0 : Int) ≤ IntKind.i64.wrap (y.n (91034 : Nat) + (1 : Int)) ∧ IntKind.i64.wrap
      (y.n (91034 : Nat) + (1 : Int)) ≤ (140737488351232 : Int)) ∧ True) ∧ True) ∧ ((36 : Nat) = (36 : Nat) ∧ (C.i false IntKind.i64 k = C.i false IntKind.i64 k ∧ C.i false
      IntKind.i64 a = C.i false IntKind.i64 a ∧ C.str false d = C.str false d ∧ True) ∧ ([] : SW) = []) ∧ APH E m k a d (y.s (91005 : Nat)) (y.n (91033 : Nat)) (IntKind.i64.wrap
      (y.n (91034 : Nat) + (1 : Int))) ∧ ((↑m.size : Int) - IntKind.i64.wrap (y.n (91034 : Nat) + (1 : Int))).toNat < ((↑m.size : Int) - y.n (91034 : Nat)).toNat ∧ True))) ∧ ((k
      == (3 : Int)) = false → (decide (y.n (91034 : Nat) ≥ a) = true → ((k == (2 : Int)) = true → (decide (y.n (91034 : Nat) < IntKind.i64.wrap (a + (4096 : Int))) = true → ((k
      == (1 : Int)) = true → inB (y.n (91034 : Nat)) (y.s (91005 : Nat)).size = true ∧ inB (IntKind.i64.wrap (y.n (91034 : Nat) - a)) d.size = true ∧ ((strB (y.s (91005 : Nat))
      (y.n (91034 : Nat)) != strB d (IntKind.i64.wrap (y.n (91034 : Nat) - a))) = true → ([] : SW) = [] ∧ True ∧ false = true) ∧ ((strB (y.s (91005 : Nat)) (y.n (91034 : Nat))
      != strB d (IntKind.i64.wrap (y.n (91034 : Nat) - a))) = false → a7_td E = a7_td E ∧ (117 : Nat) = (117 : Nat) ∧ ((renC (posN [(0 : Nat)]) (C.str false m) = C.str false m ∧
      True) ∧ True ∧ True ∧ True ∧ (((0 : Int) ≤ IntKind.i64.wrap (y.n (91034 : Nat) + (1 : Int)) ∧ IntKind.i64.wrap (y.n (91034 : Nat) + (1 : Int)) ≤ (140737488351232 : Int)) ∧
      True) ∧ True) ∧ ((36 : Nat) = (36 : Nat) ∧ (C.i false IntKind.i64 k = C.i false IntKind.i64 k ∧ C.i false IntKind.i64 a = C.i false IntKind.i64 a ∧ C.str false d = C.str
      false d ∧ True) ∧ ([] : SW) = []) ∧ APH E m k a d (y.s (91005 : Nat)) (y.n (91033 : Nat)) (IntKind.i64.wrap (y.n (91034 : Nat) + (1 : Int))) ∧ ((↑m.size : Int) -
      IntKind.i64.wrap (y.n (91034 : Nat) + (1 : Int))).toNat < ((↑m.size : Int) - y.n (91034 : Nat)).toNat ∧ True)) ∧ ((k == (1 : Int)) = false → inB (y.n (91034 : Nat)) (y.s
      (91005 : Nat)).size = true ∧ ((strB (y.s (91005 : Nat)) (y.n (91034 : Nat)) != (255 : Int)) = true → ([] : SW) = [] ∧ True ∧ false = true) ∧ ((strB (y.s (91005 : Nat))
      (y.n (91034 : Nat)) != (255 : Int)) = false → a7_td E = a7_td E ∧ (117 : Nat) = (117 : Nat) ∧ ((renC (posN [(0 : Nat)]) (C.str false m) = C.str false m ∧ True) ∧ True ∧
      True ∧ True ∧ (((0 : Int) ≤ IntKind.i64.wrap (y.n (91034 : Nat) + (1 : Int)) ∧ IntKind.i64.wrap (y.n (91034 : Nat) + (1 : Int)) ≤ (140737488351232 : Int)) ∧ True) ∧ True)
      ∧ ((36 : Nat) = (36 : Nat) ∧ (C.i false IntKind.i64 k = C.i false IntKind.i64 k ∧ C.i false IntKind.i64 a = C.i false IntKind.i64 a ∧ C.str false d = C.str false d ∧ True)
      ∧ ([] : SW) = []) ∧ APH E m k a d (y.s (91005 : Nat)) (y.n (91033 : Nat)) (IntKind.i64.wrap (y.n (91034 : Nat) + (1 : Int))) ∧ ((↑m.size : Int) - IntKind.i64.wrap (y.n
      (91034 : Nat) + (1 : Int))).toNat < ((↑m.size : Int) - y.n (91034 : Nat)).toNat ∧ True))) ∧ (decide (y.n (91034 : Nat) < IntKind.i64.wrap (a + (4096 : Int))) = false → ((k
      == (1 : Int)) = true → ((!decide (y.n (91034 : Nat) < IntKind.i64.wrap (a + (↑d.size : Int)))) = true → inB (y.n (91034 : Nat)) (y.s (91005 : Nat)).size = true ∧ inB (y.n
      (91034 : Nat)) m.size = true ∧ ((strB (y.s (91005 : Nat)) (y.n (91034 : Nat)) != strB m (y.n (91034 : Nat))) = true → ([] : SW) = [] ∧ True ∧ false = true) ∧ ((strB (y.s
      (91005 : Nat)) (y.n (91034 : Nat)) != strB m (y.n (91034 : Nat))) = false → a7_td E = a7_td E ∧ (117 : Nat) = (117 : Nat) ∧ ((renC (posN [(0 : Nat)]) (C.str false m) =
      C.str false m ∧ True) ∧ True ∧ True ∧ True ∧ (((0 : Int) ≤ IntKind.i64.wrap (y.n (91034 : Nat) + (1 : Int)) ∧ IntKind.i64.wrap (y.n (91034 : Nat) + (1 : Int)) ≤
      (140737488351232 : Int)) ∧ True) ∧ True) ∧ ((36 : Nat) = (36 : Nat) ∧ (C.i false IntKind.i64 k = C.i false IntKind.i64 k ∧ C.i false IntKind.i64 a = C.i false IntKind.i64
      a ∧ C.str false d = C.str false d ∧ True) ∧ ([] : SW) = []) ∧ APH E m k a d (y.s (91005 : Nat)) (y.n (91033 : Nat)) (IntKind.i64.wrap (y.n (91034 : Nat) + (1 : Int))) ∧
      ((↑m.size : Int) - IntKind.i64.wrap (y.n (91034 : Nat) + (1 : Int))).toNat < ((↑m.size : Int) - y.n (91034 : Nat)).toNat ∧ True)) ∧ ((!decide (y.n (91034 : Nat) <
      IntKind.i64.wrap (a + (↑d.size : Int)))) = false → ((k == (1 : Int)) = true → inB (y.n (91034 : Nat)) (y.s (91005 : Nat)).size = true ∧ inB (IntKind.i64.wrap (y.n (91034 :
      Nat) - a)) d.size = true ∧ ((strB (y.s (91005 : Nat)) (y.n (91034 : Nat)) != strB d (IntKind.i64.wrap (y.n (91034 : Nat) - a))) = true → ([] : SW) = [] ∧ True ∧ false =
      true) ∧ ((strB (y.s (91005 : Nat)) (y.n (91034 : Nat)) != strB d (IntKind.i64.wrap (y.n (91034 : Nat) - a))) = false → a7_td E = a7_td E ∧ (117 : Nat) = (117 : Nat) ∧
      ((renC (posN [(0 : Nat)]) (C.str false m) = C.str false m ∧ True) ∧ True ∧ True ∧ True ∧ (((0 : Int) ≤ IntKind.i64.wrap (y.n (91034 : Nat) + (1 : Int)) ∧ IntKind.i64.wrap
      (y.n (91034 : Nat) + (1 : Int)) ≤ (140737488351232 : Int)) ∧ True) ∧ True) ∧ ((36 : Nat) = (36 : Nat) ∧ (C.i false IntKind.i64 k = C.i false IntKind.i64 k ∧ C.i false
      IntKind.i64 a = C.i false IntKind.i64 a ∧ C.str false d = C.str false d ∧ True) ∧ ([] : SW) = []) ∧ APH E m k a d (y.s (91005 : Nat)) (y.n (91033 : Nat)) (IntKind.i64.wrap
      (y.n (91034 : Nat) + (1 : Int))) ∧ ((↑m.size : Int) - IntKind.i64.wrap (y.n (91034 : Nat) + (1 : Int))).toNat < ((↑m.size : Int) - y.n (91034 : Nat)).toNat ∧ True)) ∧ ((k
      == (1 : Int)) = false → inB (y.n (91034 : Nat)) (y.s (91005 : Nat)).size = true ∧ ((strB (y.s (91005 : Nat)) (y.n (91034 : Nat)) != (255 : Int)) = true → ([] : SW) = [] ∧
      True ∧ false = true) ∧ ((strB (y.s (91005 : Nat)) (y.n (91034 : Nat)) != (255 : Int)) = false → a7_td E = a7_td E ∧ (117 : Nat) = (117 : Nat) ∧ ((renC (posN [(0 : Nat)])
      (C.str false m) = C.str false m ∧ True) ∧ True ∧ True ∧ True ∧ (((0 : Int) ≤ IntKind.i64.wrap (y.n (91034 : Nat) + (1 : Int)) ∧ IntKind.i64.wrap (y.n (91034 : Nat) + (1 :
      Int)) ≤ (140737488351232 : Int)) ∧ True) ∧ True) ∧ ((36 : Nat) = (36 : Nat) ∧ (C.i false IntKind.i64 k = C.i false IntKind.i64 k ∧ C.i false IntKind.i64 a = C.i false
      IntKind.i64 a ∧ C.str false d = C.str false d ∧ True) ∧ ([] : SW) = []) ∧ APH E m k a d (y.s (91005 : Nat)) (y.n (91033 : Nat)) (IntKind.i64.wrap (y.n (91034 : Nat) + (1 :
      Int))) ∧ ((↑m.size : Int) - IntKind.i64.wrap (y.n (91034 : Nat) + (1 : Int))).toNat < ((↑m.size : Int) - y.n (91034 : Nat)).toNat ∧ True)))) ∧ ((k == (1 : Int)) = false →
      inB (y.n (91034 : Nat)) (y.s (91005 : Nat)).size = true ∧ inB (y.n (91034 : Nat)) m.size = true ∧ ((strB (y.s (91005 : Nat)) (y.n (91034 : Nat)) != strB m (y.n (91034 :
      Nat))) = true → ([] : SW) = [] ∧ True ∧ false = true) ∧ ((strB (y.s (91005 : Nat)) (y.n (91034 : Nat)) != strB m (y.n (91034 : Nat))) = false → a7_td E = a7_td E ∧ (117 :
      Nat) = (117 : Nat) ∧ ((renC (posN [(0 : Nat)]) (C.str false m) = C.str false m ∧ True) ∧ True ∧ True ∧ True ∧ (((0 : Int) ≤ IntKind.i64.wrap (y.n (91034 : Nat) + (1 :
      Int)) ∧ IntKind.i64.wrap (y.n (91034 : Nat) + (1 : Int)) ≤ (140737488351232 : Int)) ∧ True) ∧ True) ∧ ((36 : Nat) = (36 : Nat) ∧ (C.i false IntKind.i64 k = C.i false
      IntKind.i64 k ∧ C.i false IntKind.i64 a = C.i false IntKind.i64 a ∧ C.str false d = C.str false d ∧ True) ∧ ([] : SW) = []) ∧ APH E m k a d (y.s (91005 : Nat)) (y.n (91033
      : Nat)) (IntKind.i64.wrap (y.n (91034 : Nat) + (1 : Int))) ∧ ((↑m.size : Int) - IntKind.i64.wrap (y.n (91034 : Nat) + (1 : Int))).toNat < ((↑m.size : Int) - y.n (91034 :
      Nat)).toNat ∧ True)))) ∧ ((k == (2 : Int)) = false → ((k == (1 : Int)) = true → ((!decide (y.n (91034 : Nat) < IntKind.i64.wrap (a + (↑d.size : Int)))) = true → inB (y.n
      (91034 : Nat)) (y.s (91005 : Nat)).size = true ∧ inB (y.n (91034 : Nat)) m.size = true ∧ ((strB (y.s (91005 : Nat)) (y.n (91034 : Nat)) != strB m (y.n (91034 : Nat))) =
      true → ([] : SW) = [] ∧ True ∧ false = true) ∧ ((strB (y.s (91005 : Nat)) (y.n (91034 : Nat)) != strB m (y.n (91034 : Nat))) = false → a7_td E = a7_td E ∧ (117 : Nat) =
      (117 : Nat) ∧ ((renC (posN [(0 : Nat)]) (C.str false m) = C.str false m ∧ True) ∧ True ∧ True ∧ True ∧ (((0 : Int) ≤ IntKind.i64.wrap (y.n (91034 : Nat) + (1 : Int)) ∧
      IntKind.i64.wrap (y.n (91034 : Nat) + (1 : Int)) ≤ (140737488351232 : Int)) ∧ True) ∧ True) ∧ ((36 : Nat) = (36 : Nat) ∧ (C.i false IntKind.i64 k = C.i false IntKind.i64 k
      ∧ C.i false IntKind.i64 a = C.i false IntKind.i64 a ∧ C.str false d = C.str false d ∧ True) ∧ ([] : SW) = []) ∧ APH E m k a d (y.s (91005 : Nat)) (y.n (91033 : Nat))
      (IntKind.i64.wrap (y.n (91034 : Nat) + (1 : Int))) ∧ ((↑m.size : Int) - IntKind.i64.wrap (y.n (91034 : Nat) + (1 : Int))).toNat < ((↑m.size : Int) - y.n (91034 :
      Nat)).toNat ∧ True)) ∧ ((!decide (y.n (91034 : Nat) < IntKind.i64.wrap (a + (↑d.size : Int)))) = false → ((k == (1 : Int)) = true → inB (y.n (91034 : Nat)) (y.s (91005 :
      Nat)).size = true ∧ inB (IntKind.i64.wrap (y.n (91034 : Nat) - a)) d.size = true ∧ ((strB (y.s (91005 : Nat)) (y.n (91034 : Nat)) != strB d (IntKind.i64.wrap (y.n (91034 :
      Nat) - a))) = true → ([] : SW) = [] ∧ True ∧ false = true) ∧ ((strB (y.s (91005 : Nat)) (y.n (91034 : Nat)) != strB d (IntKind.i64.wrap (y.n (91034 : Nat) - a))) = false →
      a7_td E = a7_td E ∧ (117 : Nat) = (117 : Nat) ∧ ((renC (posN [(0 : Nat)]) (C.str false m) = C.str false m ∧ True) ∧ True ∧ True ∧ True ∧ (((0 : Int) ≤ IntKind.i64.wrap
      (y.n (91034 : Nat) + (1 : Int)) ∧ IntKind.i64.wrap (y.n (91034 : Nat) + (1 : Int)) ≤ (140737488351232 : Int)) ∧ True) ∧ True) ∧ ((36 : Nat) = (36 : Nat) ∧ (C.i false
      IntKind.i64 k = C.i false IntKind.i64 k ∧ C.i false IntKind.i64 a = C.i false IntKind.i64 a ∧ C.str false d = C.str false d ∧ True) ∧ ([] : SW) = []) ∧ APH E m k a d (y.s
      (91005 : Nat)) (y.n (91033 : Nat)) (IntKind.i64.wrap (y.n (91034 : Nat) + (1 : Int))) ∧ ((↑m.size : Int) - IntKind.i64.wrap (y.n (91034 : Nat) + (1 : Int))).toNat <
      ((↑m.size : Int) - y.n (91034 : Nat)).toNat ∧ True)) ∧ ((k == (1 : Int)) = false → inB (y.n (91034 : Nat)) (y.s (91005 : Nat)).size = true ∧ ((strB (y.s (91005 : Nat))
      (y.n (91034 : Nat)) != (255 : Int)) = true → ([] : SW) = [] ∧ True ∧ false = true) ∧ ((strB (y.s (91005 : Nat)) (y.n (91034 : Nat)) != (255 : Int)) = false → a7_td E =
      a7_td E ∧ (117 : Nat) = (117 : Nat) ∧ ((renC (posN [(0 : Nat)]) (C.str false m) = C.str false m ∧ True) ∧ True ∧ True ∧ True ∧ (((0 : Int) ≤ IntKind.i64.wrap (y.n (91034 :
      Nat) + (1 : Int)) ∧ IntKind.i64.wrap (y.n (91034 : Nat) + (1 : Int)) ≤ (140737488351232 : Int)) ∧ True) ∧ True) ∧ ((36 : Nat) = (36 : Nat) ∧ (C.i false IntKind.i64 k = C.i
      false IntKind.i64 k ∧ C.i false IntKind.i64 a = C.i false IntKind.i64 a ∧ C.str false d = C.str false d ∧ True) ∧ ([] : SW) = []) ∧ APH E m k a d (y.s (91005 : Nat)) (y.n
      (91033 : Nat)) (IntKind.i64.wrap (y.n (91034 : Nat) + (1 : Int))) ∧ ((↑m.size : Int) - IntKind.i64.wrap (y.n (91034 : Nat) + (1 : Int))).toNat < ((↑m.size : Int) - y.n
      (91034 : Nat)).toNat ∧ True)))) ∧ ((k == (1 : Int)) = false → inB (y.n (91034 : Nat)) (y.s (91005 : Nat)).size = true ∧ inB (y.n (91034 : Nat)) m.size = true ∧ ((strB (y.s
      (91005 : Nat)) (y.n (91034 : Nat)) != strB m (y.n (91034 : Nat))) = true → ([] : SW) = [] ∧ True ∧ false = true) ∧ ((strB (y.s (91005 : Nat)) (y.n (91034 : Nat)) != strB m
      (y.n (91034 : Nat))) = false → a7_td E = a7_td E ∧ (117 : Nat) = (117 : Nat) ∧ ((renC (posN [(0 : Nat)]) (C.str false m) = C.str false m ∧ True) ∧ True ∧ True ∧ True ∧
      (((0 : Int) ≤ IntKind.i64.wrap (y.n (91034 : Nat) + (1 : Int)) ∧ IntKind.i64.wrap (y.n (91034 : Nat) + (1 : Int)) ≤ (140737488351232 : Int)) ∧ True) ∧ True) ∧ ((36 : Nat)
      = (36 : Nat) ∧ (C.i false IntKind.i64 k = C.i false IntKind.i64 k ∧ C.i false IntKind.i64 a = C.i false IntKind.i64 a ∧ C.str false d = C.str false d ∧ True) ∧ ([] : SW) =
      []) ∧ APH E m k a d (y.s (91005 : Nat)) (y.n (91033 : Nat)) (IntKind.i64.wrap (y.n (91034 : Nat) + (1 : Int))) ∧ ((↑m.size : Int) - IntKind.i64.wrap (y.n (91034 : Nat) +
      (1 : Int))).toNat < ((↑m.size : Int) - y.n (91034 : Nat)).toNat ∧ True)))) ∧ (decide (y.n (91034 : Nat) ≥ a) = false → inB (y.n (91034 : Nat)) (y.s (91005 : Nat)).size =
      true ∧ inB (y.n (91034 : Nat)) m.size = true ∧ ((strB (y.s (91005 : Nat)) (y.n (91034 : Nat)) != strB m (y.n (91034 : Nat))) = true → ([] : SW) = [] ∧ True ∧ false = true)
      ∧ ((strB (y.s (91005 : Nat)) (y.n (91034 : Nat)) != strB m (y.n (91034 : Nat))) = false → a7_td E = a7_td E ∧ (117 : Nat) = (117 : Nat) ∧ ((renC (posN [(0 : Nat)]) (C.str
      false m) = C.str false m ∧ True) ∧ True ∧ True ∧ True ∧ (((0 : Int) ≤ IntKind.i64.wrap (y.n (91034 : Nat) + (1 : Int)) ∧ IntKind.i64.wrap (y.n (91034 : Nat) + (1 : Int)) ≤
      (140737488351232 : Int)) ∧ True) ∧ True) ∧ ((36 : Nat) = (36 : Nat) ∧ (C.i false IntKind.i64 k = C.i false IntKind.i64 k ∧ C.i false IntKind.i64 a = C.i false IntKind.i64
      a ∧ C.str false d = C.str false d ∧ True) ∧ ([] : SW) = []) ∧ APH E m k a d (y.s (91005 : Nat)) (y.n (91033 : Nat)) (IntKind.i64.wrap (y.n (91034 : Nat) + (1 : Int))) ∧
      ((↑m.size : Int) - IntKind.i64.wrap (y.n (91034 : Nat) + (1 : Int))).toNat < ((↑m.size : Int) - y.n (91034 : Nat)).toNat ∧ True)))) ∧ (decide (y.n (91034 : Nat) < y.n
      (91033 : Nat)) = false → (([] : SW) = [] ∧ (y.s (91005 : Nat)).size ≤ (140737488351232 : Nat)) ∧ ∀ (y_1 : PX), True ∧ True ∧ ApQ E (y.s (91005 : Nat)) k a d (y_1.s (90000
      : Nat)) (y_1.n (90001 : Nat)) → ((y_1.n (90001 : Nat) == (0 : Int)) = true → ([] : SW) = [] ∧ True ∧ (false ^^ y_1.s (90000 : Nat) == y.s (91005 : Nat)) = true) ∧ ((y_1.n
      (90001 : Nat) == (0 : Int)) = false → ([] : SW) = [] ∧ True ∧ false = true))) := by kernel_rfl
set_option maxHeartbeats 8000000 in
theorem al_q0 (E : World) (m : ByteArray) (k a : Int) (d : ByteArray) (z : PX) (hp : (fun _ => GOK E ∧ m.size ≤ 140737488351232) z) (y : PX) (hy1 : rgM y [xC k a d] 0) (hy2 : rgF y [(0, .q (.str false m)), (3, .c (.p 0 0)), (5, .s), (33, .i .i64), (34, .r .i64 (0) (140737488351232))]) (hy3 : (fun y => APH E m k a d (y.s 91005) (y.n 91033) (y.n 91034)) y) : Holds ((run (pe E) (orcB E) (tabL fns) 20000 (2 ^ 200 - 1) (a7_td E) (mkL Tryd.f7.ntmps (slC y [(0, .q (.str false m)), (3, .c (.p 0 0)), (5, .s), (33, .i .i64), (34, .r .i64 (0) (140737488351232))])) (mkM y [] [xC k a d] 0)).OK (lfP (pe E) Tryd.f7 (endR ([] : List MB).length [] (.c .b) (fun z y => y.b 90000 = true) z) (headR ([] : List MB).length Tryd.f7.ntmps (some ((fun y => ((m.size : Int) - y.n 91034).toNat) y)) (al_hs E m k a d z)))) := by
  refine loopP_lfH ⟨?_⟩
  rw [al_r0]
  have hf : True ∧ True ∧ True ∧ True ∧ (((0) ≤ y.n 91034 ∧ y.n 91034 ≤ (140737488351232)) ∧ True) ∧ True := hy2
  obtain ⟨_, _, _, _, ⟨g34, _⟩, _⟩ := hf
  obtain ⟨hG, hm⟩ := hp
  obtain ⟨he, hv, hf, hn, hi⟩ := hy3
  obtain ⟨ha, hk, hd⟩ := vl_rg hv
  have z := ap_size (d := d) ha.1 hf
  have tw := ap_twice (E := E) (d := d) ha.1 hf
  rw [he, hn]
  have APN : y.n 91034 < m.size → APH E m k a d (apT E m k a d) m.size (y.n 91034 + 1) := fun h => ⟨rfl, hv, hf, rfl, by omega⟩
  have i1 : y.n 91034 < m.size → IntKind.i64.wrap (y.n 91034 + 1) = y.n 91034 + 1 := fun h => by rw [wi64]; omega
  have i2 : IntKind.i64.wrap (a + 4096) = a + 4096 := by rw [wi64]; omega
  have i3 : IntKind.i64.wrap (a + (d.size : Int)) = a + d.size := by rw [wi64]; omega
  have i4 : IntKind.i64.wrap (y.n 91034 - a) = y.n 91034 - a := by rw [wi64]; omega
  refine ⟨fun h => ?_, fun h => ?_⟩
  · have hlt := of_decide_eq_true h
    have APN := APN hlt
    have i1 := i1 hlt
    simp only [i1, i2, i3, i4, z, inB_iff, decide_eq_true_eq, decide_eq_false_iff_not, bne_iff_ne, ne_eq, bne_eq_false_iff_eq, beq_iff_eq, beq_eq_false_iff_ne, Bool.not_eq_true', Bool.not_eq_false', Bool.false_eq_true]
    have F1 : k = 3 → strB (apT E m k a d) (y.n 91034) = 255 := fun h3 => by
      rw [apT_eq, if_pos h3]; exact ff_b E m.size _ (by omega) (by omega)
    have F2 : k ≠ 3 → (y.n 91034 < a → strB (apT E m k a d) (y.n 91034) = strB m (y.n 91034)) ∧ (a ≤ y.n 91034 → y.n 91034 < a + (dat E k d).size → strB (apT E m k a d) (y.n 91034) = strB (dat E k d) (y.n 91034 - a)) ∧ (a + (dat E k d).size ≤ y.n 91034 → strB (apT E m k a d) (y.n 91034) = strB m (y.n 91034)) := fun h3 =>
      ap_b ha.1 h3 (by rcases hf with h | h; contradiction; exact h) _ (by omega) hlt
    have F3 : k = 2 → ((dat E k d).size : Int) = 4096 ∧ (a ≤ y.n 91034 → y.n 91034 < a + 4096 → strB (dat E k d) (y.n 91034 - a) = 255) := fun h2 => by
      have e : dat E k d = repV E ff 4096 := by unfold dat; rw [if_pos h2]
      rw [e]
      exact ⟨ff_size E 4096 (by omega), fun _ _ => ff_b E 4096 _ (by omega) (by omega)⟩
    have F4 : k = 1 → dat E k d = d := fun h1 => by unfold dat; rw [if_neg (by omega)]
    have F5 : (k = 2 → (a ≤ y.n 91034 → y.n 91034 < a + 4096 → strB (apT E m k a d) (y.n 91034) = 255) ∧ (y.n 91034 < a ∨ a + 4096 ≤ y.n 91034 → strB (apT E m k a d) (y.n 91034) = strB m (y.n 91034))) := fun h2 => by
      obtain ⟨f1, f2⟩ := F3 h2
      obtain ⟨g1, g2, g3⟩ := F2 (by omega)
      refine ⟨fun h h' => by rw [g2 h (by omega)]; exact f2 h h', fun h => ?_⟩
      rcases h with h | h
      · exact g1 h
      · exact g3 (by omega)
    have F6 : (k = 1 → (a ≤ y.n 91034 → y.n 91034 < a + d.size → strB (apT E m k a d) (y.n 91034) = strB d (y.n 91034 - a)) ∧ (y.n 91034 < a ∨ a + d.size ≤ y.n 91034 → strB (apT E m k a d) (y.n 91034) = strB m (y.n 91034))) := fun h1 => by
      have f := F4 h1
      have G := F2 (by omega)
      rw [f] at G
      obtain ⟨g1, g2, g3⟩ := G
      refine ⟨fun h h' => g2 h h', fun h => ?_⟩
      rcases h with h | h
      · exact g1 h
      · exact g3 h
    have RN : renC (posN [0]) (C.str false m) = C.str false m := rfl
    clear F2 F3 F4 hG hv hf he hn tw z
    generalize strB (apT E m k a d) (y.n 91034) = X at *
    generalize strB d (y.n 91034 - a) = D at *
    generalize strB m (y.n 91034) = M at *
    generalize APH E m k a d (apT E m k a d) m.size (y.n 91034 + 1) = PP at *
    generalize (renC (posN [0]) (C.str false m) = C.str false m) = RR at *
    generalize y.n 91034 = i at *
    (repeat' (first | exact trivial | exact APN | exact RN | apply And.intro | intro _)) <;> omega
  · refine ⟨⟨rfl, by omega⟩, fun y1 hy1 => ?_⟩
    obtain ⟨e1, e2⟩ := hy1.2.2.ok hv (by rw [z]; exact hf)
    rw [e1, e2, tw]
    exact ⟨fun _ => ⟨rfl, trivial, zFT.2 rfl⟩, fun h => by simp at h⟩
set_option maxHeartbeats 8000000 in
theorem al_c (E : World) (m : ByteArray) (k a : Int) (d : ByteArray) (z : PX) (hz : rgM z [] 0) (hp : (fun _ => GOK E ∧ m.size ≤ 140737488351232) z) : HD (pe E) 7 [.c (.str false m), .a [.i false .i64 k, .i false .i64 a, .str false d]] [] [] (.c .b) (fun z y => y.b 90000 = true) z := by
  refine HD.loop (P := pe E) orcB_ok tab_ok tab_sz mixed Tryd.func7 (c := Tryd.f7.body.getD .skip) rfl (by decide) (Nat.le_of_ble_eq_true rfl) (by rfl) 20000 (2 ^ 200 - 1) (al_hs E m k a d z) (by rfl) (loopP_lfH ⟨?_⟩) ?_
  · rw [al_pro]
    obtain ⟨hG, hm⟩ := hp
    refine ⟨⟨rfl, hG⟩, fun y0 _ => ⟨⟨rfl, hm⟩, fun y hy => ?_⟩⟩
    have hw := hy.2.2
    by_cases hv : vlF k a d = true ∧ (k = 3 ∨ a + (dat E k d).size ≤ m.size)
    · obtain ⟨hv, hf⟩ := hv
      obtain ⟨e1, e2⟩ := hw.ok hv hf
      have ha := (vl_rg hv).1
      have z := ap_size (d := d) ha.1 hf
      rw [e1, e2]
      refine ⟨fun h => by simp at h, fun _ => ⟨fun h => ?_, fun _ => ?_⟩⟩
      · rw [z] at h; simp at h
      · exact ⟨rfl, rfl, ⟨⟨rfl, trivial⟩, trivial, trivial, trivial, ⟨⟨by omega, by omega⟩, trivial⟩, trivial⟩, ⟨rfl, ⟨rfl, rfl, rfl, trivial⟩, rfl⟩, ⟨rfl, hv, hf, by omega, by omega⟩, trivial⟩
    · obtain ⟨e1, e2⟩ := hw.no (by
        cases h : vlF k a d
        · exact .inl rfl
        · right
          refine ⟨fun h3 => hv ⟨h, .inl h3⟩, ?_⟩
          by_cases hf : a + (dat E k d).size ≤ m.size
          · exact absurd ⟨h, .inr hf⟩ hv
          · omega)
      rw [e1, e2]
      exact ⟨fun _ => ⟨fun _ => ⟨rfl, trivial, zFT.2 rfl⟩, fun h => by simp at h⟩, fun h => by simp at h⟩
  · intro h hmem y hy1 hy2 hy3
    simp only [al_hs, List.mem_cons, List.not_mem_nil, or_false] at hmem
    rcases hmem with rfl
    · exact al_q0 E m k a d z hp y hy1 hy2 hy3
end Go.Proofs.YtnfmkfmgaohpfaaDoor

