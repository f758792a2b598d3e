import Derived.Test.YtnfmkfmgaohpfaaDoorSF
set_option linter.unusedVariables false
set_option linter.unusedSimpArgs false
namespace Go.Proofs.YtnfmkfmgaohpfaaDoor
open Go Go.Proofs Go.Proofs.YtnfmkfmgaohpfaaDoor.Ev Go.Proofs.YtnfmkfmgaohpfaaDoor.Ev.Ho
set_option maxRecDepth 100000
noncomputable def p1_td (E : World) : List Item := headOf (run (pe E) (orcA E) (tabL fns) 20000 (2 ^ 200 - 1) [.code (Tryd.f8.body.getD .skip)] ⟨Tryd.f8.ntmps, mkFrGo (Tr.mk 12) 0 [.c (.i false .u32 0), .c (.str false default)]⟩ [])
noncomputable def p2_td (E : World) : List Item := headOf (run (pe E) (orcA E) (tabL fns) 20000 (2 ^ 200 - 1) (p1_td E) (mkL Tryd.f8.ntmps (slC default [(0, .q (.i false .u32 0)), (1, .q (.str false default)), (5, .s), (7, .r .u32 (0) (4294967295)), (55, .c (.i true .i64 4))])) [])
noncomputable def noS (t : Nat) : Tr → SW → Bool := fun tr _ => match tr.get t with | .t [] => true | .any => true | _ => false
structure PLH (E : World) (q : Int) (b s : ByteArray) : Prop where
  e : s = wrapT E q b
  z : b.size ≤ 51
noncomputable def tN (E : World) (k : Nat) : Nat := (eI E (some (Addr.mk 0 0 none)) (k * 1 + 0)).toNat
theorem tN_ok {E : World} (h : GOK E) (k : Nat) (hk : k < 16) : eI E (some (Addr.mk 0 0 none)) (k * 1 + 0) = (tN E k : Int) ∧ tN E k < 4294967296 := by
  have h1 := bounds_u32 (eOk_int (h.ok k hk))
  have e : eI E gA k = eI E (some (Addr.mk 0 0 none)) (k * 1 + 0) := by rw [Nat.mul_one, Nat.add_zero]; rfl
  rw [e] at h1
  unfold tN
  omega
noncomputable def hN (E : World) (x : Nat) : Nat := x / 16 ^^^ tN E (x % 16)
theorem hN_lt {E : World} (h : GOK E) (x : Nat) (hx : x < 4294967296) : hN E x < 4294967296 := by
  have := (tN_ok h (x % 16) (by omega)).2
  exact Nat.xor_lt_two_pow (n := 32) (by omega) this
theorem hf_n {E : World} (h : GOK E) (x : Nat) (hx : x < 4294967296) : hf E (x : Int) = (hN E x : Int) := by
  have hm := m15 (x : Int)
  have e1 : (bits .and .u32 (x : Int) 15).toNat = x % 16 := by rw [hm]; omega
  have e2 : (x : Int).fdiv 16 = ((x / 16 : Nat) : Int) := by rw [Int.fdiv_eq_ediv_of_nonneg _ (by decide)]; omega
  obtain ⟨a, b⟩ := tN_ok h (x % 16) (by omega)
  unfold hf
  rw [e1, e2, a]
  exact bits_xor_n .u32 rfl _ _ (by show _ < 4294967296; omega) b
theorem hN_x {E : World} (x y : Nat) (hy : y % 16 = 0) : hN E (x ^^^ y) = hN E x ^^^ (y / 16) := by
  unfold hN
  have e1 : (x ^^^ y) % 16 = x % 16 := by
    have := Nat.xor_mod_two_pow (a := x) (b := y) (n := 4)
    have e4 : (2 : Nat) ^ 4 = 16 := rfl
    rw [e4, hy, Nat.xor_zero] at this; exact this
  have e2 : (x ^^^ y) / 16 = x / 16 ^^^ y / 16 := by
    have := Nat.shiftRight_xor_distrib (a := x) (b := y) (i := 4)
    simpa [Nat.shiftRight_eq_div_pow] using this
  rw [e1, e2, Nat.xor_assoc, Nat.xor_assoc, Nat.xor_comm (y / 16)]
noncomputable def tT (E : World) (x : Nat) : Nat := hN E (hN E x)
theorem tT_lt {E : World} (h : GOK E) (x : Nat) (hx : x < 4294967296) : tT E x < 4294967296 := hN_lt h _ (hN_lt h _ hx)
theorem tT_x {E : World} (x y : Nat) (hy : y % 256 = 0) : tT E (x ^^^ y) = tT E x ^^^ (y / 256) := by
  unfold tT
  rw [hN_x x y (by omega), hN_x _ _ (by omega), Nat.div_div_eq_div_mul]
theorem tT_w {E : World} (c w : Nat) : tT E (c ^^^ w) = tT E (c ^^^ (w % 256)) ^^^ (w / 256) := by
  have e8 : (2 : Nat) ^ 8 = 256 := rfl
  have m : (w ^^^ w % 256) % 256 = 0 := by
    have := Nat.xor_mod_two_pow (a := w) (b := w % 256) (n := 8)
    rw [e8, Nat.mod_mod, Nat.xor_self] at this; exact this
  have d : (w ^^^ w % 256) / 256 = w / 256 := by
    have := Nat.shiftRight_xor_distrib (a := w) (b := w % 256) (i := 8)
    simp only [Nat.shiftRight_eq_div_pow, e8] at this
    rw [this, Nat.div_eq_of_lt (a := w % 256) (by omega), Nat.xor_zero]
  have e : c ^^^ w = (c ^^^ w % 256) ^^^ (w ^^^ w % 256) := by
    rw [Nat.xor_comm w, Nat.xor_assoc, ← Nat.xor_assoc (w % 256) (w % 256) w, Nat.xor_self, Nat.zero_xor]
  rw [e, tT_x _ _ m, d]
theorem tT_4 {E : World} (c w : Nat) (hw : w < 4294967296) : tT E (tT E (tT E (tT E (c ^^^ w)))) = tT E (tT E (tT E (tT E (c ^^^ (w % 256)) ^^^ (w / 256 % 256)) ^^^ (w / 65536 % 256)) ^^^ (w / 16777216 % 256)) := by
  rw [tT_w c w, tT_w _ (w / 256), tT_w _ (w / 256 / 256), tT_w _ (w / 256 / 256 / 256), Nat.div_div_eq_div_mul, Nat.div_div_eq_div_mul, Nat.div_div_eq_div_mul, Nat.div_eq_of_lt (a := w) (b := 256 * 256 * 256 * 256) (by omega), Nat.xor_zero]
noncomputable def cN (E : World) (s : ByteArray) : Nat → Nat
  | 0 => 4294967295
  | n + 1 => tT E (cN E s n ^^^ (strB s n).toNat)
theorem cN_lt {E : World} (h : GOK E) (s : ByteArray) : ∀ n, cN E s n < 4294967296
  | 0 => by show 4294967295 < 4294967296; omega
  | n + 1 => by
    have hb := strB_bd s n
    exact tT_lt h _ (Nat.xor_lt_two_pow (n := 32) (cN_lt h s n) (by omega))
theorem cF_n {E : World} (h : GOK E) (s : ByteArray) : ∀ n, cF E s n = (cN E s n : Int)
  | 0 => rfl
  | n + 1 => by
    have hb := strB_bd s n
    have hl := cN_lt h s n
    have hw : IntKind.u32.wrap (strB s n) = ((strB s n).toNat : Int) := by rw [wu32]; omega
    have hx : cN E s n ^^^ (strB s n).toNat < 4294967296 := Nat.xor_lt_two_pow (n := 32) hl (by omega)
    show hf E (hf E (bits .xor .u32 (cF E s n) (IntKind.u32.wrap (strB s n)))) = _
    rw [cF_n h s n, hw, bits_xor_n .u32 rfl _ _ hl (by show _ < 4294967296; omega), hf_n h _ hx, hf_n h _ (hN_lt h _ hx)]
    rfl
theorem cN_app {E : World} (a b : ByteArray) : ∀ n, n ≤ a.size → cN E (a ++ b) n = cN E a n
  | 0, _ => rfl
  | n + 1, h => by
    show tT E (cN E (a ++ b) n ^^^ (strB (a ++ b) n).toNat) = tT E (cN E a n ^^^ (strB a n).toNat)
    rw [cN_app a b n (by omega), strB_app_l a b n (by omega)]
theorem cN_app4 {E : World} (a b : ByteArray) (n : Nat) (hn : a.size = n) : cN E (a ++ b) (n + 4) = tT E (tT E (tT E (tT E (cN E a n ^^^ (strB b 0).toNat) ^^^ (strB b 1).toNat) ^^^ (strB b 2).toNat) ^^^ (strB b 3).toNat) := by
  have k : ∀ j : Nat, strB (a ++ b) ((n + j : Nat) : Int) = strB b j := fun j => by
    rw [strB_app_r a b _ (by omega) (by omega)]; congr 1; omega
  show tT E (tT E (tT E (tT E (cN E (a ++ b) n ^^^ (strB (a ++ b) ((n + 0 : Nat) : Int)).toNat) ^^^ (strB (a ++ b) ((n + 1 : Nat) : Int)).toNat) ^^^ (strB (a ++ b) ((n + 2 : Nat) : Int)).toNat) ^^^ (strB (a ++ b) ((n + 3 : Nat) : Int)).toNat) = _
  rw [k 0, k 1, k 2, k 3, cN_app a b n (by omega)]; rfl
theorem wd_b (x : Int) : strB (wdT x) 0 = x % 256 ∧ strB (wdT x) 1 = x / 256 % 256 ∧ strB (wdT x) 2 = x / 65536 % 256 ∧ strB (wdT x) 3 = x / 16777216 % 256 := by
  have k : ∀ (j : Nat) (v : Int), 0 ≤ v ∧ v < 256 → (txt (wdT x))[j]? = some (UInt8.ofNat v.toNat) → strB (wdT x) j = v := fun j v hv h => by
    rw [strB_txt, show ((j : Int)).toNat = j by omega, h]
    show (((UInt8.ofNat v.toNat).toNat : Nat) : Int) = v
    rw [UInt8.toNat_ofNat']; omega
  exact ⟨k 0 _ (by omega) (by rw [wd_txt]; rfl), k 1 _ (by omega) (by rw [wd_txt]; rfl), k 2 _ (by omega) (by rw [wd_txt]; rfl), k 3 _ (by omega) (by rw [wd_txt]; rfl)⟩
theorem crc_res {E : World} (h : GOK E) (t : ByteArray) : sumF E (t ++ wdT (sumF E t)) = sumF E (ByteArray.mk #[0, 0, 0, 0]) := by
  have hz : (t ++ wdT (sumF E t)).size = t.size + 4 := by rw [ByteArray.size_append, wd_size]
  have hc := cN_lt h t t.size
  have e1 : sumF E t = ((4294967295 ^^^ cN E t t.size : Nat) : Int) := by
    rw [sumF_eq, cF_n h]
    exact bits_xor_n .u32 rfl 4294967295 _ (by show 4294967295 < 4294967296; omega) hc
  generalize hw : 4294967295 ^^^ cN E t t.size = w at e1
  have wl : w < 4294967296 := by rw [← hw]; exact Nat.xor_lt_two_pow (n := 32) (by show 4294967295 < 4294967296; omega) hc
  have hx : cN E t t.size ^^^ w = 4294967295 := by
    rw [← hw, Nat.xor_comm 4294967295, ← Nat.xor_assoc, Nat.xor_self, Nat.zero_xor]
  obtain ⟨b0, b1, b2, b3⟩ := wd_b (sumF E t)
  have k : cN E (t ++ wdT (sumF E t)) (t.size + 4) = cN E (ByteArray.mk #[0, 0, 0, 0]) 4 := by
    rw [cN_app4 t _ t.size rfl, b0, b1, b2, b3, e1]
    have n0 : ((w : Int) % 256).toNat = w % 256 := by omega
    have n1 : ((w : Int) / 256 % 256).toNat = w / 256 % 256 := by omega
    have n2 : ((w : Int) / 65536 % 256).toNat = w / 65536 % 256 := by omega
    have n3 : ((w : Int) / 16777216 % 256).toNat = w / 16777216 % 256 := by omega
    rw [n0, n1, n2, n3, ← tT_4 _ w wl, hx]
    have z : ∀ j : Nat, j < 4 → (strB (ByteArray.mk #[0, 0, 0, 0]) j).toNat = 0 := fun j hj => by
      match j, hj with
      | 0, _ => rfl
      | 1, _ => rfl
      | 2, _ => rfl
      | 3, _ => rfl
    show _ = tT E (tT E (tT E (tT E (4294967295 ^^^ (strB (ByteArray.mk #[0, 0, 0, 0]) (0 : Nat)).toNat) ^^^ (strB (ByteArray.mk #[0, 0, 0, 0]) (1 : Nat)).toNat) ^^^ (strB (ByteArray.mk #[0, 0, 0, 0]) (2 : Nat)).toNat) ^^^ (strB (ByteArray.mk #[0, 0, 0, 0]) (3 : Nat)).toNat)
    rw [z 0 (by omega), z 1 (by omega), z 2 (by omega), z 3 (by omega), Nat.xor_zero, Nat.xor_zero, Nat.xor_zero, Nat.xor_zero]
  rw [sumF_eq, sumF_eq E (ByteArray.mk #[0, 0, 0, 0]), hz, cF_n h, cF_n h, k]; rfl
theorem yFT {a b : ByteArray} : ((false ^^ a == b) = true) ↔ a = b := by
  rw [← beqE]; cases (a == b) <;> simp
theorem yTT {a b : ByteArray} : ((true ^^ a == b) = true) ↔ a ≠ b := by
  rw [Ne, ← beqE]; cases (a == b) <;> simp
theorem w_5660 (E : World) (q : Int) (b : ByteArray) (hb : b.size ≤ 51) : strSl (wrapT E q b) 56 60 = wdT (sumF E (txT E q b)) := by
  have hl := tx_size E q b hb
  rw [size_txt] at hl
  exact txt_ext (sl_mid (A := txt (txT E q b)) (D := txt (wdT q)) (by rw [wrap_txt E q b hb, tx_txt E q b hb]; simp only [List.append_assoc]) (by rw [hl]; rfl) (by rw [hl, wd_len]; rfl))
theorem w_zb (E : World) (q : Int) (b : ByteArray) (hb : b.size ≤ 51) (i : Int) (h0 : 5 + (b.size : Int) ≤ i) (h1 : i < 56) : strB (wrapT E q b) i = 0 := by
  have hs := wrap_size E q b hb
  have e := strB_strSl (wrapT E q b) (5 + (b.size : Int)) 56 (i - (5 + (b.size : Int))) (by omega) (by omega) (by omega) (by omega)
  rw [show 5 + (b.size : Int) + (i - (5 + (b.size : Int))) = i by omega] at e
  rw [← e, strB_txt, w_z E q b hb]
  unfold zr
  rw [List.getElem?_replicate_of_lt (by omega)]
  rfl
noncomputable def pl_h0 (E : World) (q : Int) (b : ByteArray) (z : PX) : Hd := ⟨4, (noS 9), (p1_td E), [(0, .q (.i false .u32 q)), (1, .q (.str false b)), (5, .s), (7, .r .u32 (0) (4294967295)), (55, .r .i64 (0) (4))], [], fun y => PLH E q b (y.s 91005) ∧ y.n 91007 = sumF E (strSl (y.s 91005) 0 56), fun y => 1000 + (4 - y.n 91055).toNat⟩
noncomputable def pl_h1 (E : World) (q : Int) (b : ByteArray) (z : PX) : Hd := ⟨4, anyH, (p2_td E), [(5, .s), (9, .r .i64 (5) (56))], [], fun y => PLH E q b (y.s 91005) ∧ (5 : Int) + b.size ≤ y.n 91009, fun y => (56 - y.n 91009).toNat⟩
noncomputable def pl_hs (E : World) (q : Int) (b : ByteArray) (z : PX) : List Hd := [pl_h0 E q b z, pl_h1 E q b z]
theorem pl_pro (E : World) (q : Int) (b : ByteArray) (z : PX) :
    (loopP (pe E) Tryd.f8 (endR ([] : List MB).length [] (.c .b) (fun z y => y.b 90000 = true) z) (headR ([] : List MB).length Tryd.f8.ntmps none (pl_hs E q b z)) (run (pe E) (orcA E) (tabL fns) 20000 (2 ^ 200 - 1) [.code (Tryd.f8.body.getD .skip)] ⟨Tryd.f8.ntmps, mkFrGo (Tr.mk 12) 0 [.c (.i false .u32 q), .c (.str false b)]⟩ (mkM z [] [] 0))) =
    ((([] : SW) = [] ∧ GOK E) ∧ ∀ (y : PX), True ∧ True ∧ True → (([] : SW) = [] ∧ (GOK E ∧ b.size ≤ (4611686018427387904 : Nat)) ∧ (0 : Int) ≤ q ∧ q ≤ (4294967295 : Int)) ∧ ∀
      (y : PX), True ∧ True ∧ WrQ E q b (y.s (90000 : Nat)) (y.n (90001 : Nat)) → (decide ((↑b.size : Int) > (51 : Int)) = true → ((y.n (90001 : Nat) == (2 : Int)) = true → ([]
      : SW) = [] ∧ True ∧ (false ^^ y.s (90000 : Nat) == ByteArray.mk #[]) = true) ∧ ((y.n (90001 : Nat) == (2 : Int)) = false → ([] : SW) = [] ∧ True ∧ false = true)) ∧ (decide
      ((↑b.size : Int) > (51 : Int)) = false → ((y.n (90001 : Nat) != (0 : Int)) = true → ([] : SW) = [] ∧ True ∧ false = true) ∧ ((y.n (90001 : Nat) != (0 : Int)) = false →
      (((↑(y.s (90000 : Nat)).size : Int) != (64 : Int)) = true → ([] : SW) = [] ∧ True ∧ false = true) ∧ (((↑(y.s (90000 : Nat)).size : Int) != (64 : Int)) = false → inB (4 :
      Int) (y.s (90000 : Nat)).size = true ∧ ((IntKind.i64.wrap (strB (y.s (90000 : Nat)) (4 : Int)) != (↑b.size : Int)) = true → ([] : SW) = [] ∧ True ∧ false = true) ∧
      ((IntKind.i64.wrap (strB (y.s (90000 : Nat)) (4 : Int)) != (↑b.size : Int)) = false → decide ((5 : Int) ≤ IntKind.i64.wrap ((5 : Int) + (↑b.size : Int))) = true ∧ decide
      (IntKind.i64.wrap ((5 : Int) + (↑b.size : Int)) ≤ (↑(y.s (90000 : Nat)).size : Int)) = true ∧ ((true ^^ strSl (y.s (90000 : Nat)) (5 : Int) (IntKind.i64.wrap ((5 : Int) +
      (↑b.size : Int))) == b) = true → ([] : SW) = [] ∧ True ∧ false = true) ∧ ((true ^^ strSl (y.s (90000 : Nat)) (5 : Int) (IntKind.i64.wrap ((5 : Int) + (↑b.size : Int))) ==
      b) = false → decide ((56 : Int) ≤ (↑(y.s (90000 : Nat)).size : Int)) = true ∧ (([] : SW) = [] ∧ GOK E ∧ (strSl (y.s (90000 : Nat)) (0 : Int) (56 : Int)).size ≤
      (4611686018427387904 : Nat)) ∧ ∀ (y_1 : PX), True ∧ (((0 : Int) ≤ y_1.n (90000 : Nat) ∧ y_1.n (90000 : Nat) ≤ (4294967295 : Int)) ∧ True) ∧ y_1.n (90000 : Nat) = sumF E
      (strSl (y.s (90000 : Nat)) (0 : Int) (56 : Int)) → p1_td E = p1_td E ∧ (110 : Nat) = (110 : Nat) ∧ ((renC (posN []) (C.i false IntKind.u32 q) = C.i false IntKind.u32 q ∧
      True) ∧ (renC (posN []) (C.str false b) = C.str false b ∧ True) ∧ True ∧ (((0 : Int) ≤ y_1.n (90000 : Nat) ∧ y_1.n (90000 : Nat) ≤ (4294967295 : Int)) ∧ True) ∧ (((0 :
      Int) ≤ (0 : Int) ∧ (0 : Int) ≤ (4 : Int)) ∧ True) ∧ True) ∧ ([] : SW) = [] ∧ (PLH E q b (y.s (90000 : Nat)) ∧ y_1.n (90000 : Nat) = sumF E (strSl (y.s (90000 : Nat)) (0 :
      Int) (56 : Int))) ∧ True)))))) := by kernel_rfl
theorem pl_r0 (E : World) (q : Int) (b : ByteArray) (z : PX) (y : PX) :
    (loopP (pe E) Tryd.f8 (endR ([] : List MB).length [] (.c .b) (fun z y => y.b 90000 = true) z) (headR ([] : List MB).length Tryd.f8.ntmps (some ((fun y => 1000 + (4 - y.n 91055).toNat) y)) (pl_hs E q b z))  (run (pe E) (orcA E) (tabL fns) 20000 (2 ^ 200 - 1) (p1_td E) (mkL Tryd.f8.ntmps (slC y [(0, .q (.i false .u32 q)), (1, .q (.str false b)), (5, .s), (7, .r .u32 (0) (4294967295)), (55, .r .i64 (0) (4))])) (mkM y [] [] 0))) =
    ((decide (y.n (91055 : Nat) < (4 : Int)) = true → inB (y.n (91055 : Nat)) (y.s (91005 : Nat)).size = true ∧ decide ((0 : Int) ≤ IntKind.i64.wrap ((8 : Int) * y.n (91055 :
      Nat))) = true ∧ ((strB (y.s (91005 : Nat)) (y.n (91055 : Nat)) != IntKind.u8.wrap (q.fdiv ((2 : Int) ^ min (IntKind.i64.wrap ((8 : Int) * y.n (91055 : Nat))).toNat (32 :
      Nat)))) = true → ([] : SW) = [] ∧ True ∧ false = true) ∧ ((strB (y.s (91005 : Nat)) (y.n (91055 : Nat)) != IntKind.u8.wrap (q.fdiv ((2 : Int) ^ min (IntKind.i64.wrap ((8 :
      Int) * y.n (91055 : Nat))).toNat (32 : Nat)))) = false → inB (IntKind.i64.wrap ((60 : Int) + y.n (91055 : Nat))) (y.s (91005 : Nat)).size = true ∧ inB (y.n (91055 : Nat))
      (y.s (91005 : Nat)).size = true ∧ ((strB (y.s (91005 : Nat)) (IntKind.i64.wrap ((60 : Int) + y.n (91055 : Nat))) != strB (y.s (91005 : Nat)) (y.n (91055 : Nat))) = true →
      ([] : SW) = [] ∧ True ∧ false = true) ∧ ((strB (y.s (91005 : Nat)) (IntKind.i64.wrap ((60 : Int) + y.n (91055 : Nat))) != strB (y.s (91005 : Nat)) (y.n (91055 : Nat))) =
      false → inB (IntKind.i64.wrap ((56 : Int) + y.n (91055 : Nat))) (y.s (91005 : Nat)).size = true ∧ decide ((0 : Int) ≤ IntKind.i64.wrap ((8 : Int) * y.n (91055 : Nat))) =
      true ∧ ((strB (y.s (91005 : Nat)) (IntKind.i64.wrap ((56 : Int) + y.n (91055 : Nat))) != IntKind.u8.wrap ((y.n (91007 : Nat)).fdiv ((2 : Int) ^ min (IntKind.i64.wrap ((8 :
      Int) * y.n (91055 : Nat))).toNat (32 : Nat)))) = true → ([] : SW) = [] ∧ True ∧ false = true) ∧ ((strB (y.s (91005 : Nat)) (IntKind.i64.wrap ((56 : Int) + y.n (91055 :
      Nat))) != IntKind.u8.wrap ((y.n (91007 : Nat)).fdiv ((2 : Int) ^ min (IntKind.i64.wrap ((8 : Int) * y.n (91055 : Nat))).toNat (32 : Nat)))) = false → p1_td E = p1_td E ∧
      (110 : Nat) = (110 : Nat) ∧ ((renC (posN []) (C.i false IntKind.u32 q) = C.i false IntKind.u32 q ∧ True) ∧ (renC (posN []) (C.str false b) = C.str false b ∧ True) ∧ True ∧
      (((0 : Int) ≤ y.n (91007 : Nat) ∧ y.n (91007 : Nat) ≤ (4294967295 : Int)) ∧ True) ∧ (((0 : Int) ≤ IntKind.i64.wrap (y.n (91055 : Nat) + (1 : Int)) ∧ IntKind.i64.wrap (y.n
      (91055 : Nat) + (1 : Int)) ≤ (4 : Int)) ∧ True) ∧ True) ∧ ([] : SW) = [] ∧ (PLH E q b (y.s (91005 : Nat)) ∧ y.n (91007 : Nat) = sumF E (strSl (y.s (91005 : Nat)) (0 : Int)
      (56 : Int))) ∧ (1000 : Nat) + ((4 : Int) - IntKind.i64.wrap (y.n (91055 : Nat) + (1 : Int))).toNat < (1000 : Nat) + ((4 : Int) - y.n (91055 : Nat)).toNat ∧ True)))) ∧
      (decide (y.n (91055 : Nat) < (4 : Int)) = false → p2_td E = p2_td E ∧ (110 : Nat) = (110 : Nat) ∧ (True ∧ (((5 : Int) ≤ IntKind.i64.wrap ((5 : Int) + (↑b.size : Int)) ∧
      IntKind.i64.wrap ((5 : Int) + (↑b.size : Int)) ≤ (56 : Int)) ∧ True) ∧ True) ∧ ([] : SW) = [] ∧ (PLH E q b (y.s (91005 : Nat)) ∧ (5 : Int) + (↑b.size : Int) ≤
      IntKind.i64.wrap ((5 : Int) + (↑b.size : Int))) ∧ ((56 : Int) - IntKind.i64.wrap ((5 : Int) + (↑b.size : Int))).toNat < (1000 : Nat) + ((4 : Int) - y.n (91055 :
      Nat)).toNat ∧ True)) := by kernel_rfl
set_option maxHeartbeats 8000000 in
theorem pl_q0 (E : World) (q : Int) (b : ByteArray) (z : PX) (hp : (fun _ => (GOK E ∧ b.size ≤ 4611686018427387904) ∧ 0 ≤ q ∧ q ≤ 4294967295) z) (y : PX) (hy1 : rgM y [] 0) (hy2 : rgF y [(0, .q (.i false .u32 q)), (1, .q (.str false b)), (5, .s), (7, .r .u32 (0) (4294967295)), (55, .r .i64 (0) (4))]) (hy3 : (fun y => PLH E q b (y.s 91005) ∧ y.n 91007 = sumF E (strSl (y.s 91005) 0 56)) y) : Holds ((run (pe E) (orcA E) (tabL fns) 20000 (2 ^ 200 - 1) (p1_td E) (mkL Tryd.f8.ntmps (slC y [(0, .q (.i false .u32 q)), (1, .q (.str false b)), (5, .s), (7, .r .u32 (0) (4294967295)), (55, .r .i64 (0) (4))])) (mkM y [] [] 0)).OK (lfP (pe E) Tryd.f8 (endR ([] : List MB).length [] (.c .b) (fun z y => y.b 90000 = true) z) (headR ([] : List MB).length Tryd.f8.ntmps (some ((fun y => 1000 + (4 - y.n 91055).toNat) y)) (pl_hs E q b z)))) := by
  refine loopP_lfH ⟨?_⟩
  rw [pl_r0]
  have hf : True ∧ True ∧ True ∧ (((0) ≤ y.n 91007 ∧ y.n 91007 ≤ (4294967295)) ∧ True) ∧ (((0) ≤ y.n 91055 ∧ y.n 91055 ≤ (4)) ∧ True) ∧ True := hy2
  obtain ⟨_, _, _, ⟨g7, _⟩, ⟨g55, _⟩, _⟩ := hf
  obtain ⟨⟨hG, hbs⟩, hq⟩ := hp
  obtain ⟨⟨he, hb⟩, hs⟩ := hy3
  have i5 : IntKind.i64.wrap (5 + (b.size : Int)) = 5 + (b.size : Int) := by rw [wi64]; omega
  have z := wrap_size E q b hb
  rw [he] at hs ⊢
  rw [w_056 E q b hb] at hs ⊢
  rw [hs]
  refine ⟨fun h => ?_, fun h => ?_⟩
  · have hi := of_decide_eq_true h
    have sb := sum_rg E (txT E q b)
    have a0 : strB (wrapT E q b) (y.n 91055) = strB (wdT q) (y.n 91055) := by
      rw [← w_04 E q b hb, strB_strSl _ _ _ _ (by omega) (by omega) (by omega) (by omega), Int.zero_add]
    have a6 : strB (wrapT E q b) (60 + y.n 91055) = strB (wdT q) (y.n 91055) := by
      rw [← w_60 E q b hb, strB_strSl _ _ _ _ (by omega) (by omega) (by omega) (by omega)]
    have a5 : strB (wrapT E q b) (56 + y.n 91055) = strB (wdT (sumF E (txT E q b))) (y.n 91055) := by
      rw [← w_5660 E q b hb, strB_strSl _ _ _ _ (by omega) (by omega) (by omega) (by omega)]
    have sh : ∀ v : Int, IntKind.u8.wrap (v.fdiv (2 ^ min (IntKind.i64.wrap (8 * y.n 91055)).toNat 32)) = strB (wdT v) (y.n 91055) := fun v => by
      obtain ⟨b0, b1, b2, b3⟩ := wd_b v
      have hc : y.n 91055 = 0 ∨ y.n 91055 = 1 ∨ y.n 91055 = 2 ∨ y.n 91055 = 3 := by omega
      rcases hc with h | h | h | h <;> rw [h]
      · rw [b0, wu8]; show v.fdiv 1 % 256 = _; rw [Int.fdiv_one]
      · rw [b1, wu8]; show v.fdiv 256 % 256 = _; rw [Int.fdiv_eq_ediv_of_nonneg _ (by decide)]
      · rw [b2, wu8]; show v.fdiv 65536 % 256 = _; rw [Int.fdiv_eq_ediv_of_nonneg _ (by decide)]
      · rw [b3, wu8]; show v.fdiv 16777216 % 256 = _; rw [Int.fdiv_eq_ediv_of_nonneg _ (by decide)]
    have j1 : IntKind.i64.wrap (60 + y.n 91055) = 60 + y.n 91055 := by rw [wi64]; omega
    have j2 : IntKind.i64.wrap (56 + y.n 91055) = 56 + y.n 91055 := by rw [wi64]; omega
    have j3 : IntKind.i64.wrap (8 * y.n 91055) = 8 * y.n 91055 := by rw [wi64]; omega
    have j4 : IntKind.i64.wrap (y.n 91055 + 1) = y.n 91055 + 1 := by rw [wi64]; omega
    have inb : ∀ x : Int, 0 ≤ x → x < 64 → inB x (wrapT E q b).size = true := fun x h0 h1 => by
      simp only [inB, Bool.and_eq_true, decide_eq_true_eq]; omega
    rw [sh q, sh (sumF E (txT E q b)), j1, j2, j3, j4, a0, a6, a5]
    have ne : ∀ x : Int, (x != x) = true → False := fun x h => by simp at h
    refine ⟨inb _ (by omega) (by omega), decide_eq_true (by omega), fun h => (ne _ h).elim, fun _ => ⟨inb _ (by omega) (by omega), inb _ (by omega) (by omega), fun h => (ne _ h).elim, fun _ => ⟨inb _ (by omega) (by omega), decide_eq_true (by omega), fun h => (ne _ h).elim, fun _ => ⟨rfl, rfl, ⟨⟨rfl, trivial⟩, ⟨rfl, trivial⟩, trivial, ⟨sb, trivial⟩, ⟨⟨by omega, by omega⟩, trivial⟩, trivial⟩, rfl, ⟨⟨rfl, hb⟩, rfl⟩, by omega, trivial⟩⟩⟩⟩
  · have hi := of_decide_eq_false h
    rw [i5]
    exact ⟨rfl, rfl, ⟨trivial, ⟨⟨by omega, by omega⟩, trivial⟩, trivial⟩, rfl, ⟨⟨rfl, hb⟩, by omega⟩, by omega, trivial⟩
theorem pl_r1 (E : World) (q : Int) (b : ByteArray) (z : PX) (y : PX) :
    (loopP (pe E) Tryd.f8 (endR ([] : List MB).length [] (.c .b) (fun z y => y.b 90000 = true) z) (headR ([] : List MB).length Tryd.f8.ntmps (some ((fun y => (56 - y.n 91009).toNat) y)) (pl_hs E q b z))  (run (pe E) (orcA E) (tabL fns) 20000 (2 ^ 200 - 1) (p2_td E) (mkL Tryd.f8.ntmps (slC y [(5, .s), (9, .r .i64 (5) (56))])) (mkM y [] [] 0))) =
    ((decide (y.n (91009 : Nat) < (56 : Int)) = true → inB (y.n (91009 : Nat)) (y.s (91005 : Nat)).size = true ∧ ((strB (y.s (91005 : Nat)) (y.n (91009 : Nat)) != (0 : Int)) =
      true → ([] : SW) = [] ∧ True ∧ false = true) ∧ ((strB (y.s (91005 : Nat)) (y.n (91009 : Nat)) != (0 : Int)) = false → p2_td E = p2_td E ∧ (110 : Nat) = (110 : Nat) ∧ (True
      ∧ (((5 : Int) ≤ IntKind.i64.wrap (y.n (91009 : Nat) + (1 : Int)) ∧ IntKind.i64.wrap (y.n (91009 : Nat) + (1 : Int)) ≤ (56 : Int)) ∧ True) ∧ True) ∧ ([] : SW) = [] ∧ (PLH E
      q b (y.s (91005 : Nat)) ∧ (5 : Int) + (↑b.size : Int) ≤ IntKind.i64.wrap (y.n (91009 : Nat) + (1 : Int))) ∧ ((56 : Int) - IntKind.i64.wrap (y.n (91009 : Nat) + (1 :
      Int))).toNat < ((56 : Int) - y.n (91009 : Nat)).toNat ∧ True)) ∧ (decide (y.n (91009 : Nat) < (56 : Int)) = false → decide ((60 : Int) ≤ (↑(y.s (91005 : Nat)).size : Int))
      = true ∧ decide ((56 : Int) ≤ (↑(y.s (91005 : Nat)).size : Int)) = true ∧ ((strSl (y.s (91005 : Nat)) (0 : Int) (56 : Int)).size + (strSl (y.s (91005 : Nat)) (56 : Int)
      (60 : Int)).size).ble ((2 : Nat) ^ (62 : Nat)) = true ∧ (([] : SW) = [] ∧ GOK E ∧ (strSl (y.s (91005 : Nat)) (0 : Int) (56 : Int) ++ strSl (y.s (91005 : Nat)) (56 : Int)
      (60 : Int)).size ≤ (4611686018427387904 : Nat)) ∧ ∀ (y_1 : PX), True ∧ (((0 : Int) ≤ y_1.n (90000 : Nat) ∧ y_1.n (90000 : Nat) ≤ (4294967295 : Int)) ∧ True) ∧ y_1.n (90000
      : Nat) = sumF E (strSl (y.s (91005 : Nat)) (0 : Int) (56 : Int) ++ strSl (y.s (91005 : Nat)) (56 : Int) (60 : Int)) → (([] : SW) = [] ∧ GOK E ∧ (4 : Nat) ≤
      (4611686018427387904 : Nat)) ∧ ∀ (y : PX), True ∧ (((0 : Int) ≤ y.n (90000 : Nat) ∧ y.n (90000 : Nat) ≤ (4294967295 : Int)) ∧ True) ∧ y.n (90000 : Nat) = sumF E
      (ByteArray.mk #[(0 : UInt8), (0 : UInt8), (0 : UInt8), (0 : UInt8)]) → ([] : SW) = [] ∧ True ∧ (y_1.n (90000 : Nat) == y.n (90000 : Nat)) = true)) := by kernel_rfl
set_option maxHeartbeats 8000000 in
theorem pl_q1 (E : World) (q : Int) (b : ByteArray) (z : PX) (hp : (fun _ => (GOK E ∧ b.size ≤ 4611686018427387904) ∧ 0 ≤ q ∧ q ≤ 4294967295) z) (y : PX) (hy1 : rgM y [] 0) (hy2 : rgF y [(5, .s), (9, .r .i64 (5) (56))]) (hy3 : (fun y => PLH E q b (y.s 91005) ∧ (5 : Int) + b.size ≤ y.n 91009) y) : Holds ((run (pe E) (orcA E) (tabL fns) 20000 (2 ^ 200 - 1) (p2_td E) (mkL Tryd.f8.ntmps (slC y [(5, .s), (9, .r .i64 (5) (56))])) (mkM y [] [] 0)).OK (lfP (pe E) Tryd.f8 (endR ([] : List MB).length [] (.c .b) (fun z y => y.b 90000 = true) z) (headR ([] : List MB).length Tryd.f8.ntmps (some ((fun y => (56 - y.n 91009).toNat) y)) (pl_hs E q b z)))) := by
  refine loopP_lfH ⟨?_⟩
  rw [pl_r1]
  have hf : True ∧ (((5) ≤ y.n 91009 ∧ y.n 91009 ≤ (56)) ∧ True) ∧ True := hy2
  obtain ⟨_, ⟨g9, _⟩, _⟩ := hf
  obtain ⟨⟨hG, hbs⟩, hq⟩ := hp
  obtain ⟨⟨he, hb⟩, hs⟩ := hy3
  have z := wrap_size E q b hb
  rw [he]
  refine ⟨fun h => ?_, fun h => ?_⟩
  · have hi := of_decide_eq_true h
    rw [w_zb E q b hb _ hs hi]
    have j4 : IntKind.i64.wrap (y.n 91009 + 1) = y.n 91009 + 1 := by rw [wi64]; omega
    rw [j4]
    refine ⟨by simp only [inB, Bool.and_eq_true, decide_eq_true_eq]; omega, fun h => by simp at h, fun _ => ⟨rfl, rfl, ⟨trivial, ⟨⟨by omega, by omega⟩, trivial⟩, trivial⟩, rfl, ⟨⟨rfl, hb⟩, by omega⟩, by omega, trivial⟩⟩
  · rw [w_056 E q b hb, w_5660 E q b hb]
    have hl := tx_size E q b hb
    have hd := wd_size (sumF E (txT E q b))
    refine ⟨decide_eq_true (by omega), decide_eq_true (by omega), Nat.ble_eq_true_of_le (by have : (2 : Nat) ^ 62 = 4611686018427387904 := rfl; omega), ⟨rfl, hG, by rw [ByteArray.size_append]; omega⟩, fun y1 hy1 => ⟨⟨rfl, hG, by omega⟩, fun y2 hy2 => ⟨rfl, trivial, ?_⟩⟩⟩
    rw [hy1.2.2, hy2.2.2, crc_res hG]
    exact beq_self_eq_true _
set_option maxHeartbeats 8000000 in
theorem pl_c (E : World) (q : Int) (b : ByteArray) (z : PX) (hz : rgM z [] 0) (hp : (fun _ => (GOK E ∧ b.size ≤ 4611686018427387904) ∧ 0 ≤ q ∧ q ≤ 4294967295) z) : HD (pe E) 8 [.c (.i false .u32 q), .c (.str false b)] [] [] (.c .b) (fun z y => y.b 90000 = true) z := by
  refine HD.loop (P := pe E) orcA_ok tab_ok tab_sz mixed Tryd.func8 (c := Tryd.f8.body.getD .skip) rfl (by decide) (Nat.le_of_ble_eq_true rfl) (by rfl) 20000 (2 ^ 200 - 1) (pl_hs E q b z) (by rfl) (loopP_lfH ⟨?_⟩) ?_
  · rw [pl_pro]
    obtain ⟨⟨hG, hbs⟩, hq⟩ := hp
    have i5 : IntKind.i64.wrap (5 + (b.size : Int)) = 5 + (b.size : Int) := by rw [wi64]; omega
    refine ⟨⟨rfl, hG⟩, fun y0 _ => ⟨⟨rfl, ⟨hG, hbs⟩, hq⟩, fun y hy => ?_⟩⟩
    have hw := hy.2.2
    refine ⟨fun h => ?_, fun h => ?_⟩
    · have hb := of_decide_eq_true h
      obtain ⟨e1, e2⟩ := hw.lg (by omega)
      rw [e1, e2]
      exact ⟨fun _ => ⟨rfl, trivial, yFT.2 rfl⟩, fun h => by simp at h⟩
    · have hb : b.size ≤ 51 := by have := of_decide_eq_false h; omega
      obtain ⟨e1, e2⟩ := hw.sh hb
      have z := wrap_size E q b hb
      have w4 := w_4 E q b hb
      have wb := w_b E q b hb
      rw [e1, e2]
      simp only [i5, z, w4, wb]
      have i6 : IntKind.i64.wrap (b.size : Int) = (b.size : Int) := by rw [wi64]; omega
      rw [i6]
      refine ⟨fun h => by simp at h, fun _ => ⟨fun h => by simp at h, fun _ => ⟨by simp [inB], fun h => by simp at h, fun _ => ⟨decide_eq_true (by omega), decide_eq_true (by omega), fun h => (yTT.1 h rfl).elim, fun _ => ⟨by trivial, ⟨by trivial, hG, ?_⟩, fun y1 hy1 => ?_⟩⟩⟩⟩⟩
      · have := size_strSl (wrapT E q b) 0 56 (by omega) (by omega) (by omega)
        omega
      · exact ⟨by trivial, by trivial, ⟨⟨rfl, trivial⟩, ⟨rfl, trivial⟩, trivial, hy1.2.1, ⟨⟨by omega, by omega⟩, trivial⟩, trivial⟩, by trivial, ⟨⟨rfl, hb⟩, hy1.2.2⟩, trivial⟩
  · intro h hmem y hy1 hy2 hy3
    simp only [pl_hs, List.mem_cons, List.not_mem_nil, or_false] at hmem
    rcases hmem with rfl | rfl
    · exact pl_q0 E q b z hp y hy1 hy2 hy3
    · exact pl_q1 E q b z hp y hy1 hy2 hy3
end Go.Proofs.YtnfmkfmgaohpfaaDoor

