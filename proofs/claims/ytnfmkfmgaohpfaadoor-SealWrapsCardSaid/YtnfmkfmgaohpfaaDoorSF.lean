import Derived.Test.YtnfmkfmgaohpfaaDoorSD
set_option linter.unusedVariables false
set_option linter.unusedSimpArgs false
namespace Go.Proofs.YtnfmkfmgaohpfaaDoor
open Go Go.Proofs Go.Proofs.YtnfmkfmgaohpfaaDoor.Ev Go.Proofs.YtnfmkfmgaohpfaaDoor.Ev.Ho
set_option maxRecDepth 100000
theorem bits32_or (a b m k : Nat) (hm : m = 2 ^ k) (ha : a < m) (h : a + b * m < 2 ^ 32) : bits .or .u32 ((a : Nat) : Int) ((b * m : Nat) : Int) = ((a + b * m : Nat) : Int) := by
  subst hm
  have e : a ||| b * 2 ^ k = a + b * 2 ^ k := by
    rw [Nat.or_comm, Nat.mul_comm, ← Nat.two_pow_add_eq_or_of_lt ha, Nat.add_comm]
  rw [bits_or_n .u32 rfl _ _ (by show a < 2 ^ 32; omega) (by show b * 2 ^ k < 2 ^ 32; omega), e]
theorem or32 (x y m : Int) (k : Nat) (hm : m = 2 ^ k) (hx : 0 ≤ x ∧ x < m) (hy : 0 ≤ y) (h : x + y * m < 4294967296) : bits .or .u32 x (IntKind.u32.wrap (y * m)) = x + y * m := by
  have hm0 : 0 < m := by omega
  have hym : 0 ≤ y * m := Int.mul_nonneg hy (by omega)
  have e1 : x = ((x.toNat : Nat) : Int) := by omega
  have e2 : IntKind.u32.wrap (y * m) = ((y.toNat * m.toNat : Nat) : Int) := by
    rw [wu32, Int.emod_eq_of_lt hym (by omega), Int.natCast_mul, Int.toNat_of_nonneg hy, Int.toNat_of_nonneg (by omega)]
  have h2 : ((2 ^ k : Nat) : Int) = (2 : Int) ^ k := by exact_mod_cast rfl
  have e3 : m.toNat = 2 ^ k := by rw [hm, ← h2]; exact Int.toNat_natCast _
  have e4 : ((x.toNat + y.toNat * m.toNat : Nat) : Int) = x + y * m := by
    rw [Int.natCast_add, Int.natCast_mul, Int.toNat_of_nonneg hy, Int.toNat_of_nonneg hx.1, Int.toNat_of_nonneg (by omega)]
  rw [e2]
  conv => lhs; rw [e1]
  rw [bits32_or x.toNat y.toNat m.toNat k e3 (by omega) (by
    have : ((x.toNat + y.toNat * m.toNat : Nat) : Int) < 4294967296 := by rw [e4]; exact h
    omega)]
  exact e4
theorem nm_val (t : ByteArray) : nmF t = strB t 0 + strB t 1 * 256 + strB t 2 * 65536 + strB t 3 * 16777216 := by
  have b0 := strB_bd t 0
  have b1 := strB_bd t 1
  have b2 := strB_bd t 2
  have b3 := strB_bd t 3
  have w : ∀ i, 0 ≤ strB t i ∧ strB t i < 256 → IntKind.u32.wrap (strB t i) = strB t i := fun i h => by rw [wu32]; omega
  rw [nmF_eq, w 0 b0, w 1 b1, w 2 b2, w 3 b3]
  rw [or32 (strB t 0) (strB t 1) 256 8 rfl (by omega) (by omega) (by omega), or32 (strB t 0 + strB t 1 * 256) (strB t 2) 65536 16 rfl (by omega) (by omega) (by omega), or32 _ (strB t 3) 16777216 24 rfl (by omega) (by omega) (by omega)]
theorem u8i (x : Int) : ((UInt8.ofNat (x % 256).toNat).toNat : Int) = x % 256 := by rw [UInt8.toNat_ofNat']; omega
theorem wd_txt (x : Int) : txt (wdT x) = [UInt8.ofNat (x % 256).toNat, UInt8.ofNat (x / 256 % 256).toNat, UInt8.ofNat (x / 65536 % 256).toNat, UInt8.ofNat (x / 16777216 % 256).toNat] := by
  have e : ∀ K : Int, 0 ≤ K → IntKind.u8.wrap (x.fdiv K) = x / K % 256 := fun K hK => by rw [fdiv_lit _ _ hK, wu8]
  rw [wdT_eq, txt_bytesN, e _ (by decide), e _ (by decide), e _ (by decide), wu8]; rfl
theorem strB_get {t : ByteArray} {i : Int} {b : UInt8} (h : (txt t)[i.toNat]? = some b) : strB t i = b.toNat := by rw [strB_txt, h]
theorem nm_wd {t : ByteArray} {x : Int} {C : List UInt8} (h : txt t = txt (wdT x) ++ C) (hx : 0 ≤ x ∧ x ≤ 4294967295) : nmF t = x := by
  have g0 := strB_get (t := t) (i := 0) (by rw [h, wd_txt]; rfl)
  have g1 := strB_get (t := t) (i := 1) (by rw [h, wd_txt]; rfl)
  have g2 := strB_get (t := t) (i := 2) (by rw [h, wd_txt]; rfl)
  have g3 := strB_get (t := t) (i := 3) (by rw [h, wd_txt]; rfl)
  rw [u8i] at g0 g1 g2 g3
  rw [nm_val, g0, g1, g2, g3]; omega
theorem sl_mid {t : ByteArray} {A B D : List UInt8} (h : txt t = A ++ (B ++ D)) {i j : Int} (hi : i = A.length) (hj : j = A.length + B.length) : txt (strSl t i j) = B := by
  rw [txt_strSl, h, hi, hj, ← List.append_assoc, show ((A.length : Int) + (B.length : Int)).toNat = (A ++ B).length by rw [List.length_append]; omega, List.take_left, Int.toNat_natCast, List.drop_left]
noncomputable def zr (b : ByteArray) : List UInt8 := List.replicate (51 - b.size) 0
theorem tx_txt (E : World) (q : Int) (b : ByteArray) (hb : b.size ≤ 51) : txt (txT E q b) = txt (wdT q) ++ ([UInt8.ofNat b.size] ++ (txt b ++ zr b)) := by
  have hr : txt (repV E (ByteArray.mk #[(0 : UInt8)]) (51 - (b.size : Int))) = zr b := by
    rw [repV_eq, txt_repB, show txt (ByteArray.mk #[(0 : UInt8)]) = [0] from rfl, rep1]
    unfold zr; congr 1; omega
  have hs : IntKind.u8.wrap (b.size : Int) = (b.size : Int) := by rw [wu8]; omega
  rw [txT_eq, txt_catB]
  simp only [List.map_cons, List.map_nil, List.flatten_cons, List.flatten_nil, List.append_nil, hr, txt_bytesN, hs]
  rfl
theorem wrap_txt (E : World) (q : Int) (b : ByteArray) (hb : b.size ≤ 51) : txt (wrapT E q b) = txt (wdT q) ++ ([UInt8.ofNat b.size] ++ (txt b ++ (zr b ++ (txt (wdT (sumF E (txT E q b))) ++ txt (wdT q))))) := by
  rw [wrapT_eq, txt_catB]
  simp only [List.map_cons, List.map_nil, List.flatten_cons, List.flatten_nil, List.append_nil, tx_txt E q b hb, List.append_assoc]
theorem wd_len (x : Int) : (txt (wdT x)).length = 4 := by rw [← size_txt, wd_size]
theorem zr_len (b : ByteArray) : (zr b).length = 51 - b.size := by unfold zr; simp
theorem sum_rg (E : World) (t : ByteArray) : 0 ≤ sumF E t ∧ sumF E t ≤ 4294967295 := by rw [sumF_eq]; exact bits_rg _ _ _
theorem w_04 (E : World) (q : Int) (b : ByteArray) (hb : b.size ≤ 51) : strSl (wrapT E q b) 0 4 = wdT q :=
  txt_ext (sl_mid (A := []) (by rw [wrap_txt E q b hb]; rfl) rfl (by rw [wd_len]; rfl))
theorem w_60 (E : World) (q : Int) (b : ByteArray) (hb : b.size ≤ 51) : strSl (wrapT E q b) 60 64 = wdT q := by
  have hl : (txt b).length = b.size := (size_txt b).symm
  refine txt_ext (sl_mid (A := txt (wdT q) ++ ([UInt8.ofNat b.size] ++ (txt b ++ (zr b ++ txt (wdT (sumF E (txT E q b))))))) (D := []) (by rw [wrap_txt E q b hb]; simp only [List.append_assoc, List.append_nil]) ?_ ?_) <;>
    simp only [List.length_append, wd_len, zr_len, hl, List.length_cons, List.length_nil] <;> omega
theorem w_056 (E : World) (q : Int) (b : ByteArray) (hb : b.size ≤ 51) : strSl (wrapT E q b) 0 56 = txT E q b := by
  have hl := tx_size E q b hb
  rw [size_txt] at hl
  exact txt_ext (sl_mid (A := []) (D := txt (wdT (sumF E (txT E q b))) ++ txt (wdT q)) (by rw [wrap_txt E q b hb, tx_txt E q b hb]; simp only [List.append_assoc, List.nil_append]) rfl (by rw [hl]; rfl))
theorem w_56 (E : World) (q : Int) (b : ByteArray) (hb : b.size ≤ 51) : nmF (strSl (wrapT E q b) 56 64) = sumF E (txT E q b) := by
  have hl := tx_size E q b hb
  rw [size_txt] at hl
  refine nm_wd (C := txt (wdT q)) (sl_mid (A := txt (txT E q b)) (D := []) (by rw [wrap_txt E q b hb, tx_txt E q b hb]; simp only [List.append_assoc, List.append_nil]) (by rw [hl]; rfl) (by rw [hl, List.length_append, wd_len, wd_len]; rfl)) (sum_rg E _)
theorem w_4 (E : World) (q : Int) (b : ByteArray) (hb : b.size ≤ 51) : strB (wrapT E q b) 4 = b.size := by
  rw [strB_get (i := 4) (b := UInt8.ofNat b.size) (by rw [wrap_txt E q b hb, wd_txt]; rfl), UInt8.toNat_ofNat']
  omega
theorem w_b (E : World) (q : Int) (b : ByteArray) (hb : b.size ≤ 51) : strSl (wrapT E q b) 5 (5 + (b.size : Int)) = b := by
  refine txt_ext (sl_mid (A := txt (wdT q) ++ [UInt8.ofNat b.size]) (D := zr b ++ (txt (wdT (sumF E (txT E q b))) ++ txt (wdT q))) (by rw [wrap_txt E q b hb]; simp only [List.append_assoc]) ?_ ?_) <;>
    simp only [List.length_append, wd_len, List.length_cons, List.length_nil, size_txt] <;> omega
theorem w_z (E : World) (q : Int) (b : ByteArray) (hb : b.size ≤ 51) : txt (strSl (wrapT E q b) (5 + (b.size : Int)) 56) = zr b := by
  refine sl_mid (A := txt (wdT q) ++ ([UInt8.ofNat b.size] ++ txt b)) (D := txt (wdT (sumF E (txT E q b))) ++ txt (wdT q)) (by rw [wrap_txt E q b hb]; simp only [List.append_assoc]) ?_ ?_ <;>
    simp only [List.length_append, wd_len, zr_len, List.length_cons, List.length_nil, size_txt] at hb ⊢ <;> omega
theorem trim_rep (n : Nat) : Lib.trimB (List.replicate n 0) 0 = [] := by
  unfold Lib.trimB Lib.trimLeftB Lib.trimRightB
  simp
theorem w_t (E : World) (q : Int) (b : ByteArray) (hb : b.size ≤ 51) : trimV (strSl (wrapT E q b) (5 + strB (wrapT E q b) 4) 56) = ByteArray.mk #[] := by
  rw [trimV_eq, w_4 E q b hb]
  have h := w_z E q b hb
  unfold txt at h
  rw [h]; unfold zr; rw [trim_rep]
theorem w_n (E : World) (q : Int) (b : ByteArray) (hb : b.size ≤ 51) (hq : 0 ≤ q ∧ q ≤ 4294967295) : nmF (wrapT E q b) = q := nm_wd (by rw [wrap_txt E q b hb]) hq
/-- What was wrapped is opened as it was. -/
theorem open_wrap {E : World} {q n : Int} {b b2 : ByteArray} {e : Int} (hb : b.size ≤ 51) (hq : 0 ≤ q ∧ q ≤ 4294967295) (h : OpQ E (wrapT E q b) n b2 e) : e = 0 ∧ n = q ∧ b2 = b := by
  have h4 := w_4 E q b hb
  have := h.ok (wrap_size E q b hb) (by rw [w_04 E q b hb, w_60 E q b hb]) (by rw [w_056 E q b hb, w_56 E q b hb]) (by rw [h4]; omega) (w_t E q b hb)
  rw [w_n E q b hb hq, h4, w_b E q b hb] at this
  exact this
theorem aw_p (E : World) (z : PX)  :
    (hdP ([] : List MB).length [] (.c (.c (.b true true))) (fun _ _ => True) z (fnTree (pe E) (orcD2 E) (tabL fns) 20000 Tryd.f9 [] (mkM z [] [] 0))) =
    ((([] : SW) = [] ∧ (GOK E ∧ (1 : Nat) ≤ (4611686018427387904 : Nat)) ∧ (0 : Int) ≤ (1 : Int) ∧ (1 : Int) ≤ (4294967295 : Int)) ∧ ∀ (y : PX), True ∧ True ∧ WrQ E (1 : Int)
      (ByteArray.mk #[(120 : UInt8)]) (y.s (90000 : Nat)) (y.n (90001 : Nat)) → (([] : SW) = [] ∧ GOK E ∧ (y.s (90000 : Nat)).size ≤ (4611686018427387904 : Nat)) ∧ ∀ (y_1 : PX),
      True ∧ (((0 : Int) ≤ y_1.n (90000 : Nat) ∧ y_1.n (90000 : Nat) ≤ (4294967295 : Int)) ∧ True) ∧ OpQ E (y.s (90000 : Nat)) (y_1.n (90000 : Nat)) (y_1.s (90001 : Nat)) (y_1.n
      (90002 : Nat)) → (([] : SW) = [] ∧ True) ∧ ∀ (y_2 : PX), True ∧ True ∧ CmQ (1 : Int) (300 : Int) (ByteArray.mk #[(97 : UInt8)]) (y_2.s (90000 : Nat)) (y_2.n (90001 : Nat))
      → (room (4 : Nat) && Nat.ble (3 : Nat) (1000000 : Nat)) = true ∧ ((y.n (90001 : Nat) == (0 : Int)) = true → ((y_1.n (90002 : Nat) == (0 : Int)) = true → ((y_2.n (90001 :
      Nat) == (0 : Int)) = true → ((y_1.n (90000 : Nat) == (1 : Int)) = true → ((false ^^ y_1.s (90001 : Nat) == ByteArray.mk #[(120 : UInt8)]) = true → ((false ^^ y_2.s (90000
      : Nat) == ByteArray.mk #[(1 : UInt8), (44 : UInt8), (1 : UInt8), (0 : UInt8), (0 : UInt8), (97 : UInt8)]) = true → ([] : SW) = [] ∧ True ∧ True) ∧ ((false ^^ y_2.s (90000
      : Nat) == ByteArray.mk #[(1 : UInt8), (44 : UInt8), (1 : UInt8), (0 : UInt8), (0 : UInt8), (97 : UInt8)]) = false → ([] : SW) = [] ∧ False ∧ True)) ∧ ((false ^^ y_1.s
      (90001 : Nat) == ByteArray.mk #[(120 : UInt8)]) = false → ([] : SW) = [] ∧ False ∧ True)) ∧ ((y_1.n (90000 : Nat) == (1 : Int)) = false → ([] : SW) = [] ∧ False ∧ True)) ∧
      ((y_2.n (90001 : Nat) == (0 : Int)) = false → ([] : SW) = [] ∧ False ∧ True)) ∧ ((y_1.n (90002 : Nat) == (0 : Int)) = false → ([] : SW) = [] ∧ False ∧ True)) ∧ ((y.n
      (90001 : Nat) == (0 : Int)) = false → ([] : SW) = [] ∧ False ∧ True)) := by kernel_rfl
theorem aw_c (E : World)  (z : PX) (hz : rgM z [] 0) (hp : (fun _ => GOK E) z) : HD (pe E) 9 [] [] [] (.c (.c (.b true true))) (fun _ _ => True) z := by
  refine HD.mk (by rfl) (fnTree_sound (P := pe E) orcD2_ok tab_ok tab_sz mixed 20000 Tryd.func9 (by decide) [] _) ⟨?_⟩
  rw [aw_p]
  have hq : (0 : Int) ≤ 1 ∧ (1 : Int) ≤ 4294967295 := by decide
  refine ⟨?_, fun y hy => ?_⟩
  · (repeat' (first | exact trivial | with_reducible rfl | exact hp | apply And.intro)) <;> omega
  have hb : (ByteArray.mk #[(120 : UInt8)]).size ≤ 51 := by decide
  have hw := hy.2.2.sh hb
  refine ⟨⟨rfl, hp, by rw [hw.1, wrap_size E _ _ hb]; omega⟩, fun y1 hy1 => ?_⟩
  have ho := hy1.2.2
  rw [hw.1] at ho
  have ho := open_wrap hb hq ho
  refine ⟨⟨rfl, trivial⟩, fun y2 hy2 => ?_⟩
  have hv : vlF 1 300 (ByteArray.mk #[(97 : UInt8)]) = true := by decide +kernel
  have hc := hy2.2.2.ok hv
  have hct : cmT 1 300 (ByteArray.mk #[(97 : UInt8)]) = ByteArray.mk #[(1 : UInt8), (44 : UInt8), (1 : UInt8), (0 : UInt8), (0 : UInt8), (97 : UInt8)] := by
    refine txt_ext ?_
    rw [cmT_eq, txt_catB]
    simp only [List.map_cons, List.map_nil, List.flatten_cons, List.flatten_nil, List.append_nil, wd_txt]
    rfl
  rw [hct] at hc
  have hr : (ByteArray.mk #[(120 : UInt8)] == ByteArray.mk #[(120 : UInt8)]) = true := rfl
  have hr2 : (ByteArray.mk #[(1 : UInt8), (44 : UInt8), (1 : UInt8), (0 : UInt8), (0 : UInt8), (97 : UInt8)] == ByteArray.mk #[(1 : UInt8), (44 : UInt8), (1 : UInt8), (0 : UInt8), (0 : UInt8), (97 : UInt8)]) = true := rfl
  simp only [hw.2, ho.1, ho.2.1, ho.2.2, hc.1, hc.2, hr, hr2]
  refine ⟨rfl, ?_⟩
  (repeat' (first | exact trivial | apply And.intro | (intro h; first | (exact absurd h (by decide)) | skip)))
noncomputable def orcA (E : World) : Orc := fun g vs s => match g with
  | 9 => (match frGo [] vs s (fun vs0 π s1 s0 => match vs0 with
      | [] => some (hdG (pre := fun _ => GOK E) (fun z hz hp => HD.args (vs := []) (by simp [simL, SV.sim, C.sim]) (aw_c E z hz hp)) (by rfl) π s1 s0)
      | _ => none) with
    | some t => some t
    | none => (orcD2 E) g vs s)
  | g => (orcD2 E) g vs s
theorem orcA_ok {E : World} : OrcOK (pe E) (orcA E) := by
  intro g vs s t h
  unfold orcA at h
  split at h
  · split at h
    · rename_i hfr; cases h
      obtain ⟨π, s1, hq, hK, hv, hok, hpd⟩ := frGo_spec (P := pe E) hfr
      split at hK
      · rename_i heq; cases hK
        rw [heq] at hv hok
        exact hpd _ _ (hdG_ok _ _ π s1 hq hv hok)
      · cases hK
    · exact orcD2_ok _ _ _ _ h
  · exact orcD2_ok _ _ _ _ h
end Go.Proofs.YtnfmkfmgaohpfaaDoor

