import Derived.Test.YtnfmkfmgaohpfaaDoorSW
set_option linter.unusedVariables false
set_option linter.unusedSimpArgs false
namespace Go.Proofs.YtnfmkfmgaohpfaaDoor
open Go Go.Proofs Go.Proofs.YtnfmkfmgaohpfaaDoor.Ev Go.Proofs.YtnfmkfmgaohpfaaDoor.Ev.Ho
set_option maxRecDepth 100000
structure OpZ (E : World) (x : ByteArray) (n : Int) (b : ByteArray) (e : Int) : Prop where
  len : x.size ≠ 64 → e = 30 ∧ n = 0 ∧ b = ByteArray.mk #[]
  torn : x.size = 64 → strSl x 0 4 ≠ strSl x 60 64 → e = 20 ∧ n = 0 ∧ b = ByteArray.mk #[]
  sum : x.size = 64 → strSl x 0 4 = strSl x 60 64 → sumF E (strSl x 0 56) ≠ nmF (strSl x 56 64) → e = 21 ∧ n = 0 ∧ b = ByteArray.mk #[]
  form : x.size = 64 → strSl x 0 4 = strSl x 60 64 → sumF E (strSl x 0 56) = nmF (strSl x 56 64) → 51 < strB x 4 ∨ trimV (strSl x (5 + strB x 4) 56) ≠ ByteArray.mk #[] → e = 30 ∧ n = 0 ∧ b = ByteArray.mk #[]
  ok : x.size = 64 → strSl x 0 4 = strSl x 60 64 → sumF E (strSl x 0 56) = nmF (strSl x 56 64) → strB x 4 ≤ 51 → trimV (strSl x (5 + strB x 4) 56) = ByteArray.mk #[] → e = 0 ∧ n = nmF x ∧ b = strSl x 5 (5 + strB x 4)
theorem dw_all (p : UInt8 → Bool) : ∀ l : List UInt8, (∀ b ∈ l.dropWhile p, p b = true) → ∀ b ∈ l, p b = true
  | [], _, b, hb => by cases hb
  | a :: r, h, b, hb => by
    rw [List.dropWhile_cons] at h
    by_cases ha : p a = true
    · rw [if_pos ha] at h
      rcases List.mem_cons.1 hb with rfl | hb
      · exact ha
      · exact dw_all p r h b hb
    · rw [if_neg ha] at h
      exact absurd (h a List.mem_cons_self) ha
theorem all0 {s : ByteArray} (h : trimV s = ByteArray.mk #[]) : ∀ i : Int, 0 ≤ i → i < s.size → strB s i = 0 := by
  have h := congrArg txt h
  rw [trimV_eq] at h
  have h : Lib.trimB (txt s) 0 = [] := by simpa [txt] using h
  have ha : ∀ b ∈ txt s, b = 0 := by
    intro b hb
    unfold Lib.trimB Lib.trimLeftB Lib.trimRightB at h
    have h1 := dw_all (· == (0 : UInt8)) _ (by rw [h]; intro b hb; cases hb)
    have h2 := dw_all (· == (0 : UInt8)) (txt s).reverse (fun b hb => h1 b (List.mem_reverse.2 hb))
    exact eq_of_beq (h2 b (List.mem_reverse.2 hb))
  intro i h0 h1
  rw [size_txt] at h1
  rw [strB_txt, List.getElem?_eq_getElem (by omega)]
  show (((txt s)[i.toNat]).toNat : Int) = 0
  rw [ha _ (List.getElem_mem _)]; rfl
theorem wd_nm (t : ByteArray) (i : Int) (h0 : 0 ≤ i) (h1 : i < 4) : strB (wdT (nmF t)) i = strB t i := by
  have nv := nm_val t
  have b0 := strB_bd t 0; have b1 := strB_bd t 1; have b2 := strB_bd t 2; have b3 := strB_bd t 3
  obtain ⟨w0, w1, w2, w3⟩ := wd_b (nmF t)
  have hi : i = 0 ∨ i = 1 ∨ i = 2 ∨ i = 3 := by omega
  rcases hi with rfl | rfl | rfl | rfl
  · rw [w0]; omega
  · rw [w1]; omega
  · rw [w2]; omega
  · rw [w3]; omega
theorem wrap_back {E : World} {x : ByteArray} (hx : x.size = 64) (h1 : strSl x 0 4 = strSl x 60 64) (h2 : sumF E (strSl x 0 56) = nmF (strSl x 56 64)) (h3 : strB x 4 ≤ 51) (h4 : trimV (strSl x (5 + strB x 4) 56) = ByteArray.mk #[]) : wrapT E (nmF x) (strSl x 5 (5 + strB x 4)) = x := by
  have bd := strB_bd x 4
  have zb := size_strSl x 5 (5 + strB x 4) (by omega) (by omega) (by omega)
  have hb : (strSl x 5 (5 + strB x 4)).size ≤ 51 := by omega
  have zz := size_strSl x (5 + strB x 4) 56 (by omega) (by omega) (by omega)
  have z0 := all0 h4
  generalize hB : strSl x 5 (5 + strB x 4) = b at *
  have hW := wrap_size E (nmF x) b hb
  have lo : ∀ i : Int, 0 ≤ i → i < 56 → strB (wrapT E (nmF x) b) i = strB x i := fun i i0 i1 => by
    by_cases c1 : i < 4
    · rw [← wd_nm x i i0 c1, ← w_04 E (nmF x) b hb, strB_strSl _ _ _ _ (by omega) (by omega) i0 (by omega), Int.zero_add]
    · by_cases c2 : i = 4
      · rw [c2, w_4 E (nmF x) b hb]; omega
      · by_cases c3 : i < 5 + strB x 4
        · have e1 := strB_strSl (wrapT E (nmF x) b) 5 (5 + (b.size : Int)) (i - 5) (by omega) (by omega) (by omega) (by omega)
          have e2 := strB_strSl x 5 (5 + strB x 4) (i - 5) (by omega) (by omega) (by omega) (by omega)
          rw [w_b E (nmF x) b hb] at e1
          rw [hB] at e2
          rw [show 5 + (i - 5) = i by omega] at e1 e2
          rw [← e1, e2]
        · rw [w_zb E (nmF x) b hb i (by omega) i1]
          have e := strB_strSl x (5 + strB x 4) 56 (i - (5 + strB x 4)) (by omega) (by omega) (by omega) (by omega)
          rw [z0 _ (by omega) (by omega), show 5 + strB x 4 + (i - (5 + strB x 4)) = i by omega] at e
          exact e
  have y1 := size_strSl (wrapT E (nmF x) b) 0 56 (by omega) (by omega) (by omega)
  have y2 := size_strSl x 0 56 (by omega) (by omega) (by omega)
  have e56 : txT E (nmF x) b = strSl x 0 56 := by
    rw [← w_056 E (nmF x) b hb]
    refine sB_ext (by omega) fun i i0 i1 => ?_
    rw [strB_strSl _ _ _ _ (by omega) (by omega) i0 (by omega), strB_strSl _ _ _ _ (by omega) (by omega) i0 (by omega), Int.zero_add, lo i i0 (by omega)]
  refine sB_ext (by omega) fun i i0 i1 => ?_
  by_cases c1 : i < 56
  · exact lo i i0 c1
  · by_cases c2 : i < 60
    · have e1 := strB_strSl (wrapT E (nmF x) b) 56 60 (i - 56) (by omega) (by omega) (by omega) (by omega)
      have e2 := strB_strSl x 56 64 (i - 56) (by omega) (by omega) (by omega) (by omega)
      rw [w_5660 E (nmF x) b hb, e56, h2, wd_nm _ _ (by omega) (by omega), e2] at e1
      rw [show 56 + (i - 56) = i by omega] at e1
      exact e1.symm
    · have e1 := strB_strSl (wrapT E (nmF x) b) 60 64 (i - 60) (by omega) (by omega) (by omega) (by omega)
      have e2 := strB_strSl x 60 64 (i - 60) (by omega) (by omega) (by omega) (by omega)
      have e3 := strB_strSl x 0 4 (i - 60) (by omega) (by omega) (by omega) (by omega)
      rw [w_60 E (nmF x) b hb, wd_nm x _ (by omega) (by omega)] at e1
      rw [← h1, e3, Int.zero_add] at e2
      rw [show 60 + (i - 60) = i by omega] at e1 e2
      rw [← e1, e2]
theorem wd_nm_eq (t : ByteArray) (h : 4 ≤ t.size) : wdT (nmF t) = strSl t 0 4 := by
  have z := size_strSl t 0 4 (by omega) (by omega) (by omega)
  have w := wd_size (nmF t)
  refine sB_ext (by omega) fun i i0 i1 => ?_
  rw [wd_nm t i i0 (by omega), strB_strSl _ _ _ _ (by omega) (by omega) i0 (by omega), Int.zero_add]
theorem s_5660 {x : ByteArray} (hx : x.size = 64) : strSl (strSl x 56 64) 0 4 = strSl x 56 60 := by
  have z := size_strSl x 56 64 (by omega) (by omega) (by omega)
  have z1 := size_strSl (strSl x 56 64) 0 4 (by omega) (by omega) (by omega)
  have z2 := size_strSl x 56 60 (by omega) (by omega) (by omega)
  refine sB_ext (by omega) fun i i0 i1 => ?_
  rw [strB_strSl _ _ _ _ (by omega) (by omega) i0 (by omega), strB_strSl _ _ _ _ (by omega) (by omega) (by omega) (by omega), strB_strSl _ _ _ _ (by omega) (by omega) i0 (by omega), Int.zero_add]
theorem wd_inj {x y : Int} (h : wdT x = wdT y) (hx : 0 ≤ x ∧ x ≤ 4294967295) (hy : 0 ≤ y ∧ y ≤ 4294967295) : x = y := by
  rw [← nm_wd (t := wdT x) (C := []) (by rw [List.append_nil]) hx, h, nm_wd (t := wdT y) (C := []) (by rw [List.append_nil]) hy]
end Go.Proofs.YtnfmkfmgaohpfaaDoor

