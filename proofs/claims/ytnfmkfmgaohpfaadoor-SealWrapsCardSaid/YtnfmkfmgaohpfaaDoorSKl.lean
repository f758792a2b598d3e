import Derived.Test.YtnfmkfmgaohpfaaDoorSP
set_option linter.unusedVariables false
set_option linter.unusedSimpArgs false
namespace Go.Proofs.YtnfmkfmgaohpfaaDoor
open Go Go.Proofs Go.Proofs.YtnfmkfmgaohpfaaDoor.Ev Go.Proofs.YtnfmkfmgaohpfaaDoor.Ev.Ho
set_option maxRecDepth 100000
theorem sB_ext {x y : ByteArray} (hs : x.size = y.size) (h : ∀ i : Int, 0 ≤ i → i < x.size → strB x i = strB y i) : x = y := by
  refine txt_ext (List.ext_getElem? fun j => ?_)
  have l1 := size_txt x
  have l2 := size_txt y
  by_cases hj : j < x.size
  · have e := h j (by omega) (by omega)
    rw [strB_txt, strB_txt, show ((j : Int)).toNat = j by omega, List.getElem?_eq_getElem (by omega), List.getElem?_eq_getElem (by omega)] at e
    rw [List.getElem?_eq_getElem (by omega), List.getElem?_eq_getElem (by omega)]
    simp only at e
    congr 1
    exact UInt8.toNat_inj.1 (by omega)
  · rw [List.getElem?_eq_none (by omega), List.getElem?_eq_none (by omega)]
/-- The half bytes' numbers. -/
noncomputable def hbN : List Nat := [0, 498536548, 997073096, 651767980, 1994146192, 1802195444, 1303535960, 1342533948, 3988292384, 4027552580, 3604390888, 3412177804, 2607071920, 2262029012, 2685067896, 3183342108]
structure HOK (E : World) : Prop where
  v : ∀ i : Nat, i < 16 → eI E (some (Addr.mk 0 0 none)) (i * 1 + 0) = ((hbN.getD i 0 : Nat) : Int)
theorem hb_top : ∀ i : Nat, i < 16 → ∀ j : Nat, j < 16 → hbN.getD i 0 >>> 28 = hbN.getD j 0 >>> 28 → i = j := by decide
theorem tN_hb {E : World} (h : HOK E) (k : Nat) (hk : k < 16) : tN E k = hbN.getD k 0 := by
  unfold tN; rw [h.v k hk]; omega
theorem xor_r {a b t : Nat} (h : a ^^^ t = b ^^^ t) : a = b := by
  have := congrArg (· ^^^ t) h
  simpa [Nat.xor_assoc] using this
theorem hN_inj {E : World} (h : HOK E) {x y : Nat} (hx : x < 4294967296) (hy : y < 4294967296) (he : hN E x = hN E y) : x = y := by
  unfold hN at he
  have h1 := congrArg (· >>> 28) he
  simp only [Nat.shiftRight_xor_distrib] at h1
  have z : ∀ u : Nat, u < 4294967296 → (u / 16) >>> 28 = 0 := fun u hu => by
    rw [Nat.shiftRight_eq_div_pow]; exact Nat.div_eq_of_lt (by show u / 16 < 268435456; omega)
  rw [z x hx, z y hy, Nat.zero_xor, Nat.zero_xor, tN_hb h _ (by omega), tN_hb h _ (by omega)] at h1
  have h2 := hb_top _ (by omega) _ (by omega) h1
  rw [h2] at he
  have := xor_r he
  omega
theorem tT_inj {E : World} (g : GOK E) (h : HOK E) {x y : Nat} (hx : x < 4294967296) (hy : y < 4294967296) (he : tT E x = tT E y) : x = y :=
  hN_inj h hx hy (hN_inj h (hN_lt g _ hx) (hN_lt g _ hy) he)
theorem xb_lt {c : Nat} {s : ByteArray} {i : Int} (hc : c < 4294967296) : c ^^^ (strB s i).toNat < 4294967296 := by
  have hb := strB_bd s i
  exact Nat.xor_lt_two_pow (n := 32) hc (by omega)
/-- Texts that differ at one byte lead to other states. -/
theorem cN_same {E : World} {x y : ByteArray} : ∀ n : Nat, (∀ i : Nat, i < n → strB x i = strB y i) → cN E x n = cN E y n
  | 0, _ => rfl
  | n + 1, h => by
    show tT E (cN E x n ^^^ (strB x n).toNat) = tT E (cN E y n ^^^ (strB y n).toNat)
    rw [cN_same n fun i hi => h i (by omega), h n (by omega)]
theorem cN_diff {E : World} (g : GOK E) (h : HOK E) {x y : ByteArray} {j : Nat} (hne : strB x j ≠ strB y j) (hs : ∀ i : Nat, i ≠ j → strB x i = strB y i) : ∀ n : Nat, j < n → cN E x n ≠ cN E y n
  | n + 1, hn => fun he => by
    have he : tT E (cN E x n ^^^ (strB x n).toNat) = tT E (cN E y n ^^^ (strB y n).toNat) := he
    have he := tT_inj g h (xb_lt (cN_lt g x n)) (xb_lt (cN_lt g y n)) he
    by_cases hj : j = n
    · subst hj
      rw [cN_same j fun i hi => hs i (by omega), Nat.xor_comm, Nat.xor_comm (cN E y j)] at he
      have := xor_r he
      have b1 := strB_bd x j
      have b2 := strB_bd y j
      omega
    · rw [hs n (fun h => hj h.symm)] at he
      exact cN_diff g h hne hs n (by omega) (xor_r he)
theorem sum_diff {E : World} (g : GOK E) (h : HOK E) {x y : ByteArray} {j : Nat} (hz : x.size = y.size) (hj : j < x.size) (hne : strB x j ≠ strB y j) (hs : ∀ i : Nat, i ≠ j → strB x i = strB y i) : sumF E x ≠ sumF E y := by
  intro he
  rw [sumF_eq, sumF_eq E y, cF_n g, cF_n g, ← hz] at he
  have c1 := cN_lt g x x.size
  have c2 := cN_lt g y x.size
  have n1 := not_u32 (cN E x x.size : Int) (by omega) (by omega)
  have n2 := not_u32 (cN E y x.size : Int) (by omega) (by omega)
  rw [n1, n2] at he
  exact cN_diff g h hne hs x.size hj (by omega)
/-- A byte of a text's row set. -/
noncomputable def setB (s : ByteArray) (j : Nat) (v : Int) : ByteArray := rowT (rSet (rOf s) j [C.i false IntKind.u8 v]) s.size
theorem rOf_len (s : ByteArray) : (rOf s).length = s.size := by rw [rOf_eq, List.length_map, Array.length_toList]; rfl
theorem rOf_get (s : ByteArray) (i : Nat) (hi : i < s.size) : (rOf s)[i]? = some (C.i false .u8 (strB s i)) := by
  have hi' : i < (txt s).length := by rw [← size_txt]; exact hi
  rw [rOf_eq, strB_txt]
  show (List.map _ (txt s))[i]? = _
  rw [List.getElem?_map, show ((i : Int)).toNat = i by omega, List.getElem?_eq_getElem hi']
  rfl
theorem rOf_rI (s : ByteArray) (i : Nat) (hi : i < s.size) : rI (rOf s) i = strB s i := by
  unfold rI rAt; rw [rOf_get s i hi]; rfl
theorem set_get (s : ByteArray) (j : Nat) (v : Int) (hj : j < s.size) (i : Nat) (hi : i < s.size) : (rSet (rOf s) j [C.i false IntKind.u8 v])[i]? = some (C.i false .u8 (if i = j then v else strB s i)) := by
  have hl := rOf_len s
  rw [get_set (by simp only [List.length_cons, List.length_nil]; omega)]
  simp only [List.length_cons, List.length_nil]
  by_cases h : i = j
  · subst h
    rw [if_pos (by omega), if_pos rfl, Nat.sub_self]; rfl
  · rw [if_neg (by omega), if_neg h, rOf_get s i hi]
theorem set_len (s : ByteArray) (j : Nat) (v : Int) (hj : j < s.size) : s.size ≤ (rSet (rOf s) j [C.i false IntKind.u8 v]).length := by
  rcases Nat.lt_or_ge (rSet (rOf s) j [C.i false IntKind.u8 v]).length s.size with h | h
  · have := set_get s j v hj _ h
    rw [List.getElem?_eq_none (Nat.le_refl _)] at this; cases this
  · exact h
theorem set_u8 (s : ByteArray) (j : Nat) (v : Int) (hj : j < s.size) : rowU8 (rSet (rOf s) j [C.i false IntKind.u8 v]) s.size = true := by
  refine rowU8_iff.2 ⟨set_len s j v hj, fun i hi => ?_⟩
  simp only [rOk]
  rw [set_get s j v hj i hi]
  rfl
theorem set_size (s : ByteArray) (j : Nat) (v : Int) : (setB s j v).size = s.size := by
  unfold setB; rw [rowT_eq, size_bytesN, List.length_map, List.length_range]
theorem set_b (s : ByteArray) (j : Nat) (v : Int) (hj : j < s.size) (hv : 0 ≤ v ∧ v < 256) (i : Nat) (hi : i < s.size) : strB (setB s j v) i = if i = j then v else strB s i := by
  unfold setB
  have hb := strB_bd s i
  have e : rI (rSet (rOf s) j [C.i false IntKind.u8 v]) i = if i = j then v else strB s i := by
    unfold rI rAt; rw [set_get s j v hj i hi]; rfl
  have g : strB (rowT (rSet (rOf s) j [C.i false IntKind.u8 v]) s.size) i = (((rI (rSet (rOf s) j [C.i false IntKind.u8 v]) i).toNat % 256 : Nat) : Int) := by
    rw [rowT_eq, strB_txt, txt_bytesN, show ((i : Int)).toNat = i by omega, List.getElem?_map, List.getElem?_map, List.getElem?_range hi]
    simp only [Option.map_some]
    rw [UInt8.toNat_ofNat']
  rw [g, e]
  by_cases hij : i = j
  · rw [if_pos hij]; omega
  · rw [if_neg hij]; omega
theorem w_sym (E : World) (q : Int) (b : ByteArray) (hb : b.size ≤ 51) (i : Int) (h0 : 0 ≤ i) (h1 : i < 4) : strB (wrapT E q b) i = strB (wrapT E q b) (60 + i) := by
  have z := wrap_size E q b hb
  have e0 := strB_strSl (wrapT E q b) 0 4 i (by omega) (by omega) (by omega) (by omega)
  have e1 := strB_strSl (wrapT E q b) 60 64 i (by omega) (by omega) (by omega) (by omega)
  rw [w_04 E q b hb, Int.zero_add] at e0
  rw [w_60 E q b hb] at e1
  rw [← e0, e1]
/-- One byte of a sealed sector turned: torn, or its sum is another. -/
theorem turned {E : World} (g : GOK E) (h : HOK E) {q : Int} {b : ByteArray} (hb : b.size ≤ 51) {j : Nat} (hj : j < 64) {v : Int} (hv : 0 ≤ v ∧ v < 256) (hne : v ≠ strB (wrapT E q b) j) :
    strSl (setB (wrapT E q b) j v) 0 4 = strSl (setB (wrapT E q b) j v) 60 64 → sumF E (strSl (setB (wrapT E q b) j v) 0 56) = nmF (strSl (setB (wrapT E q b) j v) 56 64) → False := by
  intro hp hs
  have z := wrap_size E q b hb
  have sB : ∀ i : Nat, i < 64 → strB (setB (wrapT E q b) j v) i = if i = j then v else strB (wrapT E q b) i := fun i hi => set_b _ _ _ (by omega) hv i (by omega)
  have sz : (setB (wrapT E q b) j v).size = 64 := by rw [set_size, z]
  have sym := w_sym E q b hb
  have sm := w_56 E q b hb
  rw [← w_056 E q b hb] at sm
  generalize hS : wrapT E q b = S at *
  generalize hX : setB S j v = X at *
  have p : ∀ i : Nat, i < 4 → strB X i = strB X ((60 + i : Nat) : Int) := fun i hi => by
    have e0 := strB_strSl X 0 4 i (by omega) (by omega) (by omega) (by omega)
    have e1 := strB_strSl X 60 64 i (by omega) (by omega) (by omega) (by omega)
    rw [hp, Int.zero_add] at e0
    rw [← e0, e1]; congr 1
  have c1 : ¬ j < 4 := fun hj4 => by
    have := p j hj4
    rw [sB j (by omega), sB (60 + j) (by omega), if_pos rfl, if_neg (by omega)] at this
    exact hne (by rw [this, sym j (by omega) (by omega)]; congr 1)
  have c2 : ¬ 60 ≤ j := fun hj4 => by
    have := p (j - 60) (by omega)
    rw [sB (j - 60) (by omega), sB (60 + (j - 60)) (by omega), if_neg (by omega), if_pos (by omega)] at this
    exact hne (by rw [← this, sym (j - 60 : Nat) (by omega) (by omega)]; congr 1; omega)
  have f : ∀ (Y : ByteArray), Y.size = 64 → ∀ i : Nat, i < 8 → strB (strSl Y 56 64) i = strB Y ((56 + i : Nat) : Int) := fun Y hY i hi => by
    rw [strB_strSl Y 56 64 i (by omega) (by omega) (by omega) (by omega)]; congr 1
  have f5 : ∀ (Y : ByteArray), Y.size = 64 → ∀ i : Nat, i < 56 → strB (strSl Y 0 56) i = strB Y i := fun Y hY i hi => by
    rw [strB_strSl Y 0 56 i (by omega) (by omega) (by omega) (by omega), Int.zero_add]
  have y1 := size_strSl X 0 56 (by omega) (by omega) (by omega)
  have y2 := size_strSl S 0 56 (by omega) (by omega) (by omega)
  have nv := nm_val (strSl X 56 64)
  have nw := nm_val (strSl S 56 64)
  have xb : ∀ i : Nat, i < 4 → strB (strSl X 56 64) i = strB X ((56 + i : Nat) : Int) := fun i hi => f X sz i (by omega)
  have xs : ∀ i : Nat, i < 4 → strB (strSl S 56 64) i = strB S ((56 + i : Nat) : Int) := fun i hi => f S z i (by omega)
  by_cases hj6 : j < 56
  · have e : nmF (strSl X 56 64) = nmF (strSl S 56 64) := by
      have k : ∀ i : Nat, i < 4 → strB (strSl X 56 64) i = strB (strSl S 56 64) i := fun i hi => by
        rw [xb i hi, xs i hi, sB (56 + i) (by omega), if_neg (by omega)]
      rw [nv, nw]
      have k0 := k 0 (by omega); have k1 := k 1 (by omega); have k2 := k 2 (by omega); have k3 := k 3 (by omega)
      have n0 : ((0 : Nat) : Int) = 0 := rfl
      have n1 : ((1 : Nat) : Int) = 1 := rfl
      have n2 : ((2 : Nat) : Int) = 2 := rfl
      have n3 : ((3 : Nat) : Int) = 3 := rfl
      rw [n0] at k0; rw [n1] at k1; rw [n2] at k2; rw [n3] at k3
      rw [k0, k1, k2, k3]
    rw [e, sm] at hs
    refine sum_diff g h (j := j) (by omega) (by omega) ?_ (fun i hi => ?_) hs
    · rw [f5 X sz j hj6, f5 S z j hj6, sB j (by omega), if_pos rfl]; exact hne
    · by_cases hi6 : i < 56
      · rw [f5 X sz i hi6, f5 S z i hi6, sB i (by omega), if_neg hi]
      · have o : ∀ Y : ByteArray, Y.size = 56 → strB Y i = 0 := fun Y hY => by
          rw [strB_txt, List.getElem?_eq_none (by rw [← size_txt]; omega)]
        rw [o _ (by omega), o _ (by omega)]
  · have e : strSl X 0 56 = strSl S 0 56 := by
      refine sB_ext (by omega) fun i h0 h1 => ?_
      obtain ⟨i, rfl⟩ := Int.eq_ofNat_of_zero_le h0
      rw [f5 X sz i (by omega), f5 S z i (by omega), sB i (by omega), if_neg (by omega)]
    rw [e, ← sm, nv, nw] at hs
    have b0 := strB_bd (strSl X 56 64) 0; have b1 := strB_bd (strSl X 56 64) 1; have b2 := strB_bd (strSl X 56 64) 2; have b3 := strB_bd (strSl X 56 64) 3
    have a0 := strB_bd (strSl S 56 64) 0; have a1 := strB_bd (strSl S 56 64) 1; have a2 := strB_bd (strSl S 56 64) 2; have a3 := strB_bd (strSl S 56 64) 3
    have q0 : strB (strSl X 56 64) 0 = strB (strSl S 56 64) 0 ∧ strB (strSl X 56 64) 1 = strB (strSl S 56 64) 1 ∧ strB (strSl X 56 64) 2 = strB (strSl S 56 64) 2 ∧ strB (strSl X 56 64) 3 = strB (strSl S 56 64) 3 := by omega
    have k : ∀ i : Nat, i < 4 → strB (strSl X 56 64) i = strB (strSl S 56 64) i := fun i hi => by
      match i, hi with
      | 0, _ => exact q0.1
      | 1, _ => exact q0.2.1
      | 2, _ => exact q0.2.2.1
      | 3, _ => exact q0.2.2.2
    have := k (j - 56) (by omega)
    rw [xb _ (by omega), xs _ (by omega), show 56 + (j - 56) = j by omega, sB j hj, if_pos rfl] at this
    exact hne this
theorem cm_txt {k a : Int} {d : ByteArray} (hv : vlF k a d = true) : txt (cmT k a d) = [UInt8.ofNat k.toNat] ++ (txt (wdT a) ++ txt d) := by
  obtain ⟨ha, hk, hd⟩ := vl_rg hv
  have w1 : IntKind.u8.wrap k = k := by rw [wu8]; omega
  have w2 : IntKind.u32.wrap a = a := by rw [wu32]; omega
  rw [cmT_eq, w1, w2, txt_catB]
  simp only [List.map_cons, List.map_nil, List.flatten_cons, List.flatten_nil, List.append_nil, txt_bytesN]
theorem rd_wrap {E : World} {q k a : Int} {d : ByteArray} (hv : vlF k a d = true) (hq : 0 ≤ q ∧ q ≤ 4294967295) {q' k' a' : Int} {d' : ByteArray} {e : Int} (h : RdQ E (wrapT E q (cmT k a d)) q' k' a' d' e) : e = 0 ∧ q' = q ∧ k' = k ∧ a' = a ∧ d' = d := by
  obtain ⟨ha, hk, hd⟩ := vl_rg hv
  have ht := cm_txt hv
  have cs := cm_size (k := k) (a := a) (d := d)
  have hl := wd_len a
  have hdl := (size_txt d).symm
  have ck : strB (cmT k a d) 0 = k := by
    rw [strB_txt, ht]
    show (((UInt8.ofNat k.toNat).toNat : Nat) : Int) = k
    rw [UInt8.toNat_ofNat']; omega
  have cd : strSl (cmT k a d) 5 (cmT k a d).size = d := txt_ext (sl_mid (A := [UInt8.ofNat k.toNat] ++ txt (wdT a)) (D := []) (by rw [ht]; simp only [List.append_assoc, List.append_nil]) (by simp only [List.length_append, hl, List.length_cons, List.length_nil]; rfl) (by simp only [List.length_append, hl, List.length_cons, List.length_nil]; omega))
  have ca : nmF (strSl (cmT k a d) 1 (cmT k a d).size) = a := by
    refine nm_wd (C := txt d) (sl_mid (A := [UInt8.ofNat k.toNat]) (D := []) (by rw [ht]; simp only [List.append_nil]) rfl (by simp only [List.length_append, hl, List.length_cons, List.length_nil]; omega)) (by omega)
  obtain ⟨n, b, e1, ho, h1, h2⟩ := h.x
  obtain ⟨r1, r2, r3⟩ := open_wrap (by omega) hq ho
  obtain ⟨k2, a2, d2, e2, hc, h3, h4⟩ := h2 r1
  rw [r3] at hc
  have hcd := hc.ok (by omega) (by rw [ck, ca, cd]; exact hv)
  rw [ck, ca, cd] at hcd
  obtain ⟨s1, s2, s3, s4⟩ := hcd
  obtain ⟨t0, t1, t2, t3, t4⟩ := h4 s1
  exact ⟨t0, t1.trans r2, t2.trans s2, t3.trans s3, t4.trans s4⟩
theorem bit_m (t : Int) (h0 : 0 ≤ t) (h1 : t < 8) : ∃ m : Nat, IntKind.u8.wrap (1 * 2 ^ min t.toNat 8) = (m : Int) ∧ 0 < m ∧ m < 256 := by
  have h : t = 0 ∨ t = 1 ∨ t = 2 ∨ t = 3 ∨ t = 4 ∨ t = 5 ∨ t = 6 ∨ t = 7 := by omega
  rcases h with rfl | rfl | rfl | rfl | rfl | rfl | rfl | rfl
  · exact ⟨1, rfl, by omega, by omega⟩
  · exact ⟨2, rfl, by omega, by omega⟩
  · exact ⟨4, rfl, by omega, by omega⟩
  · exact ⟨8, rfl, by omega, by omega⟩
  · exact ⟨16, rfl, by omega, by omega⟩
  · exact ⟨32, rfl, by omega, by omega⟩
  · exact ⟨64, rfl, by omega, by omega⟩
  · exact ⟨128, rfl, by omega, by omega⟩
end Go.Proofs.YtnfmkfmgaohpfaaDoor

