import Derived.Test.YthgcieloijmgdaaXB
import Derived.Test.YthgcieloijmgdaaWL
set_option linter.unusedVariables false
set_option linter.unusedSimpArgs false
namespace Go.Proofs.Ythgcieloijmgdaa
open Go Go.Proofs Go.Proofs.Ythgcieloijmgdaa.Ev Go.Proofs.Ythgcieloijmgdaa.Ev.Ho
set_option maxRecDepth 100000
noncomputable def dl (w : Nat) (n : Int) : List UInt8 := (List.range w).map fun j => UInt8.ofNat (48 + n / 2 ^ (w - 1 - j) % 2).toNat
theorem dl_len (w : Nat) (n : Int) : (dl w n).length = w := by unfold dl; simp
theorem dl_get {w : Nat} {n : Int} {j : Nat} (h : j < w) : (dl w n)[j]? = some (UInt8.ofNat (48 + n / 2 ^ (w - 1 - j) % 2).toNat) := by
  unfold dl; rw [List.getElem?_map, List.getElem?_range h]; rfl
theorem dl_mem {w : Nat} {n : Int} {b : UInt8} (h : b ∈ dl w n) : b.toNat = 48 ∨ b.toNat = 49 := by
  unfold dl at h
  obtain ⟨j, _, rfl⟩ := List.mem_map.1 h
  rw [UInt8.toNat_ofNat']
  have := Int.emod_two_eq (n / 2 ^ (w - 1 - j))
  rcases this with h | h <;> rw [h] <;> decide
theorem numT6_dl (n : Int) : txt (numT6 n) = dl 6 n := by
  rw [numT6_txt]
  have e : ∀ K : Int, 0 < K → UInt8.ofNat (cn n K).toNat = UInt8.ofNat (48 + n / K % 2).toNat := fun K hK => by rw [cn_eq n K hK]
  simp only [e 32 (by decide), e 16 (by decide), e 8 (by decide), e 4 (by decide), e 2 (by decide), e 1 (by decide)]
  rfl
theorem numT14_dl (n : Int) : txt (numT14 n) = dl 14 n := by
  rw [numT14_txt]
  have e : ∀ K : Int, 0 < K → UInt8.ofNat (cn n K).toNat = UInt8.ofNat (48 + n / K % 2).toNat := fun K hK => by rw [cn_eq n K hK]
  simp only [e 8192 (by decide), e 4096 (by decide), e 2048 (by decide), e 1024 (by decide), e 512 (by decide), e 256 (by decide), e 128 (by decide), e 64 (by decide), e 32 (by decide), e 16 (by decide), e 8 (by decide), e 4 (by decide), e 2 (by decide), e 1 (by decide)]
  rfl
theorem numT32_dl (n : Int) : txt (numT32 n) = dl 32 n := by
  rw [numT32_txt]
  have e : ∀ K : Int, 0 < K → UInt8.ofNat (cn n K).toNat = UInt8.ofNat (48 + n / K % 2).toNat := fun K hK => by rw [cn_eq n K hK]
  simp only [e 2147483648 (by decide), e 1073741824 (by decide), e 536870912 (by decide), e 268435456 (by decide), e 134217728 (by decide), e 67108864 (by decide), e 33554432 (by decide), e 16777216 (by decide), e 8388608 (by decide), e 4194304 (by decide), e 2097152 (by decide), e 1048576 (by decide), e 524288 (by decide), e 262144 (by decide), e 131072 (by decide), e 65536 (by decide), e 32768 (by decide), e 16384 (by decide), e 8192 (by decide), e 4096 (by decide), e 2048 (by decide), e 1024 (by decide), e 512 (by decide), e 256 (by decide), e 128 (by decide), e 64 (by decide), e 32 (by decide), e 16 (by decide), e 8 (by decide), e 4 (by decide), e 2 (by decide), e 1 (by decide)]
  rfl
theorem dl_app (d : Int) (h0 : 0 ≤ d) : dl 32 (d / 4294967296) ++ dl 32 (d % 4294967296) = dl 64 d := by
  refine List.ext_getElem? fun k => ?_
  have p32 : (2 : Int) ^ 32 = 4294967296 := rfl
  by_cases h1 : k < 32
  · rw [List.getElem?_append_left (by rw [dl_len]; exact h1), dl_get h1, dl_get (by omega)]
    rw [← p32, Int.ediv_ediv_of_nonneg (by decide), ← Int.pow_add, show 32 + (32 - 1 - k) = 64 - 1 - k by omega]
  · by_cases h2 : k < 64
    · rw [List.getElem?_append_right (by rw [dl_len]; omega), dl_len, dl_get (by omega), dl_get h2]
      have e : 32 - 1 - (k - 32) = 64 - 1 - k := by omega
      rw [e]
      generalize hm : 64 - 1 - k = m
      have hm31 : m ≤ 31 := by omega
      have e2 : (4294967296 : Int) = 2 ^ m * (2 * 2 ^ (31 - m)) := by
        rw [← p32, show (32 : Nat) = m + (1 + (31 - m)) by omega, Int.pow_add, Int.pow_add]
        rfl
      have e3 : d % 4294967296 / 2 ^ m % 2 = d / 2 ^ m % 2 := by
        have hp : (0 : Int) < 2 ^ m := Int.pow_pos (by decide)
        have h5 := Int.emod_add_mul_ediv d 4294967296
        have h6 : d / 2 ^ m = d % 4294967296 / 2 ^ m + 2 * 2 ^ (31 - m) * (d / 4294967296) := by
          conv => lhs; rw [← h5]
          rw [show d % 4294967296 + 4294967296 * (d / 4294967296) = d % 4294967296 + (2 * 2 ^ (31 - m) * (d / 4294967296)) * 2 ^ m by
            conv => lhs; rw [show (4294967296 : Int) * (d / 4294967296) = 2 ^ m * (2 * 2 ^ (31 - m)) * (d / 4294967296) by rw [← e2]]
            rw [Int.mul_comm (2 ^ m), Int.mul_assoc _ (2 ^ m), Int.mul_comm (2 ^ m), ← Int.mul_assoc]]
          rw [Int.add_mul_ediv_right _ _ (by omega)]
        rw [h6, Int.mul_assoc, Int.add_mul_emod_self_left]
      rw [e3]
    · rw [List.getElem?_eq_none (by simp [dl_len]; omega), List.getElem?_eq_none (by rw [dl_len]; omega)]
theorem strB_get {t : ByteArray} {i : Int} {b : UInt8} (h : (txt t)[i.toNat]? = some b) : strB t i = b.toNat := by rw [strB_txt, h]
theorem strB_dig {t : ByteArray} (h : ∀ b ∈ txt t, b.toNat = 48 ∨ b.toNat = 49) {i : Int} (h0 : 0 ≤ i) (h1 : i < t.size) : strB t i = 48 ∨ strB t i = 49 := by
  rw [size_txt] at h1
  have hl : i.toNat < (txt t).length := by omega
  have e : (txt t)[i.toNat]? = some ((txt t)[i.toNat]'hl) := List.getElem?_eq_getElem hl
  rw [strB_get e]
  rcases h _ (List.getElem_mem hl) with h | h <;> rw [h] <;> simp
theorem vF_dl {t : ByteArray} {a : Int} {w : Nat} {n : Int} (ha : 0 ≤ a) (hn : 0 ≤ n) (hn2 : n < 2 ^ w) (h : ∀ j : Nat, j < w → (txt t)[a.toNat + j]? = (dl w n)[j]?) : vF t a w = n := by
  have key : ∀ k : Nat, k ≤ w → vF t a k = n / 2 ^ (w - k) := by
    intro k
    induction k with
    | zero => intro _; rw [Nat.sub_zero, Int.ediv_eq_zero_of_lt hn hn2]; rfl
    | succ k ih =>
      intro hk
      have e := h k (by omega)
      rw [dl_get (by omega)] at e
      have e2 : strB t (a + (k : Int)) = 48 + n / 2 ^ (w - 1 - k) % 2 := by
        rw [strB_get (i := a + (k : Int)) (by rw [show (a + (k : Int)).toNat = a.toNat + k by omega]; exact e), UInt8.toNat_ofNat']
        have := Int.emod_two_eq (n / 2 ^ (w - 1 - k))
        rcases this with h | h <;> rw [h] <;> decide
      simp only [vF]
      rw [ih (by omega), e2]
      rw [show w - (k + 1) = w - 1 - k by omega, show w - k = (w - 1 - k) + 1 by omega, Int.pow_succ, ← Int.ediv_ediv_of_nonneg (Int.pow_nonneg (by decide))]
      omega
  rw [key w (Nat.le_refl w), Nat.sub_self]; simp
theorem txt_byT (x : Int) (h0 : 0 ≤ x) : txt (byT x) = [UInt8.ofNat (x / 72057594037927936 % 256).toNat, UInt8.ofNat (x / 281474976710656 % 256).toNat, UInt8.ofNat (x / 1099511627776 % 256).toNat, UInt8.ofNat (x / 4294967296 % 256).toNat, UInt8.ofNat (x / 16777216 % 256).toNat, UInt8.ofNat (x / 65536 % 256).toNat, UInt8.ofNat (x / 256 % 256).toNat, UInt8.ofNat (x / 1 % 256).toNat] := by
  have e : ∀ K : Int, 0 ≤ K → IntKind.u8.wrap (x.fdiv K) = x / K % 256 := fun K hK => by rw [fdiv_lit _ _ hK, wu8]
  rw [byT_eq, txt_bytesN, e _ (by decide), e _ (by decide), e _ (by decide), e _ (by decide), e _ (by decide), e _ (by decide), e _ (by decide), e _ (by decide)]; rfl
theorem u8i (x : Int) : ((UInt8.ofNat (x % 256).toNat).toNat : Int) = x % 256 := by rw [UInt8.toNat_ofNat']; omega
/-- The image behind a write. -/
theorem ap_txt {E : World} {n : Nat} {u d : Int} (hn : (8 : Int) ≤ n) (hu : 0 ≤ u) (hu2 : u + 8 ≤ n) : txt (apT (repV E (ByteArray.mk #[255]) n) u d) = List.replicate u.toNat 255 ++ txt (byT d) ++ List.replicate (n - u - 8).toNat 255 := by
  have hr : txt (repV E (ByteArray.mk #[255]) n) = List.replicate n 255 := by
    rw [repV_eq, txt_repB]; exact rep1 255 n
  rw [apT_eq, txt_catB]
  simp only [List.map_cons, List.map_nil, List.flatten_cons, List.flatten_nil, List.append_nil, txt_strSl, hr]
  rw [List.append_assoc, List.take_replicate, List.drop_replicate, List.take_replicate, List.drop_replicate, size_repV]
  congr 1
  · congr 1
    omega
  · congr 2
    show min ((((n : Int)).toNat * 1 : Nat) : Int).toNat n - (u + 8).toNat = _
    omega
theorem ap_size {E : World} {n : Nat} {u d : Int} (hn : (8 : Int) ≤ n) (hu : 0 ≤ u) (hu2 : u + 8 ≤ n) : (apT (repV E (ByteArray.mk #[255]) n) u d).size = n := by
  rw [size_txt, ap_txt hn hu hu2]
  simp only [List.length_append, List.length_replicate]
  rw [← size_txt, byT_size]; omega
theorem ap_l {E : World} {n : Nat} {u d : Int} (hn : (8 : Int) ≤ n) (hu : 0 ≤ u) (hu2 : u + 8 ≤ n) : strSl (apT (repV E (ByteArray.mk #[255]) n) u d) 0 u = repV E (ByteArray.mk #[255]) u := by
  refine txt_ext ?_
  rw [txt_strSl, ap_txt hn hu hu2, repV_eq, txt_repB, show txt (ByteArray.mk #[255]) = [255] from rfl, rep1, List.append_assoc, List.take_append_of_le_length (by simp)]
  simp
theorem ap_r {E : World} {n : Nat} {u d : Int} (hn : (8 : Int) ≤ n) (hu : 0 ≤ u) (hu2 : u + 8 ≤ n) : strSl (apT (repV E (ByteArray.mk #[255]) n) u d) (u + 8) n = repV E (ByteArray.mk #[255]) (n - u - 8) := by
  refine txt_ext ?_
  have hl : (List.replicate u.toNat (255 : UInt8) ++ txt (byT d)).length = (u + 8).toNat := by rw [List.length_append, List.length_replicate, ← size_txt, byT_size]; omega
  rw [txt_strSl, ap_txt hn hu hu2, repV_eq, txt_repB, show txt (ByteArray.mk #[255]) = [255] from rfl, rep1, List.take_of_length_le (by rw [List.length_append, hl, List.length_replicate]; omega), ← hl, List.drop_left]
theorem ap_m {E : World} {n : Nat} {u d : Int} (hn : (8 : Int) ≤ n) (hu : 0 ≤ u) (hu2 : u + 8 ≤ n) : strSl (apT (repV E (ByteArray.mk #[255]) n) u d) u (u + 8) = byT d := by
  refine txt_ext ?_
  have hl : (List.replicate u.toNat (255 : UInt8) ++ txt (byT d)).length = (u + 8).toNat := by rw [List.length_append, List.length_replicate, ← size_txt, byT_size]; omega
  rw [txt_strSl, ap_txt hn hu hu2, ← hl, List.take_left]
  have : u.toNat = (List.replicate u.toNat (255 : UInt8)).length := by simp
  rw [show (List.replicate u.toNat (255 : UInt8) ++ txt (byT d)).drop u.toNat = (List.replicate u.toNat (255 : UInt8) ++ txt (byT d)).drop (List.replicate u.toNat (255 : UInt8)).length by rw [← this], List.drop_left]
theorem ap_o {E : World} {n : Nat} {u d : Int} (hn : (8 : Int) ≤ n) (hu : 0 ≤ u) (hu2 : u + 8 ≤ n) (h0 : 0 ≤ d) (h1 : d ≤ 18446744073709551615) : oF (apT (repV E (ByteArray.mk #[255]) n) u d) u = d := by
  have hg : ∀ k : Nat, k < 8 → ∀ b, (txt (byT d))[k]? = some b → strB (apT (repV E (ByteArray.mk #[255]) n) u d) (u + k) = b.toNat := by
    intro k hk b hb
    refine strB_get ?_
    rw [ap_txt hn hu hu2, List.append_assoc, show (u + (k : Int)).toNat = u.toNat + k by omega, List.getElem?_append_right (by simp), List.length_replicate, Nat.add_sub_cancel_left, List.getElem?_append_left (by rw [← size_txt, byT_size]; exact hk)]
    exact hb
  have ht := txt_byT d h0
  have g0 := hg 0 (by omega) _ (by rw [ht]; rfl)
  have g1 := hg 1 (by omega) _ (by rw [ht]; rfl)
  have g2 := hg 2 (by omega) _ (by rw [ht]; rfl)
  have g3 := hg 3 (by omega) _ (by rw [ht]; rfl)
  have g4 := hg 4 (by omega) _ (by rw [ht]; rfl)
  have g5 := hg 5 (by omega) _ (by rw [ht]; rfl)
  have g6 := hg 6 (by omega) _ (by rw [ht]; rfl)
  have g7 := hg 7 (by omega) _ (by rw [ht]; rfl)
  rw [u8i] at g0 g1 g2 g3 g4 g5 g6 g7
  rw [show u + ((0 : Nat) : Int) = u by omega] at g0
  rw [oF_eq, g0, show u + 1 = u + ((1 : Nat) : Int) from rfl, g1, show u + 2 = u + ((2 : Nat) : Int) from rfl, g2, show u + 3 = u + ((3 : Nat) : Int) from rfl, g3, show u + 4 = u + ((4 : Nat) : Int) from rfl, g4, show u + 5 = u + ((5 : Nat) : Int) from rfl, g5, show u + 6 = u + ((6 : Nat) : Int) from rfl, g6, show u + 7 = u + ((7 : Nat) : Int) from rfl, g7]
  have s7 : d / 1 = d := Int.ediv_one d
  have s6 : d / 65536 = d / 256 / 256 := by rw [Int.ediv_ediv_of_nonneg (by decide)]; rfl
  have s5 : d / 16777216 = d / 65536 / 256 := by rw [Int.ediv_ediv_of_nonneg (by decide)]; rfl
  have s4 : d / 4294967296 = d / 16777216 / 256 := by rw [Int.ediv_ediv_of_nonneg (by decide)]; rfl
  have s3 : d / 1099511627776 = d / 4294967296 / 256 := by rw [Int.ediv_ediv_of_nonneg (by decide)]; rfl
  have s2 : d / 281474976710656 = d / 1099511627776 / 256 := by rw [Int.ediv_ediv_of_nonneg (by decide)]; rfl
  have s1 : d / 72057594037927936 = d / 281474976710656 / 256 := by rw [Int.ediv_ediv_of_nonneg (by decide)]; rfl
  have s0 : d / 72057594037927936 < 256 := by omega
  have t0 : 0 ≤ d / 72057594037927936 := by omega
  rw [s7]
  generalize d / 72057594037927936 = a0 at *
  generalize d / 281474976710656 = a1 at *
  generalize d / 1099511627776 = a2 at *
  generalize d / 4294967296 = a3 at *
  generalize d / 16777216 = a4 at *
  generalize d / 65536 = a5 at *
  omega
theorem tm_dig {w : Nat} {U : Int} {c : List UInt8} (hc : ∀ b ∈ c, b.toNat = 48 ∨ b.toNat = 49) {r : Bool} {t : ByteArray} (ht : txt t = 49 :: cond r 49 48 :: (dl w U ++ (c ++ [48]))) : ∀ b ∈ txt t, b.toNat = 48 ∨ b.toNat = 49 := by
  intro b hb
  rw [ht] at hb
  simp only [List.mem_cons, List.mem_append, List.not_mem_nil, or_false] at hb
  rcases hb with rfl | rfl | hb | hb | rfl
  · right; rfl
  · cases r <;> simp
  · exact dl_mem hb
  · exact hc b hb
  · left; rfl
theorem tm_st {w : Nat} {U : Int} {c : List UInt8} (hc : ∀ b ∈ c, b.toNat = 48 ∨ b.toNat = 49) {r : Bool} {t : ByteArray} (ht : txt t = 49 :: cond r 49 48 :: (dl w U ++ (c ++ [48]))) {L : Nat} (hL : w + c.length + 3 = L) : ST t L r := by
  have hl : t.size = L := by rw [size_txt, ht]; simp only [List.length_cons, List.length_append, dl_len, List.length_nil]; omega
  refine ⟨hl, ?_, ?_, fun i h0 h1 => strB_dig (tm_dig hc ht) h0 (by omega)⟩
  · exact strB_get (i := 0) (b := 49) (by rw [ht]; rfl)
  · rw [strB_get (i := 1) (b := cond r 49 48) (by rw [ht]; rfl)]
    cases r <;> rfl
theorem tm_u {w : Nat} {U : Int} {c : List UInt8} {r : Bool} {t : ByteArray} (ht : txt t = 49 :: cond r 49 48 :: (dl w U ++ (c ++ [48]))) (h0 : 0 ≤ U) (h1 : U < 2 ^ w) : vF t 2 w = U := by
  refine vF_dl (by decide) h0 h1 fun j hj => ?_
  rw [ht, show (2 : Int).toNat + j = j + 1 + 1 by show 2 + j = _; omega, List.getElem?_cons_succ, List.getElem?_cons_succ, List.getElem?_append_left (by rw [dl_len]; exact hj)]
theorem tm_d {w : Nat} {U d : Int} {r : Bool} {t : ByteArray} (ht : txt t = 49 :: cond r 49 48 :: (dl w U ++ (dl 64 d ++ [48]))) (h0 : 0 ≤ d) (h1 : d < 2 ^ 64) : vF t (2 + w) 64 = d := by
  refine vF_dl (by omega) h0 h1 fun j hj => ?_
  rw [ht, show (2 + (w : Int)).toNat + j = (w + j) + 1 + 1 by omega, List.getElem?_cons_succ, List.getElem?_cons_succ, List.getElem?_append_right (by rw [dl_len]; omega), dl_len, Nat.add_sub_cancel_left, List.getElem?_append_left (by rw [dl_len]; exact hj)]
theorem OO_of {out d : Int} {b : ByteArray} (hb : txt b = dl 64 d) (he : out = d) : OO out b := ⟨by rw [hb, dl_len], fun k hk => by rw [hb, dl_get hk, he]⟩
theorem SO_0 {b : ByteArray} : SO (ByteArray.mk #[]) b 0 := ⟨rfl⟩
theorem SO_size {s b : ByteArray} {i : Int} (h : SO s b i) (hb : (txt b).length = 64) : s.size ≤ 68 := by
  rw [size_txt, h.e, List.length_take, List.length_append, hb]; simp; omega
theorem SO_next {s b : ByteArray} {i x : Int} (h : SO s b i) (hi : 0 ≤ i) (hx : ([48, 48, 48, 48] ++ txt b)[i.toNat]? = some (UInt8.ofNat x.toNat)) : SO (s ++ bytesN [x]) b (i + 1) := ⟨by
  rw [txt_append, h.e, txt_bytesN, show (i + 1).toNat = i.toNat + 1 by omega, List.take_add_one, hx]; rfl⟩
theorem am32 (d : Int) : bits .and .u64 d 4294967295 = d % 4294967296 := by
  have am := and_mask .u64 d 32 (.inl (by decide))
  have e : (2 : Int) ^ 32 = 4294967296 := rfl
  have e1 : (4294967296 : Int) - 1 = 4294967295 := rfl
  rw [e, e1] at am
  exact am
theorem umod (u N : Int) (hN : 0 < N) (hN2 : N ≤ 100000) : 0 ≤ (IntKind.i64.wrap (u.tmod N + N)).tmod N ∧ (IntKind.i64.wrap (u.tmod N + N)).tmod N < N := by
  have h1 := Int.tmod_lt_of_pos u hN
  have h2 : -N < u.tmod N := by
    have := Int.lt_tmod_of_pos u hN
    omega
  have e : IntKind.i64.wrap (u.tmod N + N) = u.tmod N + N := by rw [wi64]; omega
  rw [e]
  exact ⟨Int.tmod_nonneg N (by omega), Int.tmod_lt_of_pos _ hN⟩
end Go.Proofs.Ythgcieloijmgdaa

