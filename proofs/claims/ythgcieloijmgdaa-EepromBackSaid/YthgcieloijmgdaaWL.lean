import Derived.Test.YthgcieloijmgdaaWA
set_option linter.unusedVariables false
set_option linter.unusedSimpArgs false
namespace Go.Proofs.Ythgcieloijmgdaa
open Go Go.Proofs Go.Proofs.Ythgcieloijmgdaa.Ev Go.Proofs.Ythgcieloijmgdaa.Ev.Ho
set_option maxRecDepth 100000
theorem beqB {a b : ByteArray} (h : (a == b) = true) : a = b := by
  cases a; cases b
  have := @eq_of_beq (Array UInt8) _ _ _ _ h
  exact congrArg ByteArray.mk this
theorem beqS (a : ByteArray) : (a == a) = true := by
  cases a with | mk d => exact beq_self_eq_true d
theorem rowOK {l : List C} {n : Nat} (h : Row [.r .u8 0 255] l) (hn : n ≤ l.length) : rowU8 l n = true :=
  rowU8_iff.2 ⟨hn, fun j hj => h.rOk (q := .r .u8 0 255) (by omega) (by simp [Nat.mod_one]) rfl⟩
theorem bits_64 (op : BinOp) (x y : Int) : bits op .i64 x y = IntKind.i64.wrap (bits op .u64 x y) := by
  have w64 : ∀ v : Int, IntKind.i64.wrap v = IntKind.i64.wrap (IntKind.u64.wrap v) := fun v => by rw [wi64, wi64, wu64]; omega
  unfold bits
  exact w64 _
theorem orU (a b m : Nat) (k : Nat) (hm : m = 2 ^ k) (hb : b < m) (h : a * m + b < 2 ^ 64) : bits .or .u64 ((a * m : Nat) : Int) ((b : Nat) : Int) = ((a * m + b : Nat) : Int) := by
  subst hm
  rw [bits_or_n .u64 rfl _ _ (by show a * 2 ^ k < 2 ^ 64; omega) (by show b < 2 ^ 64; omega), Nat.mul_comm a, ← Nat.two_pow_add_eq_or_of_lt hb]
theorem or256 (a x : Int) (h0 : 0 ≤ a) (h1 : a < 72057594037927936) (hx : 0 ≤ x ∧ x ≤ 255) : bits .or .u64 (IntKind.u64.wrap (a * 256)) (IntKind.u64.wrap x) = a * 256 + x := by
  have e1 : IntKind.u64.wrap (a * 256) = ((a.toNat * 256 : Nat) : Int) := by rw [wu64]; omega
  have e2 : IntKind.u64.wrap x = ((x.toNat : Nat) : Int) := by rw [wu64]; omega
  rw [e1, e2, orU a.toNat x.toNat 256 8 rfl (by omega) (by omega)]; omega
theorem or2 (a x : Int) (h0 : 0 ≤ a) (h1 : a < 1048576) (hx : 0 ≤ x ∧ x ≤ 1) : bits .or .i64 (IntKind.i64.wrap (a * 2)) (IntKind.i64.wrap x) = a * 2 + x := by
  have e1 : IntKind.i64.wrap (a * 2) = ((a.toNat * 2 : Nat) : Int) := by rw [wi64]; omega
  have e2 : IntKind.i64.wrap x = ((x.toNat : Nat) : Int) := by rw [wi64]; omega
  rw [bits_64, e1, e2, orU a.toNat x.toNat 2 1 rfl (by omega) (by omega), wi64]; omega
theorem orz (x : Int) (hx : 0 ≤ x ∧ x ≤ 1) : bits .or .i64 0 (IntKind.i64.wrap x) = x := by
  have h := or2 0 x (by omega) (by omega) hx
  have e : IntKind.i64.wrap (0 * 2) = 0 := by rw [wi64]; omega
  rw [e] at h; omega
theorem orz8 (x : Int) (hx : 0 ≤ x ∧ x ≤ 255) : bits .or .u64 0 (IntKind.u64.wrap x) = x := by
  have h := or256 0 x (by omega) (by omega) hx
  have e : IntKind.u64.wrap (0 * 256) = 0 := by rw [wu64]; omega
  rw [e] at h; omega
theorem ck (u K : Int) (hK : 0 < K) : IntKind.u8.wrap (48 + IntKind.u8.wrap (bits .and .i64 (u.fdiv K) 1)) = 48 + u / K % 2 := by
  rw [fdiv_lit _ _ (Int.le_of_lt hK), show bits .and .i64 (u / K) 1 = u / K % 2 from and_mask .i64 _ 1 (.inl (by decide)), wu8, wu8]; omega
theorem bt (x : Int) : bits .and .u8 (IntKind.u8.wrap (48 + x % 2 - 48)) 1 = x % 2 := by
  rw [show bits .and .u8 (IntKind.u8.wrap (48 + x % 2 - 48)) 1 = (IntKind.u8.wrap (48 + x % 2 - 48)) % 2 from and_mask .u8 _ 1 (.inl (by decide)), wu8]; omega
theorem chr (x : Int) (h : 0 ≤ x ∧ x ≤ 255) : ((UInt8.ofNat x.toNat).toNat : Int) = x := by
  rw [UInt8.toNat_ofNat']; omega
theorem size_rowT (l : List C) (n : Nat) : (rowT l n).size = n := by rw [rowT_eq, size_bytesN]; simp
theorem strB_rowT {l : List C} {n : Nat} {i : Int} (h0 : 0 ≤ i) (h1 : i < n) (hr : 0 ≤ rI l i.toNat ∧ rI l i.toNat ≤ 255) : strB (rowT l n) i = rI l i.toNat := by
  rw [strB_txt, rowT_eq, txt_bytesN]
  have e : (((List.range n).map (rI l)).map fun n => UInt8.ofNat n.toNat)[i.toNat]? = some (UInt8.ofNat (rI l i.toNat).toNat) := by
    rw [List.getElem?_map, List.getElem?_map, List.getElem?_range (by omega)]; rfl
  rw [e]; exact chr _ hr
theorem or2u (a x : Int) (h0 : 0 ≤ a) (h1 : a < 9223372036854775808) (hx : 0 ≤ x ∧ x ≤ 1) : bits .or .u64 (IntKind.u64.wrap (a * 2)) (IntKind.u64.wrap x) = a * 2 + x := by
  have e1 : IntKind.u64.wrap (a * 2) = ((a.toNat * 2 : Nat) : Int) := by rw [wu64]; omega
  have e2 : IntKind.u64.wrap x = ((x.toNat : Nat) : Int) := by rw [wu64]; omega
  rw [e1, e2, orU a.toNat x.toNat 2 1 rfl (by omega) (by omega)]; omega
theorem bitb {x : Int} (h : x = 48 ∨ x = 49) : bits .and .u8 (IntKind.u8.wrap (x - 48)) 1 = x - 48 := by
  rcases h with rfl | rfl <;> rfl
theorem vF_bd {t : ByteArray} {a : Int} : ∀ {k : Nat}, (∀ j : Nat, j < k → strB t (a + j) = 48 ∨ strB t (a + j) = 49) → 0 ≤ vF t a k ∧ vF t a k < 2 ^ k
  | 0, _ => by simp [vF]
  | k + 1, h => by
    have h1 := vF_bd (k := k) fun j hj => h j (by omega)
    have h2 := h k (by omega)
    simp only [vF]
    rw [Int.pow_succ]
    omega
theorem p2 (k m : Nat) (h : k ≤ m) : (2 : Int) ^ k ≤ 2 ^ m := by exact_mod_cast Nat.pow_le_pow_right (by decide) h
theorem nx0 {r : Bool} {w : Nat} {t g0 g : ByteArray} {i L : Int} {rd : Bool} {q : Prop} (hg : g = g0) (hi : i = 0) (hL : 2 < L) : HI (SI r w t g0 g (i + 1) (i + 1) rd 0 0) q (i + 1) L :=
  ⟨fun _ => ⟨hg, rfl, (fun h => absurd h (by omega)), fun _ => by rw [show (i + 1 - 2).toNat = 0 by omega, show Nat.min 0 w = 0 from Nat.zero_min w]; rfl, fun _ => by rw [show (i + 1 - 2 - w).toNat = 0 by omega]; rfl⟩, fun h => absurd h (by omega)⟩
theorem nx1 {r : Bool} {w : Nat} {t g0 g : ByteArray} {i L tk : Int} {rd rd' : Bool} {ad da : Int} {q : Prop} (hs : SI r w t g0 g i tk rd ad da) (hi : i = 1) (hr : rd' = r) (hL : 2 < L) : HI (SI r w t g0 g (i + 1) (i + 1) rd' ad da) q (i + 1) L :=
  ⟨fun _ => ⟨hs.im, rfl, fun _ => hr, fun _ => by rw [hs.ad (by omega), show (i + 1 - 2).toNat = 0 by omega, show (i - 2).toNat = 0 by omega], fun _ => by rw [hs.da (by omega), show (i + 1 - 2 - w).toNat = 0 by omega, show (i - 2 - w).toNat = 0 by omega]⟩, fun h => absurd h (by omega)⟩
theorem nxA {r : Bool} {w : Nat} {t g0 g : ByteArray} {i L tk : Int} {rd : Bool} {ad da : Int} {q : Prop} (hs : SI r w t g0 g i tk rd ad da) (hi : 2 ≤ i) (hi2 : i < 2 + w) (hw : w ≤ 14) (hd : ∀ j : Int, 0 ≤ j → j < L → strB t j = 48 ∨ strB t j = 49) (hL : i + 1 < L) :
    HI (SI r w t g0 g (i + 1) (i + 1) rd (bits .or .i64 (IntKind.i64.wrap (ad * 2)) (IntKind.i64.wrap (strB t i - 48))) da) q (i + 1) L := by
  refine ⟨fun _ => ⟨hs.im, rfl, fun _ => hs.rd hi, fun _ => ?_, fun _ => by rw [hs.da (by omega), show (i + 1 - 2 - w).toNat = 0 by omega, show (i - 2 - w).toNat = 0 by omega]⟩, fun h => absurd h (by omega)⟩
  obtain ⟨k, hk⟩ : ∃ k : Nat, i = 2 + k := ⟨(i - 2).toNat, by omega⟩
  have e := hs.ad (by omega)
  have hmin : ∀ n : Nat, n ≤ w → Nat.min n w = n := fun n hn => Nat.min_eq_left hn
  rw [show (i - 2).toNat = k by omega, hmin k (by omega)] at e
  rw [show (i + 1 - 2).toNat = k + 1 by omega, hmin (k + 1) (by omega)]
  have hb := vF_bd (t := t) (a := 2) (k := k) fun j hj => hd _ (by omega) (by omega)
  have hp := p2 k 14 (by omega)
  have hx := hd i (by omega) (by omega)
  rw [or2 _ _ (by omega) (by omega) (by omega), e]
  simp only [vF]
  rw [← hk]; omega
theorem nxD {r : Bool} {w : Nat} {t g0 g : ByteArray} {i L tk : Int} {rd : Bool} {ad da : Int} {q : Prop} (hs : SI r w t g0 g i tk rd ad da) (hi : 2 + w ≤ i) (hd : ∀ j : Int, 0 ≤ j → j < L → strB t j = 48 ∨ strB t j = 49) (hi2 : i < 66 + w) (hL : i + 1 < L) :
    HI (SI r w t g0 g (i + 1) (i + 1) rd ad (bits .or .u64 (IntKind.u64.wrap (da * 2)) (IntKind.u64.wrap (strB t i - 48)))) q (i + 1) L := by
  obtain ⟨k, hk⟩ : ∃ k : Nat, i = 2 + w + k := ⟨(i - 2 - w).toNat, by omega⟩
  refine ⟨fun _ => ⟨hs.im, rfl, fun _ => hs.rd (by omega), fun _ => ?_, fun _ => ?_⟩, fun h => absurd h (by omega)⟩
  · rw [hs.ad (by omega), show Nat.min (i + 1 - 2).toNat w = w from Nat.min_eq_right (by omega), show Nat.min (i - 2).toNat w = w from Nat.min_eq_right (by omega)]
  have e := hs.da (by omega)
  rw [show (i - 2 - w).toNat = k by omega] at e
  rw [show (i + 1 - 2 - w).toNat = k + 1 by omega]
  have hb := vF_bd (t := t) (a := 2 + w) (k := k) fun j hj => hd _ (by omega) (by omega)
  have hp := p2 k 63 (by omega)
  have hx := hd i (by omega) (by omega)
  rw [or2u _ _ (by omega) (by omega) (by omega), e]
  simp only [vF]
  rw [← hk]; omega
theorem fin_a {r : Bool} {w : Nat} {t g0 g : ByteArray} {i tk : Int} {rd : Bool} {ad da : Int} (hs : SI r w t g0 g i tk rd ad da) (hi : 2 + w ≤ i) : ad = vF t 2 w := by
  rw [hs.ad (by omega), show Nat.min (i - 2).toNat w = w from Nat.min_eq_right (by omega)]
theorem fin_d {r : Bool} {w : Nat} {t g0 g : ByteArray} {i tk : Int} {rd : Bool} {ad da : Int} (hs : SI r w t g0 g i tk rd ad da) (hi : i = 66 + w) : da = vF t (2 + w) 64 := by
  rw [hs.da (by omega), show (i - 2 - w).toNat = 64 by omega]
theorem room_ap {n : Nat} {g : ByteArray} {u d : Int} (hg : g.size = n) (hn : n ≤ 10000) (hu : 0 ≤ u) (hu2 : u + 8 ≤ n) : (room (catL [strSl g 0 u, byT d, strSl g (u + 8) n]).length && [strSl g 0 u, byT d, strSl g (u + 8) n].length.ble 1000000) = true := by
  have h1 := size_strSl g 0 u (by omega) hu (by omega)
  have h2 := size_strSl g (u + 8) n (by omega) (by omega) (by omega)
  rw [Bool.and_eq_true]
  refine ⟨Nat.ble_eq_true_of_le ?_, rfl⟩
  rw [len_catL]
  simp only [List.map_cons, List.map_nil, List.sum_cons, List.sum_nil, byT_size]
  omega
end Go.Proofs.Ythgcieloijmgdaa

