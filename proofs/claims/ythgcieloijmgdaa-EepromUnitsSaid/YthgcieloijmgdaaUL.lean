import Derived.Test.YthgcieloijmgdaaUB
set_option linter.unusedVariables false
set_option linter.unusedSimpArgs false
namespace Go.Proofs.Ythgcieloijmgdaa
open Go Go.Proofs Go.Proofs.Ythgcieloijmgdaa.Ev Go.Proofs.Ythgcieloijmgdaa.Ev.Ho
set_option maxRecDepth 100000
theorem beqB {a b : ByteArray} (h : (a == b) = true) : a = b := by
  cases a; cases b
  have := @eq_of_beq (Array UInt8) _ _ _ _ h
  exact congrArg ByteArray.mk this
theorem beqS (a : ByteArray) : (a == a) = true := by
  cases a with | mk d => exact beq_self_eq_true d
theorem rowOK {l : List C} {n : Nat} (h : Row [.r .u8 0 255] l) (hn : n ≤ l.length) : rowU8 l n = true :=
  rowU8_iff.2 ⟨hn, fun j hj => h.rOk (q := .r .u8 0 255) (by omega) (by simp [Nat.mod_one]) rfl⟩
theorem bits_64 (op : BinOp) (x y : Int) : bits op .i64 x y = IntKind.i64.wrap (bits op .u64 x y) := by
  have w64 : ∀ v : Int, IntKind.i64.wrap v = IntKind.i64.wrap (IntKind.u64.wrap v) := fun v => by rw [wi64, wi64, wu64]; omega
  unfold bits
  exact w64 _
theorem orU (a b m : Nat) (k : Nat) (hm : m = 2 ^ k) (hb : b < m) (h : a * m + b < 2 ^ 64) : bits .or .u64 ((a * m : Nat) : Int) ((b : Nat) : Int) = ((a * m + b : Nat) : Int) := by
  subst hm
  rw [bits_or_n .u64 rfl _ _ (by show a * 2 ^ k < 2 ^ 64; omega) (by show b < 2 ^ 64; omega), Nat.mul_comm a, ← Nat.two_pow_add_eq_or_of_lt hb]
theorem or256 (a x : Int) (h0 : 0 ≤ a) (h1 : a < 72057594037927936) (hx : 0 ≤ x ∧ x ≤ 255) : bits .or .u64 (IntKind.u64.wrap (a * 256)) (IntKind.u64.wrap x) = a * 256 + x := by
  have e1 : IntKind.u64.wrap (a * 256) = ((a.toNat * 256 : Nat) : Int) := by rw [wu64]; omega
  have e2 : IntKind.u64.wrap x = ((x.toNat : Nat) : Int) := by rw [wu64]; omega
  rw [e1, e2, orU a.toNat x.toNat 256 8 rfl (by omega) (by omega)]; omega
theorem or2 (a x : Int) (h0 : 0 ≤ a) (h1 : a < 1048576) (hx : 0 ≤ x ∧ x ≤ 1) : bits .or .i64 (IntKind.i64.wrap (a * 2)) (IntKind.i64.wrap x) = a * 2 + x := by
  have e1 : IntKind.i64.wrap (a * 2) = ((a.toNat * 2 : Nat) : Int) := by rw [wi64]; omega
  have e2 : IntKind.i64.wrap x = ((x.toNat : Nat) : Int) := by rw [wi64]; omega
  rw [bits_64, e1, e2, orU a.toNat x.toNat 2 1 rfl (by omega) (by omega), wi64]; omega
theorem orz (x : Int) (hx : 0 ≤ x ∧ x ≤ 1) : bits .or .i64 0 (IntKind.i64.wrap x) = x := by
  have h := or2 0 x (by omega) (by omega) hx
  have e : IntKind.i64.wrap (0 * 2) = 0 := by rw [wi64]; omega
  rw [e] at h; omega
theorem orz8 (x : Int) (hx : 0 ≤ x ∧ x ≤ 255) : bits .or .u64 0 (IntKind.u64.wrap x) = x := by
  have h := or256 0 x (by omega) (by omega) hx
  have e : IntKind.u64.wrap (0 * 256) = 0 := by rw [wu64]; omega
  rw [e] at h; omega
theorem ck (u K : Int) (hK : 0 < K) : IntKind.u8.wrap (48 + IntKind.u8.wrap (bits .and .i64 (u.fdiv K) 1)) = 48 + u / K % 2 := by
  rw [fdiv_lit _ _ (Int.le_of_lt hK), show bits .and .i64 (u / K) 1 = u / K % 2 from and_mask .i64 _ 1 (.inl (by decide)), wu8, wu8]; omega
theorem bt (x : Int) : bits .and .u8 (IntKind.u8.wrap (48 + x % 2 - 48)) 1 = x % 2 := by
  rw [show bits .and .u8 (IntKind.u8.wrap (48 + x % 2 - 48)) 1 = (IntKind.u8.wrap (48 + x % 2 - 48)) % 2 from and_mask .u8 _ 1 (.inl (by decide)), wu8]; omega
theorem chr (x : Int) (h : 0 ≤ x ∧ x ≤ 255) : ((UInt8.ofNat x.toNat).toNat : Int) = x := by
  rw [UInt8.toNat_ofNat']; omega
theorem size_rowT (l : List C) (n : Nat) : (rowT l n).size = n := by rw [rowT_eq, size_bytesN]; simp
theorem strB_rowT {l : List C} {n : Nat} {i : Int} (h0 : 0 ≤ i) (h1 : i < n) (hr : 0 ≤ rI l i.toNat ∧ rI l i.toNat ≤ 255) : strB (rowT l n) i = rI l i.toNat := by
  rw [strB_txt, rowT_eq, txt_bytesN]
  have e : (((List.range n).map (rI l)).map fun n => UInt8.ofNat n.toNat)[i.toNat]? = some (UInt8.ofNat (rI l i.toNat).toNat) := by
    rw [List.getElem?_map, List.getElem?_map, List.getElem?_range (by omega)]; rfl
  rw [e]; exact chr _ hr
end Go.Proofs.Ythgcieloijmgdaa

