import Derived.Test.YtabklphoccicmaaA
set_option linter.unusedVariables false
set_option linter.unusedSimpArgs false
namespace Go.Proofs.Ytabklphoccicmaa
open Go Go.Proofs Go.Proofs.Ytabklphoccicmaa.Ev Go.Proofs.Ytabklphoccicmaa.Ev.Ho Go.IntKind
set_option maxRecDepth 100000
noncomputable def mB (n : Nat) : MB := .o [.i .u32, .v 1 1, .v n 3] 44
noncomputable def rowB : MB := .row [.r .u8 0 255] 5
noncomputable def rowN : MB := .row [.i .u32, .i .i64, .i .u32] 59
structure Mm where
  bs : Int
  bn : Int
  nn : Int
  b : List C
  n : List C
noncomputable def M2 (y : PX) : Mm := ⟨y.n 0, y.n 1, y.n 2, y.l 1, y.l 2⟩
noncomputable def M3 (y : PX) : Mm := ⟨y.n 0, y.n 1, y.n 2, y.l 1, y.l 3⟩
structure okM (m : Mm) : Prop where
  b0 : 0 ≤ m.bn
  n0 : 0 ≤ m.nn
  n1 : m.nn ≤ 1000000
  bl : m.b.length = m.bn.toNat
  nl : m.n.length = m.nn.toNat * 3
def grM (m m' : Mm) : Prop := m'.nn = m.nn + 1 ∧ m'.bn = m.bn ∧ m'.b.length = m.b.length ∧ m'.n.length = m.n.length + 3
theorem mk_M2 (z z' : PX) (h : M2 z = M2 z') : mkM z [] [mB 2, rowB, rowN] 0 = mkM z' [] [mB 2, rowB, rowN] 0 := by
  unfold M2 at h
  injection h with h1 h2 h3 h4 h5
  simp [mkM, mB, rowB, rowN, spC, h1, h2, h3, h4, h5]
theorem ndR {l : List C} {n a : Int} (hR : Row [.r .u8 0 255] l) (hl : l.length = n.toNat) (h : decide (a < n) = true) (h0 : 0 ≤ a) : inB a n.toNat = true ∧ rOk l a.toNat (EK.i .u8) = true := by
  have h := of_decide_eq_true h
  refine ⟨by simp only [inB, Bool.and_eq_true, decide_eq_true_eq]; omega, hR.rOk (q := .r .u8 0 255) (by omega) (by simp [Nat.mod_one]) rfl⟩
theorem rgR {l : List C} (hR : Row [.r .u8 0 255] l) (p : Nat) : 0 ≤ rI l p ∧ rI l p ≤ 255 := by
  by_cases h : p < l.length
  · exact hR.rg h (k := .u8) (by simp [Nat.mod_one])
  · have e : rI l p = 0 := by unfold rI rAt; rw [List.getElem?_eq_none (by omega)]; rfl
    rw [e]; decide
theorem ur' (x : Int) : 0 ≤ IntKind.u32.wrap x ∧ IntKind.u32.wrap x ≤ 4294967295 := by rw [wu32]; omega
theorem v1 {l : List C} (hR : Row [.r .u8 0 255] l) (p : Nat) : 0 ≤ IntKind.u32.wrap (0 + IntKind.u32.wrap (rI l p)) ∧ IntKind.u32.wrap (0 + IntKind.u32.wrap (rI l p)) ≤ 255 := by
  have := rgR hR p; rw [wu32, wu32]; omega
theorem v01 {l : List C} (hR : Row [.r .u8 0 255] l) (p : Nat) : 0 ≤ IntKind.u32.wrap (0 + IntKind.u32.wrap (rI l p)) ∧ IntKind.u32.wrap (0 + IntKind.u32.wrap (rI l p)) ≤ 65535 := by
  have := rgR hR p; rw [wu32, wu32]; omega
theorem v10 {l : List C} (hR : Row [.r .u8 0 255] l) (p : Nat) : 0 ≤ IntKind.u32.wrap (IntKind.u32.wrap (0 + IntKind.u32.wrap (rI l p)) * 256) ∧ IntKind.u32.wrap (IntKind.u32.wrap (0 + IntKind.u32.wrap (rI l p)) * 256) ≤ 65535 := by
  have := rgR hR p; rw [wu32, wu32, wu32]; omega
theorem v11 {l : List C} (hR : Row [.r .u8 0 255] l) (p q : Nat) : 0 ≤ IntKind.u32.wrap (IntKind.u32.wrap (IntKind.u32.wrap (0 + IntKind.u32.wrap (rI l p)) * 256) + IntKind.u32.wrap (rI l q)) ∧ IntKind.u32.wrap (IntKind.u32.wrap (IntKind.u32.wrap (0 + IntKind.u32.wrap (rI l p)) * 256) + IntKind.u32.wrap (rI l q)) ≤ 65535 := by
  have := rgR hR p; have := rgR hR q; rw [wu32, wu32, wu32, wu32, wu32]; omega
theorem sB {l : List C} {p : Nat} {x : Int} (hR : Row [.r .u8 0 255] l) (hp : p < l.length) : Row [.r .u8 0 255] (rSet l p [C.i false .u8 (IntKind.u8.wrap x)]) :=
  hR.set1 (q := .r .u8 0 255) hp (by simp [Nat.mod_one]) ⟨by rw [wu8]; omega, trivial⟩
theorem iu (a : Int) : 0 ≤ IntKind.i64.wrap (IntKind.u32.wrap a) := by rw [wi64, wu32]; omega
theorem pl {l : List C} {n a : Int} (hl : l.length = n.toNat) (h : decide (a < n) = true) (h0 : 0 ≤ a) : a.toNat < l.length := by have h := of_decide_eq_true h; omega
theorem pd {l : List C} {n a : Int} (hl : l.length = n.toNat) (h : decide (a < n) = true) (h0 : 0 ≤ a) : decide (a.toNat + 1 ≤ l.length) = true := by have h := of_decide_eq_true h; exact decide_eq_true (by omega)
theorem sN {l : List C} {n : Int} (hN : Row [.i .u32, .i .i64, .i .u32] l) (hl : l.length = n.toNat * 3) (a x w : Int) : Row [.i .u32, .i .i64, .i .u32] (rApp l (n.toNat * 3) [C.i false .u32 a, C.i true .i64 w, C.i false .u32 x]) :=
  hN.app (Row.one trivial) (by omega) (by show n.toNat * 3 % 3 = 0; omega)
theorem gr {s n m : Int} {b b' l : List C} {vs : List C} (hm : 0 ≤ m) (hl : l.length = m.toNat * 3) (hv : vs.length = 3) (hb : b'.length = b.length) : grM ⟨s, n, m, b, l⟩ ⟨s, n, ((m.toNat + 1 : Nat) : Int), b', rApp l (m.toNat * 3) vs⟩ :=
  ⟨by show ((m.toNat + 1 : Nat) : Int) = m + 1; omega, rfl, hb, by show (rApp l (m.toNat * 3) vs).length = l.length + 3; rw [len_app (by omega), hv, hl]⟩
end Go.Proofs.Ytabklphoccicmaa

