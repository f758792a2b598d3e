import Derived.Test.YtkeinfmfkcgkhaaM
set_option linter.unusedVariables false
set_option linter.unusedSimpArgs false
namespace Go.Proofs.Ytkeinfmfkcgkhaa
open Go Go.Proofs Go.Proofs.Ytkeinfmfkcgkhaa.Ev Go.Proofs.Ytkeinfmfkcgkhaa.Ev.Ho
set_option maxRecDepth 100000
noncomputable def noS (t : Nat) : Tr → SW → Bool := fun tr _ => match tr.get t with | .t [] => true | .any => true | _ => false
noncomputable def l2_td (E : World) : List Item := headOf (run (pe E) (orcT E) (tabL fns) 20000 (2 ^ 200 - 1) (l_td E) (mkL Try.f6.ntmps (slC default ([(0, .c (.es none 5 5)), (5, .c (.p 0 0)), (6, .c (.p 1 0)), (7, .r .i64 (0) (3050000)), (27, .c (.es none 5 5)), (28, .c (.i true .i64 5)), (29, .c (.i true .i64 5))]))) (mkM default [] [mU 2 3, mV 4 5, mP 6, rowS, mP 7, rowS, mO, mO] 0))
theorem lnl2 (E : World) :
    ((l2_td E).length = 0) =
    ((4 : Nat) = (0 : Nat)) := by kernel_rfl
theorem tk_get {l : List C} {m p : Nat} {c : C} (h : (rTake l m)[p]? = some c) : l[p]? = some c ∧ p < m := by
  unfold rTake at h
  rw [List.getElem?_take] at h
  split at h
  · exact ⟨h, by assumption⟩
  · cases h
theorem sto0 {l : List C} (h : Row [.r .i16 0 0, .r .i16 0 0] l) (m : Nat) : stoR (rTake l m) = true := List.all_eq_true.2 fun c hc => by
  obtain ⟨p, hp⟩ := List.mem_iff_getElem?.1 hc
  obtain ⟨q, hq, hch⟩ := h.2 p c (tk_get hp).1
  have hq2 : q = .r .i16 0 0 := by
    have : p % 2 = 0 ∨ p % 2 = 1 := by omega
    rcases this with e | e
    · rw [show p % [Sp.r .i16 0 0, Sp.r .i16 0 0].length = 0 from e] at hq; cases hq; rfl
    · rw [show p % [Sp.r .i16 0 0, Sp.r .i16 0 0].length = 1 from e] at hq; cases hq; rfl
  subst hq2
  cases c <;> first | rfl | exact hch.elim | exact hch.1.elim
theorem tkRow {l : List C} (h : Row [.r .i16 0 0, .r .i16 0 0] l) {m : Nat} (hm : m * 2 ≤ l.length) : Row [.r .i16 0 0, .r .i16 0 0] (rTake l (m * 2)) := by
  refine ⟨?_, fun p c hc => h.2 p c (tk_get hc).1⟩
  have : (rTake l (m * 2)).length = m * 2 := by unfold rTake; rw [List.length_take]; omega
  rw [this]; show m * 2 % 2 = 0; omega
theorem tkLen {l : List C} {m : Nat} (hm : m ≤ l.length) : (rTake l m).length = m := by unfold rTake; rw [List.length_take]; omega
theorem bias_bd (b : Int) (h : 0 ≤ b ∧ b ≤ 65535) : 0 ≤ IntKind.i64.wrap (bits .and .u16 b 1022) ∧ IntKind.i64.wrap (bits .and .u16 b 1022) ≤ 1022 := by
  have e := and_sh .u16 rfl b h.1 (by show b < 2 ^ 16; omega) 1 9 (by decide)
  have e1 : ((2 ^ 9 - 1) * 2 ^ 1 : Int) = 1022 := by decide
  rw [e1] at e
  rw [e, wi64]; omega
noncomputable def law_h0 (E : World) (a : Option Addr) (n m : Nat) (b : Int) (z : PX) : Hd := ⟨4, (noS 96), (l_td E), [(0, .q (.es a n m)), (5, .c (.p 0 0)), (6, .c (.p 1 0)), (7, .r .i64 (0) (3050000)), (27, .q (.es a n m)), (28, .q (.i false .i64 (n : Int))), (29, .r .i64 (0) (60))], [mU 2 3, mV 4 5, mP 6, rowS, mP 7, rowS, mO, mO], fun y => ((Len2 (y.l 3) (y.n 74) ∧ y.n 74 * 512 ≤ y.n 73) ∧ Len2 (y.l 5) (y.n 100074) ∧ y.n 100074 * 512 ≤ y.n 100073) ∧ y.n 91007 ≤ 50000 * y.n 91029 ∧ y.n 91029 ≤ (n : Int) ∧ (n : Int) ≤ 60, fun y => (2000000 - y.n 91029).toNat⟩
noncomputable def law_h1 (E : World) (a : Option Addr) (n m : Nat) (b : Int) (z : PX) : Hd := ⟨4, anyH, (l2_td E), [(96, .v 0 2), (97, .r .i64 (0) (1000000)), (98, .r .i64 (0) (1000000))], [rowS], fun y => Len2 (y.l 0) (y.n 91096) ∧ y.n 91097 = y.n 91096 ∧ y.n 91098 ≤ y.n 91097, fun y => (1000000 - y.n 91098).toNat⟩
noncomputable def law_hs (E : World) (a : Option Addr) (n m : Nat) (b : Int) (z : PX) : List Hd := [law_h0 E a n m b z, law_h1 E a n m b z]
end Go.Proofs.Ytkeinfmfkcgkhaa

