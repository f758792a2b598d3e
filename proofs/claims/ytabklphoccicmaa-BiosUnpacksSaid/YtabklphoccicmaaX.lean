import Derived.Test.YtabklphoccicmaaG
set_option linter.unusedVariables false
set_option linter.unusedSimpArgs false
namespace Go.Proofs.Ytabklphoccicmaa
open Go Go.Proofs Go.Proofs.Ytabklphoccicmaa.Ev Go.Proofs.Ytabklphoccicmaa.Ev.Ho
set_option maxRecDepth 100000
noncomputable def orcN (E : World) : Orc := orcM E
theorem orcN_ok {E : World} : OrcOK (pe E) (orcN E) := orcM_ok
theorem uadd (a b c : Int) : IntKind.u32.wrap (IntKind.u32.wrap (a + b) + c) = IntKind.u32.wrap (a + (b + c)) := by rw [wu32, wu32, wu32]; omega
noncomputable def rwB (l : List C) : Prop := flat [Sp.r .u8 0 255] = true ∧ Row [Sp.r .u8 0 255] l
noncomputable def rwI (l : List C) : Prop := flat [Sp.r .i64 0 255] = true ∧ Row [Sp.r .i64 0 255] l
noncomputable def rwN (l : List C) : Prop := flat [Sp.i .u32, Sp.i .i64, Sp.i .u32] = true ∧ Row [Sp.i .u32, Sp.i .i64, Sp.i .u32] l
noncomputable def eM (b n : List C) : Prop := 44 = 44 ∧ True ∧ 5 = 5 ∧ rwB b ∧ 59 = 59 ∧ rwN n ∧ ([] : SW) = []
noncomputable def eP (x : Int) (b o n : List C) : Prop := 68 = 68 ∧ ((0 ≤ x ∧ x ≤ 65535) ∧ True) ∧ 44 = 44 ∧ True ∧ 4294967295 = 4294967295 ∧ 5 = 5 ∧ rwB b ∧ 4294967295 = 4294967295 ∧ 5 = 5 ∧ rwB o ∧ 59 = 59 ∧ rwN n ∧ ([] : SW) = []
noncomputable def eD (x : Int) (b o n : List C) : Prop := 72 = 72 ∧ True ∧ 76 = 76 ∧ ((0 ≤ x ∧ x ≤ 65535) ∧ True) ∧ 44 = 44 ∧ True ∧ 4294967295 = 4294967295 ∧ 5 = 5 ∧ rwB b ∧ 4294967295 = 4294967295 ∧ 3 = 3 ∧ rwI o ∧ 59 = 59 ∧ rwN n ∧ ([] : SW) = []
noncomputable def iP (x : Int) (o b n : List C) : Prop := 68 = 68 ∧ ((0 ≤ x ∧ x ≤ 65535) ∧ True) ∧ 44 = 44 ∧ True ∧ 5 = 5 ∧ rwB o ∧ 5 = 5 ∧ rwB b ∧ 59 = 59 ∧ rwN n ∧ ([] : SW) = []
noncomputable def iO (x : Int) (o b n : List C) : Prop := 76 = 76 ∧ ((0 ≤ x ∧ x ≤ 65535) ∧ True) ∧ 44 = 44 ∧ True ∧ 3 = 3 ∧ rwI o ∧ 5 = 5 ∧ rwB b ∧ 59 = 59 ∧ rwN n ∧ ([] : SW) = []
noncomputable def aM (y : PX) (i : Nat) : Prop := (0 ≤ y.n 1 ∧ 0 ≤ y.n 2 ∧ True) ∧ rwB (y.l 1) ∧ rwN (y.l i) ∧ True
noncomputable def aP (y : PX) : Prop := ((0 ≤ y.n 3 ∧ y.n 3 ≤ 65535) ∧ 0 ≤ y.n 4 ∧ True) ∧ (0 ≤ y.n 100001 ∧ 0 ≤ y.n 100002 ∧ True) ∧ rwB (y.l 3) ∧ rwB (y.l 5) ∧ rwN (y.l 6) ∧ True
noncomputable def aO (y : PX) : Prop := ((0 ≤ y.n 2 ∧ y.n 2 ≤ 65535) ∧ 0 ≤ y.n 3 ∧ True) ∧ (0 ≤ y.n 100001 ∧ 0 ≤ y.n 100002 ∧ True) ∧ rwB (y.l 3) ∧ rwI (y.l 5) ∧ rwN (y.l 6) ∧ True
noncomputable def aD (y : PX) : Prop := True ∧ ((0 ≤ y.n 100002 ∧ y.n 100002 ≤ 65535) ∧ 0 ≤ y.n 100003 ∧ True) ∧ (0 ≤ y.n 200001 ∧ 0 ≤ y.n 200002 ∧ True) ∧ rwB (y.l 4) ∧ rwI (y.l 6) ∧ rwN (y.l 7) ∧ True
end Go.Proofs.Ytabklphoccicmaa
