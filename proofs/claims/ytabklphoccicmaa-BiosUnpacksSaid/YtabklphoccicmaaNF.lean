import Derived.Test.YtabklphoccicmaaND
set_option linter.unusedVariables false
set_option linter.unusedSimpArgs false
namespace Go.Proofs.Ytabklphoccicmaa
open Go Go.Proofs Go.Proofs.Ytabklphoccicmaa.Ev Go.Proofs.Ytabklphoccicmaa.Ev.Ho Go.IntKind
set_option maxRecDepth 100000
noncomputable def ag_td (E : World) : List Item := headOf (run (pe E) (orcG E) (tabL fns) 20000 (2 ^ 200 - 1) [.code (Try.f58.body.getD .skip)] ⟨Try.f58.ntmps, mkFrGo (Tr.mk 12) 0 [.c (.p 0 0), .c (.i true .i64 5), .c (.i false .i64 1)]⟩ (mkM default [] [mS 2, mN 3 4, rowB, rowB, rowN] 0))
theorem lna (E : World) :
    ((ag_td E).length = 0) =
     ((3 : Nat) = (0 : Nat)) := by kernel_rfl
end Go.Proofs.Ytabklphoccicmaa

