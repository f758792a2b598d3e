import Derived.Test.YtabklphoccicmaaP
set_option linter.unusedVariables false
set_option linter.unusedSimpArgs false
namespace Go.Proofs.Ytabklphoccicmaa
open Go Go.Proofs Go.Proofs.Ytabklphoccicmaa.Ev Go.Proofs.Ytabklphoccicmaa.Ev.Ho Go.IntKind
set_option maxRecDepth 100000
noncomputable def c24_td (E : World) : List Item := headOf (run (pe E) (orcM E) (tabL fns) 20000 (2 ^ 200 - 1) [.code (Try.f24.body.getD .skip)] ⟨Try.f24.ntmps, mkFrGo (Tr.mk 12) 0 [.c (.x (.slice none 0 0)), .c (.x (.slice none 0 0))]⟩ [])
end Go.Proofs.Ytabklphoccicmaa

