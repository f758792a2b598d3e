import Derived.Test.YthgcieloijmgdaaB
set_option linter.unusedVariables false
set_option linter.unusedSimpArgs false
namespace Go.Proofs.Ythgcieloijmgdaa
open Go Go.Proofs Go.Proofs.Ythgcieloijmgdaa.Ev
theorem awake_p (E : World) :
    (conP (.c (.b true true)) (fnTree (pe E) (orcL E) (tabL fns) 100000 Try.f7 [] [])) =
    (repOK (ByteArray.mk #[(129 : UInt8)]) (512 : Int) = true ∧ true = true) := by kernel_rfl
set_option maxRecDepth 100000 in
theorem awake_c (E : World) (s : SW) : CallTree (pe E) 7 [] s (.leaf (.c (.b true true), s)) := by
  exact pure_contractH (fnTree_sound (P := pe E) orcL_ok tab_ok tab_sz mixed 100000 Try.func7 (by decide) [] []) (by simp [SV.ok, C.ok, okL]) (v := .c (.b true true)) rfl ⟨by rw [awake_p]; (repeat' first | apply And.intro | rfl | decide)⟩ s
noncomputable def orcA (E : World) : Orc := fun g vs s => match g, vs with
  | 7, [] => some (.leaf (.c (.b true true), s))
  | g, vs => (orcL E) g vs s
theorem orcA_ok {E : World} : OrcOK (pe E) (orcA E) := by
  intro g vs s t h
  unfold orcA at h
  split at h
  · cases h
    exact awake_c E s
  · exact orcL_ok _ _ _ _ h
end Go.Proofs.Ythgcieloijmgdaa

