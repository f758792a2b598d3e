import Derived.Test.YtdomhmajoclpeaaS1
set_option linter.unusedVariables false
set_option linter.unusedSimpArgs false
namespace Go.Proofs.Ytdomhmajoclpeaa
open Go Go.Proofs Go.Proofs.Ytdomhmajoclpeaa.Ev Go.Proofs.Ytdomhmajoclpeaa.Ev.Ho Go.IntKind
set_option maxRecDepth 100000
theorem awake_p (E : World) :
    (conP (.c (.b true true)) (fnTree (pe E) (orcS E) (tabL fns) 20000 Try.f8 [] [])) =
    (((31 = 31 ∧ True ∧ 5 = 5 ∧ True ∧ ([] : SW) = []) ∧ ((2 : Int) = 1 ∨ (2 : Int) = 2) ∧ (0 : Int) = 0) ∧ ∀ (y : PX), True ∧ ((2 : Int) = 2 → y.n 90000 = 32767 ∧ y.n 90001 = 0) ∧ ((2 : Int) = 1 → y.n 90000 = 32768) → ((y.n 90000 == 32767) = true → ((y.n 90001 == 0) = true → ((31 = 31 ∧ True ∧ 5 = 5 ∧ True ∧ ([] : SW) = []) ∧ ((1 : Int) = 1 ∨ (1 : Int) = 2) ∧ (0 : Int) = 0) ∧ ∀ (y : PX), True ∧ ((1 : Int) = 2 → y.n 90000 = 32767 ∧ y.n 90001 = 0) ∧ ((1 : Int) = 1 → y.n 90000 = 32768) → (y.n 90000 == 32768) = true) ∧ ((y.n 90001 == 0) = false → false = true)) ∧ ((y.n 90000 == 32767) = false → false = true)) := by kernel_rfl
set_option maxRecDepth 100000 in
theorem awake_c (E : World) (s : SW) : CallTree (pe E) 8 [] s (.leaf (.c (.b true true), s)) := by
  exact pure_contractH (fnTree_sound (P := pe E) orcS_ok tab_ok tab_sz mixed 20000 Try.func8 (by decide) [] []) (by simp [SV.ok, C.ok, okL]) (v := .c (.b true true)) rfl ⟨by
    rw [awake_p]
    refine ⟨⟨⟨rfl, trivial, rfl, trivial, rfl⟩, Or.inr rfl, rfl⟩, ?_⟩
    rintro y ⟨_, h, _⟩
    obtain ⟨h1, h2⟩ := h rfl
    rw [h1, h2]
    refine ⟨fun _ => ⟨fun _ => ⟨⟨⟨rfl, trivial, rfl, trivial, rfl⟩, Or.inl rfl, rfl⟩, ?_⟩, fun h => by simp at h⟩, fun h => by simp at h⟩
    rintro y2 ⟨_, _, h3⟩
    rw [h3 rfl]; rfl⟩ s
noncomputable def orcA (E : World) : Orc := fun g vs s => match g, vs with
  | 8, [] => some (.leaf (.c (.b true true), s))
  | g, vs => none
theorem orcA_ok {E : World} : OrcOK (pe E) (orcA E) := by
  intro g vs s t h
  unfold orcA at h
  split at h
  · cases h
    exact awake_c E s
  · cases h
end Go.Proofs.Ytdomhmajoclpeaa

