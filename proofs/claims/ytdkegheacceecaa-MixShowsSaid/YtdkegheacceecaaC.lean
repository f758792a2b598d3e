import Derived.Test.YtdkegheacceecaaD
set_option linter.unusedVariables false
set_option linter.unusedSimpArgs false
namespace Go.Proofs.Ytdkegheacceecaa
open Go Go.Proofs Go.Proofs.Ytdkegheacceecaa.Ev Go.Proofs.Ytdkegheacceecaa.Ev.Ho
set_option maxRecDepth 100000

noncomputable def orcL (E : World) : Orc := fun g vs s => match g, vs, s with
  | 9, [.c (.p 1 0), .c (.p 10 0), .c (.i true .i64 5)], [A, B, G2, G3, G4, G5, G6, G7, G8, G9, R] => some (hoT (pre := fun _ => True) (fun z => line_c E   z) (by rfl) ([A, B, G2, G3, G4, G5, G6, G7, G8, G9, R]))
  | g, vs, s => (orcX E) g vs s
theorem orcL_ok {E : World} : OrcOK (pe E) (orcL E) := by
  intro g vs s t h
  unfold orcL at h
  split at h
  · cases h; refine CallTree.args ?_ (hoT_ok _ _ _ (by first | rfl | (simp only [List.length_cons, List.length_nil, m9]; omega))); simp [simL, SV.sim, C.sim]
  · exact orcX_ok _ _ _ _ h
theorem awake_p (E : World) :
    (conP (.c (.b true true)) (fnTree (pe E) (orcL E) (tabL fns) 20000 Try.f8 [] [])) =
    (((palB = palB ∧ scB = scB ∧ (78 : Nat) = (78 : Nat) ∧ (78 : Nat) = (78 : Nat) ∧ (78 : Nat) = (78 : Nat) ∧ (78 : Nat) = (78 : Nat) ∧ (78 : Nat) = (78 : Nat) ∧ (78 : Nat) =
      (78 : Nat) ∧ (78 : Nat) = (78 : Nat) ∧ (78 : Nat) = (78 : Nat) ∧ rgB = rgB ∧ ([] : SW) = []) ∧ True) ∧ ∀ (y : PX), True ∧ True ∧ y.n (90009 : Nat) = (4660 : Int) → ((y.n
      (90009 : Nat) == (4660 : Int)) = true → true = true) ∧ ((y.n (90009 : Nat) == (4660 : Int)) = false → false = true)) := by kernel_rfl
theorem awake_c (E : World) (s : SW) : CallTree (pe E) 8 [] s (.leaf (.c (.b true true), s)) := by
  exact pure_contractH (fnTree_sound (P := pe E) orcL_ok tab_ok tab_sz mixed 20000 Try.func8 (by decide) [] []) (by simp [SV.ok, C.ok, okL]) (v := .c (.b true true)) rfl ⟨by
    rw [awake_p]
    (repeat' (first | assumption | exact trivial | exact rfl | apply And.intro | (rintro y ⟨_, _, hq⟩) | intro _)) <;> simp_all⟩ s
noncomputable def orcA (E : World) : Orc := fun g vs s => match g, vs with
  | 8, [] => some (.leaf (.c (.b true true), s))
  | g, vs => (orcL E) g vs s
theorem orcA_ok {E : World} : OrcOK (pe E) (orcA E) := by
  intro g vs s t h
  unfold orcA at h
  split at h
  · cases h
    exact awake_c E s
  · exact orcL_ok _ _ _ _ h
end Go.Proofs.Ytdkegheacceecaa

