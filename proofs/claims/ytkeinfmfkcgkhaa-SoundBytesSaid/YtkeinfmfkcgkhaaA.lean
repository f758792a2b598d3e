import Derived.Test.YtkeinfmfkcgkhaaRows
import Derived.Test.YtkeinfmfkcgkhaaEx
set_option linter.unusedVariables false
set_option linter.unusedSimpArgs false
namespace Go.Proofs.Ytkeinfmfkcgkhaa
open Go Go.Proofs Go.Proofs.Ytkeinfmfkcgkhaa.Ev

noncomputable abbrev pe (E : World) : PE := ⟨Try.prog, E, true, [(36, 26, 33), (43, 12, 2), (0, 1060, 1)]⟩
noncomputable def fns : List (FuncId × Func) := [(3, Try.f3), (4, Try.f4), (5, Try.f5), (6, Try.f6), (7, Try.f7), (8, Try.f8), (9, Try.f9), (10, Try.f10), (11, Try.f11), (12, Try.f12), (13, Try.f13), (14, Try.f14), (15, Try.f15), (16, Try.f16), (17, Try.f17), (18, Try.f18), (19, Try.f19), (20, Try.f20), (21, Try.f21), (22, Try.f22), (23, Try.f23), (24, Try.f24), (25, Try.f25), (26, Try.f26), (27, Try.f27), (28, Try.f28), (29, Try.f29), (30, Try.f30), (31, Try.f31), (32, Try.f32), (33, Try.f33), (34, Try.f34), (35, Try.f35), (36, Try.f36), (37, Try.f37), (38, Try.f38), (39, Try.f39), (40, Try.f40), (41, Try.f41), (42, Try.f42), (43, Try.f43), (44, Try.f44), (45, Try.f45), (46, Try.f46), (47, Try.f47), (48, Try.f48), (49, Try.f49), (50, Try.f50), (51, Try.f51), (52, Try.f52), (53, Try.f53), (54, Try.f54), (55, Try.f55), (56, Try.f56), (57, Try.f57), (58, Try.f58), (59, Try.f59), (60, Try.f60)]
theorem fns_ok : ∀ p, p ∈ fns → FnOK Try.prog p :=
  fn_cons ⟨Try.func3, by decide, rfl, by decide⟩ <|
  fn_cons ⟨Try.func4, by decide, rfl, by decide⟩ <|
  fn_cons ⟨Try.func5, by decide, rfl, by decide⟩ <|
  fn_cons ⟨Try.func6, by decide, rfl, by decide⟩ <|
  fn_cons ⟨Try.func7, by decide, rfl, by decide⟩ <|
  fn_cons ⟨Try.func8, by decide, rfl, by decide⟩ <|
  fn_cons ⟨Try.func9, by decide, rfl, by decide⟩ <|
  fn_cons ⟨Try.func10, by decide, rfl, by decide⟩ <|
  fn_cons ⟨Try.func11, by decide, rfl, by decide⟩ <|
  fn_cons ⟨Try.func12, by decide, rfl, by decide⟩ <|
  fn_cons ⟨Try.func13, by decide, rfl, by decide⟩ <|
  fn_cons ⟨Try.func14, by decide, rfl, by decide⟩ <|
  fn_cons ⟨Try.func15, by decide, rfl, by decide⟩ <|
  fn_cons ⟨Try.func16, by decide, rfl, by decide⟩ <|
  fn_cons ⟨Try.func17, by decide, rfl, by decide⟩ <|
  fn_cons ⟨Try.func18, by decide, rfl, by decide⟩ <|
  fn_cons ⟨Try.func19, by decide, rfl, by decide⟩ <|
  fn_cons ⟨Try.func20, by decide, rfl, by decide⟩ <|
  fn_cons ⟨Try.func21, by decide, rfl, by decide⟩ <|
  fn_cons ⟨Try.func22, by decide, rfl, by decide⟩ <|
  fn_cons ⟨Try.func23, by decide, rfl, by decide⟩ <|
  fn_cons ⟨Try.func24, by decide, rfl, by decide⟩ <|
  fn_cons ⟨Try.func25, by decide, rfl, by decide⟩ <|
  fn_cons ⟨Try.func26, by decide, rfl, by decide⟩ <|
  fn_cons ⟨Try.func27, by decide, rfl, by decide⟩ <|
  fn_cons ⟨Try.func28, by decide, rfl, by decide⟩ <|
  fn_cons ⟨Try.func29, by decide, rfl, by decide⟩ <|
  fn_cons ⟨Try.func30, by decide, rfl, by decide⟩ <|
  fn_cons ⟨Try.func31, by decide, rfl, by decide⟩ <|
  fn_cons ⟨Try.func32, by decide, rfl, by decide⟩ <|
  fn_cons ⟨Try.func33, by decide, rfl, by decide⟩ <|
  fn_cons ⟨Try.func34, by decide, rfl, by decide⟩ <|
  fn_cons ⟨Try.func35, by decide, rfl, by decide⟩ <|
  fn_cons ⟨Try.func36, by decide, rfl, by decide⟩ <|
  fn_cons ⟨Try.func37, by decide, rfl, by decide⟩ <|
  fn_cons ⟨Try.func38, by decide, rfl, by decide⟩ <|
  fn_cons ⟨Try.func39, by decide, rfl, by decide⟩ <|
  fn_cons ⟨Try.func40, by decide, rfl, by decide⟩ <|
  fn_cons ⟨Try.func41, by decide, rfl, by decide⟩ <|
  fn_cons ⟨Try.func42, by decide, rfl, by decide⟩ <|
  fn_cons ⟨Try.func43, by decide, rfl, by decide⟩ <|
  fn_cons ⟨Try.func44, by decide, rfl, by decide⟩ <|
  fn_cons ⟨Try.func45, by decide, rfl, by decide⟩ <|
  fn_cons ⟨Try.func46, by decide, rfl, by decide⟩ <|
  fn_cons ⟨Try.func47, by decide, rfl, by decide⟩ <|
  fn_cons ⟨Try.func48, by decide, rfl, by decide⟩ <|
  fn_cons ⟨Try.func49, by decide, rfl, by decide⟩ <|
  fn_cons ⟨Try.func50, by decide, rfl, by decide⟩ <|
  fn_cons ⟨Try.func51, by decide, rfl, by decide⟩ <|
  fn_cons ⟨Try.func52, by decide, rfl, by decide⟩ <|
  fn_cons ⟨Try.func53, by decide, rfl, by decide⟩ <|
  fn_cons ⟨Try.func54, by decide, rfl, by decide⟩ <|
  fn_cons ⟨Try.func55, by decide, rfl, by decide⟩ <|
  fn_cons ⟨Try.func56, by decide, rfl, by decide⟩ <|
  fn_cons ⟨Try.func57, by decide, rfl, by decide⟩ <|
  fn_cons ⟨Try.func58, by decide, rfl, by decide⟩ <|
  fn_cons ⟨Try.func59, by decide, rfl, by decide⟩ <|
  fn_cons ⟨Try.func60, by decide, rfl, by decide⟩ <| fn_nil
theorem tab_ok {E : World} : TabOK (pe E) (tabL fns) := tabL_ok fns_ok
theorem tab_sz : ∀ g fn, tabL fns g = some fn → fn.ntmps < 4095 := tabL_sz fns_ok
theorem mixed : Try.prog.follows .mixedOrders = true := by kernel_rfl

theorem awake_p (E : World) :
    (conP (.c (.b true true)) (fnTree (pe E) orcNone (tabL fns) 20000 Try.f7 [] [])) =
    (sameB (Bl.mk [C.i true IntKind.i16 (0 : Int), C.i true IntKind.i16 (0 : Int)] (60 : Nat)) (Bl.mk [C.i true IntKind.i16 (0 : Int), C.i true IntKind.i16 (0 : Int)] (60 :
      Nat)) = true ∧ sameB (Bl.mk [C.i true IntKind.i16 (0 : Int), C.i true IntKind.i16 (0 : Int)] (60 : Nat)) (Bl.mk [C.i true IntKind.i16 (0 : Int), C.i true IntKind.i16 (0 :
      Int)] (60 : Nat)) = true ∧ true = true) := by kernel_rfl
set_option maxRecDepth 100000 in
theorem awake_c (E : World) (s : SW) : CallTree (pe E) 7 [] s (.leaf (.c (.b true true), s)) := by
  exact pure_contractH (fnTree_sound (P := pe E) orcNone_ok tab_ok tab_sz mixed 20000 Try.func7 (by decide) [] []) (by simp [SV.ok, C.ok, okL]) (v := .c (.b true true)) rfl ⟨by rw [awake_p]; simp [sameB]⟩ s
def orcA (E : World) : Orc := fun g vs s => match g, vs with
  | 7, [] => some (.leaf (.c (.b true true), s))
  | g, vs => none
theorem orcA_ok {E : World} : OrcOK (pe E) (orcA E) := by
  intro g vs s t h
  unfold orcA at h
  split at h
  · cases h
    exact awake_c E s
  · cases h
end Go.Proofs.Ytkeinfmfkcgkhaa

