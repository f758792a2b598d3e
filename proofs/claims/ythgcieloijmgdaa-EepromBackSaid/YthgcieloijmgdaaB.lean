import Derived.Test.YthgcieloijmgdaaRows
import Derived.Test.YthgcieloijmgdaaEx
import Derived.Test.YthgcieloijmgdaaSh
import Derived.Test.YthgcieloijmgdaaJn
set_option linter.unusedVariables false
set_option linter.unusedSimpArgs false
namespace Go.Proofs.Ythgcieloijmgdaa
open Go Go.Proofs Go.Proofs.Ythgcieloijmgdaa.Ev

noncomputable abbrev pe (E : World) : PE := ⟨Try.prog, E, false, [(97, 64, 2), (0, 1, 1), (0, 2, 1), (0, 3, 1), (0, 1005, 1)]⟩
noncomputable def fns : List (FuncId × Func) := [(3, Try.f3), (4, Try.f4), (5, Try.f5), (6, Try.f6), (7, Try.f7), (8, Try.f8), (9, Try.f9), (10, Try.f10), (11, Try.f11), (12, Try.f12), (13, Try.f13), (14, Try.f14), (15, Try.f15), (16, Try.f16), (17, Try.f17), (18, Try.f18), (19, Try.f19), (20, Try.f20), (21, Try.f21), (22, Try.f22), (23, Try.f23), (24, Try.f24), (25, Try.f25), (26, Try.f26), (27, Try.f27), (28, Try.f28), (29, Try.f29), (30, Try.f30), (31, Try.f31), (32, Try.f32), (34, Try.f34), (35, Try.f35), (36, Try.f36), (37, Try.f37), (38, Try.f38), (39, Try.f39), (42, Try.f42), (43, Try.f43), (44, Try.f44)]
theorem fns_ok : ∀ p, p ∈ fns → FnOK Try.prog p :=
  fn_cons ⟨Try.func3, by decide, rfl, by decide⟩ <|
  fn_cons ⟨Try.func4, by decide, rfl, by decide⟩ <|
  fn_cons ⟨Try.func5, by decide, rfl, by decide⟩ <|
  fn_cons ⟨Try.func6, by decide, rfl, by decide⟩ <|
  fn_cons ⟨Try.func7, by decide, rfl, by decide⟩ <|
  fn_cons ⟨Try.func8, by decide, rfl, by decide⟩ <|
  fn_cons ⟨Try.func9, by decide, rfl, by decide⟩ <|
  fn_cons ⟨Try.func10, by decide, rfl, by decide⟩ <|
  fn_cons ⟨Try.func11, by decide, rfl, by decide⟩ <|
  fn_cons ⟨Try.func12, by decide, rfl, by decide⟩ <|
  fn_cons ⟨Try.func13, by decide, rfl, by decide⟩ <|
  fn_cons ⟨Try.func14, by decide, rfl, by decide⟩ <|
  fn_cons ⟨Try.func15, by decide, rfl, by decide⟩ <|
  fn_cons ⟨Try.func16, by decide, rfl, by decide⟩ <|
  fn_cons ⟨Try.func17, by decide, rfl, by decide⟩ <|
  fn_cons ⟨Try.func18, by decide, rfl, by decide⟩ <|
  fn_cons ⟨Try.func19, by decide, rfl, by decide⟩ <|
  fn_cons ⟨Try.func20, by decide, rfl, by decide⟩ <|
  fn_cons ⟨Try.func21, by decide, rfl, by decide⟩ <|
  fn_cons ⟨Try.func22, by decide, rfl, by decide⟩ <|
  fn_cons ⟨Try.func23, by decide, rfl, by decide⟩ <|
  fn_cons ⟨Try.func24, by decide, rfl, by decide⟩ <|
  fn_cons ⟨Try.func25, by decide, rfl, by decide⟩ <|
  fn_cons ⟨Try.func26, by decide, rfl, by decide⟩ <|
  fn_cons ⟨Try.func27, by decide, rfl, by decide⟩ <|
  fn_cons ⟨Try.func28, by decide, rfl, by decide⟩ <|
  fn_cons ⟨Try.func29, by decide, rfl, by decide⟩ <|
  fn_cons ⟨Try.func30, by decide, rfl, by decide⟩ <|
  fn_cons ⟨Try.func31, by decide, rfl, by decide⟩ <|
  fn_cons ⟨Try.func32, by decide, rfl, by decide⟩ <|
  fn_cons ⟨Try.func34, by decide, rfl, by decide⟩ <|
  fn_cons ⟨Try.func35, by decide, rfl, by decide⟩ <|
  fn_cons ⟨Try.func36, by decide, rfl, by decide⟩ <|
  fn_cons ⟨Try.func37, by decide, rfl, by decide⟩ <|
  fn_cons ⟨Try.func38, by decide, rfl, by decide⟩ <|
  fn_cons ⟨Try.func39, by decide, rfl, by decide⟩ <|
  fn_cons ⟨Try.func42, by decide, rfl, by decide⟩ <|
  fn_cons ⟨Try.func43, by decide, rfl, by decide⟩ <|
  fn_cons ⟨Try.func44, by decide, rfl, by decide⟩ <| fn_nil
theorem tab_ok {E : World} : TabOK (pe E) (tabL fns) := tabL_ok fns_ok
theorem tab_sz : ∀ g fn, tabL fns g = some fn → fn.ntmps < 4095 := tabL_sz fns_ok
theorem mixed : Try.prog.follows .mixedOrders = true := by kernel_rfl

noncomputable def orcL (E : World) : Orc := orcOr (orcRep 9 E) (orcOr (orcCat 44) (orcNone))
theorem orcL_ok {E : World} : OrcOK (pe E) (orcL E) := orcOr_ok (orcRep_ok fun s c w h1 h2 => Try.strings_Repeat s c w h1 h2) (orcOr_ok (orcCat_ok fun bk o c xs w h1 h2 h3 h4 h5 => Try.join_calls bk o c xs w h1 h2 h3 h4 h5) (orcNone_ok))
end Go.Proofs.Ythgcieloijmgdaa

