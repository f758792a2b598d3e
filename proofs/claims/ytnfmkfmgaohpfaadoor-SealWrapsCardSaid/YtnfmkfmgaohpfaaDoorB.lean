import Derived.Test.YtnfmkfmgaohpfaaDoorRows
import Derived.Test.YtnfmkfmgaohpfaaDoorEx
import Derived.Test.YtnfmkfmgaohpfaaDoorSh
import Derived.Test.YtnfmkfmgaohpfaaDoorJn
set_option linter.unusedVariables false
set_option linter.unusedSimpArgs false
namespace Go.Proofs.YtnfmkfmgaohpfaaDoor
open Go Go.Proofs Go.Proofs.YtnfmkfmgaohpfaaDoor.Ev

noncomputable abbrev pe (E : World) : PE := ⟨Tryd.prog, E, false, [(0, 1, 1), (0, 2, 1), (0, 4, 1), (0, 1005, 1)]⟩
noncomputable def fns : List (FuncId × Func) := [(3, Tryd.f3), (4, Tryd.f4), (5, Tryd.f5), (6, Tryd.f6), (7, Tryd.f7), (8, Tryd.f8), (9, Tryd.f9), (10, Tryd.f10), (11, Tryd.f11), (12, Tryd.f12), (13, Tryd.f13), (14, Tryd.f14), (15, Tryd.f15), (16, Tryd.f16), (17, Tryd.f17), (18, Tryd.f18), (19, Tryd.f19), (20, Tryd.f20), (21, Tryd.f21), (22, Tryd.f22), (23, Tryd.f23), (24, Tryd.f24), (25, Tryd.f25), (26, Tryd.f26), (27, Tryd.f27), (28, Tryd.f28), (29, Tryd.f29), (30, Tryd.f30), (31, Tryd.f31), (32, Tryd.f32), (33, Tryd.f33), (34, Tryd.f34), (35, Tryd.f35), (36, Tryd.f36), (37, Tryd.f37), (38, Tryd.f38), (39, Tryd.f39), (40, Tryd.f40), (41, Tryd.f41), (42, Tryd.f42), (43, Tryd.f43), (44, Tryd.f44), (45, Tryd.f45), (46, Tryd.f46), (47, Tryd.f47), (48, Tryd.f48), (49, Tryd.f49), (51, Tryd.f51), (52, Tryd.f52), (53, Tryd.f53), (54, Tryd.f54), (55, Tryd.f55), (56, Tryd.f56), (59, Tryd.f59), (60, Tryd.f60), (61, Tryd.f61), (62, Tryd.f62), (63, Tryd.f63)]
theorem fns_ok : ∀ p, p ∈ fns → FnOK Tryd.prog p :=
  fn_cons ⟨Tryd.func3, by decide, rfl, by decide⟩ <|
  fn_cons ⟨Tryd.func4, by decide, rfl, by decide⟩ <|
  fn_cons ⟨Tryd.func5, by decide, rfl, by decide⟩ <|
  fn_cons ⟨Tryd.func6, by decide, rfl, by decide⟩ <|
  fn_cons ⟨Tryd.func7, by decide, rfl, by decide⟩ <|
  fn_cons ⟨Tryd.func8, by decide, rfl, by decide⟩ <|
  fn_cons ⟨Tryd.func9, by decide, rfl, by decide⟩ <|
  fn_cons ⟨Tryd.func10, by decide, rfl, by decide⟩ <|
  fn_cons ⟨Tryd.func11, by decide, rfl, by decide⟩ <|
  fn_cons ⟨Tryd.func12, by decide, rfl, by decide⟩ <|
  fn_cons ⟨Tryd.func13, by decide, rfl, by decide⟩ <|
  fn_cons ⟨Tryd.func14, by decide, rfl, by decide⟩ <|
  fn_cons ⟨Tryd.func15, by decide, rfl, by decide⟩ <|
  fn_cons ⟨Tryd.func16, by decide, rfl, by decide⟩ <|
  fn_cons ⟨Tryd.func17, by decide, rfl, by decide⟩ <|
  fn_cons ⟨Tryd.func18, by decide, rfl, by decide⟩ <|
  fn_cons ⟨Tryd.func19, by decide, rfl, by decide⟩ <|
  fn_cons ⟨Tryd.func20, by decide, rfl, by decide⟩ <|
  fn_cons ⟨Tryd.func21, by decide, rfl, by decide⟩ <|
  fn_cons ⟨Tryd.func22, by decide, rfl, by decide⟩ <|
  fn_cons ⟨Tryd.func23, by decide, rfl, by decide⟩ <|
  fn_cons ⟨Tryd.func24, by decide, rfl, by decide⟩ <|
  fn_cons ⟨Tryd.func25, by decide, rfl, by decide⟩ <|
  fn_cons ⟨Tryd.func26, by decide, rfl, by decide⟩ <|
  fn_cons ⟨Tryd.func27, by decide, rfl, by decide⟩ <|
  fn_cons ⟨Tryd.func28, by decide, rfl, by decide⟩ <|
  fn_cons ⟨Tryd.func29, by decide, rfl, by decide⟩ <|
  fn_cons ⟨Tryd.func30, by decide, rfl, by decide⟩ <|
  fn_cons ⟨Tryd.func31, by decide, rfl, by decide⟩ <|
  fn_cons ⟨Tryd.func32, by decide, rfl, by decide⟩ <|
  fn_cons ⟨Tryd.func33, by decide, rfl, by decide⟩ <|
  fn_cons ⟨Tryd.func34, by decide, rfl, by decide⟩ <|
  fn_cons ⟨Tryd.func35, by decide, rfl, by decide⟩ <|
  fn_cons ⟨Tryd.func36, by decide, rfl, by decide⟩ <|
  fn_cons ⟨Tryd.func37, by decide, rfl, by decide⟩ <|
  fn_cons ⟨Tryd.func38, by decide, rfl, by decide⟩ <|
  fn_cons ⟨Tryd.func39, by decide, rfl, by decide⟩ <|
  fn_cons ⟨Tryd.func40, by decide, rfl, by decide⟩ <|
  fn_cons ⟨Tryd.func41, by decide, rfl, by decide⟩ <|
  fn_cons ⟨Tryd.func42, by decide, rfl, by decide⟩ <|
  fn_cons ⟨Tryd.func43, by decide, rfl, by decide⟩ <|
  fn_cons ⟨Tryd.func44, by decide, rfl, by decide⟩ <|
  fn_cons ⟨Tryd.func45, by decide, rfl, by decide⟩ <|
  fn_cons ⟨Tryd.func46, by decide, rfl, by decide⟩ <|
  fn_cons ⟨Tryd.func47, by decide, rfl, by decide⟩ <|
  fn_cons ⟨Tryd.func48, by decide, rfl, by decide⟩ <|
  fn_cons ⟨Tryd.func49, by decide, rfl, by decide⟩ <|
  fn_cons ⟨Tryd.func51, by decide, rfl, by decide⟩ <|
  fn_cons ⟨Tryd.func52, by decide, rfl, by decide⟩ <|
  fn_cons ⟨Tryd.func53, by decide, rfl, by decide⟩ <|
  fn_cons ⟨Tryd.func54, by decide, rfl, by decide⟩ <|
  fn_cons ⟨Tryd.func55, by decide, rfl, by decide⟩ <|
  fn_cons ⟨Tryd.func56, by decide, rfl, by decide⟩ <|
  fn_cons ⟨Tryd.func59, by decide, rfl, by decide⟩ <|
  fn_cons ⟨Tryd.func60, by decide, rfl, by decide⟩ <|
  fn_cons ⟨Tryd.func61, by decide, rfl, by decide⟩ <|
  fn_cons ⟨Tryd.func62, by decide, rfl, by decide⟩ <|
  fn_cons ⟨Tryd.func63, by decide, rfl, by decide⟩ <| fn_nil
theorem tab_ok {E : World} : TabOK (pe E) (tabL fns) := tabL_ok fns_ok
theorem tab_sz : ∀ g fn, tabL fns g = some fn → fn.ntmps < 4095 := tabL_sz fns_ok
theorem mixed : Tryd.prog.follows .mixedOrders = true := by kernel_rfl

noncomputable def orcL (E : World) : Orc := orcOr (orcRep 25 E) (orcOr (orcCat 26) (orcOr (orcTrim 30) (orcNone)))
theorem orcL_ok {E : World} : OrcOK (pe E) (orcL E) := orcOr_ok (orcRep_ok fun s c w h1 h2 => Tryd.strings_Repeat s c w h1 h2) (orcOr_ok (orcCat_ok fun bk o c xs w h1 h2 h3 h4 h5 => Tryd.join_calls bk o c xs w h1 h2 h3 h4 h5) (orcOr_ok (orcTrim_ok fun s w h => Tryd.strings_Trim_one s 0 (by decide) w h) (orcNone_ok)))
end Go.Proofs.YtnfmkfmgaohpfaaDoor

