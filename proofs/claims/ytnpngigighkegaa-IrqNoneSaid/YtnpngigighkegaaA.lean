import Derived.Test.YtnpngigighkegaaRows
import Derived.Test.YtnpngigighkegaaEw
set_option linter.unusedVariables false
set_option linter.unusedSimpArgs false
namespace Go.Proofs.Ytnpngigighkegaa
open Go Go.Proofs Go.Proofs.Ytnpngigighkegaa.Ev

noncomputable def fns : List (FuncId × Func) := [(3, Try.f3), (4, Try.f4), (5, Try.f5), (6, Try.f6), (7, Try.f7), (8, Try.f8), (9, Try.f9), (10, Try.f10), (11, Try.f11), (12, Try.f12), (13, Try.f13), (14, Try.f14), (15, Try.f15), (16, Try.f16), (17, Try.f17), (18, Try.f18), (19, Try.f19), (20, Try.f20), (21, Try.f21), (22, Try.f22), (23, Try.f23)]
theorem fns_ok : ∀ p, p ∈ fns → FnOK Try.prog p :=
  fn_cons ⟨Try.func3, by decide, rfl, by decide⟩ <|
  fn_cons ⟨Try.func4, by decide, rfl, by decide⟩ <|
  fn_cons ⟨Try.func5, by decide, rfl, by decide⟩ <|
  fn_cons ⟨Try.func6, by decide, rfl, by decide⟩ <|
  fn_cons ⟨Try.func7, by decide, rfl, by decide⟩ <|
  fn_cons ⟨Try.func8, by decide, rfl, by decide⟩ <|
  fn_cons ⟨Try.func9, by decide, rfl, by decide⟩ <|
  fn_cons ⟨Try.func10, by decide, rfl, by decide⟩ <|
  fn_cons ⟨Try.func11, by decide, rfl, by decide⟩ <|
  fn_cons ⟨Try.func12, by decide, rfl, by decide⟩ <|
  fn_cons ⟨Try.func13, by decide, rfl, by decide⟩ <|
  fn_cons ⟨Try.func14, by decide, rfl, by decide⟩ <|
  fn_cons ⟨Try.func15, by decide, rfl, by decide⟩ <|
  fn_cons ⟨Try.func16, by decide, rfl, by decide⟩ <|
  fn_cons ⟨Try.func17, by decide, rfl, by decide⟩ <|
  fn_cons ⟨Try.func18, by decide, rfl, by decide⟩ <|
  fn_cons ⟨Try.func19, by decide, rfl, by decide⟩ <|
  fn_cons ⟨Try.func20, by decide, rfl, by decide⟩ <|
  fn_cons ⟨Try.func21, by decide, rfl, by decide⟩ <|
  fn_cons ⟨Try.func22, by decide, rfl, by decide⟩ <|
  fn_cons ⟨Try.func23, by decide, rfl, by decide⟩ <| fn_nil
theorem tab_ok : TabOK Try.prog (tabL fns) := tabL_ok fns_ok
theorem tab_sz : ∀ g fn, tabL fns g = some fn → fn.ntmps < 4095 := tabL_sz fns_ok
theorem mixed : Try.prog.follows .mixedOrders = true := by kernel_rfl


theorem none_p (a x : Int) :
    (lawP (fnTree Try.prog orcNone (tabL fns) 1000 Try.f5 [.c (.i false .i64 a), .c (.i false .u16 x)] [])) =
    (true = true) := by kernel_rfl
theorem none_l (a x : Int) : lawP (fnTree Try.prog orcNone (tabL fns) 1000 Try.f5 [.c (.i false .i64 a), .c (.i false .u16 x)] []) := by
  rw [none_p]
end Go.Proofs.Ytnpngigighkegaa

