import Derived.Test.YtfjkjkhgmeemcaaRows
import Derived.Test.YtfjkjkhgmeemcaaEw
set_option linter.unusedVariables false
set_option linter.unusedSimpArgs false
namespace Go.Proofs.Ytfjkjkhgmeemcaa
open Go Go.Proofs Go.Proofs.Ytfjkjkhgmeemcaa.Ev

noncomputable def fns : List (FuncId × Func) := [(3, Try.f3), (4, Try.f4), (5, Try.f5), (6, Try.f6), (7, Try.f7), (8, Try.f8), (9, Try.f9), (10, Try.f10)]
theorem fns_ok : ∀ p, p ∈ fns → FnOK Try.prog p :=
  fn_cons ⟨Try.func3, by decide, rfl, by decide⟩ <|
  fn_cons ⟨Try.func4, by decide, rfl, by decide⟩ <|
  fn_cons ⟨Try.func5, by decide, rfl, by decide⟩ <|
  fn_cons ⟨Try.func6, by decide, rfl, by decide⟩ <|
  fn_cons ⟨Try.func7, by decide, rfl, by decide⟩ <|
  fn_cons ⟨Try.func8, by decide, rfl, by decide⟩ <|
  fn_cons ⟨Try.func9, by decide, rfl, by decide⟩ <|
  fn_cons ⟨Try.func10, by decide, rfl, by decide⟩ <| fn_nil
theorem tab_ok : TabOK Try.prog (tabL fns) := tabL_ok fns_ok
theorem tab_sz : ∀ g fn, tabL fns g = some fn → fn.ntmps < 4095 := tabL_sz fns_ok
theorem mixed : Try.prog.follows .mixedOrders = true := by kernel_rfl


theorem none_p (k a c h f s : Int) :
    (lawP (fnTree Try.prog orcNone (tabL fns) 1000 Try.f4 [.a [.i false .i64 k, .i false .u32 a, .i false .i64 c, .i false .i64 h, .i false .i64 f, .i false .i64 s]] [])) =
    ((true ^^ (0 : Int) == (134217728 : Int) && ((0 : Int) == (0 : Int) && ((0 : Int) == (0 : Int) && true))) = true ∧ (true ^^ (134217730 : Int) == (134217730 : Int) && ((2 :
      Int) == (2 : Int) && ((1 : Int) == (1 : Int) && true))) = false ∧ (true ^^ (134217732 : Int) == (134217732 : Int) && ((1 : Int) == (1 : Int) && ((1 : Int) == (1 : Int) &&
      true))) = false ∧ true = true) := by kernel_rfl
theorem none_l (k a c h f s : Int) : lawP (fnTree Try.prog orcNone (tabL fns) 1000 Try.f4 [.a [.i false .i64 k, .i false .u32 a, .i false .i64 c, .i false .i64 h, .i false .i64 f, .i false .i64 s]] []) := by
  rw [none_p]; decide
end Go.Proofs.Ytfjkjkhgmeemcaa

