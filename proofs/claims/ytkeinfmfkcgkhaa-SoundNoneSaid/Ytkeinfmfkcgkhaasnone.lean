import Derived.Test.YtkeinfmfkcgkhaaA
set_option linter.unusedVariables false
set_option linter.unusedSimpArgs false
namespace Go.Proofs.Ytkeinfmfkcgkhaa
open Go Go.Proofs Go.Proofs.Ytkeinfmfkcgkhaa.Ev
theorem snone_p (E : World) (a : Int) (b : Int) (d : Int) (x : Int) :
    (lawP (fnTree (pe E) (orcA E) (tabL fns) 20000 Try.f5 [.a [.i false .i64 a, .i false .i64 b, .i false .i64 d, .i false .u32 x]] [])) =
    (true = true) := by kernel_rfl
theorem snone_l (E : World) (a : Int) (b : Int) (d : Int) (x : Int) : Holds (lawP (fnTree (pe E) (orcA E) (tabL fns) 20000 Try.f5 [.a [.i false .i64 a, .i false .i64 b, .i false .i64 d, .i false .u32 x]] [])) := ⟨by
  rw [snone_p]
⟩
end Go.Proofs.Ytkeinfmfkcgkhaa

