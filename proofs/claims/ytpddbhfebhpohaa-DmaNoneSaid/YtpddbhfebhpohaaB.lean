import Derived.Test.YtpddbhfebhpohaaA
set_option linter.unusedVariables false
set_option linter.unusedSimpArgs false
namespace Go.Proofs.Ytpddbhfebhpohaa
open Go Go.Proofs Go.Proofs.Ytpddbhfebhpohaa.Ev
theorem none_p (E : World) (k : Int) (i : Int) (p : Int) (x : Int) (n : Int) (a : Int) :
    (lawP (fnTree (pe E) (orcA E) (tabL fns) 20000 Try.f6 [.a [.i false .i64 k, .i false .i64 i, .i false .i64 p, .i false .u16 x, .i false .i64 n, .i false .u32 a]] [])) =
    (true = true) := by kernel_rfl
theorem none_l (E : World) (k : Int) (i : Int) (p : Int) (x : Int) (n : Int) (a : Int) : Holds (lawP (fnTree (pe E) (orcA E) (tabL fns) 20000 Try.f6 [.a [.i false .i64 k, .i false .i64 i, .i false .i64 p, .i false .u16 x, .i false .i64 n, .i false .u32 a]] [])) := ⟨by
  rw [none_p]
⟩
end Go.Proofs.Ytpddbhfebhpohaa

