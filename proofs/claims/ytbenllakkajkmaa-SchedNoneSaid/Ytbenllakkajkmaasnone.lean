import Derived.Test.YtbenllakkajkmaaA
set_option linter.unusedVariables false
set_option linter.unusedSimpArgs false
namespace Go.Proofs.Ytbenllakkajkmaa
open Go Go.Proofs Go.Proofs.Ytbenllakkajkmaa.Ev
theorem snone_p (E : World) (a : Int) (b : Int) (n : Int) :
    (lawP (fnTree (pe E) (orcA E) (tabL fns) 20000 Try.f6 [.a [.i false .i64 a, .i false .i64 b], .c (.i false .i64 n)] [])) =
    (true = true) := by kernel_rfl
theorem snone_l (E : World) (a : Int) (b : Int) (n : Int) : Holds (lawP (fnTree (pe E) (orcA E) (tabL fns) 20000 Try.f6 [.a [.i false .i64 a, .i false .i64 b], .c (.i false .i64 n)] [])) := ⟨by
  rw [snone_p]
⟩
end Go.Proofs.Ytbenllakkajkmaa

