import Derived.Test.YtcegofobcjimlaaA
set_option linter.unusedVariables false
set_option linter.unusedSimpArgs false
namespace Go.Proofs.Ytcegofobcjimlaa
open Go Go.Proofs Go.Proofs.Ytcegofobcjimlaa.Ev
theorem none_p (E : World) (n : Int) (r : Int) (x : Int) :
    (lawP (fnTree (pe E) (orcA E) (tabL fns) 20000 Try.f4 [.c (.i false .i64 n), .c (.i false .i64 r), .c (.i false .u16 x)] [])) =
    (true = true) := by kernel_rfl
theorem none_l (E : World) (n : Int) (r : Int) (x : Int) : Holds (lawP (fnTree (pe E) (orcA E) (tabL fns) 20000 Try.f4 [.c (.i false .i64 n), .c (.i false .i64 r), .c (.i false .u16 x)] [])) := ⟨by
  rw [none_p]
⟩
end Go.Proofs.Ytcegofobcjimlaa

