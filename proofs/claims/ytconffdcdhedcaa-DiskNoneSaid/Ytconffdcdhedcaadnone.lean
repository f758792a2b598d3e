import Derived.Test.YtconffdcdhedcaaA
set_option linter.unusedVariables false
set_option linter.unusedSimpArgs false
namespace Go.Proofs.Ytconffdcdhedcaa
open Go Go.Proofs Go.Proofs.Ytconffdcdhedcaa.Ev
theorem dnone_p (E : World) (a : Int) (d : ByteArray) (p : Option Addr) (n c : Nat) :
    (lawP (fnTree (pe E) (orcA E) (tabL fns) 20000 Try.f5 [.c (.i false .i64 a), .c (.str false d), .c (.es p n c)] [])) =
    (true = true) := by kernel_rfl
theorem dnone_l (E : World) (a : Int) (d : ByteArray) (p : Option Addr) (n c : Nat) : Holds (lawP (fnTree (pe E) (orcA E) (tabL fns) 20000 Try.f5 [.c (.i false .i64 a), .c (.str false d), .c (.es p n c)] [])) := ⟨by
  rw [dnone_p]
⟩
end Go.Proofs.Ytconffdcdhedcaa

