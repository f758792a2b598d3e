import Derived.Test.YtchebhjbcjjhpaaY
set_option linter.unusedVariables false
set_option linter.unusedSimpArgs false
namespace Go.Proofs.Ytchebhjbcjjhpaa
open Go Go.Proofs Go.Proofs.Ytchebhjbcjjhpaa.Ev
set_option maxRecDepth 100000
noncomputable def c4 : Code := Try.f4.body.getD .skip
noncomputable def h4o (E : World) : List Item := headOf (run (pe E) (orcX E) (tabL fns) 20000 (2^200-1) [.code c4] ⟨Try.f4.ntmps, mkFrGo (Tr.mk 12) 0 [.c (.es none 0 0)]⟩ [])
def stopT : Tree Lf → List Item
  | .leaf lf => lf.todo
  | .node _ t _ => stopF t
  | .need _ t => stopT t
  | .fail => []
noncomputable def h4m (E : World) : List Item := stopF (run (pe E) (orcX E) (tabL fns) 20000 (2^200-1) (h4o E) (mkL Try.f4.ntmps [(3, .c (.p 0 0)), (4, .c (.p 1 0)), (23, .c (.es none 1 1)), (24, .c (.i true .i64 1)), (25, .c (.i true .i64 0))]) [⟨pk (fun _ => 0), 56⟩, ⟨rk (fun _ => 0) 0, 32⟩])
noncomputable def h4a (E : World) : List Item := stopF (run (pe E) (orcX E) (tabL fns) 20000 (2^200-1) (h4m E) (mkL Try.f4.ntmps [(3, .c (.p 0 0)), (4, .c (.p 1 0)), (6, .c (.p 2 0)), (7, .c (.i false .i64 0)), (23, .c (.es none 1 1)), (24, .c (.i true .i64 1)), (25, .c (.i true .i64 0))]) [⟨pk (fun _ => 0), 56⟩, ⟨rk (fun _ => 0) 0, 32⟩, ⟨[.i false .i64 0, .i false .i64 0, .i false .i64 0, .i false .u16 0], 34⟩])
noncomputable def h4c (E : World) : List Item := stopT (run (pe E) (orcX E) (tabL fns) 20000 (2^200-1) (h4m E) (mkL Try.f4.ntmps [(3, .c (.p 0 0)), (4, .c (.p 1 0)), (6, .c (.p 2 0)), (7, .c (.i false .i64 0)), (23, .c (.es none 1 1)), (24, .c (.i true .i64 1)), (25, .c (.i true .i64 0))]) [⟨pk (fun _ => 0), 56⟩, ⟨rk (fun _ => 0) 0, 32⟩, ⟨[.i false .i64 0, .i false .i64 0, .i false .i64 0, .i false .u16 0], 34⟩])
theorem lens (E : World) :
    ((h4o E).length = 0 ∧ (h4m E).length = 0 ∧ (h4a E).length = 0 ∧ (h4c E).length = 0) =
    ((4 : Nat) = (0 : Nat) ∧ (9 : Nat) = (0 : Nat) ∧ (13 : Nat) = (0 : Nat) ∧ (9 : Nat) = (0 : Nat)) := by kernel_rfl
end Go.Proofs.Ytchebhjbcjjhpaa

