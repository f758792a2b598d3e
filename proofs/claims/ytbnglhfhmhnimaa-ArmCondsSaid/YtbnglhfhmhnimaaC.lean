import Derived.Test.YtbnglhfhmhnimaaB
set_option linter.unusedVariables false
set_option linter.unusedSimpArgs false
namespace Go.Proofs.Ytbnglhfhmhnimaa
open Go Go.Proofs Go.Proofs.Ytbnglhfhmhnimaa.Ev
noncomputable def TT (E : World) (m : Int) : Tree (SV × SW) := fnTree (pe E) orcNone (tabL fns) 20000 Try.f10 [.c (.i false .u32 m)] []
def ks : List EK := [.i .i64, .i .i64, .i .i64, .b, .i .i64, .i .i64, .i .i64, .i .i64, .i .u32, .b, .i .i64, .i .i64, .b, .b, .b, .b, .b, .b, .b, .b, .i .i64, .b, .b, .b]
theorem shape_ok (E : World) (m : Int) : shapeT ks (TT E m) = true := by kernel_rfl
noncomputable def cellsA (E : World) (m : Int) : List C := mkCells [.i .i64, .i .i64, .i .i64, .b, .i .i64, .i .i64, .i .i64, .i .i64, .i .u32, .b, .i .i64, .i .i64, .b, .b, .b, .b, .b, .b, .b, .b, .i .i64, .b, .b, .b] (fun j => (pick (TT E m)).getD j dflt) 0
theorem par_p (E : World) (w : Int) :
    (Par (TT E w) (TT E (w % 268435456))) =
    ((IntKind.i64.wrap (bits BinOp.and IntKind.u32 (w.fdiv (33554432 : Int)) (7 : Int)) == (0 : Int)) = (IntKind.i64.wrap (bits BinOp.and IntKind.u32 ((w % (268435456 :
      Int)).fdiv (33554432 : Int)) (7 : Int)) == (0 : Int)) ∧ ((bits BinOp.and IntKind.u32 w (264241392 : Int) == (144 : Int)) = (bits BinOp.and IntKind.u32 (w % (268435456 :
      Int)) (264241392 : Int) == (144 : Int)) ∧ ((IntKind.i64 = IntKind.i64 ∧ (2 : Int) = (2 : Int)) ∧ (IntKind.i64 = IntKind.i64 ∧ (0 : Int) = (0 : Int)) ∧ (IntKind.i64 =
      IntKind.i64 ∧ (0 : Int) = (0 : Int)) ∧ (bits BinOp.and IntKind.u32 (w.fdiv (1048576 : Int)) (1 : Int) != (0 : Int)) = (bits BinOp.and IntKind.u32 ((w % (268435456 :
      Int)).fdiv (1048576 : Int)) (1 : Int) != (0 : Int)) ∧ (IntKind.i64 = IntKind.i64 ∧ IntKind.i64.wrap (bits BinOp.and IntKind.u32 (w.fdiv (65536 : Int)) (15 : Int)) =
      IntKind.i64.wrap (bits BinOp.and IntKind.u32 ((w % (268435456 : Int)).fdiv (65536 : Int)) (15 : Int))) ∧ (IntKind.i64 = IntKind.i64 ∧ IntKind.i64.wrap (bits BinOp.and
      IntKind.u32 (w.fdiv (4096 : Int)) (15 : Int)) = IntKind.i64.wrap (bits BinOp.and IntKind.u32 ((w % (268435456 : Int)).fdiv (4096 : Int)) (15 : Int))) ∧ (IntKind.i64 =
      IntKind.i64 ∧ IntKind.i64.wrap (bits BinOp.and IntKind.u32 (w.fdiv (256 : Int)) (15 : Int)) = IntKind.i64.wrap (bits BinOp.and IntKind.u32 ((w % (268435456 : Int)).fdiv
      (256 : Int)) (15 : Int))) ∧ (IntKind.i64 = IntKind.i64 ∧ IntKind.i64.wrap (bits BinOp.and IntKind.u32 (w.fdiv (1 : Int)) (15 : Int)) = IntKind.i64.wrap (bits BinOp.and
      IntKind.u32 ((w % (268435456 : Int)).fdiv (1 : Int)) (15 : Int))) ∧ (IntKind.u32 = IntKind.u32 ∧ (0 : Int) = (0 : Int)) ∧ false = false ∧ (IntKind.i64 = IntKind.i64 ∧ (0 :
      Int) = (0 : Int)) ∧ (IntKind.i64 = IntKind.i64 ∧ (0 : Int) = (0 : Int)) ∧ false = false ∧ false = false ∧ false = false ∧ false = false ∧ false = false ∧ false = false ∧
      false = false ∧ false = false ∧ (IntKind.i64 = IntKind.i64 ∧ (0 : Int) = (0 : Int)) ∧ false = false ∧ (bits BinOp.and IntKind.u32 (w.fdiv (2097152 : Int)) (1 : Int) != (0
      : Int)) = (bits BinOp.and IntKind.u32 ((w % (268435456 : Int)).fdiv (2097152 : Int)) (1 : Int) != (0 : Int)) ∧ false = false) ∧ (bits BinOp.and IntKind.u32 w (260047088 :
      Int) == (8388752 : Int)) = (bits BinOp.and IntKind.u32 (w % (268435456 : Int)) (260047088 : Int) == (8388752 : Int)) ∧ ((IntKind.i64 = IntKind.i64 ∧ (3 : Int) = (3 : Int))
      ∧ (IntKind.i64 = IntKind.i64 ∧ (0 : Int) = (0 : Int)) ∧ (IntKind.i64 = IntKind.i64 ∧ (0 : Int) = (0 : Int)) ∧ (bits BinOp.and IntKind.u32 (w.fdiv (1048576 : Int)) (1 :
      Int) != (0 : Int)) = (bits BinOp.and IntKind.u32 ((w % (268435456 : Int)).fdiv (1048576 : Int)) (1 : Int) != (0 : Int)) ∧ (IntKind.i64 = IntKind.i64 ∧ IntKind.i64.wrap
      (bits BinOp.and IntKind.u32 (w.fdiv (65536 : Int)) (15 : Int)) = IntKind.i64.wrap (bits BinOp.and IntKind.u32 ((w % (268435456 : Int)).fdiv (65536 : Int)) (15 : Int))) ∧
      (IntKind.i64 = IntKind.i64 ∧ IntKind.i64.wrap (bits BinOp.and IntKind.u32 (w.fdiv (4096 : Int)) (15 : Int)) = IntKind.i64.wrap (bits BinOp.and IntKind.u32 ((w % (268435456
      : Int)).fdiv (4096 : Int)) (15 : Int))) ∧ (IntKind.i64 = IntKind.i64 ∧ IntKind.i64.wrap (bits BinOp.and IntKind.u32 (w.fdiv (256 : Int)) (15 : Int)) = IntKind.i64.wrap
      (bits BinOp.and IntKind.u32 ((w % (268435456 : Int)).fdiv (256 : Int)) (15 : Int))) ∧ (IntKind.i64 = IntKind.i64 ∧ IntKind.i64.wrap (bits BinOp.and IntKind.u32 (w.fdiv (1
      : Int)) (15 : Int)) = IntKind.i64.wrap (bits BinOp.and IntKind.u32 ((w % (268435456 : Int)).fdiv (1 : Int)) (15 : Int))) ∧ (IntKind.u32 = IntKind.u32 ∧ (0 : Int) = (0 :
      Int)) ∧ false = false ∧ (IntKind.i64 = IntKind.i64 ∧ (0 : Int) = (0 : Int)) ∧ (IntKind.i64 = IntKind.i64 ∧ (0 : Int) = (0 : Int)) ∧ false = false ∧ false = false ∧ false =
      false ∧ (bits BinOp.and IntKind.u32 (w.fdiv (4194304 : Int)) (1 : Int) != (0 : Int)) = (bits BinOp.and IntKind.u32 ((w % (268435456 : Int)).fdiv (4194304 : Int)) (1 : Int)
      != (0 : Int)) ∧ false = false ∧ false = false ∧ false = false ∧ false = false ∧ (IntKind.i64 = IntKind.i64 ∧ (0 : Int) = (0 : Int)) ∧ false = false ∧ (bits BinOp.and
      IntKind.u32 (w.fdiv (2097152 : Int)) (1 : Int) != (0 : Int)) = (bits BinOp.and IntKind.u32 ((w % (268435456 : Int)).fdiv (2097152 : Int)) (1 : Int) != (0 : Int)) ∧ false =
      false) ∧ (bits BinOp.and IntKind.u32 w (263196656 : Int) == (16777360 : Int)) = (bits BinOp.and IntKind.u32 (w % (268435456 : Int)) (263196656 : Int) == (16777360 : Int))
      ∧ ((IntKind.i64 = IntKind.i64 ∧ (4 : Int) = (4 : Int)) ∧ (IntKind.i64 = IntKind.i64 ∧ (0 : Int) = (0 : Int)) ∧ (IntKind.i64 = IntKind.i64 ∧ (0 : Int) = (0 : Int)) ∧ false
      = false ∧ (IntKind.i64 = IntKind.i64 ∧ IntKind.i64.wrap (bits BinOp.and IntKind.u32 (w.fdiv (4096 : Int)) (15 : Int)) = IntKind.i64.wrap (bits BinOp.and IntKind.u32 ((w %
      (268435456 : Int)).fdiv (4096 : Int)) (15 : Int))) ∧ (IntKind.i64 = IntKind.i64 ∧ IntKind.i64.wrap (bits BinOp.and IntKind.u32 (w.fdiv (65536 : Int)) (15 : Int)) =
      IntKind.i64.wrap (bits BinOp.and IntKind.u32 ((w % (268435456 : Int)).fdiv (65536 : Int)) (15 : Int))) ∧ (IntKind.i64 = IntKind.i64 ∧ (0 : Int) = (0 : Int)) ∧ (IntKind.i64
      = IntKind.i64 ∧ IntKind.i64.wrap (bits BinOp.and IntKind.u32 (w.fdiv (1 : Int)) (15 : Int)) = IntKind.i64.wrap (bits BinOp.and IntKind.u32 ((w % (268435456 : Int)).fdiv (1
      : Int)) (15 : Int))) ∧ (IntKind.u32 = IntKind.u32 ∧ (0 : Int) = (0 : Int)) ∧ false = false ∧ (IntKind.i64 = IntKind.i64 ∧ (0 : Int) = (0 : Int)) ∧ (IntKind.i64 =
      IntKind.i64 ∧ (0 : Int) = (0 : Int)) ∧ false = false ∧ false = false ∧ (bits BinOp.and IntKind.u32 (w.fdiv (4194304 : Int)) (1 : Int) != (0 : Int)) = (bits BinOp.and
      IntKind.u32 ((w % (268435456 : Int)).fdiv (4194304 : Int)) (1 : Int) != (0 : Int)) ∧ false = false ∧ false = false ∧ false = false ∧ false = false ∧ false = false ∧
      (IntKind.i64 = IntKind.i64 ∧ (0 : Int) = (0 : Int)) ∧ false = false ∧ false = false ∧ false = false) ∧ (bits BinOp.and IntKind.u32 w (1048720 : Int) == (1048720 : Int)) =
      (bits BinOp.and IntKind.u32 (w % (268435456 : Int)) (1048720 : Int) == (1048720 : Int)) ∧ ((IntKind.i64.wrap (bits BinOp.and IntKind.u32 (w.fdiv (32 : Int)) (3 : Int)) !=
      (0 : Int)) = (IntKind.i64.wrap (bits BinOp.and IntKind.u32 ((w % (268435456 : Int)).fdiv (32 : Int)) (3 : Int)) != (0 : Int)) ∧ ((bits BinOp.and IntKind.u32 (w.fdiv
      (4194304 : Int)) (1 : Int) != (0 : Int)) = (bits BinOp.and IntKind.u32 ((w % (268435456 : Int)).fdiv (4194304 : Int)) (1 : Int) != (0 : Int)) ∧ ((bits BinOp.and
      IntKind.u32 (w.fdiv (2097152 : Int)) (1 : Int) != (0 : Int)) = (bits BinOp.and IntKind.u32 ((w % (268435456 : Int)).fdiv (2097152 : Int)) (1 : Int) != (0 : Int)) ∧
      ((IntKind.i64 = IntKind.i64 ∧ (6 : Int) = (6 : Int)) ∧ (IntKind.i64 = IntKind.i64 ∧ (0 : Int) = (0 : Int)) ∧ (IntKind.i64 = IntKind.i64 ∧ IntKind.i64.wrap (bits BinOp.and
      IntKind.u32 (w.fdiv (32 : Int)) (3 : Int)) = IntKind.i64.wrap (bits BinOp.and IntKind.u32 ((w % (268435456 : Int)).fdiv (32 : Int)) (3 : Int))) ∧ false = false ∧
      (IntKind.i64 = IntKind.i64 ∧ IntKind.i64.wrap (bits BinOp.and IntKind.u32 (w.fdiv (4096 : Int)) (15 : Int)) = IntKind.i64.wrap (bits BinOp.and IntKind.u32 ((w % (268435456
      : Int)).fdiv (4096 : Int)) (15 : Int))) ∧ (IntKind.i64 = IntKind.i64 ∧ IntKind.i64.wrap (bits BinOp.and IntKind.u32 (w.fdiv (65536 : Int)) (15 : Int)) = IntKind.i64.wrap
      (bits BinOp.and IntKind.u32 ((w % (268435456 : Int)).fdiv (65536 : Int)) (15 : Int))) ∧ (IntKind.i64 = IntKind.i64 ∧ (0 : Int) = (0 : Int)) ∧ (IntKind.i64 = IntKind.i64 ∧
      (0 : Int) = (0 : Int)) ∧ (IntKind.u32 = IntKind.u32 ∧ bits BinOp.or IntKind.u32 (bits BinOp.and IntKind.u32 (w.fdiv (16 : Int)) (240 : Int)) (bits BinOp.and IntKind.u32 w
      (15 : Int)) = bits BinOp.or IntKind.u32 (bits BinOp.and IntKind.u32 ((w % (268435456 : Int)).fdiv (16 : Int)) (240 : Int)) (bits BinOp.and IntKind.u32 (w % (268435456 :
      Int)) (15 : Int))) ∧ true = true ∧ (IntKind.i64 = IntKind.i64 ∧ (0 : Int) = (0 : Int)) ∧ (IntKind.i64 = IntKind.i64 ∧ (0 : Int) = (0 : Int)) ∧ false = false ∧ (bits
      BinOp.and IntKind.u32 (w.fdiv (1048576 : Int)) (1 : Int) != (0 : Int)) = (bits BinOp.and IntKind.u32 ((w % (268435456 : Int)).fdiv (1048576 : Int)) (1 : Int) != (0 : Int))
      ∧ false = false ∧ false = false ∧ (bits BinOp.and IntKind.u32 (w.fdiv (16777216 : Int)) (1 : Int) != (0 : Int)) = (bits BinOp.and IntKind.u32 ((w % (268435456 : Int)).fdiv
      (16777216 : Int)) (1 : Int) != (0 : Int)) ∧ (bits BinOp.and IntKind.u32 (w.fdiv (8388608 : Int)) (1 : Int) != (0 : Int)) = (bits BinOp.and IntKind.u32 ((w % (268435456 :
      Int)).fdiv (8388608 : Int)) (1 : Int) != (0 : Int)) ∧ true = true ∧ false = false ∧ (IntKind.i64 = IntKind.i64 ∧ (0 : Int) = (0 : Int)) ∧ false = false ∧ false = false ∧
      false = false) ∧ (IntKind.i64 = IntKind.i64 ∧ (6 : Int) = (6 : Int)) ∧ (IntKind.i64 = IntKind.i64 ∧ (0 : Int) = (0 : Int)) ∧ (IntKind.i64 = IntKind.i64 ∧ IntKind.i64.wrap
      (bits BinOp.and IntKind.u32 (w.fdiv (32 : Int)) (3 : Int)) = IntKind.i64.wrap (bits BinOp.and IntKind.u32 ((w % (268435456 : Int)).fdiv (32 : Int)) (3 : Int))) ∧ false =
      false ∧ (IntKind.i64 = IntKind.i64 ∧ IntKind.i64.wrap (bits BinOp.and IntKind.u32 (w.fdiv (4096 : Int)) (15 : Int)) = IntKind.i64.wrap (bits BinOp.and IntKind.u32 ((w %
      (268435456 : Int)).fdiv (4096 : Int)) (15 : Int))) ∧ (IntKind.i64 = IntKind.i64 ∧ IntKind.i64.wrap (bits BinOp.and IntKind.u32 (w.fdiv (65536 : Int)) (15 : Int)) =
      IntKind.i64.wrap (bits BinOp.and IntKind.u32 ((w % (268435456 : Int)).fdiv (65536 : Int)) (15 : Int))) ∧ (IntKind.i64 = IntKind.i64 ∧ (0 : Int) = (0 : Int)) ∧ (IntKind.i64
      = IntKind.i64 ∧ (0 : Int) = (0 : Int)) ∧ (IntKind.u32 = IntKind.u32 ∧ bits BinOp.or IntKind.u32 (bits BinOp.and IntKind.u32 (w.fdiv (16 : Int)) (240 : Int)) (bits
      BinOp.and IntKind.u32 w (15 : Int)) = bits BinOp.or IntKind.u32 (bits BinOp.and IntKind.u32 ((w % (268435456 : Int)).fdiv (16 : Int)) (240 : Int)) (bits BinOp.and
      IntKind.u32 (w % (268435456 : Int)) (15 : Int))) ∧ true = true ∧ (IntKind.i64 = IntKind.i64 ∧ (0 : Int) = (0 : Int)) ∧ (IntKind.i64 = IntKind.i64 ∧ (0 : Int) = (0 : Int))
      ∧ false = false ∧ (bits BinOp.and IntKind.u32 (w.fdiv (1048576 : Int)) (1 : Int) != (0 : Int)) = (bits BinOp.and IntKind.u32 ((w % (268435456 : Int)).fdiv (1048576 : Int))
      (1 : Int) != (0 : Int)) ∧ false = false ∧ false = false ∧ (bits BinOp.and IntKind.u32 (w.fdiv (16777216 : Int)) (1 : Int) != (0 : Int)) = (bits BinOp.and IntKind.u32 ((w %
      (268435456 : Int)).fdiv (16777216 : Int)) (1 : Int) != (0 : Int)) ∧ (bits BinOp.and IntKind.u32 (w.fdiv (8388608 : Int)) (1 : Int) != (0 : Int)) = (bits BinOp.and
      IntKind.u32 ((w % (268435456 : Int)).fdiv (8388608 : Int)) (1 : Int) != (0 : Int)) ∧ (!bits BinOp.and IntKind.u32 (w.fdiv (16777216 : Int)) (1 : Int) != (0 : Int)) = !bits
      BinOp.and IntKind.u32 ((w % (268435456 : Int)).fdiv (16777216 : Int)) (1 : Int) != (0 : Int) ∧ false = false ∧ (IntKind.i64 = IntKind.i64 ∧ (0 : Int) = (0 : Int)) ∧ false
      = false ∧ false = false ∧ false = false) ∧ (bits BinOp.and IntKind.u32 (w.fdiv (2097152 : Int)) (1 : Int) != (0 : Int)) = (bits BinOp.and IntKind.u32 ((w % (268435456 :
      Int)).fdiv (2097152 : Int)) (1 : Int) != (0 : Int)) ∧ ((IntKind.i64 = IntKind.i64 ∧ (6 : Int) = (6 : Int)) ∧ (IntKind.i64 = IntKind.i64 ∧ (0 : Int) = (0 : Int)) ∧
      (IntKind.i64 = IntKind.i64 ∧ IntKind.i64.wrap (bits BinOp.and IntKind.u32 (w.fdiv (32 : Int)) (3 : Int)) = IntKind.i64.wrap (bits BinOp.and IntKind.u32 ((w % (268435456 :
      Int)).fdiv (32 : Int)) (3 : Int))) ∧ false = false ∧ (IntKind.i64 = IntKind.i64 ∧ IntKind.i64.wrap (bits BinOp.and IntKind.u32 (w.fdiv (4096 : Int)) (15 : Int)) =
      IntKind.i64.wrap (bits BinOp.and IntKind.u32 ((w % (268435456 : Int)).fdiv (4096 : Int)) (15 : Int))) ∧ (IntKind.i64 = IntKind.i64 ∧ IntKind.i64.wrap (bits BinOp.and
      IntKind.u32 (w.fdiv (65536 : Int)) (15 : Int)) = IntKind.i64.wrap (bits BinOp.and IntKind.u32 ((w % (268435456 : Int)).fdiv (65536 : Int)) (15 : Int))) ∧ (IntKind.i64 =
      IntKind.i64 ∧ (0 : Int) = (0 : Int)) ∧ (IntKind.i64 = IntKind.i64 ∧ IntKind.i64.wrap (bits BinOp.and IntKind.u32 (w.fdiv (1 : Int)) (15 : Int)) = IntKind.i64.wrap (bits
      BinOp.and IntKind.u32 ((w % (268435456 : Int)).fdiv (1 : Int)) (15 : Int))) ∧ (IntKind.u32 = IntKind.u32 ∧ (0 : Int) = (0 : Int)) ∧ false = false ∧ (IntKind.i64 =
      IntKind.i64 ∧ (0 : Int) = (0 : Int)) ∧ (IntKind.i64 = IntKind.i64 ∧ (0 : Int) = (0 : Int)) ∧ false = false ∧ (bits BinOp.and IntKind.u32 (w.fdiv (1048576 : Int)) (1 : Int)
      != (0 : Int)) = (bits BinOp.and IntKind.u32 ((w % (268435456 : Int)).fdiv (1048576 : Int)) (1 : Int) != (0 : Int)) ∧ false = false ∧ false = false ∧ (bits BinOp.and
      IntKind.u32 (w.fdiv (16777216 : Int)) (1 : Int) != (0 : Int)) = (bits BinOp.and IntKind.u32 ((w % (268435456 : Int)).fdiv (16777216 : Int)) (1 : Int) != (0 : Int)) ∧ (bits
      BinOp.and IntKind.u32 (w.fdiv (8388608 : Int)) (1 : Int) != (0 : Int)) = (bits BinOp.and IntKind.u32 ((w % (268435456 : Int)).fdiv (8388608 : Int)) (1 : Int) != (0 : Int))
      ∧ true = true ∧ false = false ∧ (IntKind.i64 = IntKind.i64 ∧ (0 : Int) = (0 : Int)) ∧ false = false ∧ false = false ∧ false = false) ∧ (IntKind.i64 = IntKind.i64 ∧ (6 :
      Int) = (6 : Int)) ∧ (IntKind.i64 = IntKind.i64 ∧ (0 : Int) = (0 : Int)) ∧ (IntKind.i64 = IntKind.i64 ∧ IntKind.i64.wrap (bits BinOp.and IntKind.u32 (w.fdiv (32 : Int)) (3
      : Int)) = IntKind.i64.wrap (bits BinOp.and IntKind.u32 ((w % (268435456 : Int)).fdiv (32 : Int)) (3 : Int))) ∧ false = false ∧ (IntKind.i64 = IntKind.i64 ∧
      IntKind.i64.wrap (bits BinOp.and IntKind.u32 (w.fdiv (4096 : Int)) (15 : Int)) = IntKind.i64.wrap (bits BinOp.and IntKind.u32 ((w % (268435456 : Int)).fdiv (4096 : Int))
      (15 : Int))) ∧ (IntKind.i64 = IntKind.i64 ∧ IntKind.i64.wrap (bits BinOp.and IntKind.u32 (w.fdiv (65536 : Int)) (15 : Int)) = IntKind.i64.wrap (bits BinOp.and IntKind.u32
      ((w % (268435456 : Int)).fdiv (65536 : Int)) (15 : Int))) ∧ (IntKind.i64 = IntKind.i64 ∧ (0 : Int) = (0 : Int)) ∧ (IntKind.i64 = IntKind.i64 ∧ IntKind.i64.wrap (bits
      BinOp.and IntKind.u32 (w.fdiv (1 : Int)) (15 : Int)) = IntKind.i64.wrap (bits BinOp.and IntKind.u32 ((w % (268435456 : Int)).fdiv (1 : Int)) (15 : Int))) ∧ (IntKind.u32 =
      IntKind.u32 ∧ (0 : Int) = (0 : Int)) ∧ false = false ∧ (IntKind.i64 = IntKind.i64 ∧ (0 : Int) = (0 : Int)) ∧ (IntKind.i64 = IntKind.i64 ∧ (0 : Int) = (0 : Int)) ∧ false =
      false ∧ (bits BinOp.and IntKind.u32 (w.fdiv (1048576 : Int)) (1 : Int) != (0 : Int)) = (bits BinOp.and IntKind.u32 ((w % (268435456 : Int)).fdiv (1048576 : Int)) (1 : Int)
      != (0 : Int)) ∧ false = false ∧ false = false ∧ (bits BinOp.and IntKind.u32 (w.fdiv (16777216 : Int)) (1 : Int) != (0 : Int)) = (bits BinOp.and IntKind.u32 ((w %
      (268435456 : Int)).fdiv (16777216 : Int)) (1 : Int) != (0 : Int)) ∧ (bits BinOp.and IntKind.u32 (w.fdiv (8388608 : Int)) (1 : Int) != (0 : Int)) = (bits BinOp.and
      IntKind.u32 ((w % (268435456 : Int)).fdiv (8388608 : Int)) (1 : Int) != (0 : Int)) ∧ (!bits BinOp.and IntKind.u32 (w.fdiv (16777216 : Int)) (1 : Int) != (0 : Int)) = !bits
      BinOp.and IntKind.u32 ((w % (268435456 : Int)).fdiv (16777216 : Int)) (1 : Int) != (0 : Int) ∧ false = false ∧ (IntKind.i64 = IntKind.i64 ∧ (0 : Int) = (0 : Int)) ∧ false
      = false ∧ false = false ∧ false = false) ∧ (bits BinOp.and IntKind.u32 w (1048816 : Int) == (176 : Int)) = (bits BinOp.and IntKind.u32 (w % (268435456 : Int)) (1048816 :
      Int) == (176 : Int)) ∧ ((bits BinOp.and IntKind.u32 (w.fdiv (4194304 : Int)) (1 : Int) != (0 : Int)) = (bits BinOp.and IntKind.u32 ((w % (268435456 : Int)).fdiv (4194304 :
      Int)) (1 : Int) != (0 : Int)) ∧ ((bits BinOp.and IntKind.u32 (w.fdiv (2097152 : Int)) (1 : Int) != (0 : Int)) = (bits BinOp.and IntKind.u32 ((w % (268435456 : Int)).fdiv
      (2097152 : Int)) (1 : Int) != (0 : Int)) ∧ ((IntKind.i64 = IntKind.i64 ∧ (6 : Int) = (6 : Int)) ∧ (IntKind.i64 = IntKind.i64 ∧ (0 : Int) = (0 : Int)) ∧ (IntKind.i64 =
      IntKind.i64 ∧ IntKind.i64.wrap (bits BinOp.and IntKind.u32 (w.fdiv (32 : Int)) (3 : Int)) = IntKind.i64.wrap (bits BinOp.and IntKind.u32 ((w % (268435456 : Int)).fdiv (32
      : Int)) (3 : Int))) ∧ false = false ∧ (IntKind.i64 = IntKind.i64 ∧ IntKind.i64.wrap (bits BinOp.and IntKind.u32 (w.fdiv (4096 : Int)) (15 : Int)) = IntKind.i64.wrap (bits
      BinOp.and IntKind.u32 ((w % (268435456 : Int)).fdiv (4096 : Int)) (15 : Int))) ∧ (IntKind.i64 = IntKind.i64 ∧ IntKind.i64.wrap (bits BinOp.and IntKind.u32 (w.fdiv (65536 :
      Int)) (15 : Int)) = IntKind.i64.wrap (bits BinOp.and IntKind.u32 ((w % (268435456 : Int)).fdiv (65536 : Int)) (15 : Int))) ∧ (IntKind.i64 = IntKind.i64 ∧ (0 : Int) = (0 :
      Int)) ∧ (IntKind.i64 = IntKind.i64 ∧ (0 : Int) = (0 : Int)) ∧ (IntKind.u32 = IntKind.u32 ∧ bits BinOp.or IntKind.u32 (bits BinOp.and IntKind.u32 (w.fdiv (16 : Int)) (240 :
      Int)) (bits BinOp.and IntKind.u32 w (15 : Int)) = bits BinOp.or IntKind.u32 (bits BinOp.and IntKind.u32 ((w % (268435456 : Int)).fdiv (16 : Int)) (240 : Int)) (bits
      BinOp.and IntKind.u32 (w % (268435456 : Int)) (15 : Int))) ∧ true = true ∧ (IntKind.i64 = IntKind.i64 ∧ (0 : Int) = (0 : Int)) ∧ (IntKind.i64 = IntKind.i64 ∧ (0 : Int) =
      (0 : Int)) ∧ false = false ∧ (bits BinOp.and IntKind.u32 (w.fdiv (1048576 : Int)) (1 : Int) != (0 : Int)) = (bits BinOp.and IntKind.u32 ((w % (268435456 : Int)).fdiv
      (1048576 : Int)) (1 : Int) != (0 : Int)) ∧ false = false ∧ false = false ∧ (bits BinOp.and IntKind.u32 (w.fdiv (16777216 : Int)) (1 : Int) != (0 : Int)) = (bits BinOp.and
      IntKind.u32 ((w % (268435456 : Int)).fdiv (16777216 : Int)) (1 : Int) != (0 : Int)) ∧ (bits BinOp.and IntKind.u32 (w.fdiv (8388608 : Int)) (1 : Int) != (0 : Int)) = (bits
      BinOp.and IntKind.u32 ((w % (268435456 : Int)).fdiv (8388608 : Int)) (1 : Int) != (0 : Int)) ∧ true = true ∧ false = false ∧ (IntKind.i64 = IntKind.i64 ∧ (0 : Int) = (0 :
      Int)) ∧ false = false ∧ false = false ∧ false = false) ∧ (IntKind.i64 = IntKind.i64 ∧ (6 : Int) = (6 : Int)) ∧ (IntKind.i64 = IntKind.i64 ∧ (0 : Int) = (0 : Int)) ∧
      (IntKind.i64 = IntKind.i64 ∧ IntKind.i64.wrap (bits BinOp.and IntKind.u32 (w.fdiv (32 : Int)) (3 : Int)) = IntKind.i64.wrap (bits BinOp.and IntKind.u32 ((w % (268435456 :
      Int)).fdiv (32 : Int)) (3 : Int))) ∧ false = false ∧ (IntKind.i64 = IntKind.i64 ∧ IntKind.i64.wrap (bits BinOp.and IntKind.u32 (w.fdiv (4096 : Int)) (15 : Int)) =
      IntKind.i64.wrap (bits BinOp.and IntKind.u32 ((w % (268435456 : Int)).fdiv (4096 : Int)) (15 : Int))) ∧ (IntKind.i64 = IntKind.i64 ∧ IntKind.i64.wrap (bits BinOp.and
      IntKind.u32 (w.fdiv (65536 : Int)) (15 : Int)) = IntKind.i64.wrap (bits BinOp.and IntKind.u32 ((w % (268435456 : Int)).fdiv (65536 : Int)) (15 : Int))) ∧ (IntKind.i64 =
      IntKind.i64 ∧ (0 : Int) = (0 : Int)) ∧ (IntKind.i64 = IntKind.i64 ∧ (0 : Int) = (0 : Int)) ∧ (IntKind.u32 = IntKind.u32 ∧ bits BinOp.or IntKind.u32 (bits BinOp.and
      IntKind.u32 (w.fdiv (16 : Int)) (240 : Int)) (bits BinOp.and IntKind.u32 w (15 : Int)) = bits BinOp.or IntKind.u32 (bits BinOp.and IntKind.u32 ((w % (268435456 :
      Int)).fdiv (16 : Int)) (240 : Int)) (bits BinOp.and IntKind.u32 (w % (268435456 : Int)) (15 : Int))) ∧ true = true ∧ (IntKind.i64 = IntKind.i64 ∧ (0 : Int) = (0 : Int)) ∧
      (IntKind.i64 = IntKind.i64 ∧ (0 : Int) = (0 : Int)) ∧ false = false ∧ (bits BinOp.and IntKind.u32 (w.fdiv (1048576 : Int)) (1 : Int) != (0 : Int)) = (bits BinOp.and
      IntKind.u32 ((w % (268435456 : Int)).fdiv (1048576 : Int)) (1 : Int) != (0 : Int)) ∧ false = false ∧ false = false ∧ (bits BinOp.and IntKind.u32 (w.fdiv (16777216 : Int))
      (1 : Int) != (0 : Int)) = (bits BinOp.and IntKind.u32 ((w % (268435456 : Int)).fdiv (16777216 : Int)) (1 : Int) != (0 : Int)) ∧ (bits BinOp.and IntKind.u32 (w.fdiv
      (8388608 : Int)) (1 : Int) != (0 : Int)) = (bits BinOp.and IntKind.u32 ((w % (268435456 : Int)).fdiv (8388608 : Int)) (1 : Int) != (0 : Int)) ∧ (!bits BinOp.and
      IntKind.u32 (w.fdiv (16777216 : Int)) (1 : Int) != (0 : Int)) = !bits BinOp.and IntKind.u32 ((w % (268435456 : Int)).fdiv (16777216 : Int)) (1 : Int) != (0 : Int) ∧ false
      = false ∧ (IntKind.i64 = IntKind.i64 ∧ (0 : Int) = (0 : Int)) ∧ false = false ∧ false = false ∧ false = false) ∧ (bits BinOp.and IntKind.u32 (w.fdiv (2097152 : Int)) (1 :
      Int) != (0 : Int)) = (bits BinOp.and IntKind.u32 ((w % (268435456 : Int)).fdiv (2097152 : Int)) (1 : Int) != (0 : Int)) ∧ ((IntKind.i64 = IntKind.i64 ∧ (6 : Int) = (6 :
      Int)) ∧ (IntKind.i64 = IntKind.i64 ∧ (0 : Int) = (0 : Int)) ∧ (IntKind.i64 = IntKind.i64 ∧ IntKind.i64.wrap (bits BinOp.and IntKind.u32 (w.fdiv (32 : Int)) (3 : Int)) =
      IntKind.i64.wrap (bits BinOp.and IntKind.u32 ((w % (268435456 : Int)).fdiv (32 : Int)) (3 : Int))) ∧ false = false ∧ (IntKind.i64 = IntKind.i64 ∧ IntKind.i64.wrap (bits
      BinOp.and IntKind.u32 (w.fdiv (4096 : Int)) (15 : Int)) = IntKind.i64.wrap (bits BinOp.and IntKind.u32 ((w % (268435456 : Int)).fdiv (4096 : Int)) (15 : Int))) ∧
      (IntKind.i64 = IntKind.i64 ∧ IntKind.i64.wrap (bits BinOp.and IntKind.u32 (w.fdiv (65536 : Int)) (15 : Int)) = IntKind.i64.wrap (bits BinOp.and IntKind.u32 ((w %
      (268435456 : Int)).fdiv (65536 : Int)) (15 : Int))) ∧ (IntKind.i64 = IntKind.i64 ∧ (0 : Int) = (0 : Int)) ∧ (IntKind.i64 = IntKind.i64 ∧ IntKind.i64.wrap (bits BinOp.and
      IntKind.u32 (w.fdiv (1 : Int)) (15 : Int)) = IntKind.i64.wrap (bits BinOp.and IntKind.u32 ((w % (268435456 : Int)).fdiv (1 : Int)) (15 : Int))) ∧ (IntKind.u32 =
      IntKind.u32 ∧ (0 : Int) = (0 : Int)) ∧ false = false ∧ (IntKind.i64 = IntKind.i64 ∧ (0 : Int) = (0 : Int)) ∧ (IntKind.i64 = IntKind.i64 ∧ (0 : Int) = (0 : Int)) ∧ false =
      false ∧ (bits BinOp.and IntKind.u32 (w.fdiv (1048576 : Int)) (1 : Int) != (0 : Int)) = (bits BinOp.and IntKind.u32 ((w % (268435456 : Int)).fdiv (1048576 : Int)) (1 : Int)
      != (0 : Int)) ∧ false = false ∧ false = false ∧ (bits BinOp.and IntKind.u32 (w.fdiv (16777216 : Int)) (1 : Int) != (0 : Int)) = (bits BinOp.and IntKind.u32 ((w %
      (268435456 : Int)).fdiv (16777216 : Int)) (1 : Int) != (0 : Int)) ∧ (bits BinOp.and IntKind.u32 (w.fdiv (8388608 : Int)) (1 : Int) != (0 : Int)) = (bits BinOp.and
      IntKind.u32 ((w % (268435456 : Int)).fdiv (8388608 : Int)) (1 : Int) != (0 : Int)) ∧ true = true ∧ false = false ∧ (IntKind.i64 = IntKind.i64 ∧ (0 : Int) = (0 : Int)) ∧
      false = false ∧ false = false ∧ false = false) ∧ (IntKind.i64 = IntKind.i64 ∧ (6 : Int) = (6 : Int)) ∧ (IntKind.i64 = IntKind.i64 ∧ (0 : Int) = (0 : Int)) ∧ (IntKind.i64 =
      IntKind.i64 ∧ IntKind.i64.wrap (bits BinOp.and IntKind.u32 (w.fdiv (32 : Int)) (3 : Int)) = IntKind.i64.wrap (bits BinOp.and IntKind.u32 ((w % (268435456 : Int)).fdiv (32
      : Int)) (3 : Int))) ∧ false = false ∧ (IntKind.i64 = IntKind.i64 ∧ IntKind.i64.wrap (bits BinOp.and IntKind.u32 (w.fdiv (4096 : Int)) (15 : Int)) = IntKind.i64.wrap (bits
      BinOp.and IntKind.u32 ((w % (268435456 : Int)).fdiv (4096 : Int)) (15 : Int))) ∧ (IntKind.i64 = IntKind.i64 ∧ IntKind.i64.wrap (bits BinOp.and IntKind.u32 (w.fdiv (65536 :
      Int)) (15 : Int)) = IntKind.i64.wrap (bits BinOp.and IntKind.u32 ((w % (268435456 : Int)).fdiv (65536 : Int)) (15 : Int))) ∧ (IntKind.i64 = IntKind.i64 ∧ (0 : Int) = (0 :
      Int)) ∧ (IntKind.i64 = IntKind.i64 ∧ IntKind.i64.wrap (bits BinOp.and IntKind.u32 (w.fdiv (1 : Int)) (15 : Int)) = IntKind.i64.wrap (bits BinOp.and IntKind.u32 ((w %
      (268435456 : Int)).fdiv (1 : Int)) (15 : Int))) ∧ (IntKind.u32 = IntKind.u32 ∧ (0 : Int) = (0 : Int)) ∧ false = false ∧ (IntKind.i64 = IntKind.i64 ∧ (0 : Int) = (0 : Int))
      ∧ (IntKind.i64 = IntKind.i64 ∧ (0 : Int) = (0 : Int)) ∧ false = false ∧ (bits BinOp.and IntKind.u32 (w.fdiv (1048576 : Int)) (1 : Int) != (0 : Int)) = (bits BinOp.and
      IntKind.u32 ((w % (268435456 : Int)).fdiv (1048576 : Int)) (1 : Int) != (0 : Int)) ∧ false = false ∧ false = false ∧ (bits BinOp.and IntKind.u32 (w.fdiv (16777216 : Int))
      (1 : Int) != (0 : Int)) = (bits BinOp.and IntKind.u32 ((w % (268435456 : Int)).fdiv (16777216 : Int)) (1 : Int) != (0 : Int)) ∧ (bits BinOp.and IntKind.u32 (w.fdiv
      (8388608 : Int)) (1 : Int) != (0 : Int)) = (bits BinOp.and IntKind.u32 ((w % (268435456 : Int)).fdiv (8388608 : Int)) (1 : Int) != (0 : Int)) ∧ (!bits BinOp.and
      IntKind.u32 (w.fdiv (16777216 : Int)) (1 : Int) != (0 : Int)) = !bits BinOp.and IntKind.u32 ((w % (268435456 : Int)).fdiv (16777216 : Int)) (1 : Int) != (0 : Int) ∧ false
      = false ∧ (IntKind.i64 = IntKind.i64 ∧ (0 : Int) = (0 : Int)) ∧ false = false ∧ false = false ∧ false = false) ∧ (bits BinOp.and IntKind.u32 w (268435440 : Int) ==
      (19922704 : Int)) = (bits BinOp.and IntKind.u32 (w % (268435456 : Int)) (268435440 : Int) == (19922704 : Int)) ∧ ((IntKind.i64 = IntKind.i64 ∧ (5 : Int) = (5 : Int)) ∧
      (IntKind.i64 = IntKind.i64 ∧ (0 : Int) = (0 : Int)) ∧ (IntKind.i64 = IntKind.i64 ∧ (0 : Int) = (0 : Int)) ∧ false = false ∧ (IntKind.i64 = IntKind.i64 ∧ (0 : Int) = (0 :
      Int)) ∧ (IntKind.i64 = IntKind.i64 ∧ (0 : Int) = (0 : Int)) ∧ (IntKind.i64 = IntKind.i64 ∧ (0 : Int) = (0 : Int)) ∧ (IntKind.i64 = IntKind.i64 ∧ IntKind.i64.wrap (bits
      BinOp.and IntKind.u32 (w.fdiv (1 : Int)) (15 : Int)) = IntKind.i64.wrap (bits BinOp.and IntKind.u32 ((w % (268435456 : Int)).fdiv (1 : Int)) (15 : Int))) ∧ (IntKind.u32 =
      IntKind.u32 ∧ (0 : Int) = (0 : Int)) ∧ false = false ∧ (IntKind.i64 = IntKind.i64 ∧ (0 : Int) = (0 : Int)) ∧ (IntKind.i64 = IntKind.i64 ∧ (0 : Int) = (0 : Int)) ∧ false =
      false ∧ false = false ∧ false = false ∧ false = false ∧ false = false ∧ false = false ∧ false = false ∧ false = false ∧ (IntKind.i64 = IntKind.i64 ∧ (0 : Int) = (0 : Int))
      ∧ false = false ∧ false = false ∧ false = false) ∧ (bits BinOp.and IntKind.u32 w (264179711 : Int) == (17760256 : Int)) = (bits BinOp.and IntKind.u32 (w % (268435456 :
      Int)) (264179711 : Int) == (17760256 : Int)) ∧ ((IntKind.i64 = IntKind.i64 ∧ (11 : Int) = (11 : Int)) ∧ (IntKind.i64 = IntKind.i64 ∧ (0 : Int) = (0 : Int)) ∧ (IntKind.i64
      = IntKind.i64 ∧ (0 : Int) = (0 : Int)) ∧ false = false ∧ (IntKind.i64 = IntKind.i64 ∧ IntKind.i64.wrap (bits BinOp.and IntKind.u32 (w.fdiv (4096 : Int)) (15 : Int)) =
      IntKind.i64.wrap (bits BinOp.and IntKind.u32 ((w % (268435456 : Int)).fdiv (4096 : Int)) (15 : Int))) ∧ (IntKind.i64 = IntKind.i64 ∧ (0 : Int) = (0 : Int)) ∧ (IntKind.i64
      = IntKind.i64 ∧ (0 : Int) = (0 : Int)) ∧ (IntKind.i64 = IntKind.i64 ∧ (0 : Int) = (0 : Int)) ∧ (IntKind.u32 = IntKind.u32 ∧ (0 : Int) = (0 : Int)) ∧ false = false ∧
      (IntKind.i64 = IntKind.i64 ∧ (0 : Int) = (0 : Int)) ∧ (IntKind.i64 = IntKind.i64 ∧ (0 : Int) = (0 : Int)) ∧ false = false ∧ false = false ∧ false = false ∧ false = false ∧
      false = false ∧ false = false ∧ false = false ∧ (bits BinOp.and IntKind.u32 (w.fdiv (4194304 : Int)) (1 : Int) != (0 : Int)) = (bits BinOp.and IntKind.u32 ((w % (268435456
      : Int)).fdiv (4194304 : Int)) (1 : Int) != (0 : Int)) ∧ (IntKind.i64 = IntKind.i64 ∧ (0 : Int) = (0 : Int)) ∧ false = false ∧ false = false ∧ false = false) ∧ (bits
      BinOp.and IntKind.u32 w (263258096 : Int) == (18935808 : Int)) = (bits BinOp.and IntKind.u32 (w % (268435456 : Int)) (263258096 : Int) == (18935808 : Int)) ∧ ((IntKind.i64
      = IntKind.i64 ∧ (12 : Int) = (12 : Int)) ∧ (IntKind.i64 = IntKind.i64 ∧ (0 : Int) = (0 : Int)) ∧ (IntKind.i64 = IntKind.i64 ∧ (0 : Int) = (0 : Int)) ∧ false = false ∧
      (IntKind.i64 = IntKind.i64 ∧ (0 : Int) = (0 : Int)) ∧ (IntKind.i64 = IntKind.i64 ∧ (0 : Int) = (0 : Int)) ∧ (IntKind.i64 = IntKind.i64 ∧ (0 : Int) = (0 : Int)) ∧
      (IntKind.i64 = IntKind.i64 ∧ IntKind.i64.wrap (bits BinOp.and IntKind.u32 (w.fdiv (1 : Int)) (15 : Int)) = IntKind.i64.wrap (bits BinOp.and IntKind.u32 ((w % (268435456 :
      Int)).fdiv (1 : Int)) (15 : Int))) ∧ (IntKind.u32 = IntKind.u32 ∧ (0 : Int) = (0 : Int)) ∧ false = false ∧ (IntKind.i64 = IntKind.i64 ∧ (0 : Int) = (0 : Int)) ∧
      (IntKind.i64 = IntKind.i64 ∧ (0 : Int) = (0 : Int)) ∧ false = false ∧ false = false ∧ false = false ∧ false = false ∧ false = false ∧ false = false ∧ false = false ∧ (bits
      BinOp.and IntKind.u32 (w.fdiv (4194304 : Int)) (1 : Int) != (0 : Int)) = (bits BinOp.and IntKind.u32 ((w % (268435456 : Int)).fdiv (4194304 : Int)) (1 : Int) != (0 : Int))
      ∧ (IntKind.i64 = IntKind.i64 ∧ IntKind.i64.wrap (bits BinOp.and IntKind.u32 (w.fdiv (65536 : Int)) (15 : Int)) = IntKind.i64.wrap (bits BinOp.and IntKind.u32 ((w %
      (268435456 : Int)).fdiv (65536 : Int)) (15 : Int))) ∧ false = false ∧ false = false ∧ false = false) ∧ (!bits BinOp.and IntKind.u32 (w.fdiv (16 : Int)) (1 : Int) != (0 :
      Int)) = !bits BinOp.and IntKind.u32 ((w % (268435456 : Int)).fdiv (16 : Int)) (1 : Int) != (0 : Int) ∧ (decide (IntKind.i64.wrap (bits BinOp.and IntKind.u32 (w.fdiv
      (2097152 : Int)) (15 : Int)) ≥ (8 : Int)) = decide (IntKind.i64.wrap (bits BinOp.and IntKind.u32 ((w % (268435456 : Int)).fdiv (2097152 : Int)) (15 : Int)) ≥ (8 : Int)) ∧
      (decide (IntKind.i64.wrap (bits BinOp.and IntKind.u32 (w.fdiv (2097152 : Int)) (15 : Int)) ≤ (11 : Int)) = decide (IntKind.i64.wrap (bits BinOp.and IntKind.u32 ((w %
      (268435456 : Int)).fdiv (2097152 : Int)) (15 : Int)) ≤ (11 : Int)) ∧ ((!bits BinOp.and IntKind.u32 (w.fdiv (1048576 : Int)) (1 : Int) != (0 : Int)) = !bits BinOp.and
      IntKind.u32 ((w % (268435456 : Int)).fdiv (1048576 : Int)) (1 : Int) != (0 : Int) ∧ ((IntKind.i64 = IntKind.i64 ∧ (0 : Int) = (0 : Int)) ∧ (IntKind.i64 = IntKind.i64 ∧ (0
      : Int) = (0 : Int)) ∧ (IntKind.i64 = IntKind.i64 ∧ (0 : Int) = (0 : Int)) ∧ false = false ∧ (IntKind.i64 = IntKind.i64 ∧ (0 : Int) = (0 : Int)) ∧ (IntKind.i64 =
      IntKind.i64 ∧ (0 : Int) = (0 : Int)) ∧ (IntKind.i64 = IntKind.i64 ∧ (0 : Int) = (0 : Int)) ∧ (IntKind.i64 = IntKind.i64 ∧ (0 : Int) = (0 : Int)) ∧ (IntKind.u32 =
      IntKind.u32 ∧ (0 : Int) = (0 : Int)) ∧ false = false ∧ (IntKind.i64 = IntKind.i64 ∧ (0 : Int) = (0 : Int)) ∧ (IntKind.i64 = IntKind.i64 ∧ (0 : Int) = (0 : Int)) ∧ false =
      false ∧ false = false ∧ false = false ∧ false = false ∧ false = false ∧ false = false ∧ false = false ∧ false = false ∧ (IntKind.i64 = IntKind.i64 ∧ (0 : Int) = (0 : Int))
      ∧ false = false ∧ false = false ∧ false = false) ∧ (IntKind.i64 = IntKind.i64 ∧ (1 : Int) = (1 : Int)) ∧ (IntKind.i64 = IntKind.i64 ∧ (0 : Int) = (0 : Int)) ∧ (IntKind.i64
      = IntKind.i64 ∧ IntKind.i64.wrap (bits BinOp.and IntKind.u32 (w.fdiv (2097152 : Int)) (15 : Int)) = IntKind.i64.wrap (bits BinOp.and IntKind.u32 ((w % (268435456 :
      Int)).fdiv (2097152 : Int)) (15 : Int))) ∧ (bits BinOp.and IntKind.u32 (w.fdiv (1048576 : Int)) (1 : Int) != (0 : Int)) = (bits BinOp.and IntKind.u32 ((w % (268435456 :
      Int)).fdiv (1048576 : Int)) (1 : Int) != (0 : Int)) ∧ (IntKind.i64 = IntKind.i64 ∧ IntKind.i64.wrap (bits BinOp.and IntKind.u32 (w.fdiv (4096 : Int)) (15 : Int)) =
      IntKind.i64.wrap (bits BinOp.and IntKind.u32 ((w % (268435456 : Int)).fdiv (4096 : Int)) (15 : Int))) ∧ (IntKind.i64 = IntKind.i64 ∧ IntKind.i64.wrap (bits BinOp.and
      IntKind.u32 (w.fdiv (65536 : Int)) (15 : Int)) = IntKind.i64.wrap (bits BinOp.and IntKind.u32 ((w % (268435456 : Int)).fdiv (65536 : Int)) (15 : Int))) ∧ (IntKind.i64 =
      IntKind.i64 ∧ (0 : Int) = (0 : Int)) ∧ (IntKind.i64 = IntKind.i64 ∧ IntKind.i64.wrap (bits BinOp.and IntKind.u32 (w.fdiv (1 : Int)) (15 : Int)) = IntKind.i64.wrap (bits
      BinOp.and IntKind.u32 ((w % (268435456 : Int)).fdiv (1 : Int)) (15 : Int))) ∧ (IntKind.u32 = IntKind.u32 ∧ (0 : Int) = (0 : Int)) ∧ false = false ∧ (IntKind.i64 =
      IntKind.i64 ∧ IntKind.i64.wrap (bits BinOp.and IntKind.u32 (w.fdiv (32 : Int)) (3 : Int)) = IntKind.i64.wrap (bits BinOp.and IntKind.u32 ((w % (268435456 : Int)).fdiv (32
      : Int)) (3 : Int))) ∧ (IntKind.i64 = IntKind.i64 ∧ IntKind.i64.wrap (bits BinOp.and IntKind.u32 (w.fdiv (128 : Int)) (31 : Int)) = IntKind.i64.wrap (bits BinOp.and
      IntKind.u32 ((w % (268435456 : Int)).fdiv (128 : Int)) (31 : Int))) ∧ false = false ∧ false = false ∧ false = false ∧ false = false ∧ false = false ∧ false = false ∧ false
      = false ∧ false = false ∧ (IntKind.i64 = IntKind.i64 ∧ (0 : Int) = (0 : Int)) ∧ false = false ∧ false = false ∧ false = false) ∧ (IntKind.i64 = IntKind.i64 ∧ (1 : Int) =
      (1 : Int)) ∧ (IntKind.i64 = IntKind.i64 ∧ (0 : Int) = (0 : Int)) ∧ (IntKind.i64 = IntKind.i64 ∧ IntKind.i64.wrap (bits BinOp.and IntKind.u32 (w.fdiv (2097152 : Int)) (15 :
      Int)) = IntKind.i64.wrap (bits BinOp.and IntKind.u32 ((w % (268435456 : Int)).fdiv (2097152 : Int)) (15 : Int))) ∧ (bits BinOp.and IntKind.u32 (w.fdiv (1048576 : Int)) (1
      : Int) != (0 : Int)) = (bits BinOp.and IntKind.u32 ((w % (268435456 : Int)).fdiv (1048576 : Int)) (1 : Int) != (0 : Int)) ∧ (IntKind.i64 = IntKind.i64 ∧ IntKind.i64.wrap
      (bits BinOp.and IntKind.u32 (w.fdiv (4096 : Int)) (15 : Int)) = IntKind.i64.wrap (bits BinOp.and IntKind.u32 ((w % (268435456 : Int)).fdiv (4096 : Int)) (15 : Int))) ∧
      (IntKind.i64 = IntKind.i64 ∧ IntKind.i64.wrap (bits BinOp.and IntKind.u32 (w.fdiv (65536 : Int)) (15 : Int)) = IntKind.i64.wrap (bits BinOp.and IntKind.u32 ((w %
      (268435456 : Int)).fdiv (65536 : Int)) (15 : Int))) ∧ (IntKind.i64 = IntKind.i64 ∧ (0 : Int) = (0 : Int)) ∧ (IntKind.i64 = IntKind.i64 ∧ IntKind.i64.wrap (bits BinOp.and
      IntKind.u32 (w.fdiv (1 : Int)) (15 : Int)) = IntKind.i64.wrap (bits BinOp.and IntKind.u32 ((w % (268435456 : Int)).fdiv (1 : Int)) (15 : Int))) ∧ (IntKind.u32 =
      IntKind.u32 ∧ (0 : Int) = (0 : Int)) ∧ false = false ∧ (IntKind.i64 = IntKind.i64 ∧ IntKind.i64.wrap (bits BinOp.and IntKind.u32 (w.fdiv (32 : Int)) (3 : Int)) =
      IntKind.i64.wrap (bits BinOp.and IntKind.u32 ((w % (268435456 : Int)).fdiv (32 : Int)) (3 : Int))) ∧ (IntKind.i64 = IntKind.i64 ∧ IntKind.i64.wrap (bits BinOp.and
      IntKind.u32 (w.fdiv (128 : Int)) (31 : Int)) = IntKind.i64.wrap (bits BinOp.and IntKind.u32 ((w % (268435456 : Int)).fdiv (128 : Int)) (31 : Int))) ∧ false = false ∧ false
      = false ∧ false = false ∧ false = false ∧ false = false ∧ false = false ∧ false = false ∧ false = false ∧ (IntKind.i64 = IntKind.i64 ∧ (0 : Int) = (0 : Int)) ∧ false =
      false ∧ false = false ∧ false = false) ∧ (IntKind.i64 = IntKind.i64 ∧ (1 : Int) = (1 : Int)) ∧ (IntKind.i64 = IntKind.i64 ∧ (0 : Int) = (0 : Int)) ∧ (IntKind.i64 =
      IntKind.i64 ∧ IntKind.i64.wrap (bits BinOp.and IntKind.u32 (w.fdiv (2097152 : Int)) (15 : Int)) = IntKind.i64.wrap (bits BinOp.and IntKind.u32 ((w % (268435456 :
      Int)).fdiv (2097152 : Int)) (15 : Int))) ∧ (bits BinOp.and IntKind.u32 (w.fdiv (1048576 : Int)) (1 : Int) != (0 : Int)) = (bits BinOp.and IntKind.u32 ((w % (268435456 :
      Int)).fdiv (1048576 : Int)) (1 : Int) != (0 : Int)) ∧ (IntKind.i64 = IntKind.i64 ∧ IntKind.i64.wrap (bits BinOp.and IntKind.u32 (w.fdiv (4096 : Int)) (15 : Int)) =
      IntKind.i64.wrap (bits BinOp.and IntKind.u32 ((w % (268435456 : Int)).fdiv (4096 : Int)) (15 : Int))) ∧ (IntKind.i64 = IntKind.i64 ∧ IntKind.i64.wrap (bits BinOp.and
      IntKind.u32 (w.fdiv (65536 : Int)) (15 : Int)) = IntKind.i64.wrap (bits BinOp.and IntKind.u32 ((w % (268435456 : Int)).fdiv (65536 : Int)) (15 : Int))) ∧ (IntKind.i64 =
      IntKind.i64 ∧ (0 : Int) = (0 : Int)) ∧ (IntKind.i64 = IntKind.i64 ∧ IntKind.i64.wrap (bits BinOp.and IntKind.u32 (w.fdiv (1 : Int)) (15 : Int)) = IntKind.i64.wrap (bits
      BinOp.and IntKind.u32 ((w % (268435456 : Int)).fdiv (1 : Int)) (15 : Int))) ∧ (IntKind.u32 = IntKind.u32 ∧ (0 : Int) = (0 : Int)) ∧ false = false ∧ (IntKind.i64 =
      IntKind.i64 ∧ IntKind.i64.wrap (bits BinOp.and IntKind.u32 (w.fdiv (32 : Int)) (3 : Int)) = IntKind.i64.wrap (bits BinOp.and IntKind.u32 ((w % (268435456 : Int)).fdiv (32
      : Int)) (3 : Int))) ∧ (IntKind.i64 = IntKind.i64 ∧ IntKind.i64.wrap (bits BinOp.and IntKind.u32 (w.fdiv (128 : Int)) (31 : Int)) = IntKind.i64.wrap (bits BinOp.and
      IntKind.u32 ((w % (268435456 : Int)).fdiv (128 : Int)) (31 : Int))) ∧ false = false ∧ false = false ∧ false = false ∧ false = false ∧ false = false ∧ false = false ∧ false
      = false ∧ false = false ∧ (IntKind.i64 = IntKind.i64 ∧ (0 : Int) = (0 : Int)) ∧ false = false ∧ false = false ∧ false = false) ∧ (!bits BinOp.and IntKind.u32 (w.fdiv (128
      : Int)) (1 : Int) != (0 : Int)) = !bits BinOp.and IntKind.u32 ((w % (268435456 : Int)).fdiv (128 : Int)) (1 : Int) != (0 : Int) ∧ (decide (IntKind.i64.wrap (bits BinOp.and
      IntKind.u32 (w.fdiv (2097152 : Int)) (15 : Int)) ≥ (8 : Int)) = decide (IntKind.i64.wrap (bits BinOp.and IntKind.u32 ((w % (268435456 : Int)).fdiv (2097152 : Int)) (15 :
      Int)) ≥ (8 : Int)) ∧ (decide (IntKind.i64.wrap (bits BinOp.and IntKind.u32 (w.fdiv (2097152 : Int)) (15 : Int)) ≤ (11 : Int)) = decide (IntKind.i64.wrap (bits BinOp.and
      IntKind.u32 ((w % (268435456 : Int)).fdiv (2097152 : Int)) (15 : Int)) ≤ (11 : Int)) ∧ ((!bits BinOp.and IntKind.u32 (w.fdiv (1048576 : Int)) (1 : Int) != (0 : Int)) =
      !bits BinOp.and IntKind.u32 ((w % (268435456 : Int)).fdiv (1048576 : Int)) (1 : Int) != (0 : Int) ∧ ((IntKind.i64 = IntKind.i64 ∧ (0 : Int) = (0 : Int)) ∧ (IntKind.i64 =
      IntKind.i64 ∧ (0 : Int) = (0 : Int)) ∧ (IntKind.i64 = IntKind.i64 ∧ (0 : Int) = (0 : Int)) ∧ false = false ∧ (IntKind.i64 = IntKind.i64 ∧ (0 : Int) = (0 : Int)) ∧
      (IntKind.i64 = IntKind.i64 ∧ (0 : Int) = (0 : Int)) ∧ (IntKind.i64 = IntKind.i64 ∧ (0 : Int) = (0 : Int)) ∧ (IntKind.i64 = IntKind.i64 ∧ (0 : Int) = (0 : Int)) ∧
      (IntKind.u32 = IntKind.u32 ∧ (0 : Int) = (0 : Int)) ∧ false = false ∧ (IntKind.i64 = IntKind.i64 ∧ (0 : Int) = (0 : Int)) ∧ (IntKind.i64 = IntKind.i64 ∧ (0 : Int) = (0 :
      Int)) ∧ false = false ∧ false = false ∧ false = false ∧ false = false ∧ false = false ∧ false = false ∧ false = false ∧ false = false ∧ (IntKind.i64 = IntKind.i64 ∧ (0 :
      Int) = (0 : Int)) ∧ false = false ∧ false = false ∧ false = false) ∧ (IntKind.i64 = IntKind.i64 ∧ (1 : Int) = (1 : Int)) ∧ (IntKind.i64 = IntKind.i64 ∧ (0 : Int) = (0 :
      Int)) ∧ (IntKind.i64 = IntKind.i64 ∧ IntKind.i64.wrap (bits BinOp.and IntKind.u32 (w.fdiv (2097152 : Int)) (15 : Int)) = IntKind.i64.wrap (bits BinOp.and IntKind.u32 ((w %
      (268435456 : Int)).fdiv (2097152 : Int)) (15 : Int))) ∧ (bits BinOp.and IntKind.u32 (w.fdiv (1048576 : Int)) (1 : Int) != (0 : Int)) = (bits BinOp.and IntKind.u32 ((w %
      (268435456 : Int)).fdiv (1048576 : Int)) (1 : Int) != (0 : Int)) ∧ (IntKind.i64 = IntKind.i64 ∧ IntKind.i64.wrap (bits BinOp.and IntKind.u32 (w.fdiv (4096 : Int)) (15 :
      Int)) = IntKind.i64.wrap (bits BinOp.and IntKind.u32 ((w % (268435456 : Int)).fdiv (4096 : Int)) (15 : Int))) ∧ (IntKind.i64 = IntKind.i64 ∧ IntKind.i64.wrap (bits
      BinOp.and IntKind.u32 (w.fdiv (65536 : Int)) (15 : Int)) = IntKind.i64.wrap (bits BinOp.and IntKind.u32 ((w % (268435456 : Int)).fdiv (65536 : Int)) (15 : Int))) ∧
      (IntKind.i64 = IntKind.i64 ∧ IntKind.i64.wrap (bits BinOp.and IntKind.u32 (w.fdiv (256 : Int)) (15 : Int)) = IntKind.i64.wrap (bits BinOp.and IntKind.u32 ((w % (268435456
      : Int)).fdiv (256 : Int)) (15 : Int))) ∧ (IntKind.i64 = IntKind.i64 ∧ IntKind.i64.wrap (bits BinOp.and IntKind.u32 (w.fdiv (1 : Int)) (15 : Int)) = IntKind.i64.wrap (bits
      BinOp.and IntKind.u32 ((w % (268435456 : Int)).fdiv (1 : Int)) (15 : Int))) ∧ (IntKind.u32 = IntKind.u32 ∧ (0 : Int) = (0 : Int)) ∧ false = false ∧ (IntKind.i64 =
      IntKind.i64 ∧ IntKind.i64.wrap (bits BinOp.and IntKind.u32 (w.fdiv (32 : Int)) (3 : Int)) = IntKind.i64.wrap (bits BinOp.and IntKind.u32 ((w % (268435456 : Int)).fdiv (32
      : Int)) (3 : Int))) ∧ (IntKind.i64 = IntKind.i64 ∧ (0 : Int) = (0 : Int)) ∧ true = true ∧ false = false ∧ false = false ∧ false = false ∧ false = false ∧ false = false ∧
      false = false ∧ false = false ∧ (IntKind.i64 = IntKind.i64 ∧ (0 : Int) = (0 : Int)) ∧ false = false ∧ false = false ∧ false = false) ∧ (IntKind.i64 = IntKind.i64 ∧ (1 :
      Int) = (1 : Int)) ∧ (IntKind.i64 = IntKind.i64 ∧ (0 : Int) = (0 : Int)) ∧ (IntKind.i64 = IntKind.i64 ∧ IntKind.i64.wrap (bits BinOp.and IntKind.u32 (w.fdiv (2097152 :
      Int)) (15 : Int)) = IntKind.i64.wrap (bits BinOp.and IntKind.u32 ((w % (268435456 : Int)).fdiv (2097152 : Int)) (15 : Int))) ∧ (bits BinOp.and IntKind.u32 (w.fdiv (1048576
      : Int)) (1 : Int) != (0 : Int)) = (bits BinOp.and IntKind.u32 ((w % (268435456 : Int)).fdiv (1048576 : Int)) (1 : Int) != (0 : Int)) ∧ (IntKind.i64 = IntKind.i64 ∧
      IntKind.i64.wrap (bits BinOp.and IntKind.u32 (w.fdiv (4096 : Int)) (15 : Int)) = IntKind.i64.wrap (bits BinOp.and IntKind.u32 ((w % (268435456 : Int)).fdiv (4096 : Int))
      (15 : Int))) ∧ (IntKind.i64 = IntKind.i64 ∧ IntKind.i64.wrap (bits BinOp.and IntKind.u32 (w.fdiv (65536 : Int)) (15 : Int)) = IntKind.i64.wrap (bits BinOp.and IntKind.u32
      ((w % (268435456 : Int)).fdiv (65536 : Int)) (15 : Int))) ∧ (IntKind.i64 = IntKind.i64 ∧ IntKind.i64.wrap (bits BinOp.and IntKind.u32 (w.fdiv (256 : Int)) (15 : Int)) =
      IntKind.i64.wrap (bits BinOp.and IntKind.u32 ((w % (268435456 : Int)).fdiv (256 : Int)) (15 : Int))) ∧ (IntKind.i64 = IntKind.i64 ∧ IntKind.i64.wrap (bits BinOp.and
      IntKind.u32 (w.fdiv (1 : Int)) (15 : Int)) = IntKind.i64.wrap (bits BinOp.and IntKind.u32 ((w % (268435456 : Int)).fdiv (1 : Int)) (15 : Int))) ∧ (IntKind.u32 =
      IntKind.u32 ∧ (0 : Int) = (0 : Int)) ∧ false = false ∧ (IntKind.i64 = IntKind.i64 ∧ IntKind.i64.wrap (bits BinOp.and IntKind.u32 (w.fdiv (32 : Int)) (3 : Int)) =
      IntKind.i64.wrap (bits BinOp.and IntKind.u32 ((w % (268435456 : Int)).fdiv (32 : Int)) (3 : Int))) ∧ (IntKind.i64 = IntKind.i64 ∧ (0 : Int) = (0 : Int)) ∧ true = true ∧
      false = false ∧ false = false ∧ false = false ∧ false = false ∧ false = false ∧ false = false ∧ false = false ∧ (IntKind.i64 = IntKind.i64 ∧ (0 : Int) = (0 : Int)) ∧ false
      = false ∧ false = false ∧ false = false) ∧ (IntKind.i64 = IntKind.i64 ∧ (1 : Int) = (1 : Int)) ∧ (IntKind.i64 = IntKind.i64 ∧ (0 : Int) = (0 : Int)) ∧ (IntKind.i64 =
      IntKind.i64 ∧ IntKind.i64.wrap (bits BinOp.and IntKind.u32 (w.fdiv (2097152 : Int)) (15 : Int)) = IntKind.i64.wrap (bits BinOp.and IntKind.u32 ((w % (268435456 :
      Int)).fdiv (2097152 : Int)) (15 : Int))) ∧ (bits BinOp.and IntKind.u32 (w.fdiv (1048576 : Int)) (1 : Int) != (0 : Int)) = (bits BinOp.and IntKind.u32 ((w % (268435456 :
      Int)).fdiv (1048576 : Int)) (1 : Int) != (0 : Int)) ∧ (IntKind.i64 = IntKind.i64 ∧ IntKind.i64.wrap (bits BinOp.and IntKind.u32 (w.fdiv (4096 : Int)) (15 : Int)) =
      IntKind.i64.wrap (bits BinOp.and IntKind.u32 ((w % (268435456 : Int)).fdiv (4096 : Int)) (15 : Int))) ∧ (IntKind.i64 = IntKind.i64 ∧ IntKind.i64.wrap (bits BinOp.and
      IntKind.u32 (w.fdiv (65536 : Int)) (15 : Int)) = IntKind.i64.wrap (bits BinOp.and IntKind.u32 ((w % (268435456 : Int)).fdiv (65536 : Int)) (15 : Int))) ∧ (IntKind.i64 =
      IntKind.i64 ∧ IntKind.i64.wrap (bits BinOp.and IntKind.u32 (w.fdiv (256 : Int)) (15 : Int)) = IntKind.i64.wrap (bits BinOp.and IntKind.u32 ((w % (268435456 : Int)).fdiv
      (256 : Int)) (15 : Int))) ∧ (IntKind.i64 = IntKind.i64 ∧ IntKind.i64.wrap (bits BinOp.and IntKind.u32 (w.fdiv (1 : Int)) (15 : Int)) = IntKind.i64.wrap (bits BinOp.and
      IntKind.u32 ((w % (268435456 : Int)).fdiv (1 : Int)) (15 : Int))) ∧ (IntKind.u32 = IntKind.u32 ∧ (0 : Int) = (0 : Int)) ∧ false = false ∧ (IntKind.i64 = IntKind.i64 ∧
      IntKind.i64.wrap (bits BinOp.and IntKind.u32 (w.fdiv (32 : Int)) (3 : Int)) = IntKind.i64.wrap (bits BinOp.and IntKind.u32 ((w % (268435456 : Int)).fdiv (32 : Int)) (3 :
      Int))) ∧ (IntKind.i64 = IntKind.i64 ∧ (0 : Int) = (0 : Int)) ∧ true = true ∧ false = false ∧ false = false ∧ false = false ∧ false = false ∧ false = false ∧ false = false
      ∧ false = false ∧ (IntKind.i64 = IntKind.i64 ∧ (0 : Int) = (0 : Int)) ∧ false = false ∧ false = false ∧ false = false) ∧ (IntKind.i64 = IntKind.i64 ∧ (0 : Int) = (0 :
      Int)) ∧ (IntKind.i64 = IntKind.i64 ∧ (0 : Int) = (0 : Int)) ∧ (IntKind.i64 = IntKind.i64 ∧ (0 : Int) = (0 : Int)) ∧ false = false ∧ (IntKind.i64 = IntKind.i64 ∧ (0 : Int)
      = (0 : Int)) ∧ (IntKind.i64 = IntKind.i64 ∧ (0 : Int) = (0 : Int)) ∧ (IntKind.i64 = IntKind.i64 ∧ (0 : Int) = (0 : Int)) ∧ (IntKind.i64 = IntKind.i64 ∧ (0 : Int) = (0 :
      Int)) ∧ (IntKind.u32 = IntKind.u32 ∧ (0 : Int) = (0 : Int)) ∧ false = false ∧ (IntKind.i64 = IntKind.i64 ∧ (0 : Int) = (0 : Int)) ∧ (IntKind.i64 = IntKind.i64 ∧ (0 : Int)
      = (0 : Int)) ∧ false = false ∧ false = false ∧ false = false ∧ false = false ∧ false = false ∧ false = false ∧ false = false ∧ false = false ∧ (IntKind.i64 = IntKind.i64 ∧
      (0 : Int) = (0 : Int)) ∧ false = false ∧ false = false ∧ false = false) ∧ (bits BinOp.and IntKind.u32 w (1048816 : Int) == (176 : Int)) = (bits BinOp.and IntKind.u32 (w %
      (268435456 : Int)) (1048816 : Int) == (176 : Int)) ∧ ((bits BinOp.and IntKind.u32 (w.fdiv (4194304 : Int)) (1 : Int) != (0 : Int)) = (bits BinOp.and IntKind.u32 ((w %
      (268435456 : Int)).fdiv (4194304 : Int)) (1 : Int) != (0 : Int)) ∧ ((bits BinOp.and IntKind.u32 (w.fdiv (2097152 : Int)) (1 : Int) != (0 : Int)) = (bits BinOp.and
      IntKind.u32 ((w % (268435456 : Int)).fdiv (2097152 : Int)) (1 : Int) != (0 : Int)) ∧ ((IntKind.i64 = IntKind.i64 ∧ (6 : Int) = (6 : Int)) ∧ (IntKind.i64 = IntKind.i64 ∧ (0
      : Int) = (0 : Int)) ∧ (IntKind.i64 = IntKind.i64 ∧ IntKind.i64.wrap (bits BinOp.and IntKind.u32 (w.fdiv (32 : Int)) (3 : Int)) = IntKind.i64.wrap (bits BinOp.and
      IntKind.u32 ((w % (268435456 : Int)).fdiv (32 : Int)) (3 : Int))) ∧ false = false ∧ (IntKind.i64 = IntKind.i64 ∧ IntKind.i64.wrap (bits BinOp.and IntKind.u32 (w.fdiv (4096
      : Int)) (15 : Int)) = IntKind.i64.wrap (bits BinOp.and IntKind.u32 ((w % (268435456 : Int)).fdiv (4096 : Int)) (15 : Int))) ∧ (IntKind.i64 = IntKind.i64 ∧ IntKind.i64.wrap
      (bits BinOp.and IntKind.u32 (w.fdiv (65536 : Int)) (15 : Int)) = IntKind.i64.wrap (bits BinOp.and IntKind.u32 ((w % (268435456 : Int)).fdiv (65536 : Int)) (15 : Int))) ∧
      (IntKind.i64 = IntKind.i64 ∧ (0 : Int) = (0 : Int)) ∧ (IntKind.i64 = IntKind.i64 ∧ (0 : Int) = (0 : Int)) ∧ (IntKind.u32 = IntKind.u32 ∧ bits BinOp.or IntKind.u32 (bits
      BinOp.and IntKind.u32 (w.fdiv (16 : Int)) (240 : Int)) (bits BinOp.and IntKind.u32 w (15 : Int)) = bits BinOp.or IntKind.u32 (bits BinOp.and IntKind.u32 ((w % (268435456 :
      Int)).fdiv (16 : Int)) (240 : Int)) (bits BinOp.and IntKind.u32 (w % (268435456 : Int)) (15 : Int))) ∧ true = true ∧ (IntKind.i64 = IntKind.i64 ∧ (0 : Int) = (0 : Int)) ∧
      (IntKind.i64 = IntKind.i64 ∧ (0 : Int) = (0 : Int)) ∧ false = false ∧ (bits BinOp.and IntKind.u32 (w.fdiv (1048576 : Int)) (1 : Int) != (0 : Int)) = (bits BinOp.and
      IntKind.u32 ((w % (268435456 : Int)).fdiv (1048576 : Int)) (1 : Int) != (0 : Int)) ∧ false = false ∧ false = false ∧ (bits BinOp.and IntKind.u32 (w.fdiv (16777216 : Int))
      (1 : Int) != (0 : Int)) = (bits BinOp.and IntKind.u32 ((w % (268435456 : Int)).fdiv (16777216 : Int)) (1 : Int) != (0 : Int)) ∧ (bits BinOp.and IntKind.u32 (w.fdiv
      (8388608 : Int)) (1 : Int) != (0 : Int)) = (bits BinOp.and IntKind.u32 ((w % (268435456 : Int)).fdiv (8388608 : Int)) (1 : Int) != (0 : Int)) ∧ true = true ∧ false = false
      ∧ (IntKind.i64 = IntKind.i64 ∧ (0 : Int) = (0 : Int)) ∧ false = false ∧ false = false ∧ false = false) ∧ (IntKind.i64 = IntKind.i64 ∧ (6 : Int) = (6 : Int)) ∧ (IntKind.i64
      = IntKind.i64 ∧ (0 : Int) = (0 : Int)) ∧ (IntKind.i64 = IntKind.i64 ∧ IntKind.i64.wrap (bits BinOp.and IntKind.u32 (w.fdiv (32 : Int)) (3 : Int)) = IntKind.i64.wrap (bits
      BinOp.and IntKind.u32 ((w % (268435456 : Int)).fdiv (32 : Int)) (3 : Int))) ∧ false = false ∧ (IntKind.i64 = IntKind.i64 ∧ IntKind.i64.wrap (bits BinOp.and IntKind.u32
      (w.fdiv (4096 : Int)) (15 : Int)) = IntKind.i64.wrap (bits BinOp.and IntKind.u32 ((w % (268435456 : Int)).fdiv (4096 : Int)) (15 : Int))) ∧ (IntKind.i64 = IntKind.i64 ∧
      IntKind.i64.wrap (bits BinOp.and IntKind.u32 (w.fdiv (65536 : Int)) (15 : Int)) = IntKind.i64.wrap (bits BinOp.and IntKind.u32 ((w % (268435456 : Int)).fdiv (65536 : Int))
      (15 : Int))) ∧ (IntKind.i64 = IntKind.i64 ∧ (0 : Int) = (0 : Int)) ∧ (IntKind.i64 = IntKind.i64 ∧ (0 : Int) = (0 : Int)) ∧ (IntKind.u32 = IntKind.u32 ∧ bits BinOp.or
      IntKind.u32 (bits BinOp.and IntKind.u32 (w.fdiv (16 : Int)) (240 : Int)) (bits BinOp.and IntKind.u32 w (15 : Int)) = bits BinOp.or IntKind.u32 (bits BinOp.and IntKind.u32
      ((w % (268435456 : Int)).fdiv (16 : Int)) (240 : Int)) (bits BinOp.and IntKind.u32 (w % (268435456 : Int)) (15 : Int))) ∧ true = true ∧ (IntKind.i64 = IntKind.i64 ∧ (0 :
      Int) = (0 : Int)) ∧ (IntKind.i64 = IntKind.i64 ∧ (0 : Int) = (0 : Int)) ∧ false = false ∧ (bits BinOp.and IntKind.u32 (w.fdiv (1048576 : Int)) (1 : Int) != (0 : Int)) =
      (bits BinOp.and IntKind.u32 ((w % (268435456 : Int)).fdiv (1048576 : Int)) (1 : Int) != (0 : Int)) ∧ false = false ∧ false = false ∧ (bits BinOp.and IntKind.u32 (w.fdiv
      (16777216 : Int)) (1 : Int) != (0 : Int)) = (bits BinOp.and IntKind.u32 ((w % (268435456 : Int)).fdiv (16777216 : Int)) (1 : Int) != (0 : Int)) ∧ (bits BinOp.and
      IntKind.u32 (w.fdiv (8388608 : Int)) (1 : Int) != (0 : Int)) = (bits BinOp.and IntKind.u32 ((w % (268435456 : Int)).fdiv (8388608 : Int)) (1 : Int) != (0 : Int)) ∧ (!bits
      BinOp.and IntKind.u32 (w.fdiv (16777216 : Int)) (1 : Int) != (0 : Int)) = !bits BinOp.and IntKind.u32 ((w % (268435456 : Int)).fdiv (16777216 : Int)) (1 : Int) != (0 :
      Int) ∧ false = false ∧ (IntKind.i64 = IntKind.i64 ∧ (0 : Int) = (0 : Int)) ∧ false = false ∧ false = false ∧ false = false) ∧ (bits BinOp.and IntKind.u32 (w.fdiv (2097152
      : Int)) (1 : Int) != (0 : Int)) = (bits BinOp.and IntKind.u32 ((w % (268435456 : Int)).fdiv (2097152 : Int)) (1 : Int) != (0 : Int)) ∧ ((IntKind.i64 = IntKind.i64 ∧ (6 :
      Int) = (6 : Int)) ∧ (IntKind.i64 = IntKind.i64 ∧ (0 : Int) = (0 : Int)) ∧ (IntKind.i64 = IntKind.i64 ∧ IntKind.i64.wrap (bits BinOp.and IntKind.u32 (w.fdiv (32 : Int)) (3
      : Int)) = IntKind.i64.wrap (bits BinOp.and IntKind.u32 ((w % (268435456 : Int)).fdiv (32 : Int)) (3 : Int))) ∧ false = false ∧ (IntKind.i64 = IntKind.i64 ∧
      IntKind.i64.wrap (bits BinOp.and IntKind.u32 (w.fdiv (4096 : Int)) (15 : Int)) = IntKind.i64.wrap (bits BinOp.and IntKind.u32 ((w % (268435456 : Int)).fdiv (4096 : Int))
      (15 : Int))) ∧ (IntKind.i64 = IntKind.i64 ∧ IntKind.i64.wrap (bits BinOp.and IntKind.u32 (w.fdiv (65536 : Int)) (15 : Int)) = IntKind.i64.wrap (bits BinOp.and IntKind.u32
      ((w % (268435456 : Int)).fdiv (65536 : Int)) (15 : Int))) ∧ (IntKind.i64 = IntKind.i64 ∧ (0 : Int) = (0 : Int)) ∧ (IntKind.i64 = IntKind.i64 ∧ IntKind.i64.wrap (bits
      BinOp.and IntKind.u32 (w.fdiv (1 : Int)) (15 : Int)) = IntKind.i64.wrap (bits BinOp.and IntKind.u32 ((w % (268435456 : Int)).fdiv (1 : Int)) (15 : Int))) ∧ (IntKind.u32 =
      IntKind.u32 ∧ (0 : Int) = (0 : Int)) ∧ false = false ∧ (IntKind.i64 = IntKind.i64 ∧ (0 : Int) = (0 : Int)) ∧ (IntKind.i64 = IntKind.i64 ∧ (0 : Int) = (0 : Int)) ∧ false =
      false ∧ (bits BinOp.and IntKind.u32 (w.fdiv (1048576 : Int)) (1 : Int) != (0 : Int)) = (bits BinOp.and IntKind.u32 ((w % (268435456 : Int)).fdiv (1048576 : Int)) (1 : Int)
      != (0 : Int)) ∧ false = false ∧ false = false ∧ (bits BinOp.and IntKind.u32 (w.fdiv (16777216 : Int)) (1 : Int) != (0 : Int)) = (bits BinOp.and IntKind.u32 ((w %
      (268435456 : Int)).fdiv (16777216 : Int)) (1 : Int) != (0 : Int)) ∧ (bits BinOp.and IntKind.u32 (w.fdiv (8388608 : Int)) (1 : Int) != (0 : Int)) = (bits BinOp.and
      IntKind.u32 ((w % (268435456 : Int)).fdiv (8388608 : Int)) (1 : Int) != (0 : Int)) ∧ true = true ∧ false = false ∧ (IntKind.i64 = IntKind.i64 ∧ (0 : Int) = (0 : Int)) ∧
      false = false ∧ false = false ∧ false = false) ∧ (IntKind.i64 = IntKind.i64 ∧ (6 : Int) = (6 : Int)) ∧ (IntKind.i64 = IntKind.i64 ∧ (0 : Int) = (0 : Int)) ∧ (IntKind.i64 =
      IntKind.i64 ∧ IntKind.i64.wrap (bits BinOp.and IntKind.u32 (w.fdiv (32 : Int)) (3 : Int)) = IntKind.i64.wrap (bits BinOp.and IntKind.u32 ((w % (268435456 : Int)).fdiv (32
      : Int)) (3 : Int))) ∧ false = false ∧ (IntKind.i64 = IntKind.i64 ∧ IntKind.i64.wrap (bits BinOp.and IntKind.u32 (w.fdiv (4096 : Int)) (15 : Int)) = IntKind.i64.wrap (bits
      BinOp.and IntKind.u32 ((w % (268435456 : Int)).fdiv (4096 : Int)) (15 : Int))) ∧ (IntKind.i64 = IntKind.i64 ∧ IntKind.i64.wrap (bits BinOp.and IntKind.u32 (w.fdiv (65536 :
      Int)) (15 : Int)) = IntKind.i64.wrap (bits BinOp.and IntKind.u32 ((w % (268435456 : Int)).fdiv (65536 : Int)) (15 : Int))) ∧ (IntKind.i64 = IntKind.i64 ∧ (0 : Int) = (0 :
      Int)) ∧ (IntKind.i64 = IntKind.i64 ∧ IntKind.i64.wrap (bits BinOp.and IntKind.u32 (w.fdiv (1 : Int)) (15 : Int)) = IntKind.i64.wrap (bits BinOp.and IntKind.u32 ((w %
      (268435456 : Int)).fdiv (1 : Int)) (15 : Int))) ∧ (IntKind.u32 = IntKind.u32 ∧ (0 : Int) = (0 : Int)) ∧ false = false ∧ (IntKind.i64 = IntKind.i64 ∧ (0 : Int) = (0 : Int))
      ∧ (IntKind.i64 = IntKind.i64 ∧ (0 : Int) = (0 : Int)) ∧ false = false ∧ (bits BinOp.and IntKind.u32 (w.fdiv (1048576 : Int)) (1 : Int) != (0 : Int)) = (bits BinOp.and
      IntKind.u32 ((w % (268435456 : Int)).fdiv (1048576 : Int)) (1 : Int) != (0 : Int)) ∧ false = false ∧ false = false ∧ (bits BinOp.and IntKind.u32 (w.fdiv (16777216 : Int))
      (1 : Int) != (0 : Int)) = (bits BinOp.and IntKind.u32 ((w % (268435456 : Int)).fdiv (16777216 : Int)) (1 : Int) != (0 : Int)) ∧ (bits BinOp.and IntKind.u32 (w.fdiv
      (8388608 : Int)) (1 : Int) != (0 : Int)) = (bits BinOp.and IntKind.u32 ((w % (268435456 : Int)).fdiv (8388608 : Int)) (1 : Int) != (0 : Int)) ∧ (!bits BinOp.and
      IntKind.u32 (w.fdiv (16777216 : Int)) (1 : Int) != (0 : Int)) = !bits BinOp.and IntKind.u32 ((w % (268435456 : Int)).fdiv (16777216 : Int)) (1 : Int) != (0 : Int) ∧ false
      = false ∧ (IntKind.i64 = IntKind.i64 ∧ (0 : Int) = (0 : Int)) ∧ false = false ∧ false = false ∧ false = false) ∧ (bits BinOp.and IntKind.u32 w (268435440 : Int) ==
      (19922704 : Int)) = (bits BinOp.and IntKind.u32 (w % (268435456 : Int)) (268435440 : Int) == (19922704 : Int)) ∧ ((IntKind.i64 = IntKind.i64 ∧ (5 : Int) = (5 : Int)) ∧
      (IntKind.i64 = IntKind.i64 ∧ (0 : Int) = (0 : Int)) ∧ (IntKind.i64 = IntKind.i64 ∧ (0 : Int) = (0 : Int)) ∧ false = false ∧ (IntKind.i64 = IntKind.i64 ∧ (0 : Int) = (0 :
      Int)) ∧ (IntKind.i64 = IntKind.i64 ∧ (0 : Int) = (0 : Int)) ∧ (IntKind.i64 = IntKind.i64 ∧ (0 : Int) = (0 : Int)) ∧ (IntKind.i64 = IntKind.i64 ∧ IntKind.i64.wrap (bits
      BinOp.and IntKind.u32 (w.fdiv (1 : Int)) (15 : Int)) = IntKind.i64.wrap (bits BinOp.and IntKind.u32 ((w % (268435456 : Int)).fdiv (1 : Int)) (15 : Int))) ∧ (IntKind.u32 =
      IntKind.u32 ∧ (0 : Int) = (0 : Int)) ∧ false = false ∧ (IntKind.i64 = IntKind.i64 ∧ (0 : Int) = (0 : Int)) ∧ (IntKind.i64 = IntKind.i64 ∧ (0 : Int) = (0 : Int)) ∧ false =
      false ∧ false = false ∧ false = false ∧ false = false ∧ false = false ∧ false = false ∧ false = false ∧ false = false ∧ (IntKind.i64 = IntKind.i64 ∧ (0 : Int) = (0 : Int))
      ∧ false = false ∧ false = false ∧ false = false) ∧ (bits BinOp.and IntKind.u32 w (264179711 : Int) == (17760256 : Int)) = (bits BinOp.and IntKind.u32 (w % (268435456 :
      Int)) (264179711 : Int) == (17760256 : Int)) ∧ ((IntKind.i64 = IntKind.i64 ∧ (11 : Int) = (11 : Int)) ∧ (IntKind.i64 = IntKind.i64 ∧ (0 : Int) = (0 : Int)) ∧ (IntKind.i64
      = IntKind.i64 ∧ (0 : Int) = (0 : Int)) ∧ false = false ∧ (IntKind.i64 = IntKind.i64 ∧ IntKind.i64.wrap (bits BinOp.and IntKind.u32 (w.fdiv (4096 : Int)) (15 : Int)) =
      IntKind.i64.wrap (bits BinOp.and IntKind.u32 ((w % (268435456 : Int)).fdiv (4096 : Int)) (15 : Int))) ∧ (IntKind.i64 = IntKind.i64 ∧ (0 : Int) = (0 : Int)) ∧ (IntKind.i64
      = IntKind.i64 ∧ (0 : Int) = (0 : Int)) ∧ (IntKind.i64 = IntKind.i64 ∧ (0 : Int) = (0 : Int)) ∧ (IntKind.u32 = IntKind.u32 ∧ (0 : Int) = (0 : Int)) ∧ false = false ∧
      (IntKind.i64 = IntKind.i64 ∧ (0 : Int) = (0 : Int)) ∧ (IntKind.i64 = IntKind.i64 ∧ (0 : Int) = (0 : Int)) ∧ false = false ∧ false = false ∧ false = false ∧ false = false ∧
      false = false ∧ false = false ∧ false = false ∧ (bits BinOp.and IntKind.u32 (w.fdiv (4194304 : Int)) (1 : Int) != (0 : Int)) = (bits BinOp.and IntKind.u32 ((w % (268435456
      : Int)).fdiv (4194304 : Int)) (1 : Int) != (0 : Int)) ∧ (IntKind.i64 = IntKind.i64 ∧ (0 : Int) = (0 : Int)) ∧ false = false ∧ false = false ∧ false = false) ∧ (bits
      BinOp.and IntKind.u32 w (263258096 : Int) == (18935808 : Int)) = (bits BinOp.and IntKind.u32 (w % (268435456 : Int)) (263258096 : Int) == (18935808 : Int)) ∧ ((IntKind.i64
      = IntKind.i64 ∧ (12 : Int) = (12 : Int)) ∧ (IntKind.i64 = IntKind.i64 ∧ (0 : Int) = (0 : Int)) ∧ (IntKind.i64 = IntKind.i64 ∧ (0 : Int) = (0 : Int)) ∧ false = false ∧
      (IntKind.i64 = IntKind.i64 ∧ (0 : Int) = (0 : Int)) ∧ (IntKind.i64 = IntKind.i64 ∧ (0 : Int) = (0 : Int)) ∧ (IntKind.i64 = IntKind.i64 ∧ (0 : Int) = (0 : Int)) ∧
      (IntKind.i64 = IntKind.i64 ∧ IntKind.i64.wrap (bits BinOp.and IntKind.u32 (w.fdiv (1 : Int)) (15 : Int)) = IntKind.i64.wrap (bits BinOp.and IntKind.u32 ((w % (268435456 :
      Int)).fdiv (1 : Int)) (15 : Int))) ∧ (IntKind.u32 = IntKind.u32 ∧ (0 : Int) = (0 : Int)) ∧ false = false ∧ (IntKind.i64 = IntKind.i64 ∧ (0 : Int) = (0 : Int)) ∧
      (IntKind.i64 = IntKind.i64 ∧ (0 : Int) = (0 : Int)) ∧ false = false ∧ false = false ∧ false = false ∧ false = false ∧ false = false ∧ false = false ∧ false = false ∧ (bits
      BinOp.and IntKind.u32 (w.fdiv (4194304 : Int)) (1 : Int) != (0 : Int)) = (bits BinOp.and IntKind.u32 ((w % (268435456 : Int)).fdiv (4194304 : Int)) (1 : Int) != (0 : Int))
      ∧ (IntKind.i64 = IntKind.i64 ∧ IntKind.i64.wrap (bits BinOp.and IntKind.u32 (w.fdiv (65536 : Int)) (15 : Int)) = IntKind.i64.wrap (bits BinOp.and IntKind.u32 ((w %
      (268435456 : Int)).fdiv (65536 : Int)) (15 : Int))) ∧ false = false ∧ false = false ∧ false = false) ∧ (!bits BinOp.and IntKind.u32 (w.fdiv (16 : Int)) (1 : Int) != (0 :
      Int)) = !bits BinOp.and IntKind.u32 ((w % (268435456 : Int)).fdiv (16 : Int)) (1 : Int) != (0 : Int) ∧ (decide (IntKind.i64.wrap (bits BinOp.and IntKind.u32 (w.fdiv
      (2097152 : Int)) (15 : Int)) ≥ (8 : Int)) = decide (IntKind.i64.wrap (bits BinOp.and IntKind.u32 ((w % (268435456 : Int)).fdiv (2097152 : Int)) (15 : Int)) ≥ (8 : Int)) ∧
      (decide (IntKind.i64.wrap (bits BinOp.and IntKind.u32 (w.fdiv (2097152 : Int)) (15 : Int)) ≤ (11 : Int)) = decide (IntKind.i64.wrap (bits BinOp.and IntKind.u32 ((w %
      (268435456 : Int)).fdiv (2097152 : Int)) (15 : Int)) ≤ (11 : Int)) ∧ ((!bits BinOp.and IntKind.u32 (w.fdiv (1048576 : Int)) (1 : Int) != (0 : Int)) = !bits BinOp.and
      IntKind.u32 ((w % (268435456 : Int)).fdiv (1048576 : Int)) (1 : Int) != (0 : Int) ∧ ((IntKind.i64 = IntKind.i64 ∧ (0 : Int) = (0 : Int)) ∧ (IntKind.i64 = IntKind.i64 ∧ (0
      : Int) = (0 : Int)) ∧ (IntKind.i64 = IntKind.i64 ∧ (0 : Int) = (0 : Int)) ∧ false = false ∧ (IntKind.i64 = IntKind.i64 ∧ (0 : Int) = (0 : Int)) ∧ (IntKind.i64 =
      IntKind.i64 ∧ (0 : Int) = (0 : Int)) ∧ (IntKind.i64 = IntKind.i64 ∧ (0 : Int) = (0 : Int)) ∧ (IntKind.i64 = IntKind.i64 ∧ (0 : Int) = (0 : Int)) ∧ (IntKind.u32 =
      IntKind.u32 ∧ (0 : Int) = (0 : Int)) ∧ false = false ∧ (IntKind.i64 = IntKind.i64 ∧ (0 : Int) = (0 : Int)) ∧ (IntKind.i64 = IntKind.i64 ∧ (0 : Int) = (0 : Int)) ∧ false =
      false ∧ false = false ∧ false = false ∧ false = false ∧ false = false ∧ false = false ∧ false = false ∧ false = false ∧ (IntKind.i64 = IntKind.i64 ∧ (0 : Int) = (0 : Int))
      ∧ false = false ∧ false = false ∧ false = false) ∧ (IntKind.i64 = IntKind.i64 ∧ (1 : Int) = (1 : Int)) ∧ (IntKind.i64 = IntKind.i64 ∧ (0 : Int) = (0 : Int)) ∧ (IntKind.i64
      = IntKind.i64 ∧ IntKind.i64.wrap (bits BinOp.and IntKind.u32 (w.fdiv (2097152 : Int)) (15 : Int)) = IntKind.i64.wrap (bits BinOp.and IntKind.u32 ((w % (268435456 :
      Int)).fdiv (2097152 : Int)) (15 : Int))) ∧ (bits BinOp.and IntKind.u32 (w.fdiv (1048576 : Int)) (1 : Int) != (0 : Int)) = (bits BinOp.and IntKind.u32 ((w % (268435456 :
      Int)).fdiv (1048576 : Int)) (1 : Int) != (0 : Int)) ∧ (IntKind.i64 = IntKind.i64 ∧ IntKind.i64.wrap (bits BinOp.and IntKind.u32 (w.fdiv (4096 : Int)) (15 : Int)) =
      IntKind.i64.wrap (bits BinOp.and IntKind.u32 ((w % (268435456 : Int)).fdiv (4096 : Int)) (15 : Int))) ∧ (IntKind.i64 = IntKind.i64 ∧ IntKind.i64.wrap (bits BinOp.and
      IntKind.u32 (w.fdiv (65536 : Int)) (15 : Int)) = IntKind.i64.wrap (bits BinOp.and IntKind.u32 ((w % (268435456 : Int)).fdiv (65536 : Int)) (15 : Int))) ∧ (IntKind.i64 =
      IntKind.i64 ∧ (0 : Int) = (0 : Int)) ∧ (IntKind.i64 = IntKind.i64 ∧ IntKind.i64.wrap (bits BinOp.and IntKind.u32 (w.fdiv (1 : Int)) (15 : Int)) = IntKind.i64.wrap (bits
      BinOp.and IntKind.u32 ((w % (268435456 : Int)).fdiv (1 : Int)) (15 : Int))) ∧ (IntKind.u32 = IntKind.u32 ∧ (0 : Int) = (0 : Int)) ∧ false = false ∧ (IntKind.i64 =
      IntKind.i64 ∧ IntKind.i64.wrap (bits BinOp.and IntKind.u32 (w.fdiv (32 : Int)) (3 : Int)) = IntKind.i64.wrap (bits BinOp.and IntKind.u32 ((w % (268435456 : Int)).fdiv (32
      : Int)) (3 : Int))) ∧ (IntKind.i64 = IntKind.i64 ∧ IntKind.i64.wrap (bits BinOp.and IntKind.u32 (w.fdiv (128 : Int)) (31 : Int)) = IntKind.i64.wrap (bits BinOp.and
      IntKind.u32 ((w % (268435456 : Int)).fdiv (128 : Int)) (31 : Int))) ∧ false = false ∧ false = false ∧ false = false ∧ false = false ∧ false = false ∧ false = false ∧ false
      = false ∧ false = false ∧ (IntKind.i64 = IntKind.i64 ∧ (0 : Int) = (0 : Int)) ∧ false = false ∧ false = false ∧ false = false) ∧ (IntKind.i64 = IntKind.i64 ∧ (1 : Int) =
      (1 : Int)) ∧ (IntKind.i64 = IntKind.i64 ∧ (0 : Int) = (0 : Int)) ∧ (IntKind.i64 = IntKind.i64 ∧ IntKind.i64.wrap (bits BinOp.and IntKind.u32 (w.fdiv (2097152 : Int)) (15 :
      Int)) = IntKind.i64.wrap (bits BinOp.and IntKind.u32 ((w % (268435456 : Int)).fdiv (2097152 : Int)) (15 : Int))) ∧ (bits BinOp.and IntKind.u32 (w.fdiv (1048576 : Int)) (1
      : Int) != (0 : Int)) = (bits BinOp.and IntKind.u32 ((w % (268435456 : Int)).fdiv (1048576 : Int)) (1 : Int) != (0 : Int)) ∧ (IntKind.i64 = IntKind.i64 ∧ IntKind.i64.wrap
      (bits BinOp.and IntKind.u32 (w.fdiv (4096 : Int)) (15 : Int)) = IntKind.i64.wrap (bits BinOp.and IntKind.u32 ((w % (268435456 : Int)).fdiv (4096 : Int)) (15 : Int))) ∧
      (IntKind.i64 = IntKind.i64 ∧ IntKind.i64.wrap (bits BinOp.and IntKind.u32 (w.fdiv (65536 : Int)) (15 : Int)) = IntKind.i64.wrap (bits BinOp.and IntKind.u32 ((w %
      (268435456 : Int)).fdiv (65536 : Int)) (15 : Int))) ∧ (IntKind.i64 = IntKind.i64 ∧ (0 : Int) = (0 : Int)) ∧ (IntKind.i64 = IntKind.i64 ∧ IntKind.i64.wrap (bits BinOp.and
      IntKind.u32 (w.fdiv (1 : Int)) (15 : Int)) = IntKind.i64.wrap (bits BinOp.and IntKind.u32 ((w % (268435456 : Int)).fdiv (1 : Int)) (15 : Int))) ∧ (IntKind.u32 =
      IntKind.u32 ∧ (0 : Int) = (0 : Int)) ∧ false = false ∧ (IntKind.i64 = IntKind.i64 ∧ IntKind.i64.wrap (bits BinOp.and IntKind.u32 (w.fdiv (32 : Int)) (3 : Int)) =
      IntKind.i64.wrap (bits BinOp.and IntKind.u32 ((w % (268435456 : Int)).fdiv (32 : Int)) (3 : Int))) ∧ (IntKind.i64 = IntKind.i64 ∧ IntKind.i64.wrap (bits BinOp.and
      IntKind.u32 (w.fdiv (128 : Int)) (31 : Int)) = IntKind.i64.wrap (bits BinOp.and IntKind.u32 ((w % (268435456 : Int)).fdiv (128 : Int)) (31 : Int))) ∧ false = false ∧ false
      = false ∧ false = false ∧ false = false ∧ false = false ∧ false = false ∧ false = false ∧ false = false ∧ (IntKind.i64 = IntKind.i64 ∧ (0 : Int) = (0 : Int)) ∧ false =
      false ∧ false = false ∧ false = false) ∧ (IntKind.i64 = IntKind.i64 ∧ (1 : Int) = (1 : Int)) ∧ (IntKind.i64 = IntKind.i64 ∧ (0 : Int) = (0 : Int)) ∧ (IntKind.i64 =
      IntKind.i64 ∧ IntKind.i64.wrap (bits BinOp.and IntKind.u32 (w.fdiv (2097152 : Int)) (15 : Int)) = IntKind.i64.wrap (bits BinOp.and IntKind.u32 ((w % (268435456 :
      Int)).fdiv (2097152 : Int)) (15 : Int))) ∧ (bits BinOp.and IntKind.u32 (w.fdiv (1048576 : Int)) (1 : Int) != (0 : Int)) = (bits BinOp.and IntKind.u32 ((w % (268435456 :
      Int)).fdiv (1048576 : Int)) (1 : Int) != (0 : Int)) ∧ (IntKind.i64 = IntKind.i64 ∧ IntKind.i64.wrap (bits BinOp.and IntKind.u32 (w.fdiv (4096 : Int)) (15 : Int)) =
      IntKind.i64.wrap (bits BinOp.and IntKind.u32 ((w % (268435456 : Int)).fdiv (4096 : Int)) (15 : Int))) ∧ (IntKind.i64 = IntKind.i64 ∧ IntKind.i64.wrap (bits BinOp.and
      IntKind.u32 (w.fdiv (65536 : Int)) (15 : Int)) = IntKind.i64.wrap (bits BinOp.and IntKind.u32 ((w % (268435456 : Int)).fdiv (65536 : Int)) (15 : Int))) ∧ (IntKind.i64 =
      IntKind.i64 ∧ (0 : Int) = (0 : Int)) ∧ (IntKind.i64 = IntKind.i64 ∧ IntKind.i64.wrap (bits BinOp.and IntKind.u32 (w.fdiv (1 : Int)) (15 : Int)) = IntKind.i64.wrap (bits
      BinOp.and IntKind.u32 ((w % (268435456 : Int)).fdiv (1 : Int)) (15 : Int))) ∧ (IntKind.u32 = IntKind.u32 ∧ (0 : Int) = (0 : Int)) ∧ false = false ∧ (IntKind.i64 =
      IntKind.i64 ∧ IntKind.i64.wrap (bits BinOp.and IntKind.u32 (w.fdiv (32 : Int)) (3 : Int)) = IntKind.i64.wrap (bits BinOp.and IntKind.u32 ((w % (268435456 : Int)).fdiv (32
      : Int)) (3 : Int))) ∧ (IntKind.i64 = IntKind.i64 ∧ IntKind.i64.wrap (bits BinOp.and IntKind.u32 (w.fdiv (128 : Int)) (31 : Int)) = IntKind.i64.wrap (bits BinOp.and
      IntKind.u32 ((w % (268435456 : Int)).fdiv (128 : Int)) (31 : Int))) ∧ false = false ∧ false = false ∧ false = false ∧ false = false ∧ false = false ∧ false = false ∧ false
      = false ∧ false = false ∧ (IntKind.i64 = IntKind.i64 ∧ (0 : Int) = (0 : Int)) ∧ false = false ∧ false = false ∧ false = false) ∧ (!bits BinOp.and IntKind.u32 (w.fdiv (128
      : Int)) (1 : Int) != (0 : Int)) = !bits BinOp.and IntKind.u32 ((w % (268435456 : Int)).fdiv (128 : Int)) (1 : Int) != (0 : Int) ∧ (decide (IntKind.i64.wrap (bits BinOp.and
      IntKind.u32 (w.fdiv (2097152 : Int)) (15 : Int)) ≥ (8 : Int)) = decide (IntKind.i64.wrap (bits BinOp.and IntKind.u32 ((w % (268435456 : Int)).fdiv (2097152 : Int)) (15 :
      Int)) ≥ (8 : Int)) ∧ (decide (IntKind.i64.wrap (bits BinOp.and IntKind.u32 (w.fdiv (2097152 : Int)) (15 : Int)) ≤ (11 : Int)) = decide (IntKind.i64.wrap (bits BinOp.and
      IntKind.u32 ((w % (268435456 : Int)).fdiv (2097152 : Int)) (15 : Int)) ≤ (11 : Int)) ∧ ((!bits BinOp.and IntKind.u32 (w.fdiv (1048576 : Int)) (1 : Int) != (0 : Int)) =
      !bits BinOp.and IntKind.u32 ((w % (268435456 : Int)).fdiv (1048576 : Int)) (1 : Int) != (0 : Int) ∧ ((IntKind.i64 = IntKind.i64 ∧ (0 : Int) = (0 : Int)) ∧ (IntKind.i64 =
      IntKind.i64 ∧ (0 : Int) = (0 : Int)) ∧ (IntKind.i64 = IntKind.i64 ∧ (0 : Int) = (0 : Int)) ∧ false = false ∧ (IntKind.i64 = IntKind.i64 ∧ (0 : Int) = (0 : Int)) ∧
      (IntKind.i64 = IntKind.i64 ∧ (0 : Int) = (0 : Int)) ∧ (IntKind.i64 = IntKind.i64 ∧ (0 : Int) = (0 : Int)) ∧ (IntKind.i64 = IntKind.i64 ∧ (0 : Int) = (0 : Int)) ∧
      (IntKind.u32 = IntKind.u32 ∧ (0 : Int) = (0 : Int)) ∧ false = false ∧ (IntKind.i64 = IntKind.i64 ∧ (0 : Int) = (0 : Int)) ∧ (IntKind.i64 = IntKind.i64 ∧ (0 : Int) = (0 :
      Int)) ∧ false = false ∧ false = false ∧ false = false ∧ false = false ∧ false = false ∧ false = false ∧ false = false ∧ false = false ∧ (IntKind.i64 = IntKind.i64 ∧ (0 :
      Int) = (0 : Int)) ∧ false = false ∧ false = false ∧ false = false) ∧ (IntKind.i64 = IntKind.i64 ∧ (1 : Int) = (1 : Int)) ∧ (IntKind.i64 = IntKind.i64 ∧ (0 : Int) = (0 :
      Int)) ∧ (IntKind.i64 = IntKind.i64 ∧ IntKind.i64.wrap (bits BinOp.and IntKind.u32 (w.fdiv (2097152 : Int)) (15 : Int)) = IntKind.i64.wrap (bits BinOp.and IntKind.u32 ((w %
      (268435456 : Int)).fdiv (2097152 : Int)) (15 : Int))) ∧ (bits BinOp.and IntKind.u32 (w.fdiv (1048576 : Int)) (1 : Int) != (0 : Int)) = (bits BinOp.and IntKind.u32 ((w %
      (268435456 : Int)).fdiv (1048576 : Int)) (1 : Int) != (0 : Int)) ∧ (IntKind.i64 = IntKind.i64 ∧ IntKind.i64.wrap (bits BinOp.and IntKind.u32 (w.fdiv (4096 : Int)) (15 :
      Int)) = IntKind.i64.wrap (bits BinOp.and IntKind.u32 ((w % (268435456 : Int)).fdiv (4096 : Int)) (15 : Int))) ∧ (IntKind.i64 = IntKind.i64 ∧ IntKind.i64.wrap (bits
      BinOp.and IntKind.u32 (w.fdiv (65536 : Int)) (15 : Int)) = IntKind.i64.wrap (bits BinOp.and IntKind.u32 ((w % (268435456 : Int)).fdiv (65536 : Int)) (15 : Int))) ∧
      (IntKind.i64 = IntKind.i64 ∧ IntKind.i64.wrap (bits BinOp.and IntKind.u32 (w.fdiv (256 : Int)) (15 : Int)) = IntKind.i64.wrap (bits BinOp.and IntKind.u32 ((w % (268435456
      : Int)).fdiv (256 : Int)) (15 : Int))) ∧ (IntKind.i64 = IntKind.i64 ∧ IntKind.i64.wrap (bits BinOp.and IntKind.u32 (w.fdiv (1 : Int)) (15 : Int)) = IntKind.i64.wrap (bits
      BinOp.and IntKind.u32 ((w % (268435456 : Int)).fdiv (1 : Int)) (15 : Int))) ∧ (IntKind.u32 = IntKind.u32 ∧ (0 : Int) = (0 : Int)) ∧ false = false ∧ (IntKind.i64 =
      IntKind.i64 ∧ IntKind.i64.wrap (bits BinOp.and IntKind.u32 (w.fdiv (32 : Int)) (3 : Int)) = IntKind.i64.wrap (bits BinOp.and IntKind.u32 ((w % (268435456 : Int)).fdiv (32
      : Int)) (3 : Int))) ∧ (IntKind.i64 = IntKind.i64 ∧ (0 : Int) = (0 : Int)) ∧ true = true ∧ false = false ∧ false = false ∧ false = false ∧ false = false ∧ false = false ∧
      false = false ∧ false = false ∧ (IntKind.i64 = IntKind.i64 ∧ (0 : Int) = (0 : Int)) ∧ false = false ∧ false = false ∧ false = false) ∧ (IntKind.i64 = IntKind.i64 ∧ (1 :
      Int) = (1 : Int)) ∧ (IntKind.i64 = IntKind.i64 ∧ (0 : Int) = (0 : Int)) ∧ (IntKind.i64 = IntKind.i64 ∧ IntKind.i64.wrap (bits BinOp.and IntKind.u32 (w.fdiv (2097152 :
      Int)) (15 : Int)) = IntKind.i64.wrap (bits BinOp.and IntKind.u32 ((w % (268435456 : Int)).fdiv (2097152 : Int)) (15 : Int))) ∧ (bits BinOp.and IntKind.u32 (w.fdiv (1048576
      : Int)) (1 : Int) != (0 : Int)) = (bits BinOp.and IntKind.u32 ((w % (268435456 : Int)).fdiv (1048576 : Int)) (1 : Int) != (0 : Int)) ∧ (IntKind.i64 = IntKind.i64 ∧
      IntKind.i64.wrap (bits BinOp.and IntKind.u32 (w.fdiv (4096 : Int)) (15 : Int)) = IntKind.i64.wrap (bits BinOp.and IntKind.u32 ((w % (268435456 : Int)).fdiv (4096 : Int))
      (15 : Int))) ∧ (IntKind.i64 = IntKind.i64 ∧ IntKind.i64.wrap (bits BinOp.and IntKind.u32 (w.fdiv (65536 : Int)) (15 : Int)) = IntKind.i64.wrap (bits BinOp.and IntKind.u32
      ((w % (268435456 : Int)).fdiv (65536 : Int)) (15 : Int))) ∧ (IntKind.i64 = IntKind.i64 ∧ IntKind.i64.wrap (bits BinOp.and IntKind.u32 (w.fdiv (256 : Int)) (15 : Int)) =
      IntKind.i64.wrap (bits BinOp.and IntKind.u32 ((w % (268435456 : Int)).fdiv (256 : Int)) (15 : Int))) ∧ (IntKind.i64 = IntKind.i64 ∧ IntKind.i64.wrap (bits BinOp.and
      IntKind.u32 (w.fdiv (1 : Int)) (15 : Int)) = IntKind.i64.wrap (bits BinOp.and IntKind.u32 ((w % (268435456 : Int)).fdiv (1 : Int)) (15 : Int))) ∧ (IntKind.u32 =
      IntKind.u32 ∧ (0 : Int) = (0 : Int)) ∧ false = false ∧ (IntKind.i64 = IntKind.i64 ∧ IntKind.i64.wrap (bits BinOp.and IntKind.u32 (w.fdiv (32 : Int)) (3 : Int)) =
      IntKind.i64.wrap (bits BinOp.and IntKind.u32 ((w % (268435456 : Int)).fdiv (32 : Int)) (3 : Int))) ∧ (IntKind.i64 = IntKind.i64 ∧ (0 : Int) = (0 : Int)) ∧ true = true ∧
      false = false ∧ false = false ∧ false = false ∧ false = false ∧ false = false ∧ false = false ∧ false = false ∧ (IntKind.i64 = IntKind.i64 ∧ (0 : Int) = (0 : Int)) ∧ false
      = false ∧ false = false ∧ false = false) ∧ (IntKind.i64 = IntKind.i64 ∧ (1 : Int) = (1 : Int)) ∧ (IntKind.i64 = IntKind.i64 ∧ (0 : Int) = (0 : Int)) ∧ (IntKind.i64 =
      IntKind.i64 ∧ IntKind.i64.wrap (bits BinOp.and IntKind.u32 (w.fdiv (2097152 : Int)) (15 : Int)) = IntKind.i64.wrap (bits BinOp.and IntKind.u32 ((w % (268435456 :
      Int)).fdiv (2097152 : Int)) (15 : Int))) ∧ (bits BinOp.and IntKind.u32 (w.fdiv (1048576 : Int)) (1 : Int) != (0 : Int)) = (bits BinOp.and IntKind.u32 ((w % (268435456 :
      Int)).fdiv (1048576 : Int)) (1 : Int) != (0 : Int)) ∧ (IntKind.i64 = IntKind.i64 ∧ IntKind.i64.wrap (bits BinOp.and IntKind.u32 (w.fdiv (4096 : Int)) (15 : Int)) =
      IntKind.i64.wrap (bits BinOp.and IntKind.u32 ((w % (268435456 : Int)).fdiv (4096 : Int)) (15 : Int))) ∧ (IntKind.i64 = IntKind.i64 ∧ IntKind.i64.wrap (bits BinOp.and
      IntKind.u32 (w.fdiv (65536 : Int)) (15 : Int)) = IntKind.i64.wrap (bits BinOp.and IntKind.u32 ((w % (268435456 : Int)).fdiv (65536 : Int)) (15 : Int))) ∧ (IntKind.i64 =
      IntKind.i64 ∧ IntKind.i64.wrap (bits BinOp.and IntKind.u32 (w.fdiv (256 : Int)) (15 : Int)) = IntKind.i64.wrap (bits BinOp.and IntKind.u32 ((w % (268435456 : Int)).fdiv
      (256 : Int)) (15 : Int))) ∧ (IntKind.i64 = IntKind.i64 ∧ IntKind.i64.wrap (bits BinOp.and IntKind.u32 (w.fdiv (1 : Int)) (15 : Int)) = IntKind.i64.wrap (bits BinOp.and
      IntKind.u32 ((w % (268435456 : Int)).fdiv (1 : Int)) (15 : Int))) ∧ (IntKind.u32 = IntKind.u32 ∧ (0 : Int) = (0 : Int)) ∧ false = false ∧ (IntKind.i64 = IntKind.i64 ∧
      IntKind.i64.wrap (bits BinOp.and IntKind.u32 (w.fdiv (32 : Int)) (3 : Int)) = IntKind.i64.wrap (bits BinOp.and IntKind.u32 ((w % (268435456 : Int)).fdiv (32 : Int)) (3 :
      Int))) ∧ (IntKind.i64 = IntKind.i64 ∧ (0 : Int) = (0 : Int)) ∧ true = true ∧ false = false ∧ false = false ∧ false = false ∧ false = false ∧ false = false ∧ false = false
      ∧ false = false ∧ (IntKind.i64 = IntKind.i64 ∧ (0 : Int) = (0 : Int)) ∧ false = false ∧ false = false ∧ false = false) ∧ (IntKind.i64 = IntKind.i64 ∧ (0 : Int) = (0 :
      Int)) ∧ (IntKind.i64 = IntKind.i64 ∧ (0 : Int) = (0 : Int)) ∧ (IntKind.i64 = IntKind.i64 ∧ (0 : Int) = (0 : Int)) ∧ false = false ∧ (IntKind.i64 = IntKind.i64 ∧ (0 : Int)
      = (0 : Int)) ∧ (IntKind.i64 = IntKind.i64 ∧ (0 : Int) = (0 : Int)) ∧ (IntKind.i64 = IntKind.i64 ∧ (0 : Int) = (0 : Int)) ∧ (IntKind.i64 = IntKind.i64 ∧ (0 : Int) = (0 :
      Int)) ∧ (IntKind.u32 = IntKind.u32 ∧ (0 : Int) = (0 : Int)) ∧ false = false ∧ (IntKind.i64 = IntKind.i64 ∧ (0 : Int) = (0 : Int)) ∧ (IntKind.i64 = IntKind.i64 ∧ (0 : Int)
      = (0 : Int)) ∧ false = false ∧ false = false ∧ false = false ∧ false = false ∧ false = false ∧ false = false ∧ false = false ∧ false = false ∧ (IntKind.i64 = IntKind.i64 ∧
      (0 : Int) = (0 : Int)) ∧ false = false ∧ false = false ∧ false = false) ∧ (IntKind.i64.wrap (bits BinOp.and IntKind.u32 (w.fdiv (33554432 : Int)) (7 : Int)) == (1 : Int))
      = (IntKind.i64.wrap (bits BinOp.and IntKind.u32 ((w % (268435456 : Int)).fdiv (33554432 : Int)) (7 : Int)) == (1 : Int)) ∧ ((bits BinOp.and IntKind.u32 w (263254016 : Int)
      == (52490240 : Int)) = (bits BinOp.and IntKind.u32 (w % (268435456 : Int)) (263254016 : Int) == (52490240 : Int)) ∧ ((IntKind.i64 = IntKind.i64 ∧ (12 : Int) = (12 : Int))
      ∧ (IntKind.i64 = IntKind.i64 ∧ (0 : Int) = (0 : Int)) ∧ (IntKind.i64 = IntKind.i64 ∧ (0 : Int) = (0 : Int)) ∧ false = false ∧ (IntKind.i64 = IntKind.i64 ∧ (0 : Int) = (0 :
      Int)) ∧ (IntKind.i64 = IntKind.i64 ∧ (0 : Int) = (0 : Int)) ∧ (IntKind.i64 = IntKind.i64 ∧ (0 : Int) = (0 : Int)) ∧ (IntKind.i64 = IntKind.i64 ∧ (0 : Int) = (0 : Int)) ∧
      (IntKind.u32 = IntKind.u32 ∧ bits BinOp.and IntKind.u32 w (255 : Int) = bits BinOp.and IntKind.u32 (w % (268435456 : Int)) (255 : Int)) ∧ true = true ∧ (IntKind.i64 =
      IntKind.i64 ∧ (0 : Int) = (0 : Int)) ∧ (IntKind.i64 = IntKind.i64 ∧ IntKind.i64.wrap (bits BinOp.and IntKind.u32 (w.fdiv (256 : Int)) (15 : Int)) = IntKind.i64.wrap (bits
      BinOp.and IntKind.u32 ((w % (268435456 : Int)).fdiv (256 : Int)) (15 : Int))) ∧ false = false ∧ false = false ∧ false = false ∧ false = false ∧ false = false ∧ false =
      false ∧ false = false ∧ (bits BinOp.and IntKind.u32 (w.fdiv (4194304 : Int)) (1 : Int) != (0 : Int)) = (bits BinOp.and IntKind.u32 ((w % (268435456 : Int)).fdiv (4194304 :
      Int)) (1 : Int) != (0 : Int)) ∧ (IntKind.i64 = IntKind.i64 ∧ IntKind.i64.wrap (bits BinOp.and IntKind.u32 (w.fdiv (65536 : Int)) (15 : Int)) = IntKind.i64.wrap (bits
      BinOp.and IntKind.u32 ((w % (268435456 : Int)).fdiv (65536 : Int)) (15 : Int))) ∧ false = false ∧ false = false ∧ false = false) ∧ decide (IntKind.i64.wrap (bits BinOp.and
      IntKind.u32 (w.fdiv (2097152 : Int)) (15 : Int)) ≥ (8 : Int)) = decide (IntKind.i64.wrap (bits BinOp.and IntKind.u32 ((w % (268435456 : Int)).fdiv (2097152 : Int)) (15 :
      Int)) ≥ (8 : Int)) ∧ (decide (IntKind.i64.wrap (bits BinOp.and IntKind.u32 (w.fdiv (2097152 : Int)) (15 : Int)) ≤ (11 : Int)) = decide (IntKind.i64.wrap (bits BinOp.and
      IntKind.u32 ((w % (268435456 : Int)).fdiv (2097152 : Int)) (15 : Int)) ≤ (11 : Int)) ∧ ((!bits BinOp.and IntKind.u32 (w.fdiv (1048576 : Int)) (1 : Int) != (0 : Int)) =
      !bits BinOp.and IntKind.u32 ((w % (268435456 : Int)).fdiv (1048576 : Int)) (1 : Int) != (0 : Int) ∧ ((IntKind.i64 = IntKind.i64 ∧ (0 : Int) = (0 : Int)) ∧ (IntKind.i64 =
      IntKind.i64 ∧ (0 : Int) = (0 : Int)) ∧ (IntKind.i64 = IntKind.i64 ∧ (0 : Int) = (0 : Int)) ∧ false = false ∧ (IntKind.i64 = IntKind.i64 ∧ (0 : Int) = (0 : Int)) ∧
      (IntKind.i64 = IntKind.i64 ∧ (0 : Int) = (0 : Int)) ∧ (IntKind.i64 = IntKind.i64 ∧ (0 : Int) = (0 : Int)) ∧ (IntKind.i64 = IntKind.i64 ∧ (0 : Int) = (0 : Int)) ∧
      (IntKind.u32 = IntKind.u32 ∧ (0 : Int) = (0 : Int)) ∧ false = false ∧ (IntKind.i64 = IntKind.i64 ∧ (0 : Int) = (0 : Int)) ∧ (IntKind.i64 = IntKind.i64 ∧ (0 : Int) = (0 :
      Int)) ∧ false = false ∧ false = false ∧ false = false ∧ false = false ∧ false = false ∧ false = false ∧ false = false ∧ false = false ∧ (IntKind.i64 = IntKind.i64 ∧ (0 :
      Int) = (0 : Int)) ∧ false = false ∧ false = false ∧ false = false) ∧ (IntKind.i64 = IntKind.i64 ∧ (1 : Int) = (1 : Int)) ∧ (IntKind.i64 = IntKind.i64 ∧ (0 : Int) = (0 :
      Int)) ∧ (IntKind.i64 = IntKind.i64 ∧ IntKind.i64.wrap (bits BinOp.and IntKind.u32 (w.fdiv (2097152 : Int)) (15 : Int)) = IntKind.i64.wrap (bits BinOp.and IntKind.u32 ((w %
      (268435456 : Int)).fdiv (2097152 : Int)) (15 : Int))) ∧ (bits BinOp.and IntKind.u32 (w.fdiv (1048576 : Int)) (1 : Int) != (0 : Int)) = (bits BinOp.and IntKind.u32 ((w %
      (268435456 : Int)).fdiv (1048576 : Int)) (1 : Int) != (0 : Int)) ∧ (IntKind.i64 = IntKind.i64 ∧ IntKind.i64.wrap (bits BinOp.and IntKind.u32 (w.fdiv (4096 : Int)) (15 :
      Int)) = IntKind.i64.wrap (bits BinOp.and IntKind.u32 ((w % (268435456 : Int)).fdiv (4096 : Int)) (15 : Int))) ∧ (IntKind.i64 = IntKind.i64 ∧ IntKind.i64.wrap (bits
      BinOp.and IntKind.u32 (w.fdiv (65536 : Int)) (15 : Int)) = IntKind.i64.wrap (bits BinOp.and IntKind.u32 ((w % (268435456 : Int)).fdiv (65536 : Int)) (15 : Int))) ∧
      (IntKind.i64 = IntKind.i64 ∧ (0 : Int) = (0 : Int)) ∧ (IntKind.i64 = IntKind.i64 ∧ (0 : Int) = (0 : Int)) ∧ (IntKind.u32 = IntKind.u32 ∧ bits BinOp.and IntKind.u32 w (255
      : Int) = bits BinOp.and IntKind.u32 (w % (268435456 : Int)) (255 : Int)) ∧ true = true ∧ (IntKind.i64 = IntKind.i64 ∧ (0 : Int) = (0 : Int)) ∧ (IntKind.i64 = IntKind.i64 ∧
      IntKind.i64.wrap (bits BinOp.and IntKind.u32 (w.fdiv (256 : Int)) (15 : Int)) = IntKind.i64.wrap (bits BinOp.and IntKind.u32 ((w % (268435456 : Int)).fdiv (256 : Int)) (15
      : Int))) ∧ false = false ∧ false = false ∧ false = false ∧ false = false ∧ false = false ∧ false = false ∧ false = false ∧ false = false ∧ (IntKind.i64 = IntKind.i64 ∧ (0
      : Int) = (0 : Int)) ∧ false = false ∧ false = false ∧ false = false) ∧ (IntKind.i64 = IntKind.i64 ∧ (1 : Int) = (1 : Int)) ∧ (IntKind.i64 = IntKind.i64 ∧ (0 : Int) = (0 :
      Int)) ∧ (IntKind.i64 = IntKind.i64 ∧ IntKind.i64.wrap (bits BinOp.and IntKind.u32 (w.fdiv (2097152 : Int)) (15 : Int)) = IntKind.i64.wrap (bits BinOp.and IntKind.u32 ((w %
      (268435456 : Int)).fdiv (2097152 : Int)) (15 : Int))) ∧ (bits BinOp.and IntKind.u32 (w.fdiv (1048576 : Int)) (1 : Int) != (0 : Int)) = (bits BinOp.and IntKind.u32 ((w %
      (268435456 : Int)).fdiv (1048576 : Int)) (1 : Int) != (0 : Int)) ∧ (IntKind.i64 = IntKind.i64 ∧ IntKind.i64.wrap (bits BinOp.and IntKind.u32 (w.fdiv (4096 : Int)) (15 :
      Int)) = IntKind.i64.wrap (bits BinOp.and IntKind.u32 ((w % (268435456 : Int)).fdiv (4096 : Int)) (15 : Int))) ∧ (IntKind.i64 = IntKind.i64 ∧ IntKind.i64.wrap (bits
      BinOp.and IntKind.u32 (w.fdiv (65536 : Int)) (15 : Int)) = IntKind.i64.wrap (bits BinOp.and IntKind.u32 ((w % (268435456 : Int)).fdiv (65536 : Int)) (15 : Int))) ∧
      (IntKind.i64 = IntKind.i64 ∧ (0 : Int) = (0 : Int)) ∧ (IntKind.i64 = IntKind.i64 ∧ (0 : Int) = (0 : Int)) ∧ (IntKind.u32 = IntKind.u32 ∧ bits BinOp.and IntKind.u32 w (255
      : Int) = bits BinOp.and IntKind.u32 (w % (268435456 : Int)) (255 : Int)) ∧ true = true ∧ (IntKind.i64 = IntKind.i64 ∧ (0 : Int) = (0 : Int)) ∧ (IntKind.i64 = IntKind.i64 ∧
      IntKind.i64.wrap (bits BinOp.and IntKind.u32 (w.fdiv (256 : Int)) (15 : Int)) = IntKind.i64.wrap (bits BinOp.and IntKind.u32 ((w % (268435456 : Int)).fdiv (256 : Int)) (15
      : Int))) ∧ false = false ∧ false = false ∧ false = false ∧ false = false ∧ false = false ∧ false = false ∧ false = false ∧ false = false ∧ (IntKind.i64 = IntKind.i64 ∧ (0
      : Int) = (0 : Int)) ∧ false = false ∧ false = false ∧ false = false) ∧ (IntKind.i64 = IntKind.i64 ∧ (1 : Int) = (1 : Int)) ∧ (IntKind.i64 = IntKind.i64 ∧ (0 : Int) = (0 :
      Int)) ∧ (IntKind.i64 = IntKind.i64 ∧ IntKind.i64.wrap (bits BinOp.and IntKind.u32 (w.fdiv (2097152 : Int)) (15 : Int)) = IntKind.i64.wrap (bits BinOp.and IntKind.u32 ((w %
      (268435456 : Int)).fdiv (2097152 : Int)) (15 : Int))) ∧ (bits BinOp.and IntKind.u32 (w.fdiv (1048576 : Int)) (1 : Int) != (0 : Int)) = (bits BinOp.and IntKind.u32 ((w %
      (268435456 : Int)).fdiv (1048576 : Int)) (1 : Int) != (0 : Int)) ∧ (IntKind.i64 = IntKind.i64 ∧ IntKind.i64.wrap (bits BinOp.and IntKind.u32 (w.fdiv (4096 : Int)) (15 :
      Int)) = IntKind.i64.wrap (bits BinOp.and IntKind.u32 ((w % (268435456 : Int)).fdiv (4096 : Int)) (15 : Int))) ∧ (IntKind.i64 = IntKind.i64 ∧ IntKind.i64.wrap (bits
      BinOp.and IntKind.u32 (w.fdiv (65536 : Int)) (15 : Int)) = IntKind.i64.wrap (bits BinOp.and IntKind.u32 ((w % (268435456 : Int)).fdiv (65536 : Int)) (15 : Int))) ∧
      (IntKind.i64 = IntKind.i64 ∧ (0 : Int) = (0 : Int)) ∧ (IntKind.i64 = IntKind.i64 ∧ (0 : Int) = (0 : Int)) ∧ (IntKind.u32 = IntKind.u32 ∧ bits BinOp.and IntKind.u32 w (255
      : Int) = bits BinOp.and IntKind.u32 (w % (268435456 : Int)) (255 : Int)) ∧ true = true ∧ (IntKind.i64 = IntKind.i64 ∧ (0 : Int) = (0 : Int)) ∧ (IntKind.i64 = IntKind.i64 ∧
      IntKind.i64.wrap (bits BinOp.and IntKind.u32 (w.fdiv (256 : Int)) (15 : Int)) = IntKind.i64.wrap (bits BinOp.and IntKind.u32 ((w % (268435456 : Int)).fdiv (256 : Int)) (15
      : Int))) ∧ false = false ∧ false = false ∧ false = false ∧ false = false ∧ false = false ∧ false = false ∧ false = false ∧ false = false ∧ (IntKind.i64 = IntKind.i64 ∧ (0
      : Int) = (0 : Int)) ∧ false = false ∧ false = false ∧ false = false) ∧ (IntKind.i64.wrap (bits BinOp.and IntKind.u32 (w.fdiv (33554432 : Int)) (7 : Int)) == (2 : Int)) =
      (IntKind.i64.wrap (bits BinOp.and IntKind.u32 ((w % (268435456 : Int)).fdiv (33554432 : Int)) (7 : Int)) == (2 : Int)) ∧ ((bits BinOp.and IntKind.u32 (w.fdiv (33554432 :
      Int)) (1 : Int) != (0 : Int)) = (bits BinOp.and IntKind.u32 ((w % (268435456 : Int)).fdiv (33554432 : Int)) (1 : Int) != (0 : Int)) ∧ ((bits BinOp.and IntKind.u32 (w.fdiv
      (2097152 : Int)) (1 : Int) != (0 : Int)) = (bits BinOp.and IntKind.u32 ((w % (268435456 : Int)).fdiv (2097152 : Int)) (1 : Int) != (0 : Int)) ∧ ((IntKind.i64 = IntKind.i64
      ∧ (7 : Int) = (7 : Int)) ∧ (IntKind.i64 = IntKind.i64 ∧ (0 : Int) = (0 : Int)) ∧ (IntKind.i64 = IntKind.i64 ∧ (0 : Int) = (0 : Int)) ∧ false = false ∧ (IntKind.i64 =
      IntKind.i64 ∧ IntKind.i64.wrap (bits BinOp.and IntKind.u32 (w.fdiv (4096 : Int)) (15 : Int)) = IntKind.i64.wrap (bits BinOp.and IntKind.u32 ((w % (268435456 : Int)).fdiv
      (4096 : Int)) (15 : Int))) ∧ (IntKind.i64 = IntKind.i64 ∧ IntKind.i64.wrap (bits BinOp.and IntKind.u32 (w.fdiv (65536 : Int)) (15 : Int)) = IntKind.i64.wrap (bits
      BinOp.and IntKind.u32 ((w % (268435456 : Int)).fdiv (65536 : Int)) (15 : Int))) ∧ (IntKind.i64 = IntKind.i64 ∧ (0 : Int) = (0 : Int)) ∧ (IntKind.i64 = IntKind.i64 ∧
      IntKind.i64.wrap (bits BinOp.and IntKind.u32 (w.fdiv (1 : Int)) (15 : Int)) = IntKind.i64.wrap (bits BinOp.and IntKind.u32 ((w % (268435456 : Int)).fdiv (1 : Int)) (15 :
      Int))) ∧ (IntKind.u32 = IntKind.u32 ∧ (0 : Int) = (0 : Int)) ∧ false = false ∧ (IntKind.i64 = IntKind.i64 ∧ IntKind.i64.wrap (bits BinOp.and IntKind.u32 (w.fdiv (32 :
      Int)) (3 : Int)) = IntKind.i64.wrap (bits BinOp.and IntKind.u32 ((w % (268435456 : Int)).fdiv (32 : Int)) (3 : Int))) ∧ (IntKind.i64 = IntKind.i64 ∧ IntKind.i64.wrap (bits
      BinOp.and IntKind.u32 (w.fdiv (128 : Int)) (31 : Int)) = IntKind.i64.wrap (bits BinOp.and IntKind.u32 ((w % (268435456 : Int)).fdiv (128 : Int)) (31 : Int))) ∧ false =
      false ∧ (bits BinOp.and IntKind.u32 (w.fdiv (1048576 : Int)) (1 : Int) != (0 : Int)) = (bits BinOp.and IntKind.u32 ((w % (268435456 : Int)).fdiv (1048576 : Int)) (1 : Int)
      != (0 : Int)) ∧ (bits BinOp.and IntKind.u32 (w.fdiv (4194304 : Int)) (1 : Int) != (0 : Int)) = (bits BinOp.and IntKind.u32 ((w % (268435456 : Int)).fdiv (4194304 : Int))
      (1 : Int) != (0 : Int)) ∧ false = false ∧ (bits BinOp.and IntKind.u32 (w.fdiv (16777216 : Int)) (1 : Int) != (0 : Int)) = (bits BinOp.and IntKind.u32 ((w % (268435456 :
      Int)).fdiv (16777216 : Int)) (1 : Int) != (0 : Int)) ∧ (bits BinOp.and IntKind.u32 (w.fdiv (8388608 : Int)) (1 : Int) != (0 : Int)) = (bits BinOp.and IntKind.u32 ((w %
      (268435456 : Int)).fdiv (8388608 : Int)) (1 : Int) != (0 : Int)) ∧ true = true ∧ false = false ∧ (IntKind.i64 = IntKind.i64 ∧ (0 : Int) = (0 : Int)) ∧ false = false ∧
      false = false ∧ false = false) ∧ (IntKind.i64 = IntKind.i64 ∧ (7 : Int) = (7 : Int)) ∧ (IntKind.i64 = IntKind.i64 ∧ (0 : Int) = (0 : Int)) ∧ (IntKind.i64 = IntKind.i64 ∧
      (0 : Int) = (0 : Int)) ∧ false = false ∧ (IntKind.i64 = IntKind.i64 ∧ IntKind.i64.wrap (bits BinOp.and IntKind.u32 (w.fdiv (4096 : Int)) (15 : Int)) = IntKind.i64.wrap
      (bits BinOp.and IntKind.u32 ((w % (268435456 : Int)).fdiv (4096 : Int)) (15 : Int))) ∧ (IntKind.i64 = IntKind.i64 ∧ IntKind.i64.wrap (bits BinOp.and IntKind.u32 (w.fdiv
      (65536 : Int)) (15 : Int)) = IntKind.i64.wrap (bits BinOp.and IntKind.u32 ((w % (268435456 : Int)).fdiv (65536 : Int)) (15 : Int))) ∧ (IntKind.i64 = IntKind.i64 ∧ (0 :
      Int) = (0 : Int)) ∧ (IntKind.i64 = IntKind.i64 ∧ IntKind.i64.wrap (bits BinOp.and IntKind.u32 (w.fdiv (1 : Int)) (15 : Int)) = IntKind.i64.wrap (bits BinOp.and IntKind.u32
      ((w % (268435456 : Int)).fdiv (1 : Int)) (15 : Int))) ∧ (IntKind.u32 = IntKind.u32 ∧ (0 : Int) = (0 : Int)) ∧ false = false ∧ (IntKind.i64 = IntKind.i64 ∧ IntKind.i64.wrap
      (bits BinOp.and IntKind.u32 (w.fdiv (32 : Int)) (3 : Int)) = IntKind.i64.wrap (bits BinOp.and IntKind.u32 ((w % (268435456 : Int)).fdiv (32 : Int)) (3 : Int))) ∧
      (IntKind.i64 = IntKind.i64 ∧ IntKind.i64.wrap (bits BinOp.and IntKind.u32 (w.fdiv (128 : Int)) (31 : Int)) = IntKind.i64.wrap (bits BinOp.and IntKind.u32 ((w % (268435456
      : Int)).fdiv (128 : Int)) (31 : Int))) ∧ false = false ∧ (bits BinOp.and IntKind.u32 (w.fdiv (1048576 : Int)) (1 : Int) != (0 : Int)) = (bits BinOp.and IntKind.u32 ((w %
      (268435456 : Int)).fdiv (1048576 : Int)) (1 : Int) != (0 : Int)) ∧ (bits BinOp.and IntKind.u32 (w.fdiv (4194304 : Int)) (1 : Int) != (0 : Int)) = (bits BinOp.and
      IntKind.u32 ((w % (268435456 : Int)).fdiv (4194304 : Int)) (1 : Int) != (0 : Int)) ∧ false = false ∧ (bits BinOp.and IntKind.u32 (w.fdiv (16777216 : Int)) (1 : Int) != (0
      : Int)) = (bits BinOp.and IntKind.u32 ((w % (268435456 : Int)).fdiv (16777216 : Int)) (1 : Int) != (0 : Int)) ∧ (bits BinOp.and IntKind.u32 (w.fdiv (8388608 : Int)) (1 :
      Int) != (0 : Int)) = (bits BinOp.and IntKind.u32 ((w % (268435456 : Int)).fdiv (8388608 : Int)) (1 : Int) != (0 : Int)) ∧ (!bits BinOp.and IntKind.u32 (w.fdiv (16777216 :
      Int)) (1 : Int) != (0 : Int)) = !bits BinOp.and IntKind.u32 ((w % (268435456 : Int)).fdiv (16777216 : Int)) (1 : Int) != (0 : Int) ∧ false = false ∧ (IntKind.i64 =
      IntKind.i64 ∧ (0 : Int) = (0 : Int)) ∧ false = false ∧ false = false ∧ false = false) ∧ (bits BinOp.and IntKind.u32 (w.fdiv (2097152 : Int)) (1 : Int) != (0 : Int)) =
      (bits BinOp.and IntKind.u32 ((w % (268435456 : Int)).fdiv (2097152 : Int)) (1 : Int) != (0 : Int)) ∧ ((IntKind.i64 = IntKind.i64 ∧ (7 : Int) = (7 : Int)) ∧ (IntKind.i64 =
      IntKind.i64 ∧ (0 : Int) = (0 : Int)) ∧ (IntKind.i64 = IntKind.i64 ∧ (0 : Int) = (0 : Int)) ∧ false = false ∧ (IntKind.i64 = IntKind.i64 ∧ IntKind.i64.wrap (bits BinOp.and
      IntKind.u32 (w.fdiv (4096 : Int)) (15 : Int)) = IntKind.i64.wrap (bits BinOp.and IntKind.u32 ((w % (268435456 : Int)).fdiv (4096 : Int)) (15 : Int))) ∧ (IntKind.i64 =
      IntKind.i64 ∧ IntKind.i64.wrap (bits BinOp.and IntKind.u32 (w.fdiv (65536 : Int)) (15 : Int)) = IntKind.i64.wrap (bits BinOp.and IntKind.u32 ((w % (268435456 : Int)).fdiv
      (65536 : Int)) (15 : Int))) ∧ (IntKind.i64 = IntKind.i64 ∧ (0 : Int) = (0 : Int)) ∧ (IntKind.i64 = IntKind.i64 ∧ (0 : Int) = (0 : Int)) ∧ (IntKind.u32 = IntKind.u32 ∧ bits
      BinOp.and IntKind.u32 w (4095 : Int) = bits BinOp.and IntKind.u32 (w % (268435456 : Int)) (4095 : Int)) ∧ true = true ∧ (IntKind.i64 = IntKind.i64 ∧ (0 : Int) = (0 : Int))
      ∧ (IntKind.i64 = IntKind.i64 ∧ (0 : Int) = (0 : Int)) ∧ false = false ∧ (bits BinOp.and IntKind.u32 (w.fdiv (1048576 : Int)) (1 : Int) != (0 : Int)) = (bits BinOp.and
      IntKind.u32 ((w % (268435456 : Int)).fdiv (1048576 : Int)) (1 : Int) != (0 : Int)) ∧ (bits BinOp.and IntKind.u32 (w.fdiv (4194304 : Int)) (1 : Int) != (0 : Int)) = (bits
      BinOp.and IntKind.u32 ((w % (268435456 : Int)).fdiv (4194304 : Int)) (1 : Int) != (0 : Int)) ∧ false = false ∧ (bits BinOp.and IntKind.u32 (w.fdiv (16777216 : Int)) (1 :
      Int) != (0 : Int)) = (bits BinOp.and IntKind.u32 ((w % (268435456 : Int)).fdiv (16777216 : Int)) (1 : Int) != (0 : Int)) ∧ (bits BinOp.and IntKind.u32 (w.fdiv (8388608 :
      Int)) (1 : Int) != (0 : Int)) = (bits BinOp.and IntKind.u32 ((w % (268435456 : Int)).fdiv (8388608 : Int)) (1 : Int) != (0 : Int)) ∧ true = true ∧ false = false ∧
      (IntKind.i64 = IntKind.i64 ∧ (0 : Int) = (0 : Int)) ∧ false = false ∧ false = false ∧ false = false) ∧ (IntKind.i64 = IntKind.i64 ∧ (7 : Int) = (7 : Int)) ∧ (IntKind.i64 =
      IntKind.i64 ∧ (0 : Int) = (0 : Int)) ∧ (IntKind.i64 = IntKind.i64 ∧ (0 : Int) = (0 : Int)) ∧ false = false ∧ (IntKind.i64 = IntKind.i64 ∧ IntKind.i64.wrap (bits BinOp.and
      IntKind.u32 (w.fdiv (4096 : Int)) (15 : Int)) = IntKind.i64.wrap (bits BinOp.and IntKind.u32 ((w % (268435456 : Int)).fdiv (4096 : Int)) (15 : Int))) ∧ (IntKind.i64 =
      IntKind.i64 ∧ IntKind.i64.wrap (bits BinOp.and IntKind.u32 (w.fdiv (65536 : Int)) (15 : Int)) = IntKind.i64.wrap (bits BinOp.and IntKind.u32 ((w % (268435456 : Int)).fdiv
      (65536 : Int)) (15 : Int))) ∧ (IntKind.i64 = IntKind.i64 ∧ (0 : Int) = (0 : Int)) ∧ (IntKind.i64 = IntKind.i64 ∧ (0 : Int) = (0 : Int)) ∧ (IntKind.u32 = IntKind.u32 ∧ bits
      BinOp.and IntKind.u32 w (4095 : Int) = bits BinOp.and IntKind.u32 (w % (268435456 : Int)) (4095 : Int)) ∧ true = true ∧ (IntKind.i64 = IntKind.i64 ∧ (0 : Int) = (0 : Int))
      ∧ (IntKind.i64 = IntKind.i64 ∧ (0 : Int) = (0 : Int)) ∧ false = false ∧ (bits BinOp.and IntKind.u32 (w.fdiv (1048576 : Int)) (1 : Int) != (0 : Int)) = (bits BinOp.and
      IntKind.u32 ((w % (268435456 : Int)).fdiv (1048576 : Int)) (1 : Int) != (0 : Int)) ∧ (bits BinOp.and IntKind.u32 (w.fdiv (4194304 : Int)) (1 : Int) != (0 : Int)) = (bits
      BinOp.and IntKind.u32 ((w % (268435456 : Int)).fdiv (4194304 : Int)) (1 : Int) != (0 : Int)) ∧ false = false ∧ (bits BinOp.and IntKind.u32 (w.fdiv (16777216 : Int)) (1 :
      Int) != (0 : Int)) = (bits BinOp.and IntKind.u32 ((w % (268435456 : Int)).fdiv (16777216 : Int)) (1 : Int) != (0 : Int)) ∧ (bits BinOp.and IntKind.u32 (w.fdiv (8388608 :
      Int)) (1 : Int) != (0 : Int)) = (bits BinOp.and IntKind.u32 ((w % (268435456 : Int)).fdiv (8388608 : Int)) (1 : Int) != (0 : Int)) ∧ (!bits BinOp.and IntKind.u32 (w.fdiv
      (16777216 : Int)) (1 : Int) != (0 : Int)) = !bits BinOp.and IntKind.u32 ((w % (268435456 : Int)).fdiv (16777216 : Int)) (1 : Int) != (0 : Int) ∧ false = false ∧
      (IntKind.i64 = IntKind.i64 ∧ (0 : Int) = (0 : Int)) ∧ false = false ∧ false = false ∧ false = false) ∧ (IntKind.i64.wrap (bits BinOp.and IntKind.u32 (w.fdiv (33554432 :
      Int)) (7 : Int)) == (3 : Int)) = (IntKind.i64.wrap (bits BinOp.and IntKind.u32 ((w % (268435456 : Int)).fdiv (33554432 : Int)) (7 : Int)) == (3 : Int)) ∧ ((bits BinOp.and
      IntKind.u32 (w.fdiv (16 : Int)) (1 : Int) != (0 : Int)) = (bits BinOp.and IntKind.u32 ((w % (268435456 : Int)).fdiv (16 : Int)) (1 : Int) != (0 : Int)) ∧ ((IntKind.i64 =
      IntKind.i64 ∧ (0 : Int) = (0 : Int)) ∧ (IntKind.i64 = IntKind.i64 ∧ (0 : Int) = (0 : Int)) ∧ (IntKind.i64 = IntKind.i64 ∧ (0 : Int) = (0 : Int)) ∧ false = false ∧
      (IntKind.i64 = IntKind.i64 ∧ (0 : Int) = (0 : Int)) ∧ (IntKind.i64 = IntKind.i64 ∧ (0 : Int) = (0 : Int)) ∧ (IntKind.i64 = IntKind.i64 ∧ (0 : Int) = (0 : Int)) ∧
      (IntKind.i64 = IntKind.i64 ∧ (0 : Int) = (0 : Int)) ∧ (IntKind.u32 = IntKind.u32 ∧ (0 : Int) = (0 : Int)) ∧ false = false ∧ (IntKind.i64 = IntKind.i64 ∧ (0 : Int) = (0 :
      Int)) ∧ (IntKind.i64 = IntKind.i64 ∧ (0 : Int) = (0 : Int)) ∧ false = false ∧ false = false ∧ false = false ∧ false = false ∧ false = false ∧ false = false ∧ false = false
      ∧ false = false ∧ (IntKind.i64 = IntKind.i64 ∧ (0 : Int) = (0 : Int)) ∧ false = false ∧ false = false ∧ false = false) ∧ (bits BinOp.and IntKind.u32 (w.fdiv (33554432 :
      Int)) (1 : Int) != (0 : Int)) = (bits BinOp.and IntKind.u32 ((w % (268435456 : Int)).fdiv (33554432 : Int)) (1 : Int) != (0 : Int)) ∧ ((bits BinOp.and IntKind.u32 (w.fdiv
      (2097152 : Int)) (1 : Int) != (0 : Int)) = (bits BinOp.and IntKind.u32 ((w % (268435456 : Int)).fdiv (2097152 : Int)) (1 : Int) != (0 : Int)) ∧ ((IntKind.i64 = IntKind.i64
      ∧ (7 : Int) = (7 : Int)) ∧ (IntKind.i64 = IntKind.i64 ∧ (0 : Int) = (0 : Int)) ∧ (IntKind.i64 = IntKind.i64 ∧ (0 : Int) = (0 : Int)) ∧ false = false ∧ (IntKind.i64 =
      IntKind.i64 ∧ IntKind.i64.wrap (bits BinOp.and IntKind.u32 (w.fdiv (4096 : Int)) (15 : Int)) = IntKind.i64.wrap (bits BinOp.and IntKind.u32 ((w % (268435456 : Int)).fdiv
      (4096 : Int)) (15 : Int))) ∧ (IntKind.i64 = IntKind.i64 ∧ IntKind.i64.wrap (bits BinOp.and IntKind.u32 (w.fdiv (65536 : Int)) (15 : Int)) = IntKind.i64.wrap (bits
      BinOp.and IntKind.u32 ((w % (268435456 : Int)).fdiv (65536 : Int)) (15 : Int))) ∧ (IntKind.i64 = IntKind.i64 ∧ (0 : Int) = (0 : Int)) ∧ (IntKind.i64 = IntKind.i64 ∧
      IntKind.i64.wrap (bits BinOp.and IntKind.u32 (w.fdiv (1 : Int)) (15 : Int)) = IntKind.i64.wrap (bits BinOp.and IntKind.u32 ((w % (268435456 : Int)).fdiv (1 : Int)) (15 :
      Int))) ∧ (IntKind.u32 = IntKind.u32 ∧ (0 : Int) = (0 : Int)) ∧ false = false ∧ (IntKind.i64 = IntKind.i64 ∧ IntKind.i64.wrap (bits BinOp.and IntKind.u32 (w.fdiv (32 :
      Int)) (3 : Int)) = IntKind.i64.wrap (bits BinOp.and IntKind.u32 ((w % (268435456 : Int)).fdiv (32 : Int)) (3 : Int))) ∧ (IntKind.i64 = IntKind.i64 ∧ IntKind.i64.wrap (bits
      BinOp.and IntKind.u32 (w.fdiv (128 : Int)) (31 : Int)) = IntKind.i64.wrap (bits BinOp.and IntKind.u32 ((w % (268435456 : Int)).fdiv (128 : Int)) (31 : Int))) ∧ false =
      false ∧ (bits BinOp.and IntKind.u32 (w.fdiv (1048576 : Int)) (1 : Int) != (0 : Int)) = (bits BinOp.and IntKind.u32 ((w % (268435456 : Int)).fdiv (1048576 : Int)) (1 : Int)
      != (0 : Int)) ∧ (bits BinOp.and IntKind.u32 (w.fdiv (4194304 : Int)) (1 : Int) != (0 : Int)) = (bits BinOp.and IntKind.u32 ((w % (268435456 : Int)).fdiv (4194304 : Int))
      (1 : Int) != (0 : Int)) ∧ false = false ∧ (bits BinOp.and IntKind.u32 (w.fdiv (16777216 : Int)) (1 : Int) != (0 : Int)) = (bits BinOp.and IntKind.u32 ((w % (268435456 :
      Int)).fdiv (16777216 : Int)) (1 : Int) != (0 : Int)) ∧ (bits BinOp.and IntKind.u32 (w.fdiv (8388608 : Int)) (1 : Int) != (0 : Int)) = (bits BinOp.and IntKind.u32 ((w %
      (268435456 : Int)).fdiv (8388608 : Int)) (1 : Int) != (0 : Int)) ∧ true = true ∧ false = false ∧ (IntKind.i64 = IntKind.i64 ∧ (0 : Int) = (0 : Int)) ∧ false = false ∧
      false = false ∧ false = false) ∧ (IntKind.i64 = IntKind.i64 ∧ (7 : Int) = (7 : Int)) ∧ (IntKind.i64 = IntKind.i64 ∧ (0 : Int) = (0 : Int)) ∧ (IntKind.i64 = IntKind.i64 ∧
      (0 : Int) = (0 : Int)) ∧ false = false ∧ (IntKind.i64 = IntKind.i64 ∧ IntKind.i64.wrap (bits BinOp.and IntKind.u32 (w.fdiv (4096 : Int)) (15 : Int)) = IntKind.i64.wrap
      (bits BinOp.and IntKind.u32 ((w % (268435456 : Int)).fdiv (4096 : Int)) (15 : Int))) ∧ (IntKind.i64 = IntKind.i64 ∧ IntKind.i64.wrap (bits BinOp.and IntKind.u32 (w.fdiv
      (65536 : Int)) (15 : Int)) = IntKind.i64.wrap (bits BinOp.and IntKind.u32 ((w % (268435456 : Int)).fdiv (65536 : Int)) (15 : Int))) ∧ (IntKind.i64 = IntKind.i64 ∧ (0 :
      Int) = (0 : Int)) ∧ (IntKind.i64 = IntKind.i64 ∧ IntKind.i64.wrap (bits BinOp.and IntKind.u32 (w.fdiv (1 : Int)) (15 : Int)) = IntKind.i64.wrap (bits BinOp.and IntKind.u32
      ((w % (268435456 : Int)).fdiv (1 : Int)) (15 : Int))) ∧ (IntKind.u32 = IntKind.u32 ∧ (0 : Int) = (0 : Int)) ∧ false = false ∧ (IntKind.i64 = IntKind.i64 ∧ IntKind.i64.wrap
      (bits BinOp.and IntKind.u32 (w.fdiv (32 : Int)) (3 : Int)) = IntKind.i64.wrap (bits BinOp.and IntKind.u32 ((w % (268435456 : Int)).fdiv (32 : Int)) (3 : Int))) ∧
      (IntKind.i64 = IntKind.i64 ∧ IntKind.i64.wrap (bits BinOp.and IntKind.u32 (w.fdiv (128 : Int)) (31 : Int)) = IntKind.i64.wrap (bits BinOp.and IntKind.u32 ((w % (268435456
      : Int)).fdiv (128 : Int)) (31 : Int))) ∧ false = false ∧ (bits BinOp.and IntKind.u32 (w.fdiv (1048576 : Int)) (1 : Int) != (0 : Int)) = (bits BinOp.and IntKind.u32 ((w %
      (268435456 : Int)).fdiv (1048576 : Int)) (1 : Int) != (0 : Int)) ∧ (bits BinOp.and IntKind.u32 (w.fdiv (4194304 : Int)) (1 : Int) != (0 : Int)) = (bits BinOp.and
      IntKind.u32 ((w % (268435456 : Int)).fdiv (4194304 : Int)) (1 : Int) != (0 : Int)) ∧ false = false ∧ (bits BinOp.and IntKind.u32 (w.fdiv (16777216 : Int)) (1 : Int) != (0
      : Int)) = (bits BinOp.and IntKind.u32 ((w % (268435456 : Int)).fdiv (16777216 : Int)) (1 : Int) != (0 : Int)) ∧ (bits BinOp.and IntKind.u32 (w.fdiv (8388608 : Int)) (1 :
      Int) != (0 : Int)) = (bits BinOp.and IntKind.u32 ((w % (268435456 : Int)).fdiv (8388608 : Int)) (1 : Int) != (0 : Int)) ∧ (!bits BinOp.and IntKind.u32 (w.fdiv (16777216 :
      Int)) (1 : Int) != (0 : Int)) = !bits BinOp.and IntKind.u32 ((w % (268435456 : Int)).fdiv (16777216 : Int)) (1 : Int) != (0 : Int) ∧ false = false ∧ (IntKind.i64 =
      IntKind.i64 ∧ (0 : Int) = (0 : Int)) ∧ false = false ∧ false = false ∧ false = false) ∧ (bits BinOp.and IntKind.u32 (w.fdiv (2097152 : Int)) (1 : Int) != (0 : Int)) =
      (bits BinOp.and IntKind.u32 ((w % (268435456 : Int)).fdiv (2097152 : Int)) (1 : Int) != (0 : Int)) ∧ ((IntKind.i64 = IntKind.i64 ∧ (7 : Int) = (7 : Int)) ∧ (IntKind.i64 =
      IntKind.i64 ∧ (0 : Int) = (0 : Int)) ∧ (IntKind.i64 = IntKind.i64 ∧ (0 : Int) = (0 : Int)) ∧ false = false ∧ (IntKind.i64 = IntKind.i64 ∧ IntKind.i64.wrap (bits BinOp.and
      IntKind.u32 (w.fdiv (4096 : Int)) (15 : Int)) = IntKind.i64.wrap (bits BinOp.and IntKind.u32 ((w % (268435456 : Int)).fdiv (4096 : Int)) (15 : Int))) ∧ (IntKind.i64 =
      IntKind.i64 ∧ IntKind.i64.wrap (bits BinOp.and IntKind.u32 (w.fdiv (65536 : Int)) (15 : Int)) = IntKind.i64.wrap (bits BinOp.and IntKind.u32 ((w % (268435456 : Int)).fdiv
      (65536 : Int)) (15 : Int))) ∧ (IntKind.i64 = IntKind.i64 ∧ (0 : Int) = (0 : Int)) ∧ (IntKind.i64 = IntKind.i64 ∧ (0 : Int) = (0 : Int)) ∧ (IntKind.u32 = IntKind.u32 ∧ bits
      BinOp.and IntKind.u32 w (4095 : Int) = bits BinOp.and IntKind.u32 (w % (268435456 : Int)) (4095 : Int)) ∧ true = true ∧ (IntKind.i64 = IntKind.i64 ∧ (0 : Int) = (0 : Int))
      ∧ (IntKind.i64 = IntKind.i64 ∧ (0 : Int) = (0 : Int)) ∧ false = false ∧ (bits BinOp.and IntKind.u32 (w.fdiv (1048576 : Int)) (1 : Int) != (0 : Int)) = (bits BinOp.and
      IntKind.u32 ((w % (268435456 : Int)).fdiv (1048576 : Int)) (1 : Int) != (0 : Int)) ∧ (bits BinOp.and IntKind.u32 (w.fdiv (4194304 : Int)) (1 : Int) != (0 : Int)) = (bits
      BinOp.and IntKind.u32 ((w % (268435456 : Int)).fdiv (4194304 : Int)) (1 : Int) != (0 : Int)) ∧ false = false ∧ (bits BinOp.and IntKind.u32 (w.fdiv (16777216 : Int)) (1 :
      Int) != (0 : Int)) = (bits BinOp.and IntKind.u32 ((w % (268435456 : Int)).fdiv (16777216 : Int)) (1 : Int) != (0 : Int)) ∧ (bits BinOp.and IntKind.u32 (w.fdiv (8388608 :
      Int)) (1 : Int) != (0 : Int)) = (bits BinOp.and IntKind.u32 ((w % (268435456 : Int)).fdiv (8388608 : Int)) (1 : Int) != (0 : Int)) ∧ true = true ∧ false = false ∧
      (IntKind.i64 = IntKind.i64 ∧ (0 : Int) = (0 : Int)) ∧ false = false ∧ false = false ∧ false = false) ∧ (IntKind.i64 = IntKind.i64 ∧ (7 : Int) = (7 : Int)) ∧ (IntKind.i64 =
      IntKind.i64 ∧ (0 : Int) = (0 : Int)) ∧ (IntKind.i64 = IntKind.i64 ∧ (0 : Int) = (0 : Int)) ∧ false = false ∧ (IntKind.i64 = IntKind.i64 ∧ IntKind.i64.wrap (bits BinOp.and
      IntKind.u32 (w.fdiv (4096 : Int)) (15 : Int)) = IntKind.i64.wrap (bits BinOp.and IntKind.u32 ((w % (268435456 : Int)).fdiv (4096 : Int)) (15 : Int))) ∧ (IntKind.i64 =
      IntKind.i64 ∧ IntKind.i64.wrap (bits BinOp.and IntKind.u32 (w.fdiv (65536 : Int)) (15 : Int)) = IntKind.i64.wrap (bits BinOp.and IntKind.u32 ((w % (268435456 : Int)).fdiv
      (65536 : Int)) (15 : Int))) ∧ (IntKind.i64 = IntKind.i64 ∧ (0 : Int) = (0 : Int)) ∧ (IntKind.i64 = IntKind.i64 ∧ (0 : Int) = (0 : Int)) ∧ (IntKind.u32 = IntKind.u32 ∧ bits
      BinOp.and IntKind.u32 w (4095 : Int) = bits BinOp.and IntKind.u32 (w % (268435456 : Int)) (4095 : Int)) ∧ true = true ∧ (IntKind.i64 = IntKind.i64 ∧ (0 : Int) = (0 : Int))
      ∧ (IntKind.i64 = IntKind.i64 ∧ (0 : Int) = (0 : Int)) ∧ false = false ∧ (bits BinOp.and IntKind.u32 (w.fdiv (1048576 : Int)) (1 : Int) != (0 : Int)) = (bits BinOp.and
      IntKind.u32 ((w % (268435456 : Int)).fdiv (1048576 : Int)) (1 : Int) != (0 : Int)) ∧ (bits BinOp.and IntKind.u32 (w.fdiv (4194304 : Int)) (1 : Int) != (0 : Int)) = (bits
      BinOp.and IntKind.u32 ((w % (268435456 : Int)).fdiv (4194304 : Int)) (1 : Int) != (0 : Int)) ∧ false = false ∧ (bits BinOp.and IntKind.u32 (w.fdiv (16777216 : Int)) (1 :
      Int) != (0 : Int)) = (bits BinOp.and IntKind.u32 ((w % (268435456 : Int)).fdiv (16777216 : Int)) (1 : Int) != (0 : Int)) ∧ (bits BinOp.and IntKind.u32 (w.fdiv (8388608 :
      Int)) (1 : Int) != (0 : Int)) = (bits BinOp.and IntKind.u32 ((w % (268435456 : Int)).fdiv (8388608 : Int)) (1 : Int) != (0 : Int)) ∧ (!bits BinOp.and IntKind.u32 (w.fdiv
      (16777216 : Int)) (1 : Int) != (0 : Int)) = !bits BinOp.and IntKind.u32 ((w % (268435456 : Int)).fdiv (16777216 : Int)) (1 : Int) != (0 : Int) ∧ false = false ∧
      (IntKind.i64 = IntKind.i64 ∧ (0 : Int) = (0 : Int)) ∧ false = false ∧ false = false ∧ false = false) ∧ (IntKind.i64.wrap (bits BinOp.and IntKind.u32 (w.fdiv (33554432 :
      Int)) (7 : Int)) == (4 : Int)) = (IntKind.i64.wrap (bits BinOp.and IntKind.u32 ((w % (268435456 : Int)).fdiv (33554432 : Int)) (7 : Int)) == (4 : Int)) ∧ ((IntKind.i64 =
      IntKind.i64 ∧ (8 : Int) = (8 : Int)) ∧ (IntKind.i64 = IntKind.i64 ∧ (0 : Int) = (0 : Int)) ∧ (IntKind.i64 = IntKind.i64 ∧ (0 : Int) = (0 : Int)) ∧ false = false ∧
      (IntKind.i64 = IntKind.i64 ∧ (0 : Int) = (0 : Int)) ∧ (IntKind.i64 = IntKind.i64 ∧ IntKind.i64.wrap (bits BinOp.and IntKind.u32 (w.fdiv (65536 : Int)) (15 : Int)) =
      IntKind.i64.wrap (bits BinOp.and IntKind.u32 ((w % (268435456 : Int)).fdiv (65536 : Int)) (15 : Int))) ∧ (IntKind.i64 = IntKind.i64 ∧ (0 : Int) = (0 : Int)) ∧ (IntKind.i64
      = IntKind.i64 ∧ (0 : Int) = (0 : Int)) ∧ (IntKind.u32 = IntKind.u32 ∧ (0 : Int) = (0 : Int)) ∧ false = false ∧ (IntKind.i64 = IntKind.i64 ∧ (0 : Int) = (0 : Int)) ∧
      (IntKind.i64 = IntKind.i64 ∧ (0 : Int) = (0 : Int)) ∧ false = false ∧ (bits BinOp.and IntKind.u32 (w.fdiv (1048576 : Int)) (1 : Int) != (0 : Int)) = (bits BinOp.and
      IntKind.u32 ((w % (268435456 : Int)).fdiv (1048576 : Int)) (1 : Int) != (0 : Int)) ∧ false = false ∧ false = false ∧ (bits BinOp.and IntKind.u32 (w.fdiv (16777216 : Int))
      (1 : Int) != (0 : Int)) = (bits BinOp.and IntKind.u32 ((w % (268435456 : Int)).fdiv (16777216 : Int)) (1 : Int) != (0 : Int)) ∧ (bits BinOp.and IntKind.u32 (w.fdiv
      (8388608 : Int)) (1 : Int) != (0 : Int)) = (bits BinOp.and IntKind.u32 ((w % (268435456 : Int)).fdiv (8388608 : Int)) (1 : Int) != (0 : Int)) ∧ (bits BinOp.and IntKind.u32
      (w.fdiv (2097152 : Int)) (1 : Int) != (0 : Int)) = (bits BinOp.and IntKind.u32 ((w % (268435456 : Int)).fdiv (2097152 : Int)) (1 : Int) != (0 : Int)) ∧ (bits BinOp.and
      IntKind.u32 (w.fdiv (4194304 : Int)) (1 : Int) != (0 : Int)) = (bits BinOp.and IntKind.u32 ((w % (268435456 : Int)).fdiv (4194304 : Int)) (1 : Int) != (0 : Int)) ∧
      (IntKind.i64 = IntKind.i64 ∧ IntKind.i64.wrap (bits BinOp.and IntKind.u32 (w.fdiv (1 : Int)) (65535 : Int)) = IntKind.i64.wrap (bits BinOp.and IntKind.u32 ((w % (268435456
      : Int)).fdiv (1 : Int)) (65535 : Int))) ∧ false = false ∧ false = false ∧ false = false) ∧ (IntKind.i64.wrap (bits BinOp.and IntKind.u32 (w.fdiv (33554432 : Int)) (7 :
      Int)) == (5 : Int)) = (IntKind.i64.wrap (bits BinOp.and IntKind.u32 ((w % (268435456 : Int)).fdiv (33554432 : Int)) (7 : Int)) == (5 : Int)) ∧ ((IntKind.i64 = IntKind.i64
      ∧ (9 : Int) = (9 : Int)) ∧ (IntKind.i64 = IntKind.i64 ∧ (0 : Int) = (0 : Int)) ∧ (IntKind.i64 = IntKind.i64 ∧ (0 : Int) = (0 : Int)) ∧ false = false ∧ (IntKind.i64 =
      IntKind.i64 ∧ (0 : Int) = (0 : Int)) ∧ (IntKind.i64 = IntKind.i64 ∧ (0 : Int) = (0 : Int)) ∧ (IntKind.i64 = IntKind.i64 ∧ (0 : Int) = (0 : Int)) ∧ (IntKind.i64 =
      IntKind.i64 ∧ (0 : Int) = (0 : Int)) ∧ (IntKind.u32 = IntKind.u32 ∧ IntKind.u32.wrap ((IntKind.i32.wrap (IntKind.u32.wrap (w * (256 : Int)))).fdiv (64 : Int)) =
      IntKind.u32.wrap ((IntKind.i32.wrap (IntKind.u32.wrap (w % (268435456 : Int) * (256 : Int)))).fdiv (64 : Int))) ∧ false = false ∧ (IntKind.i64 = IntKind.i64 ∧ (0 : Int) =
      (0 : Int)) ∧ (IntKind.i64 = IntKind.i64 ∧ (0 : Int) = (0 : Int)) ∧ false = false ∧ false = false ∧ false = false ∧ false = false ∧ false = false ∧ false = false ∧ false =
      false ∧ false = false ∧ (IntKind.i64 = IntKind.i64 ∧ (0 : Int) = (0 : Int)) ∧ (bits BinOp.and IntKind.u32 (w.fdiv (16777216 : Int)) (1 : Int) != (0 : Int)) = (bits
      BinOp.and IntKind.u32 ((w % (268435456 : Int)).fdiv (16777216 : Int)) (1 : Int) != (0 : Int)) ∧ false = false ∧ false = false) ∧ (IntKind.i64.wrap (bits BinOp.and
      IntKind.u32 (w.fdiv (16777216 : Int)) (15 : Int)) == (15 : Int)) = (IntKind.i64.wrap (bits BinOp.and IntKind.u32 ((w % (268435456 : Int)).fdiv (16777216 : Int)) (15 :
      Int)) == (15 : Int)) ∧ ((IntKind.i64 = IntKind.i64 ∧ (10 : Int) = (10 : Int)) ∧ (IntKind.i64 = IntKind.i64 ∧ (0 : Int) = (0 : Int)) ∧ (IntKind.i64 = IntKind.i64 ∧ (0 :
      Int) = (0 : Int)) ∧ false = false ∧ (IntKind.i64 = IntKind.i64 ∧ (0 : Int) = (0 : Int)) ∧ (IntKind.i64 = IntKind.i64 ∧ (0 : Int) = (0 : Int)) ∧ (IntKind.i64 = IntKind.i64
      ∧ (0 : Int) = (0 : Int)) ∧ (IntKind.i64 = IntKind.i64 ∧ (0 : Int) = (0 : Int)) ∧ (IntKind.u32 = IntKind.u32 ∧ bits BinOp.and IntKind.u32 (w.fdiv (65536 : Int)) (255 : Int)
      = bits BinOp.and IntKind.u32 ((w % (268435456 : Int)).fdiv (65536 : Int)) (255 : Int)) ∧ false = false ∧ (IntKind.i64 = IntKind.i64 ∧ (0 : Int) = (0 : Int)) ∧ (IntKind.i64
      = IntKind.i64 ∧ (0 : Int) = (0 : Int)) ∧ false = false ∧ false = false ∧ false = false ∧ false = false ∧ false = false ∧ false = false ∧ false = false ∧ false = false ∧
      (IntKind.i64 = IntKind.i64 ∧ (0 : Int) = (0 : Int)) ∧ false = false ∧ false = false ∧ false = false) ∧ (IntKind.i64 = IntKind.i64 ∧ (0 : Int) = (0 : Int)) ∧ (IntKind.i64 =
      IntKind.i64 ∧ (0 : Int) = (0 : Int)) ∧ (IntKind.i64 = IntKind.i64 ∧ (0 : Int) = (0 : Int)) ∧ false = false ∧ (IntKind.i64 = IntKind.i64 ∧ (0 : Int) = (0 : Int)) ∧
      (IntKind.i64 = IntKind.i64 ∧ (0 : Int) = (0 : Int)) ∧ (IntKind.i64 = IntKind.i64 ∧ (0 : Int) = (0 : Int)) ∧ (IntKind.i64 = IntKind.i64 ∧ (0 : Int) = (0 : Int)) ∧
      (IntKind.u32 = IntKind.u32 ∧ (0 : Int) = (0 : Int)) ∧ false = false ∧ (IntKind.i64 = IntKind.i64 ∧ (0 : Int) = (0 : Int)) ∧ (IntKind.i64 = IntKind.i64 ∧ (0 : Int) = (0 :
      Int)) ∧ false = false ∧ false = false ∧ false = false ∧ false = false ∧ false = false ∧ false = false ∧ false = false ∧ false = false ∧ (IntKind.i64 = IntKind.i64 ∧ (0 :
      Int) = (0 : Int)) ∧ false = false ∧ false = false ∧ false = false) := by kernel_rfl
end Go.Proofs.Ytbnglhfhmhnimaa

