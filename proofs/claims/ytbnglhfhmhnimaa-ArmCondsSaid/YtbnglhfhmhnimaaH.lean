import Derived.Test.YtbnglhfhmhnimaaG
set_option linter.unusedVariables false
set_option linter.unusedSimpArgs false
namespace Go.Proofs.Ytbnglhfhmhnimaa
open Go Go.Proofs Go.Proofs.Ytbnglhfhmhnimaa.Ev
theorem conds_p (E : World) (gi : Int → Nat → Int) (gb : Int → Nat → Bool) (w : Int) (c : Int) :
    (lawP (fnTree (pe E) (orcX gi gb E) (tabL fns) 20000 Try.f4 [.c (.i false .u32 w), .c (.i false .i64 c)] [])) =
    ((false ^^ gi (w % (268435456 : Int)) (0 : Nat) == gi (bits BinOp.or IntKind.u32 (bits BinOp.and IntKind.u32 w (268435455 : Int)) (IntKind.u32.wrap (IntKind.u32.wrap (bits
      BinOp.and IntKind.i64 c (15 : Int)) * (268435456 : Int))) % (268435456 : Int)) (0 : Nat) && (bits BinOp.and IntKind.i64 c (15 : Int) == IntKind.i64.wrap ((bits BinOp.or
      IntKind.u32 (bits BinOp.and IntKind.u32 w (268435455 : Int)) (IntKind.u32.wrap (IntKind.u32.wrap (bits BinOp.and IntKind.i64 c (15 : Int)) * (268435456 : Int)))).fdiv
      (268435456 : Int)) && (gi (w % (268435456 : Int)) (2 : Nat) == gi (bits BinOp.or IntKind.u32 (bits BinOp.and IntKind.u32 w (268435455 : Int)) (IntKind.u32.wrap
      (IntKind.u32.wrap (bits BinOp.and IntKind.i64 c (15 : Int)) * (268435456 : Int))) % (268435456 : Int)) (2 : Nat) && (gb (w % (268435456 : Int)) (3 : Nat) == gb (bits
      BinOp.or IntKind.u32 (bits BinOp.and IntKind.u32 w (268435455 : Int)) (IntKind.u32.wrap (IntKind.u32.wrap (bits BinOp.and IntKind.i64 c (15 : Int)) * (268435456 : Int))) %
      (268435456 : Int)) (3 : Nat) && (gi (w % (268435456 : Int)) (4 : Nat) == gi (bits BinOp.or IntKind.u32 (bits BinOp.and IntKind.u32 w (268435455 : Int)) (IntKind.u32.wrap
      (IntKind.u32.wrap (bits BinOp.and IntKind.i64 c (15 : Int)) * (268435456 : Int))) % (268435456 : Int)) (4 : Nat) && (gi (w % (268435456 : Int)) (5 : Nat) == gi (bits
      BinOp.or IntKind.u32 (bits BinOp.and IntKind.u32 w (268435455 : Int)) (IntKind.u32.wrap (IntKind.u32.wrap (bits BinOp.and IntKind.i64 c (15 : Int)) * (268435456 : Int))) %
      (268435456 : Int)) (5 : Nat) && (gi (w % (268435456 : Int)) (6 : Nat) == gi (bits BinOp.or IntKind.u32 (bits BinOp.and IntKind.u32 w (268435455 : Int)) (IntKind.u32.wrap
      (IntKind.u32.wrap (bits BinOp.and IntKind.i64 c (15 : Int)) * (268435456 : Int))) % (268435456 : Int)) (6 : Nat) && (gi (w % (268435456 : Int)) (7 : Nat) == gi (bits
      BinOp.or IntKind.u32 (bits BinOp.and IntKind.u32 w (268435455 : Int)) (IntKind.u32.wrap (IntKind.u32.wrap (bits BinOp.and IntKind.i64 c (15 : Int)) * (268435456 : Int))) %
      (268435456 : Int)) (7 : Nat) && (gi (w % (268435456 : Int)) (8 : Nat) == gi (bits BinOp.or IntKind.u32 (bits BinOp.and IntKind.u32 w (268435455 : Int)) (IntKind.u32.wrap
      (IntKind.u32.wrap (bits BinOp.and IntKind.i64 c (15 : Int)) * (268435456 : Int))) % (268435456 : Int)) (8 : Nat) && (gb (w % (268435456 : Int)) (9 : Nat) == gb (bits
      BinOp.or IntKind.u32 (bits BinOp.and IntKind.u32 w (268435455 : Int)) (IntKind.u32.wrap (IntKind.u32.wrap (bits BinOp.and IntKind.i64 c (15 : Int)) * (268435456 : Int))) %
      (268435456 : Int)) (9 : Nat) && (gi (w % (268435456 : Int)) (10 : Nat) == gi (bits BinOp.or IntKind.u32 (bits BinOp.and IntKind.u32 w (268435455 : Int)) (IntKind.u32.wrap
      (IntKind.u32.wrap (bits BinOp.and IntKind.i64 c (15 : Int)) * (268435456 : Int))) % (268435456 : Int)) (10 : Nat) && (gi (w % (268435456 : Int)) (11 : Nat) == gi (bits
      BinOp.or IntKind.u32 (bits BinOp.and IntKind.u32 w (268435455 : Int)) (IntKind.u32.wrap (IntKind.u32.wrap (bits BinOp.and IntKind.i64 c (15 : Int)) * (268435456 : Int))) %
      (268435456 : Int)) (11 : Nat) && (gb (w % (268435456 : Int)) (12 : Nat) == gb (bits BinOp.or IntKind.u32 (bits BinOp.and IntKind.u32 w (268435455 : Int)) (IntKind.u32.wrap
      (IntKind.u32.wrap (bits BinOp.and IntKind.i64 c (15 : Int)) * (268435456 : Int))) % (268435456 : Int)) (12 : Nat) && (gb (w % (268435456 : Int)) (13 : Nat) == gb (bits
      BinOp.or IntKind.u32 (bits BinOp.and IntKind.u32 w (268435455 : Int)) (IntKind.u32.wrap (IntKind.u32.wrap (bits BinOp.and IntKind.i64 c (15 : Int)) * (268435456 : Int))) %
      (268435456 : Int)) (13 : Nat) && (gb (w % (268435456 : Int)) (14 : Nat) == gb (bits BinOp.or IntKind.u32 (bits BinOp.and IntKind.u32 w (268435455 : Int)) (IntKind.u32.wrap
      (IntKind.u32.wrap (bits BinOp.and IntKind.i64 c (15 : Int)) * (268435456 : Int))) % (268435456 : Int)) (14 : Nat) && (gb (w % (268435456 : Int)) (15 : Nat) == gb (bits
      BinOp.or IntKind.u32 (bits BinOp.and IntKind.u32 w (268435455 : Int)) (IntKind.u32.wrap (IntKind.u32.wrap (bits BinOp.and IntKind.i64 c (15 : Int)) * (268435456 : Int))) %
      (268435456 : Int)) (15 : Nat) && (gb (w % (268435456 : Int)) (16 : Nat) == gb (bits BinOp.or IntKind.u32 (bits BinOp.and IntKind.u32 w (268435455 : Int)) (IntKind.u32.wrap
      (IntKind.u32.wrap (bits BinOp.and IntKind.i64 c (15 : Int)) * (268435456 : Int))) % (268435456 : Int)) (16 : Nat) && (gb (w % (268435456 : Int)) (17 : Nat) == gb (bits
      BinOp.or IntKind.u32 (bits BinOp.and IntKind.u32 w (268435455 : Int)) (IntKind.u32.wrap (IntKind.u32.wrap (bits BinOp.and IntKind.i64 c (15 : Int)) * (268435456 : Int))) %
      (268435456 : Int)) (17 : Nat) && (gb (w % (268435456 : Int)) (18 : Nat) == gb (bits BinOp.or IntKind.u32 (bits BinOp.and IntKind.u32 w (268435455 : Int)) (IntKind.u32.wrap
      (IntKind.u32.wrap (bits BinOp.and IntKind.i64 c (15 : Int)) * (268435456 : Int))) % (268435456 : Int)) (18 : Nat) && (gb (w % (268435456 : Int)) (19 : Nat) == gb (bits
      BinOp.or IntKind.u32 (bits BinOp.and IntKind.u32 w (268435455 : Int)) (IntKind.u32.wrap (IntKind.u32.wrap (bits BinOp.and IntKind.i64 c (15 : Int)) * (268435456 : Int))) %
      (268435456 : Int)) (19 : Nat) && (gi (w % (268435456 : Int)) (20 : Nat) == gi (bits BinOp.or IntKind.u32 (bits BinOp.and IntKind.u32 w (268435455 : Int)) (IntKind.u32.wrap
      (IntKind.u32.wrap (bits BinOp.and IntKind.i64 c (15 : Int)) * (268435456 : Int))) % (268435456 : Int)) (20 : Nat) && (gb (w % (268435456 : Int)) (21 : Nat) == gb (bits
      BinOp.or IntKind.u32 (bits BinOp.and IntKind.u32 w (268435455 : Int)) (IntKind.u32.wrap (IntKind.u32.wrap (bits BinOp.and IntKind.i64 c (15 : Int)) * (268435456 : Int))) %
      (268435456 : Int)) (21 : Nat) && (gb (w % (268435456 : Int)) (22 : Nat) == gb (bits BinOp.or IntKind.u32 (bits BinOp.and IntKind.u32 w (268435455 : Int)) (IntKind.u32.wrap
      (IntKind.u32.wrap (bits BinOp.and IntKind.i64 c (15 : Int)) * (268435456 : Int))) % (268435456 : Int)) (22 : Nat) && (gb (w % (268435456 : Int)) (23 : Nat) == gb (bits
      BinOp.or IntKind.u32 (bits BinOp.and IntKind.u32 w (268435455 : Int)) (IntKind.u32.wrap (IntKind.u32.wrap (bits BinOp.and IntKind.i64 c (15 : Int)) * (268435456 : Int))) %
      (268435456 : Int)) (23 : Nat) && true)))))))))))))))))))))))) = true) := by kernel_rfl
end Go.Proofs.Ytbnglhfhmhnimaa

