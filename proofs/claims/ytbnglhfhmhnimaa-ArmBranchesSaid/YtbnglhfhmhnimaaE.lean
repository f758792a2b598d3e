import Derived.Test.YtbnglhfhmhnimaaA
set_option linter.unusedVariables false
set_option linter.unusedSimpArgs false
namespace Go.Proofs.Ytbnglhfhmhnimaa
open Go Go.Proofs Go.Proofs.Ytbnglhfhmhnimaa.Ev

def u32b (x : Int) : Bool := decide (0 ≤ x ∧ x < 4294967296)
def five (w : Int) : Bool := decide (w / 33554432 % 8 = 5)
def imm (w : Int) : Int := IntKind.u32.wrap ((IntKind.i32.wrap (IntKind.u32.wrap (w * 256))).fdiv 64)
def lnk (w : Int) : Bool := decide (w / 16777216 % 2 = 1)
theorem apart_p (w : Int) :
    (conP (.a [.i false .i64 9, .i false .i64 0, .i false .i64 0, .b false false, .i false .i64 0, .i false .i64 0, .i false .i64 0, .i false .i64 0, .i false .u32 (imm w), .b false false, .i false .i64 0, .i false .i64 0, .b false false, .b false false, .b false false, .b false false, .b false false, .b false false, .b false false, .b false false, .i false .i64 0, .b false (lnk w), .b false false, .b false false]) (fnTree Try.prog orc1 (tabL fns) 20000 Try.f10 [.c (.i false .u32 w)] [])) =
    (((IntKind.i64.wrap (bits BinOp.and IntKind.u32 (w.fdiv (33554432 : Int)) (7 : Int)) == (0 : Int)) = true → ((bits BinOp.and IntKind.u32 w (264241392 : Int) == (144 : Int))
      = true → (IntKind.i64 = IntKind.i64 ∧ (2 : Int) = (9 : Int)) ∧ (IntKind.i64 = IntKind.i64 ∧ (0 : Int) = (0 : Int)) ∧ (IntKind.i64 = IntKind.i64 ∧ (0 : Int) = (0 : Int)) ∧
      (bits BinOp.and IntKind.u32 (w.fdiv (1048576 : Int)) (1 : Int) != (0 : Int)) = false ∧ (IntKind.i64 = IntKind.i64 ∧ IntKind.i64.wrap (bits BinOp.and IntKind.u32 (w.fdiv
      (65536 : Int)) (15 : Int)) = (0 : Int)) ∧ (IntKind.i64 = IntKind.i64 ∧ IntKind.i64.wrap (bits BinOp.and IntKind.u32 (w.fdiv (4096 : Int)) (15 : Int)) = (0 : Int)) ∧
      (IntKind.i64 = IntKind.i64 ∧ IntKind.i64.wrap (bits BinOp.and IntKind.u32 (w.fdiv (256 : Int)) (15 : Int)) = (0 : Int)) ∧ (IntKind.i64 = IntKind.i64 ∧ IntKind.i64.wrap
      (bits BinOp.and IntKind.u32 (w.fdiv (1 : Int)) (15 : Int)) = (0 : Int)) ∧ (IntKind.u32 = IntKind.u32 ∧ (0 : Int) = imm w) ∧ false = false ∧ (IntKind.i64 = IntKind.i64 ∧ (0
      : Int) = (0 : Int)) ∧ (IntKind.i64 = IntKind.i64 ∧ (0 : Int) = (0 : Int)) ∧ false = false ∧ false = false ∧ false = false ∧ false = false ∧ false = false ∧ false = false ∧
      false = false ∧ false = false ∧ (IntKind.i64 = IntKind.i64 ∧ (0 : Int) = (0 : Int)) ∧ false = lnk w ∧ (bits BinOp.and IntKind.u32 (w.fdiv (2097152 : Int)) (1 : Int) != (0
      : Int)) = false ∧ false = false) ∧ ((bits BinOp.and IntKind.u32 w (264241392 : Int) == (144 : Int)) = false → ((bits BinOp.and IntKind.u32 w (260047088 : Int) == (8388752
      : Int)) = true → (IntKind.i64 = IntKind.i64 ∧ (3 : Int) = (9 : Int)) ∧ (IntKind.i64 = IntKind.i64 ∧ (0 : Int) = (0 : Int)) ∧ (IntKind.i64 = IntKind.i64 ∧ (0 : Int) = (0 :
      Int)) ∧ (bits BinOp.and IntKind.u32 (w.fdiv (1048576 : Int)) (1 : Int) != (0 : Int)) = false ∧ (IntKind.i64 = IntKind.i64 ∧ IntKind.i64.wrap (bits BinOp.and IntKind.u32
      (w.fdiv (65536 : Int)) (15 : Int)) = (0 : Int)) ∧ (IntKind.i64 = IntKind.i64 ∧ IntKind.i64.wrap (bits BinOp.and IntKind.u32 (w.fdiv (4096 : Int)) (15 : Int)) = (0 : Int))
      ∧ (IntKind.i64 = IntKind.i64 ∧ IntKind.i64.wrap (bits BinOp.and IntKind.u32 (w.fdiv (256 : Int)) (15 : Int)) = (0 : Int)) ∧ (IntKind.i64 = IntKind.i64 ∧ IntKind.i64.wrap
      (bits BinOp.and IntKind.u32 (w.fdiv (1 : Int)) (15 : Int)) = (0 : Int)) ∧ (IntKind.u32 = IntKind.u32 ∧ (0 : Int) = imm w) ∧ false = false ∧ (IntKind.i64 = IntKind.i64 ∧ (0
      : Int) = (0 : Int)) ∧ (IntKind.i64 = IntKind.i64 ∧ (0 : Int) = (0 : Int)) ∧ false = false ∧ false = false ∧ false = false ∧ (bits BinOp.and IntKind.u32 (w.fdiv (4194304 :
      Int)) (1 : Int) != (0 : Int)) = false ∧ false = false ∧ false = false ∧ false = false ∧ false = false ∧ (IntKind.i64 = IntKind.i64 ∧ (0 : Int) = (0 : Int)) ∧ false = lnk w
      ∧ (bits BinOp.and IntKind.u32 (w.fdiv (2097152 : Int)) (1 : Int) != (0 : Int)) = false ∧ false = false) ∧ ((bits BinOp.and IntKind.u32 w (260047088 : Int) == (8388752 :
      Int)) = false → ((bits BinOp.and IntKind.u32 w (263196656 : Int) == (16777360 : Int)) = true → (IntKind.i64 = IntKind.i64 ∧ (4 : Int) = (9 : Int)) ∧ (IntKind.i64 =
      IntKind.i64 ∧ (0 : Int) = (0 : Int)) ∧ (IntKind.i64 = IntKind.i64 ∧ (0 : Int) = (0 : Int)) ∧ false = false ∧ (IntKind.i64 = IntKind.i64 ∧ IntKind.i64.wrap (bits BinOp.and
      IntKind.u32 (w.fdiv (4096 : Int)) (15 : Int)) = (0 : Int)) ∧ (IntKind.i64 = IntKind.i64 ∧ IntKind.i64.wrap (bits BinOp.and IntKind.u32 (w.fdiv (65536 : Int)) (15 : Int)) =
      (0 : Int)) ∧ (IntKind.i64 = IntKind.i64 ∧ (0 : Int) = (0 : Int)) ∧ (IntKind.i64 = IntKind.i64 ∧ IntKind.i64.wrap (bits BinOp.and IntKind.u32 (w.fdiv (1 : Int)) (15 : Int))
      = (0 : Int)) ∧ (IntKind.u32 = IntKind.u32 ∧ (0 : Int) = imm w) ∧ false = false ∧ (IntKind.i64 = IntKind.i64 ∧ (0 : Int) = (0 : Int)) ∧ (IntKind.i64 = IntKind.i64 ∧ (0 :
      Int) = (0 : Int)) ∧ false = false ∧ false = false ∧ (bits BinOp.and IntKind.u32 (w.fdiv (4194304 : Int)) (1 : Int) != (0 : Int)) = false ∧ false = false ∧ false = false ∧
      false = false ∧ false = false ∧ false = false ∧ (IntKind.i64 = IntKind.i64 ∧ (0 : Int) = (0 : Int)) ∧ false = lnk w ∧ false = false ∧ false = false) ∧ ((bits BinOp.and
      IntKind.u32 w (263196656 : Int) == (16777360 : Int)) = false → ((bits BinOp.and IntKind.u32 w (1048720 : Int) == (1048720 : Int)) = true → ((IntKind.i64.wrap (bits
      BinOp.and IntKind.u32 (w.fdiv (32 : Int)) (3 : Int)) != (0 : Int)) = true → ((bits BinOp.and IntKind.u32 (w.fdiv (4194304 : Int)) (1 : Int) != (0 : Int)) = true → ((bits
      BinOp.and IntKind.u32 (w.fdiv (2097152 : Int)) (1 : Int) != (0 : Int)) = true → (IntKind.i64 = IntKind.i64 ∧ (6 : Int) = (9 : Int)) ∧ (IntKind.i64 = IntKind.i64 ∧ (0 :
      Int) = (0 : Int)) ∧ (IntKind.i64 = IntKind.i64 ∧ IntKind.i64.wrap (bits BinOp.and IntKind.u32 (w.fdiv (32 : Int)) (3 : Int)) = (0 : Int)) ∧ false = false ∧ (IntKind.i64 =
      IntKind.i64 ∧ IntKind.i64.wrap (bits BinOp.and IntKind.u32 (w.fdiv (4096 : Int)) (15 : Int)) = (0 : Int)) ∧ (IntKind.i64 = IntKind.i64 ∧ IntKind.i64.wrap (bits BinOp.and
      IntKind.u32 (w.fdiv (65536 : Int)) (15 : Int)) = (0 : Int)) ∧ (IntKind.i64 = IntKind.i64 ∧ (0 : Int) = (0 : Int)) ∧ (IntKind.i64 = IntKind.i64 ∧ (0 : Int) = (0 : Int)) ∧
      (IntKind.u32 = IntKind.u32 ∧ bits BinOp.or IntKind.u32 (bits BinOp.and IntKind.u32 (w.fdiv (16 : Int)) (240 : Int)) (bits BinOp.and IntKind.u32 w (15 : Int)) = imm w) ∧
      true = false ∧ (IntKind.i64 = IntKind.i64 ∧ (0 : Int) = (0 : Int)) ∧ (IntKind.i64 = IntKind.i64 ∧ (0 : Int) = (0 : Int)) ∧ false = false ∧ (bits BinOp.and IntKind.u32
      (w.fdiv (1048576 : Int)) (1 : Int) != (0 : Int)) = false ∧ false = false ∧ false = false ∧ (bits BinOp.and IntKind.u32 (w.fdiv (16777216 : Int)) (1 : Int) != (0 : Int)) =
      false ∧ (bits BinOp.and IntKind.u32 (w.fdiv (8388608 : Int)) (1 : Int) != (0 : Int)) = false ∧ true = false ∧ false = false ∧ (IntKind.i64 = IntKind.i64 ∧ (0 : Int) = (0 :
      Int)) ∧ false = lnk w ∧ false = false ∧ false = false) ∧ ((bits BinOp.and IntKind.u32 (w.fdiv (2097152 : Int)) (1 : Int) != (0 : Int)) = false → (IntKind.i64 = IntKind.i64
      ∧ (6 : Int) = (9 : Int)) ∧ (IntKind.i64 = IntKind.i64 ∧ (0 : Int) = (0 : Int)) ∧ (IntKind.i64 = IntKind.i64 ∧ IntKind.i64.wrap (bits BinOp.and IntKind.u32 (w.fdiv (32 :
      Int)) (3 : Int)) = (0 : Int)) ∧ false = false ∧ (IntKind.i64 = IntKind.i64 ∧ IntKind.i64.wrap (bits BinOp.and IntKind.u32 (w.fdiv (4096 : Int)) (15 : Int)) = (0 : Int)) ∧
      (IntKind.i64 = IntKind.i64 ∧ IntKind.i64.wrap (bits BinOp.and IntKind.u32 (w.fdiv (65536 : Int)) (15 : Int)) = (0 : Int)) ∧ (IntKind.i64 = IntKind.i64 ∧ (0 : Int) = (0 :
      Int)) ∧ (IntKind.i64 = IntKind.i64 ∧ (0 : Int) = (0 : Int)) ∧ (IntKind.u32 = IntKind.u32 ∧ bits BinOp.or IntKind.u32 (bits BinOp.and IntKind.u32 (w.fdiv (16 : Int)) (240 :
      Int)) (bits BinOp.and IntKind.u32 w (15 : Int)) = imm w) ∧ true = false ∧ (IntKind.i64 = IntKind.i64 ∧ (0 : Int) = (0 : Int)) ∧ (IntKind.i64 = IntKind.i64 ∧ (0 : Int) = (0
      : Int)) ∧ false = false ∧ (bits BinOp.and IntKind.u32 (w.fdiv (1048576 : Int)) (1 : Int) != (0 : Int)) = false ∧ false = false ∧ false = false ∧ (bits BinOp.and
      IntKind.u32 (w.fdiv (16777216 : Int)) (1 : Int) != (0 : Int)) = false ∧ (bits BinOp.and IntKind.u32 (w.fdiv (8388608 : Int)) (1 : Int) != (0 : Int)) = false ∧ (!bits
      BinOp.and IntKind.u32 (w.fdiv (16777216 : Int)) (1 : Int) != (0 : Int)) = false ∧ false = false ∧ (IntKind.i64 = IntKind.i64 ∧ (0 : Int) = (0 : Int)) ∧ false = lnk w ∧
      false = false ∧ false = false)) ∧ ((bits BinOp.and IntKind.u32 (w.fdiv (4194304 : Int)) (1 : Int) != (0 : Int)) = false → ((bits BinOp.and IntKind.u32 (w.fdiv (2097152 :
      Int)) (1 : Int) != (0 : Int)) = true → (IntKind.i64 = IntKind.i64 ∧ (6 : Int) = (9 : Int)) ∧ (IntKind.i64 = IntKind.i64 ∧ (0 : Int) = (0 : Int)) ∧ (IntKind.i64 =
      IntKind.i64 ∧ IntKind.i64.wrap (bits BinOp.and IntKind.u32 (w.fdiv (32 : Int)) (3 : Int)) = (0 : Int)) ∧ false = false ∧ (IntKind.i64 = IntKind.i64 ∧ IntKind.i64.wrap
      (bits BinOp.and IntKind.u32 (w.fdiv (4096 : Int)) (15 : Int)) = (0 : Int)) ∧ (IntKind.i64 = IntKind.i64 ∧ IntKind.i64.wrap (bits BinOp.and IntKind.u32 (w.fdiv (65536 :
      Int)) (15 : Int)) = (0 : Int)) ∧ (IntKind.i64 = IntKind.i64 ∧ (0 : Int) = (0 : Int)) ∧ (IntKind.i64 = IntKind.i64 ∧ IntKind.i64.wrap (bits BinOp.and IntKind.u32 (w.fdiv (1
      : Int)) (15 : Int)) = (0 : Int)) ∧ (IntKind.u32 = IntKind.u32 ∧ (0 : Int) = imm w) ∧ false = false ∧ (IntKind.i64 = IntKind.i64 ∧ (0 : Int) = (0 : Int)) ∧ (IntKind.i64 =
      IntKind.i64 ∧ (0 : Int) = (0 : Int)) ∧ false = false ∧ (bits BinOp.and IntKind.u32 (w.fdiv (1048576 : Int)) (1 : Int) != (0 : Int)) = false ∧ false = false ∧ false = false
      ∧ (bits BinOp.and IntKind.u32 (w.fdiv (16777216 : Int)) (1 : Int) != (0 : Int)) = false ∧ (bits BinOp.and IntKind.u32 (w.fdiv (8388608 : Int)) (1 : Int) != (0 : Int)) =
      false ∧ true = false ∧ false = false ∧ (IntKind.i64 = IntKind.i64 ∧ (0 : Int) = (0 : Int)) ∧ false = lnk w ∧ false = false ∧ false = false) ∧ ((bits BinOp.and IntKind.u32
      (w.fdiv (2097152 : Int)) (1 : Int) != (0 : Int)) = false → (IntKind.i64 = IntKind.i64 ∧ (6 : Int) = (9 : Int)) ∧ (IntKind.i64 = IntKind.i64 ∧ (0 : Int) = (0 : Int)) ∧
      (IntKind.i64 = IntKind.i64 ∧ IntKind.i64.wrap (bits BinOp.and IntKind.u32 (w.fdiv (32 : Int)) (3 : Int)) = (0 : Int)) ∧ false = false ∧ (IntKind.i64 = IntKind.i64 ∧
      IntKind.i64.wrap (bits BinOp.and IntKind.u32 (w.fdiv (4096 : Int)) (15 : Int)) = (0 : Int)) ∧ (IntKind.i64 = IntKind.i64 ∧ IntKind.i64.wrap (bits BinOp.and IntKind.u32
      (w.fdiv (65536 : Int)) (15 : Int)) = (0 : Int)) ∧ (IntKind.i64 = IntKind.i64 ∧ (0 : Int) = (0 : Int)) ∧ (IntKind.i64 = IntKind.i64 ∧ IntKind.i64.wrap (bits BinOp.and
      IntKind.u32 (w.fdiv (1 : Int)) (15 : Int)) = (0 : Int)) ∧ (IntKind.u32 = IntKind.u32 ∧ (0 : Int) = imm w) ∧ false = false ∧ (IntKind.i64 = IntKind.i64 ∧ (0 : Int) = (0 :
      Int)) ∧ (IntKind.i64 = IntKind.i64 ∧ (0 : Int) = (0 : Int)) ∧ false = false ∧ (bits BinOp.and IntKind.u32 (w.fdiv (1048576 : Int)) (1 : Int) != (0 : Int)) = false ∧ false
      = false ∧ false = false ∧ (bits BinOp.and IntKind.u32 (w.fdiv (16777216 : Int)) (1 : Int) != (0 : Int)) = false ∧ (bits BinOp.and IntKind.u32 (w.fdiv (8388608 : Int)) (1 :
      Int) != (0 : Int)) = false ∧ (!bits BinOp.and IntKind.u32 (w.fdiv (16777216 : Int)) (1 : Int) != (0 : Int)) = false ∧ false = false ∧ (IntKind.i64 = IntKind.i64 ∧ (0 :
      Int) = (0 : Int)) ∧ false = lnk w ∧ false = false ∧ false = false))) ∧ ((IntKind.i64.wrap (bits BinOp.and IntKind.u32 (w.fdiv (32 : Int)) (3 : Int)) != (0 : Int)) = false
      → ((bits BinOp.and IntKind.u32 w (1048816 : Int) == (176 : Int)) = true → ((bits BinOp.and IntKind.u32 (w.fdiv (4194304 : Int)) (1 : Int) != (0 : Int)) = true → ((bits
      BinOp.and IntKind.u32 (w.fdiv (2097152 : Int)) (1 : Int) != (0 : Int)) = true → (IntKind.i64 = IntKind.i64 ∧ (6 : Int) = (9 : Int)) ∧ (IntKind.i64 = IntKind.i64 ∧ (0 :
      Int) = (0 : Int)) ∧ (IntKind.i64 = IntKind.i64 ∧ IntKind.i64.wrap (bits BinOp.and IntKind.u32 (w.fdiv (32 : Int)) (3 : Int)) = (0 : Int)) ∧ false = false ∧ (IntKind.i64 =
      IntKind.i64 ∧ IntKind.i64.wrap (bits BinOp.and IntKind.u32 (w.fdiv (4096 : Int)) (15 : Int)) = (0 : Int)) ∧ (IntKind.i64 = IntKind.i64 ∧ IntKind.i64.wrap (bits BinOp.and
      IntKind.u32 (w.fdiv (65536 : Int)) (15 : Int)) = (0 : Int)) ∧ (IntKind.i64 = IntKind.i64 ∧ (0 : Int) = (0 : Int)) ∧ (IntKind.i64 = IntKind.i64 ∧ (0 : Int) = (0 : Int)) ∧
      (IntKind.u32 = IntKind.u32 ∧ bits BinOp.or IntKind.u32 (bits BinOp.and IntKind.u32 (w.fdiv (16 : Int)) (240 : Int)) (bits BinOp.and IntKind.u32 w (15 : Int)) = imm w) ∧
      true = false ∧ (IntKind.i64 = IntKind.i64 ∧ (0 : Int) = (0 : Int)) ∧ (IntKind.i64 = IntKind.i64 ∧ (0 : Int) = (0 : Int)) ∧ false = false ∧ (bits BinOp.and IntKind.u32
      (w.fdiv (1048576 : Int)) (1 : Int) != (0 : Int)) = false ∧ false = false ∧ false = false ∧ (bits BinOp.and IntKind.u32 (w.fdiv (16777216 : Int)) (1 : Int) != (0 : Int)) =
      false ∧ (bits BinOp.and IntKind.u32 (w.fdiv (8388608 : Int)) (1 : Int) != (0 : Int)) = false ∧ true = false ∧ false = false ∧ (IntKind.i64 = IntKind.i64 ∧ (0 : Int) = (0 :
      Int)) ∧ false = lnk w ∧ false = false ∧ false = false) ∧ ((bits BinOp.and IntKind.u32 (w.fdiv (2097152 : Int)) (1 : Int) != (0 : Int)) = false → (IntKind.i64 = IntKind.i64
      ∧ (6 : Int) = (9 : Int)) ∧ (IntKind.i64 = IntKind.i64 ∧ (0 : Int) = (0 : Int)) ∧ (IntKind.i64 = IntKind.i64 ∧ IntKind.i64.wrap (bits BinOp.and IntKind.u32 (w.fdiv (32 :
      Int)) (3 : Int)) = (0 : Int)) ∧ false = false ∧ (IntKind.i64 = IntKind.i64 ∧ IntKind.i64.wrap (bits BinOp.and IntKind.u32 (w.fdiv (4096 : Int)) (15 : Int)) = (0 : Int)) ∧
      (IntKind.i64 = IntKind.i64 ∧ IntKind.i64.wrap (bits BinOp.and IntKind.u32 (w.fdiv (65536 : Int)) (15 : Int)) = (0 : Int)) ∧ (IntKind.i64 = IntKind.i64 ∧ (0 : Int) = (0 :
      Int)) ∧ (IntKind.i64 = IntKind.i64 ∧ (0 : Int) = (0 : Int)) ∧ (IntKind.u32 = IntKind.u32 ∧ bits BinOp.or IntKind.u32 (bits BinOp.and IntKind.u32 (w.fdiv (16 : Int)) (240 :
      Int)) (bits BinOp.and IntKind.u32 w (15 : Int)) = imm w) ∧ true = false ∧ (IntKind.i64 = IntKind.i64 ∧ (0 : Int) = (0 : Int)) ∧ (IntKind.i64 = IntKind.i64 ∧ (0 : Int) = (0
      : Int)) ∧ false = false ∧ (bits BinOp.and IntKind.u32 (w.fdiv (1048576 : Int)) (1 : Int) != (0 : Int)) = false ∧ false = false ∧ false = false ∧ (bits BinOp.and
      IntKind.u32 (w.fdiv (16777216 : Int)) (1 : Int) != (0 : Int)) = false ∧ (bits BinOp.and IntKind.u32 (w.fdiv (8388608 : Int)) (1 : Int) != (0 : Int)) = false ∧ (!bits
      BinOp.and IntKind.u32 (w.fdiv (16777216 : Int)) (1 : Int) != (0 : Int)) = false ∧ false = false ∧ (IntKind.i64 = IntKind.i64 ∧ (0 : Int) = (0 : Int)) ∧ false = lnk w ∧
      false = false ∧ false = false)) ∧ ((bits BinOp.and IntKind.u32 (w.fdiv (4194304 : Int)) (1 : Int) != (0 : Int)) = false → ((bits BinOp.and IntKind.u32 (w.fdiv (2097152 :
      Int)) (1 : Int) != (0 : Int)) = true → (IntKind.i64 = IntKind.i64 ∧ (6 : Int) = (9 : Int)) ∧ (IntKind.i64 = IntKind.i64 ∧ (0 : Int) = (0 : Int)) ∧ (IntKind.i64 =
      IntKind.i64 ∧ IntKind.i64.wrap (bits BinOp.and IntKind.u32 (w.fdiv (32 : Int)) (3 : Int)) = (0 : Int)) ∧ false = false ∧ (IntKind.i64 = IntKind.i64 ∧ IntKind.i64.wrap
      (bits BinOp.and IntKind.u32 (w.fdiv (4096 : Int)) (15 : Int)) = (0 : Int)) ∧ (IntKind.i64 = IntKind.i64 ∧ IntKind.i64.wrap (bits BinOp.and IntKind.u32 (w.fdiv (65536 :
      Int)) (15 : Int)) = (0 : Int)) ∧ (IntKind.i64 = IntKind.i64 ∧ (0 : Int) = (0 : Int)) ∧ (IntKind.i64 = IntKind.i64 ∧ IntKind.i64.wrap (bits BinOp.and IntKind.u32 (w.fdiv (1
      : Int)) (15 : Int)) = (0 : Int)) ∧ (IntKind.u32 = IntKind.u32 ∧ (0 : Int) = imm w) ∧ false = false ∧ (IntKind.i64 = IntKind.i64 ∧ (0 : Int) = (0 : Int)) ∧ (IntKind.i64 =
      IntKind.i64 ∧ (0 : Int) = (0 : Int)) ∧ false = false ∧ (bits BinOp.and IntKind.u32 (w.fdiv (1048576 : Int)) (1 : Int) != (0 : Int)) = false ∧ false = false ∧ false = false
      ∧ (bits BinOp.and IntKind.u32 (w.fdiv (16777216 : Int)) (1 : Int) != (0 : Int)) = false ∧ (bits BinOp.and IntKind.u32 (w.fdiv (8388608 : Int)) (1 : Int) != (0 : Int)) =
      false ∧ true = false ∧ false = false ∧ (IntKind.i64 = IntKind.i64 ∧ (0 : Int) = (0 : Int)) ∧ false = lnk w ∧ false = false ∧ false = false) ∧ ((bits BinOp.and IntKind.u32
      (w.fdiv (2097152 : Int)) (1 : Int) != (0 : Int)) = false → (IntKind.i64 = IntKind.i64 ∧ (6 : Int) = (9 : Int)) ∧ (IntKind.i64 = IntKind.i64 ∧ (0 : Int) = (0 : Int)) ∧
      (IntKind.i64 = IntKind.i64 ∧ IntKind.i64.wrap (bits BinOp.and IntKind.u32 (w.fdiv (32 : Int)) (3 : Int)) = (0 : Int)) ∧ false = false ∧ (IntKind.i64 = IntKind.i64 ∧
      IntKind.i64.wrap (bits BinOp.and IntKind.u32 (w.fdiv (4096 : Int)) (15 : Int)) = (0 : Int)) ∧ (IntKind.i64 = IntKind.i64 ∧ IntKind.i64.wrap (bits BinOp.and IntKind.u32
      (w.fdiv (65536 : Int)) (15 : Int)) = (0 : Int)) ∧ (IntKind.i64 = IntKind.i64 ∧ (0 : Int) = (0 : Int)) ∧ (IntKind.i64 = IntKind.i64 ∧ IntKind.i64.wrap (bits BinOp.and
      IntKind.u32 (w.fdiv (1 : Int)) (15 : Int)) = (0 : Int)) ∧ (IntKind.u32 = IntKind.u32 ∧ (0 : Int) = imm w) ∧ false = false ∧ (IntKind.i64 = IntKind.i64 ∧ (0 : Int) = (0 :
      Int)) ∧ (IntKind.i64 = IntKind.i64 ∧ (0 : Int) = (0 : Int)) ∧ false = false ∧ (bits BinOp.and IntKind.u32 (w.fdiv (1048576 : Int)) (1 : Int) != (0 : Int)) = false ∧ false
      = false ∧ false = false ∧ (bits BinOp.and IntKind.u32 (w.fdiv (16777216 : Int)) (1 : Int) != (0 : Int)) = false ∧ (bits BinOp.and IntKind.u32 (w.fdiv (8388608 : Int)) (1 :
      Int) != (0 : Int)) = false ∧ (!bits BinOp.and IntKind.u32 (w.fdiv (16777216 : Int)) (1 : Int) != (0 : Int)) = false ∧ false = false ∧ (IntKind.i64 = IntKind.i64 ∧ (0 :
      Int) = (0 : Int)) ∧ false = lnk w ∧ false = false ∧ false = false))) ∧ ((bits BinOp.and IntKind.u32 w (1048816 : Int) == (176 : Int)) = false → ((bits BinOp.and
      IntKind.u32 w (268435440 : Int) == (19922704 : Int)) = true → (IntKind.i64 = IntKind.i64 ∧ (5 : Int) = (9 : Int)) ∧ (IntKind.i64 = IntKind.i64 ∧ (0 : Int) = (0 : Int)) ∧
      (IntKind.i64 = IntKind.i64 ∧ (0 : Int) = (0 : Int)) ∧ false = false ∧ (IntKind.i64 = IntKind.i64 ∧ (0 : Int) = (0 : Int)) ∧ (IntKind.i64 = IntKind.i64 ∧ (0 : Int) = (0 :
      Int)) ∧ (IntKind.i64 = IntKind.i64 ∧ (0 : Int) = (0 : Int)) ∧ (IntKind.i64 = IntKind.i64 ∧ IntKind.i64.wrap (bits BinOp.and IntKind.u32 (w.fdiv (1 : Int)) (15 : Int)) = (0
      : Int)) ∧ (IntKind.u32 = IntKind.u32 ∧ (0 : Int) = imm w) ∧ false = false ∧ (IntKind.i64 = IntKind.i64 ∧ (0 : Int) = (0 : Int)) ∧ (IntKind.i64 = IntKind.i64 ∧ (0 : Int) =
      (0 : Int)) ∧ false = false ∧ false = false ∧ false = false ∧ false = false ∧ false = false ∧ false = false ∧ false = false ∧ false = false ∧ (IntKind.i64 = IntKind.i64 ∧
      (0 : Int) = (0 : Int)) ∧ false = lnk w ∧ false = false ∧ false = false) ∧ ((bits BinOp.and IntKind.u32 w (268435440 : Int) == (19922704 : Int)) = false → ((bits BinOp.and
      IntKind.u32 w (264179711 : Int) == (17760256 : Int)) = true → (IntKind.i64 = IntKind.i64 ∧ (11 : Int) = (9 : Int)) ∧ (IntKind.i64 = IntKind.i64 ∧ (0 : Int) = (0 : Int)) ∧
      (IntKind.i64 = IntKind.i64 ∧ (0 : Int) = (0 : Int)) ∧ false = false ∧ (IntKind.i64 = IntKind.i64 ∧ IntKind.i64.wrap (bits BinOp.and IntKind.u32 (w.fdiv (4096 : Int)) (15 :
      Int)) = (0 : Int)) ∧ (IntKind.i64 = IntKind.i64 ∧ (0 : Int) = (0 : Int)) ∧ (IntKind.i64 = IntKind.i64 ∧ (0 : Int) = (0 : Int)) ∧ (IntKind.i64 = IntKind.i64 ∧ (0 : Int) =
      (0 : Int)) ∧ (IntKind.u32 = IntKind.u32 ∧ (0 : Int) = imm w) ∧ false = false ∧ (IntKind.i64 = IntKind.i64 ∧ (0 : Int) = (0 : Int)) ∧ (IntKind.i64 = IntKind.i64 ∧ (0 : Int)
      = (0 : Int)) ∧ false = false ∧ false = false ∧ false = false ∧ false = false ∧ false = false ∧ false = false ∧ false = false ∧ (bits BinOp.and IntKind.u32 (w.fdiv (4194304
      : Int)) (1 : Int) != (0 : Int)) = false ∧ (IntKind.i64 = IntKind.i64 ∧ (0 : Int) = (0 : Int)) ∧ false = lnk w ∧ false = false ∧ false = false) ∧ ((bits BinOp.and
      IntKind.u32 w (264179711 : Int) == (17760256 : Int)) = false → ((bits BinOp.and IntKind.u32 w (263258096 : Int) == (18935808 : Int)) = true → (IntKind.i64 = IntKind.i64 ∧
      (12 : Int) = (9 : Int)) ∧ (IntKind.i64 = IntKind.i64 ∧ (0 : Int) = (0 : Int)) ∧ (IntKind.i64 = IntKind.i64 ∧ (0 : Int) = (0 : Int)) ∧ false = false ∧ (IntKind.i64 =
      IntKind.i64 ∧ (0 : Int) = (0 : Int)) ∧ (IntKind.i64 = IntKind.i64 ∧ (0 : Int) = (0 : Int)) ∧ (IntKind.i64 = IntKind.i64 ∧ (0 : Int) = (0 : Int)) ∧ (IntKind.i64 =
      IntKind.i64 ∧ IntKind.i64.wrap (bits BinOp.and IntKind.u32 (w.fdiv (1 : Int)) (15 : Int)) = (0 : Int)) ∧ (IntKind.u32 = IntKind.u32 ∧ (0 : Int) = imm w) ∧ false = false ∧
      (IntKind.i64 = IntKind.i64 ∧ (0 : Int) = (0 : Int)) ∧ (IntKind.i64 = IntKind.i64 ∧ (0 : Int) = (0 : Int)) ∧ false = false ∧ false = false ∧ false = false ∧ false = false ∧
      false = false ∧ false = false ∧ false = false ∧ (bits BinOp.and IntKind.u32 (w.fdiv (4194304 : Int)) (1 : Int) != (0 : Int)) = false ∧ (IntKind.i64 = IntKind.i64 ∧
      IntKind.i64.wrap (bits BinOp.and IntKind.u32 (w.fdiv (65536 : Int)) (15 : Int)) = (0 : Int)) ∧ false = lnk w ∧ false = false ∧ false = false) ∧ ((bits BinOp.and
      IntKind.u32 w (263258096 : Int) == (18935808 : Int)) = false → ((!bits BinOp.and IntKind.u32 (w.fdiv (16 : Int)) (1 : Int) != (0 : Int)) = true → (decide (IntKind.i64.wrap
      (bits BinOp.and IntKind.u32 (w.fdiv (2097152 : Int)) (15 : Int)) ≥ (8 : Int)) = true → (decide (IntKind.i64.wrap (bits BinOp.and IntKind.u32 (w.fdiv (2097152 : Int)) (15 :
      Int)) ≤ (11 : Int)) = true → ((!bits BinOp.and IntKind.u32 (w.fdiv (1048576 : Int)) (1 : Int) != (0 : Int)) = true → (IntKind.i64 = IntKind.i64 ∧ (0 : Int) = (9 : Int)) ∧
      (IntKind.i64 = IntKind.i64 ∧ (0 : Int) = (0 : Int)) ∧ (IntKind.i64 = IntKind.i64 ∧ (0 : Int) = (0 : Int)) ∧ false = false ∧ (IntKind.i64 = IntKind.i64 ∧ (0 : Int) = (0 :
      Int)) ∧ (IntKind.i64 = IntKind.i64 ∧ (0 : Int) = (0 : Int)) ∧ (IntKind.i64 = IntKind.i64 ∧ (0 : Int) = (0 : Int)) ∧ (IntKind.i64 = IntKind.i64 ∧ (0 : Int) = (0 : Int)) ∧
      (IntKind.u32 = IntKind.u32 ∧ (0 : Int) = imm w) ∧ false = false ∧ (IntKind.i64 = IntKind.i64 ∧ (0 : Int) = (0 : Int)) ∧ (IntKind.i64 = IntKind.i64 ∧ (0 : Int) = (0 : Int))
      ∧ false = false ∧ false = false ∧ false = false ∧ false = false ∧ false = false ∧ false = false ∧ false = false ∧ false = false ∧ (IntKind.i64 = IntKind.i64 ∧ (0 : Int) =
      (0 : Int)) ∧ false = lnk w ∧ false = false ∧ false = false) ∧ ((!bits BinOp.and IntKind.u32 (w.fdiv (1048576 : Int)) (1 : Int) != (0 : Int)) = false → (IntKind.i64 =
      IntKind.i64 ∧ (1 : Int) = (9 : Int)) ∧ (IntKind.i64 = IntKind.i64 ∧ (0 : Int) = (0 : Int)) ∧ (IntKind.i64 = IntKind.i64 ∧ IntKind.i64.wrap (bits BinOp.and IntKind.u32
      (w.fdiv (2097152 : Int)) (15 : Int)) = (0 : Int)) ∧ (bits BinOp.and IntKind.u32 (w.fdiv (1048576 : Int)) (1 : Int) != (0 : Int)) = false ∧ (IntKind.i64 = IntKind.i64 ∧
      IntKind.i64.wrap (bits BinOp.and IntKind.u32 (w.fdiv (4096 : Int)) (15 : Int)) = (0 : Int)) ∧ (IntKind.i64 = IntKind.i64 ∧ IntKind.i64.wrap (bits BinOp.and IntKind.u32
      (w.fdiv (65536 : Int)) (15 : Int)) = (0 : Int)) ∧ (IntKind.i64 = IntKind.i64 ∧ (0 : Int) = (0 : Int)) ∧ (IntKind.i64 = IntKind.i64 ∧ IntKind.i64.wrap (bits BinOp.and
      IntKind.u32 (w.fdiv (1 : Int)) (15 : Int)) = (0 : Int)) ∧ (IntKind.u32 = IntKind.u32 ∧ (0 : Int) = imm w) ∧ false = false ∧ (IntKind.i64 = IntKind.i64 ∧ IntKind.i64.wrap
      (bits BinOp.and IntKind.u32 (w.fdiv (32 : Int)) (3 : Int)) = (0 : Int)) ∧ (IntKind.i64 = IntKind.i64 ∧ IntKind.i64.wrap (bits BinOp.and IntKind.u32 (w.fdiv (128 : Int))
      (31 : Int)) = (0 : Int)) ∧ false = false ∧ false = false ∧ false = false ∧ false = false ∧ false = false ∧ false = false ∧ false = false ∧ false = false ∧ (IntKind.i64 =
      IntKind.i64 ∧ (0 : Int) = (0 : Int)) ∧ false = lnk w ∧ false = false ∧ false = false)) ∧ (decide (IntKind.i64.wrap (bits BinOp.and IntKind.u32 (w.fdiv (2097152 : Int)) (15
      : Int)) ≤ (11 : Int)) = false → (IntKind.i64 = IntKind.i64 ∧ (1 : Int) = (9 : Int)) ∧ (IntKind.i64 = IntKind.i64 ∧ (0 : Int) = (0 : Int)) ∧ (IntKind.i64 = IntKind.i64 ∧
      IntKind.i64.wrap (bits BinOp.and IntKind.u32 (w.fdiv (2097152 : Int)) (15 : Int)) = (0 : Int)) ∧ (bits BinOp.and IntKind.u32 (w.fdiv (1048576 : Int)) (1 : Int) != (0 :
      Int)) = false ∧ (IntKind.i64 = IntKind.i64 ∧ IntKind.i64.wrap (bits BinOp.and IntKind.u32 (w.fdiv (4096 : Int)) (15 : Int)) = (0 : Int)) ∧ (IntKind.i64 = IntKind.i64 ∧
      IntKind.i64.wrap (bits BinOp.and IntKind.u32 (w.fdiv (65536 : Int)) (15 : Int)) = (0 : Int)) ∧ (IntKind.i64 = IntKind.i64 ∧ (0 : Int) = (0 : Int)) ∧ (IntKind.i64 =
      IntKind.i64 ∧ IntKind.i64.wrap (bits BinOp.and IntKind.u32 (w.fdiv (1 : Int)) (15 : Int)) = (0 : Int)) ∧ (IntKind.u32 = IntKind.u32 ∧ (0 : Int) = imm w) ∧ false = false ∧
      (IntKind.i64 = IntKind.i64 ∧ IntKind.i64.wrap (bits BinOp.and IntKind.u32 (w.fdiv (32 : Int)) (3 : Int)) = (0 : Int)) ∧ (IntKind.i64 = IntKind.i64 ∧ IntKind.i64.wrap (bits
      BinOp.and IntKind.u32 (w.fdiv (128 : Int)) (31 : Int)) = (0 : Int)) ∧ false = false ∧ false = false ∧ false = false ∧ false = false ∧ false = false ∧ false = false ∧ false
      = false ∧ false = false ∧ (IntKind.i64 = IntKind.i64 ∧ (0 : Int) = (0 : Int)) ∧ false = lnk w ∧ false = false ∧ false = false)) ∧ (decide (IntKind.i64.wrap (bits BinOp.and
      IntKind.u32 (w.fdiv (2097152 : Int)) (15 : Int)) ≥ (8 : Int)) = false → (IntKind.i64 = IntKind.i64 ∧ (1 : Int) = (9 : Int)) ∧ (IntKind.i64 = IntKind.i64 ∧ (0 : Int) = (0 :
      Int)) ∧ (IntKind.i64 = IntKind.i64 ∧ IntKind.i64.wrap (bits BinOp.and IntKind.u32 (w.fdiv (2097152 : Int)) (15 : Int)) = (0 : Int)) ∧ (bits BinOp.and IntKind.u32 (w.fdiv
      (1048576 : Int)) (1 : Int) != (0 : Int)) = false ∧ (IntKind.i64 = IntKind.i64 ∧ IntKind.i64.wrap (bits BinOp.and IntKind.u32 (w.fdiv (4096 : Int)) (15 : Int)) = (0 : Int))
      ∧ (IntKind.i64 = IntKind.i64 ∧ IntKind.i64.wrap (bits BinOp.and IntKind.u32 (w.fdiv (65536 : Int)) (15 : Int)) = (0 : Int)) ∧ (IntKind.i64 = IntKind.i64 ∧ (0 : Int) = (0 :
      Int)) ∧ (IntKind.i64 = IntKind.i64 ∧ IntKind.i64.wrap (bits BinOp.and IntKind.u32 (w.fdiv (1 : Int)) (15 : Int)) = (0 : Int)) ∧ (IntKind.u32 = IntKind.u32 ∧ (0 : Int) =
      imm w) ∧ false = false ∧ (IntKind.i64 = IntKind.i64 ∧ IntKind.i64.wrap (bits BinOp.and IntKind.u32 (w.fdiv (32 : Int)) (3 : Int)) = (0 : Int)) ∧ (IntKind.i64 = IntKind.i64
      ∧ IntKind.i64.wrap (bits BinOp.and IntKind.u32 (w.fdiv (128 : Int)) (31 : Int)) = (0 : Int)) ∧ false = false ∧ false = false ∧ false = false ∧ false = false ∧ false =
      false ∧ false = false ∧ false = false ∧ false = false ∧ (IntKind.i64 = IntKind.i64 ∧ (0 : Int) = (0 : Int)) ∧ false = lnk w ∧ false = false ∧ false = false)) ∧ ((!bits
      BinOp.and IntKind.u32 (w.fdiv (16 : Int)) (1 : Int) != (0 : Int)) = false → ((!bits BinOp.and IntKind.u32 (w.fdiv (128 : Int)) (1 : Int) != (0 : Int)) = true → (decide
      (IntKind.i64.wrap (bits BinOp.and IntKind.u32 (w.fdiv (2097152 : Int)) (15 : Int)) ≥ (8 : Int)) = true → (decide (IntKind.i64.wrap (bits BinOp.and IntKind.u32 (w.fdiv
      (2097152 : Int)) (15 : Int)) ≤ (11 : Int)) = true → ((!bits BinOp.and IntKind.u32 (w.fdiv (1048576 : Int)) (1 : Int) != (0 : Int)) = true → (IntKind.i64 = IntKind.i64 ∧ (0
      : Int) = (9 : Int)) ∧ (IntKind.i64 = IntKind.i64 ∧ (0 : Int) = (0 : Int)) ∧ (IntKind.i64 = IntKind.i64 ∧ (0 : Int) = (0 : Int)) ∧ false = false ∧ (IntKind.i64 =
      IntKind.i64 ∧ (0 : Int) = (0 : Int)) ∧ (IntKind.i64 = IntKind.i64 ∧ (0 : Int) = (0 : Int)) ∧ (IntKind.i64 = IntKind.i64 ∧ (0 : Int) = (0 : Int)) ∧ (IntKind.i64 =
      IntKind.i64 ∧ (0 : Int) = (0 : Int)) ∧ (IntKind.u32 = IntKind.u32 ∧ (0 : Int) = imm w) ∧ false = false ∧ (IntKind.i64 = IntKind.i64 ∧ (0 : Int) = (0 : Int)) ∧ (IntKind.i64
      = IntKind.i64 ∧ (0 : Int) = (0 : Int)) ∧ false = false ∧ false = false ∧ false = false ∧ false = false ∧ false = false ∧ false = false ∧ false = false ∧ false = false ∧
      (IntKind.i64 = IntKind.i64 ∧ (0 : Int) = (0 : Int)) ∧ false = lnk w ∧ false = false ∧ false = false) ∧ ((!bits BinOp.and IntKind.u32 (w.fdiv (1048576 : Int)) (1 : Int) !=
      (0 : Int)) = false → (IntKind.i64 = IntKind.i64 ∧ (1 : Int) = (9 : Int)) ∧ (IntKind.i64 = IntKind.i64 ∧ (0 : Int) = (0 : Int)) ∧ (IntKind.i64 = IntKind.i64 ∧
      IntKind.i64.wrap (bits BinOp.and IntKind.u32 (w.fdiv (2097152 : Int)) (15 : Int)) = (0 : Int)) ∧ (bits BinOp.and IntKind.u32 (w.fdiv (1048576 : Int)) (1 : Int) != (0 :
      Int)) = false ∧ (IntKind.i64 = IntKind.i64 ∧ IntKind.i64.wrap (bits BinOp.and IntKind.u32 (w.fdiv (4096 : Int)) (15 : Int)) = (0 : Int)) ∧ (IntKind.i64 = IntKind.i64 ∧
      IntKind.i64.wrap (bits BinOp.and IntKind.u32 (w.fdiv (65536 : Int)) (15 : Int)) = (0 : Int)) ∧ (IntKind.i64 = IntKind.i64 ∧ IntKind.i64.wrap (bits BinOp.and IntKind.u32
      (w.fdiv (256 : Int)) (15 : Int)) = (0 : Int)) ∧ (IntKind.i64 = IntKind.i64 ∧ IntKind.i64.wrap (bits BinOp.and IntKind.u32 (w.fdiv (1 : Int)) (15 : Int)) = (0 : Int)) ∧
      (IntKind.u32 = IntKind.u32 ∧ (0 : Int) = imm w) ∧ false = false ∧ (IntKind.i64 = IntKind.i64 ∧ IntKind.i64.wrap (bits BinOp.and IntKind.u32 (w.fdiv (32 : Int)) (3 : Int))
      = (0 : Int)) ∧ (IntKind.i64 = IntKind.i64 ∧ (0 : Int) = (0 : Int)) ∧ true = false ∧ false = false ∧ false = false ∧ false = false ∧ false = false ∧ false = false ∧ false =
      false ∧ false = false ∧ (IntKind.i64 = IntKind.i64 ∧ (0 : Int) = (0 : Int)) ∧ false = lnk w ∧ false = false ∧ false = false)) ∧ (decide (IntKind.i64.wrap (bits BinOp.and
      IntKind.u32 (w.fdiv (2097152 : Int)) (15 : Int)) ≤ (11 : Int)) = false → (IntKind.i64 = IntKind.i64 ∧ (1 : Int) = (9 : Int)) ∧ (IntKind.i64 = IntKind.i64 ∧ (0 : Int) = (0
      : Int)) ∧ (IntKind.i64 = IntKind.i64 ∧ IntKind.i64.wrap (bits BinOp.and IntKind.u32 (w.fdiv (2097152 : Int)) (15 : Int)) = (0 : Int)) ∧ (bits BinOp.and IntKind.u32 (w.fdiv
      (1048576 : Int)) (1 : Int) != (0 : Int)) = false ∧ (IntKind.i64 = IntKind.i64 ∧ IntKind.i64.wrap (bits BinOp.and IntKind.u32 (w.fdiv (4096 : Int)) (15 : Int)) = (0 : Int))
      ∧ (IntKind.i64 = IntKind.i64 ∧ IntKind.i64.wrap (bits BinOp.and IntKind.u32 (w.fdiv (65536 : Int)) (15 : Int)) = (0 : Int)) ∧ (IntKind.i64 = IntKind.i64 ∧ IntKind.i64.wrap
      (bits BinOp.and IntKind.u32 (w.fdiv (256 : Int)) (15 : Int)) = (0 : Int)) ∧ (IntKind.i64 = IntKind.i64 ∧ IntKind.i64.wrap (bits BinOp.and IntKind.u32 (w.fdiv (1 : Int))
      (15 : Int)) = (0 : Int)) ∧ (IntKind.u32 = IntKind.u32 ∧ (0 : Int) = imm w) ∧ false = false ∧ (IntKind.i64 = IntKind.i64 ∧ IntKind.i64.wrap (bits BinOp.and IntKind.u32
      (w.fdiv (32 : Int)) (3 : Int)) = (0 : Int)) ∧ (IntKind.i64 = IntKind.i64 ∧ (0 : Int) = (0 : Int)) ∧ true = false ∧ false = false ∧ false = false ∧ false = false ∧ false =
      false ∧ false = false ∧ false = false ∧ false = false ∧ (IntKind.i64 = IntKind.i64 ∧ (0 : Int) = (0 : Int)) ∧ false = lnk w ∧ false = false ∧ false = false)) ∧ (decide
      (IntKind.i64.wrap (bits BinOp.and IntKind.u32 (w.fdiv (2097152 : Int)) (15 : Int)) ≥ (8 : Int)) = false → (IntKind.i64 = IntKind.i64 ∧ (1 : Int) = (9 : Int)) ∧
      (IntKind.i64 = IntKind.i64 ∧ (0 : Int) = (0 : Int)) ∧ (IntKind.i64 = IntKind.i64 ∧ IntKind.i64.wrap (bits BinOp.and IntKind.u32 (w.fdiv (2097152 : Int)) (15 : Int)) = (0 :
      Int)) ∧ (bits BinOp.and IntKind.u32 (w.fdiv (1048576 : Int)) (1 : Int) != (0 : Int)) = false ∧ (IntKind.i64 = IntKind.i64 ∧ IntKind.i64.wrap (bits BinOp.and IntKind.u32
      (w.fdiv (4096 : Int)) (15 : Int)) = (0 : Int)) ∧ (IntKind.i64 = IntKind.i64 ∧ IntKind.i64.wrap (bits BinOp.and IntKind.u32 (w.fdiv (65536 : Int)) (15 : Int)) = (0 : Int))
      ∧ (IntKind.i64 = IntKind.i64 ∧ IntKind.i64.wrap (bits BinOp.and IntKind.u32 (w.fdiv (256 : Int)) (15 : Int)) = (0 : Int)) ∧ (IntKind.i64 = IntKind.i64 ∧ IntKind.i64.wrap
      (bits BinOp.and IntKind.u32 (w.fdiv (1 : Int)) (15 : Int)) = (0 : Int)) ∧ (IntKind.u32 = IntKind.u32 ∧ (0 : Int) = imm w) ∧ false = false ∧ (IntKind.i64 = IntKind.i64 ∧
      IntKind.i64.wrap (bits BinOp.and IntKind.u32 (w.fdiv (32 : Int)) (3 : Int)) = (0 : Int)) ∧ (IntKind.i64 = IntKind.i64 ∧ (0 : Int) = (0 : Int)) ∧ true = false ∧ false =
      false ∧ false = false ∧ false = false ∧ false = false ∧ false = false ∧ false = false ∧ false = false ∧ (IntKind.i64 = IntKind.i64 ∧ (0 : Int) = (0 : Int)) ∧ false = lnk w
      ∧ false = false ∧ false = false)) ∧ ((!bits BinOp.and IntKind.u32 (w.fdiv (128 : Int)) (1 : Int) != (0 : Int)) = false → (IntKind.i64 = IntKind.i64 ∧ (0 : Int) = (9 :
      Int)) ∧ (IntKind.i64 = IntKind.i64 ∧ (0 : Int) = (0 : Int)) ∧ (IntKind.i64 = IntKind.i64 ∧ (0 : Int) = (0 : Int)) ∧ false = false ∧ (IntKind.i64 = IntKind.i64 ∧ (0 : Int)
      = (0 : Int)) ∧ (IntKind.i64 = IntKind.i64 ∧ (0 : Int) = (0 : Int)) ∧ (IntKind.i64 = IntKind.i64 ∧ (0 : Int) = (0 : Int)) ∧ (IntKind.i64 = IntKind.i64 ∧ (0 : Int) = (0 :
      Int)) ∧ (IntKind.u32 = IntKind.u32 ∧ (0 : Int) = imm w) ∧ false = false ∧ (IntKind.i64 = IntKind.i64 ∧ (0 : Int) = (0 : Int)) ∧ (IntKind.i64 = IntKind.i64 ∧ (0 : Int) = (0
      : Int)) ∧ false = false ∧ false = false ∧ false = false ∧ false = false ∧ false = false ∧ false = false ∧ false = false ∧ false = false ∧ (IntKind.i64 = IntKind.i64 ∧ (0 :
      Int) = (0 : Int)) ∧ false = lnk w ∧ false = false ∧ false = false)))))))) ∧ ((bits BinOp.and IntKind.u32 w (1048720 : Int) == (1048720 : Int)) = false → ((bits BinOp.and
      IntKind.u32 w (1048816 : Int) == (176 : Int)) = true → ((bits BinOp.and IntKind.u32 (w.fdiv (4194304 : Int)) (1 : Int) != (0 : Int)) = true → ((bits BinOp.and IntKind.u32
      (w.fdiv (2097152 : Int)) (1 : Int) != (0 : Int)) = true → (IntKind.i64 = IntKind.i64 ∧ (6 : Int) = (9 : Int)) ∧ (IntKind.i64 = IntKind.i64 ∧ (0 : Int) = (0 : Int)) ∧
      (IntKind.i64 = IntKind.i64 ∧ IntKind.i64.wrap (bits BinOp.and IntKind.u32 (w.fdiv (32 : Int)) (3 : Int)) = (0 : Int)) ∧ false = false ∧ (IntKind.i64 = IntKind.i64 ∧
      IntKind.i64.wrap (bits BinOp.and IntKind.u32 (w.fdiv (4096 : Int)) (15 : Int)) = (0 : Int)) ∧ (IntKind.i64 = IntKind.i64 ∧ IntKind.i64.wrap (bits BinOp.and IntKind.u32
      (w.fdiv (65536 : Int)) (15 : Int)) = (0 : Int)) ∧ (IntKind.i64 = IntKind.i64 ∧ (0 : Int) = (0 : Int)) ∧ (IntKind.i64 = IntKind.i64 ∧ (0 : Int) = (0 : Int)) ∧ (IntKind.u32
      = IntKind.u32 ∧ bits BinOp.or IntKind.u32 (bits BinOp.and IntKind.u32 (w.fdiv (16 : Int)) (240 : Int)) (bits BinOp.and IntKind.u32 w (15 : Int)) = imm w) ∧ true = false ∧
      (IntKind.i64 = IntKind.i64 ∧ (0 : Int) = (0 : Int)) ∧ (IntKind.i64 = IntKind.i64 ∧ (0 : Int) = (0 : Int)) ∧ false = false ∧ (bits BinOp.and IntKind.u32 (w.fdiv (1048576 :
      Int)) (1 : Int) != (0 : Int)) = false ∧ false = false ∧ false = false ∧ (bits BinOp.and IntKind.u32 (w.fdiv (16777216 : Int)) (1 : Int) != (0 : Int)) = false ∧ (bits
      BinOp.and IntKind.u32 (w.fdiv (8388608 : Int)) (1 : Int) != (0 : Int)) = false ∧ true = false ∧ false = false ∧ (IntKind.i64 = IntKind.i64 ∧ (0 : Int) = (0 : Int)) ∧ false
      = lnk w ∧ false = false ∧ false = false) ∧ ((bits BinOp.and IntKind.u32 (w.fdiv (2097152 : Int)) (1 : Int) != (0 : Int)) = false → (IntKind.i64 = IntKind.i64 ∧ (6 : Int) =
      (9 : Int)) ∧ (IntKind.i64 = IntKind.i64 ∧ (0 : Int) = (0 : Int)) ∧ (IntKind.i64 = IntKind.i64 ∧ IntKind.i64.wrap (bits BinOp.and IntKind.u32 (w.fdiv (32 : Int)) (3 : Int))
      = (0 : Int)) ∧ false = false ∧ (IntKind.i64 = IntKind.i64 ∧ IntKind.i64.wrap (bits BinOp.and IntKind.u32 (w.fdiv (4096 : Int)) (15 : Int)) = (0 : Int)) ∧ (IntKind.i64 =
      IntKind.i64 ∧ IntKind.i64.wrap (bits BinOp.and IntKind.u32 (w.fdiv (65536 : Int)) (15 : Int)) = (0 : Int)) ∧ (IntKind.i64 = IntKind.i64 ∧ (0 : Int) = (0 : Int)) ∧
      (IntKind.i64 = IntKind.i64 ∧ (0 : Int) = (0 : Int)) ∧ (IntKind.u32 = IntKind.u32 ∧ bits BinOp.or IntKind.u32 (bits BinOp.and IntKind.u32 (w.fdiv (16 : Int)) (240 : Int))
      (bits BinOp.and IntKind.u32 w (15 : Int)) = imm w) ∧ true = false ∧ (IntKind.i64 = IntKind.i64 ∧ (0 : Int) = (0 : Int)) ∧ (IntKind.i64 = IntKind.i64 ∧ (0 : Int) = (0 :
      Int)) ∧ false = false ∧ (bits BinOp.and IntKind.u32 (w.fdiv (1048576 : Int)) (1 : Int) != (0 : Int)) = false ∧ false = false ∧ false = false ∧ (bits BinOp.and IntKind.u32
      (w.fdiv (16777216 : Int)) (1 : Int) != (0 : Int)) = false ∧ (bits BinOp.and IntKind.u32 (w.fdiv (8388608 : Int)) (1 : Int) != (0 : Int)) = false ∧ (!bits BinOp.and
      IntKind.u32 (w.fdiv (16777216 : Int)) (1 : Int) != (0 : Int)) = false ∧ false = false ∧ (IntKind.i64 = IntKind.i64 ∧ (0 : Int) = (0 : Int)) ∧ false = lnk w ∧ false = false
      ∧ false = false)) ∧ ((bits BinOp.and IntKind.u32 (w.fdiv (4194304 : Int)) (1 : Int) != (0 : Int)) = false → ((bits BinOp.and IntKind.u32 (w.fdiv (2097152 : Int)) (1 : Int)
      != (0 : Int)) = true → (IntKind.i64 = IntKind.i64 ∧ (6 : Int) = (9 : Int)) ∧ (IntKind.i64 = IntKind.i64 ∧ (0 : Int) = (0 : Int)) ∧ (IntKind.i64 = IntKind.i64 ∧
      IntKind.i64.wrap (bits BinOp.and IntKind.u32 (w.fdiv (32 : Int)) (3 : Int)) = (0 : Int)) ∧ false = false ∧ (IntKind.i64 = IntKind.i64 ∧ IntKind.i64.wrap (bits BinOp.and
      IntKind.u32 (w.fdiv (4096 : Int)) (15 : Int)) = (0 : Int)) ∧ (IntKind.i64 = IntKind.i64 ∧ IntKind.i64.wrap (bits BinOp.and IntKind.u32 (w.fdiv (65536 : Int)) (15 : Int)) =
      (0 : Int)) ∧ (IntKind.i64 = IntKind.i64 ∧ (0 : Int) = (0 : Int)) ∧ (IntKind.i64 = IntKind.i64 ∧ IntKind.i64.wrap (bits BinOp.and IntKind.u32 (w.fdiv (1 : Int)) (15 : Int))
      = (0 : Int)) ∧ (IntKind.u32 = IntKind.u32 ∧ (0 : Int) = imm w) ∧ false = false ∧ (IntKind.i64 = IntKind.i64 ∧ (0 : Int) = (0 : Int)) ∧ (IntKind.i64 = IntKind.i64 ∧ (0 :
      Int) = (0 : Int)) ∧ false = false ∧ (bits BinOp.and IntKind.u32 (w.fdiv (1048576 : Int)) (1 : Int) != (0 : Int)) = false ∧ false = false ∧ false = false ∧ (bits BinOp.and
      IntKind.u32 (w.fdiv (16777216 : Int)) (1 : Int) != (0 : Int)) = false ∧ (bits BinOp.and IntKind.u32 (w.fdiv (8388608 : Int)) (1 : Int) != (0 : Int)) = false ∧ true = false
      ∧ false = false ∧ (IntKind.i64 = IntKind.i64 ∧ (0 : Int) = (0 : Int)) ∧ false = lnk w ∧ false = false ∧ false = false) ∧ ((bits BinOp.and IntKind.u32 (w.fdiv (2097152 :
      Int)) (1 : Int) != (0 : Int)) = false → (IntKind.i64 = IntKind.i64 ∧ (6 : Int) = (9 : Int)) ∧ (IntKind.i64 = IntKind.i64 ∧ (0 : Int) = (0 : Int)) ∧ (IntKind.i64 =
      IntKind.i64 ∧ IntKind.i64.wrap (bits BinOp.and IntKind.u32 (w.fdiv (32 : Int)) (3 : Int)) = (0 : Int)) ∧ false = false ∧ (IntKind.i64 = IntKind.i64 ∧ IntKind.i64.wrap
      (bits BinOp.and IntKind.u32 (w.fdiv (4096 : Int)) (15 : Int)) = (0 : Int)) ∧ (IntKind.i64 = IntKind.i64 ∧ IntKind.i64.wrap (bits BinOp.and IntKind.u32 (w.fdiv (65536 :
      Int)) (15 : Int)) = (0 : Int)) ∧ (IntKind.i64 = IntKind.i64 ∧ (0 : Int) = (0 : Int)) ∧ (IntKind.i64 = IntKind.i64 ∧ IntKind.i64.wrap (bits BinOp.and IntKind.u32 (w.fdiv (1
      : Int)) (15 : Int)) = (0 : Int)) ∧ (IntKind.u32 = IntKind.u32 ∧ (0 : Int) = imm w) ∧ false = false ∧ (IntKind.i64 = IntKind.i64 ∧ (0 : Int) = (0 : Int)) ∧ (IntKind.i64 =
      IntKind.i64 ∧ (0 : Int) = (0 : Int)) ∧ false = false ∧ (bits BinOp.and IntKind.u32 (w.fdiv (1048576 : Int)) (1 : Int) != (0 : Int)) = false ∧ false = false ∧ false = false
      ∧ (bits BinOp.and IntKind.u32 (w.fdiv (16777216 : Int)) (1 : Int) != (0 : Int)) = false ∧ (bits BinOp.and IntKind.u32 (w.fdiv (8388608 : Int)) (1 : Int) != (0 : Int)) =
      false ∧ (!bits BinOp.and IntKind.u32 (w.fdiv (16777216 : Int)) (1 : Int) != (0 : Int)) = false ∧ false = false ∧ (IntKind.i64 = IntKind.i64 ∧ (0 : Int) = (0 : Int)) ∧
      false = lnk w ∧ false = false ∧ false = false))) ∧ ((bits BinOp.and IntKind.u32 w (1048816 : Int) == (176 : Int)) = false → ((bits BinOp.and IntKind.u32 w (268435440 :
      Int) == (19922704 : Int)) = true → (IntKind.i64 = IntKind.i64 ∧ (5 : Int) = (9 : Int)) ∧ (IntKind.i64 = IntKind.i64 ∧ (0 : Int) = (0 : Int)) ∧ (IntKind.i64 = IntKind.i64 ∧
      (0 : Int) = (0 : Int)) ∧ false = false ∧ (IntKind.i64 = IntKind.i64 ∧ (0 : Int) = (0 : Int)) ∧ (IntKind.i64 = IntKind.i64 ∧ (0 : Int) = (0 : Int)) ∧ (IntKind.i64 =
      IntKind.i64 ∧ (0 : Int) = (0 : Int)) ∧ (IntKind.i64 = IntKind.i64 ∧ IntKind.i64.wrap (bits BinOp.and IntKind.u32 (w.fdiv (1 : Int)) (15 : Int)) = (0 : Int)) ∧ (IntKind.u32
      = IntKind.u32 ∧ (0 : Int) = imm w) ∧ false = false ∧ (IntKind.i64 = IntKind.i64 ∧ (0 : Int) = (0 : Int)) ∧ (IntKind.i64 = IntKind.i64 ∧ (0 : Int) = (0 : Int)) ∧ false =
      false ∧ false = false ∧ false = false ∧ false = false ∧ false = false ∧ false = false ∧ false = false ∧ false = false ∧ (IntKind.i64 = IntKind.i64 ∧ (0 : Int) = (0 : Int))
      ∧ false = lnk w ∧ false = false ∧ false = false) ∧ ((bits BinOp.and IntKind.u32 w (268435440 : Int) == (19922704 : Int)) = false → ((bits BinOp.and IntKind.u32 w
      (264179711 : Int) == (17760256 : Int)) = true → (IntKind.i64 = IntKind.i64 ∧ (11 : Int) = (9 : Int)) ∧ (IntKind.i64 = IntKind.i64 ∧ (0 : Int) = (0 : Int)) ∧ (IntKind.i64 =
      IntKind.i64 ∧ (0 : Int) = (0 : Int)) ∧ false = false ∧ (IntKind.i64 = IntKind.i64 ∧ IntKind.i64.wrap (bits BinOp.and IntKind.u32 (w.fdiv (4096 : Int)) (15 : Int)) = (0 :
      Int)) ∧ (IntKind.i64 = IntKind.i64 ∧ (0 : Int) = (0 : Int)) ∧ (IntKind.i64 = IntKind.i64 ∧ (0 : Int) = (0 : Int)) ∧ (IntKind.i64 = IntKind.i64 ∧ (0 : Int) = (0 : Int)) ∧
      (IntKind.u32 = IntKind.u32 ∧ (0 : Int) = imm w) ∧ false = false ∧ (IntKind.i64 = IntKind.i64 ∧ (0 : Int) = (0 : Int)) ∧ (IntKind.i64 = IntKind.i64 ∧ (0 : Int) = (0 : Int))
      ∧ false = false ∧ false = false ∧ false = false ∧ false = false ∧ false = false ∧ false = false ∧ false = false ∧ (bits BinOp.and IntKind.u32 (w.fdiv (4194304 : Int)) (1 :
      Int) != (0 : Int)) = false ∧ (IntKind.i64 = IntKind.i64 ∧ (0 : Int) = (0 : Int)) ∧ false = lnk w ∧ false = false ∧ false = false) ∧ ((bits BinOp.and IntKind.u32 w
      (264179711 : Int) == (17760256 : Int)) = false → ((bits BinOp.and IntKind.u32 w (263258096 : Int) == (18935808 : Int)) = true → (IntKind.i64 = IntKind.i64 ∧ (12 : Int) =
      (9 : Int)) ∧ (IntKind.i64 = IntKind.i64 ∧ (0 : Int) = (0 : Int)) ∧ (IntKind.i64 = IntKind.i64 ∧ (0 : Int) = (0 : Int)) ∧ false = false ∧ (IntKind.i64 = IntKind.i64 ∧ (0 :
      Int) = (0 : Int)) ∧ (IntKind.i64 = IntKind.i64 ∧ (0 : Int) = (0 : Int)) ∧ (IntKind.i64 = IntKind.i64 ∧ (0 : Int) = (0 : Int)) ∧ (IntKind.i64 = IntKind.i64 ∧
      IntKind.i64.wrap (bits BinOp.and IntKind.u32 (w.fdiv (1 : Int)) (15 : Int)) = (0 : Int)) ∧ (IntKind.u32 = IntKind.u32 ∧ (0 : Int) = imm w) ∧ false = false ∧ (IntKind.i64 =
      IntKind.i64 ∧ (0 : Int) = (0 : Int)) ∧ (IntKind.i64 = IntKind.i64 ∧ (0 : Int) = (0 : Int)) ∧ false = false ∧ false = false ∧ false = false ∧ false = false ∧ false = false
      ∧ false = false ∧ false = false ∧ (bits BinOp.and IntKind.u32 (w.fdiv (4194304 : Int)) (1 : Int) != (0 : Int)) = false ∧ (IntKind.i64 = IntKind.i64 ∧ IntKind.i64.wrap
      (bits BinOp.and IntKind.u32 (w.fdiv (65536 : Int)) (15 : Int)) = (0 : Int)) ∧ false = lnk w ∧ false = false ∧ false = false) ∧ ((bits BinOp.and IntKind.u32 w (263258096 :
      Int) == (18935808 : Int)) = false → ((!bits BinOp.and IntKind.u32 (w.fdiv (16 : Int)) (1 : Int) != (0 : Int)) = true → (decide (IntKind.i64.wrap (bits BinOp.and
      IntKind.u32 (w.fdiv (2097152 : Int)) (15 : Int)) ≥ (8 : Int)) = true → (decide (IntKind.i64.wrap (bits BinOp.and IntKind.u32 (w.fdiv (2097152 : Int)) (15 : Int)) ≤ (11 :
      Int)) = true → ((!bits BinOp.and IntKind.u32 (w.fdiv (1048576 : Int)) (1 : Int) != (0 : Int)) = true → (IntKind.i64 = IntKind.i64 ∧ (0 : Int) = (9 : Int)) ∧ (IntKind.i64 =
      IntKind.i64 ∧ (0 : Int) = (0 : Int)) ∧ (IntKind.i64 = IntKind.i64 ∧ (0 : Int) = (0 : Int)) ∧ false = false ∧ (IntKind.i64 = IntKind.i64 ∧ (0 : Int) = (0 : Int)) ∧
      (IntKind.i64 = IntKind.i64 ∧ (0 : Int) = (0 : Int)) ∧ (IntKind.i64 = IntKind.i64 ∧ (0 : Int) = (0 : Int)) ∧ (IntKind.i64 = IntKind.i64 ∧ (0 : Int) = (0 : Int)) ∧
      (IntKind.u32 = IntKind.u32 ∧ (0 : Int) = imm w) ∧ false = false ∧ (IntKind.i64 = IntKind.i64 ∧ (0 : Int) = (0 : Int)) ∧ (IntKind.i64 = IntKind.i64 ∧ (0 : Int) = (0 : Int))
      ∧ false = false ∧ false = false ∧ false = false ∧ false = false ∧ false = false ∧ false = false ∧ false = false ∧ false = false ∧ (IntKind.i64 = IntKind.i64 ∧ (0 : Int) =
      (0 : Int)) ∧ false = lnk w ∧ false = false ∧ false = false) ∧ ((!bits BinOp.and IntKind.u32 (w.fdiv (1048576 : Int)) (1 : Int) != (0 : Int)) = false → (IntKind.i64 =
      IntKind.i64 ∧ (1 : Int) = (9 : Int)) ∧ (IntKind.i64 = IntKind.i64 ∧ (0 : Int) = (0 : Int)) ∧ (IntKind.i64 = IntKind.i64 ∧ IntKind.i64.wrap (bits BinOp.and IntKind.u32
      (w.fdiv (2097152 : Int)) (15 : Int)) = (0 : Int)) ∧ (bits BinOp.and IntKind.u32 (w.fdiv (1048576 : Int)) (1 : Int) != (0 : Int)) = false ∧ (IntKind.i64 = IntKind.i64 ∧
      IntKind.i64.wrap (bits BinOp.and IntKind.u32 (w.fdiv (4096 : Int)) (15 : Int)) = (0 : Int)) ∧ (IntKind.i64 = IntKind.i64 ∧ IntKind.i64.wrap (bits BinOp.and IntKind.u32
      (w.fdiv (65536 : Int)) (15 : Int)) = (0 : Int)) ∧ (IntKind.i64 = IntKind.i64 ∧ (0 : Int) = (0 : Int)) ∧ (IntKind.i64 = IntKind.i64 ∧ IntKind.i64.wrap (bits BinOp.and
      IntKind.u32 (w.fdiv (1 : Int)) (15 : Int)) = (0 : Int)) ∧ (IntKind.u32 = IntKind.u32 ∧ (0 : Int) = imm w) ∧ false = false ∧ (IntKind.i64 = IntKind.i64 ∧ IntKind.i64.wrap
      (bits BinOp.and IntKind.u32 (w.fdiv (32 : Int)) (3 : Int)) = (0 : Int)) ∧ (IntKind.i64 = IntKind.i64 ∧ IntKind.i64.wrap (bits BinOp.and IntKind.u32 (w.fdiv (128 : Int))
      (31 : Int)) = (0 : Int)) ∧ false = false ∧ false = false ∧ false = false ∧ false = false ∧ false = false ∧ false = false ∧ false = false ∧ false = false ∧ (IntKind.i64 =
      IntKind.i64 ∧ (0 : Int) = (0 : Int)) ∧ false = lnk w ∧ false = false ∧ false = false)) ∧ (decide (IntKind.i64.wrap (bits BinOp.and IntKind.u32 (w.fdiv (2097152 : Int)) (15
      : Int)) ≤ (11 : Int)) = false → (IntKind.i64 = IntKind.i64 ∧ (1 : Int) = (9 : Int)) ∧ (IntKind.i64 = IntKind.i64 ∧ (0 : Int) = (0 : Int)) ∧ (IntKind.i64 = IntKind.i64 ∧
      IntKind.i64.wrap (bits BinOp.and IntKind.u32 (w.fdiv (2097152 : Int)) (15 : Int)) = (0 : Int)) ∧ (bits BinOp.and IntKind.u32 (w.fdiv (1048576 : Int)) (1 : Int) != (0 :
      Int)) = false ∧ (IntKind.i64 = IntKind.i64 ∧ IntKind.i64.wrap (bits BinOp.and IntKind.u32 (w.fdiv (4096 : Int)) (15 : Int)) = (0 : Int)) ∧ (IntKind.i64 = IntKind.i64 ∧
      IntKind.i64.wrap (bits BinOp.and IntKind.u32 (w.fdiv (65536 : Int)) (15 : Int)) = (0 : Int)) ∧ (IntKind.i64 = IntKind.i64 ∧ (0 : Int) = (0 : Int)) ∧ (IntKind.i64 =
      IntKind.i64 ∧ IntKind.i64.wrap (bits BinOp.and IntKind.u32 (w.fdiv (1 : Int)) (15 : Int)) = (0 : Int)) ∧ (IntKind.u32 = IntKind.u32 ∧ (0 : Int) = imm w) ∧ false = false ∧
      (IntKind.i64 = IntKind.i64 ∧ IntKind.i64.wrap (bits BinOp.and IntKind.u32 (w.fdiv (32 : Int)) (3 : Int)) = (0 : Int)) ∧ (IntKind.i64 = IntKind.i64 ∧ IntKind.i64.wrap (bits
      BinOp.and IntKind.u32 (w.fdiv (128 : Int)) (31 : Int)) = (0 : Int)) ∧ false = false ∧ false = false ∧ false = false ∧ false = false ∧ false = false ∧ false = false ∧ false
      = false ∧ false = false ∧ (IntKind.i64 = IntKind.i64 ∧ (0 : Int) = (0 : Int)) ∧ false = lnk w ∧ false = false ∧ false = false)) ∧ (decide (IntKind.i64.wrap (bits BinOp.and
      IntKind.u32 (w.fdiv (2097152 : Int)) (15 : Int)) ≥ (8 : Int)) = false → (IntKind.i64 = IntKind.i64 ∧ (1 : Int) = (9 : Int)) ∧ (IntKind.i64 = IntKind.i64 ∧ (0 : Int) = (0 :
      Int)) ∧ (IntKind.i64 = IntKind.i64 ∧ IntKind.i64.wrap (bits BinOp.and IntKind.u32 (w.fdiv (2097152 : Int)) (15 : Int)) = (0 : Int)) ∧ (bits BinOp.and IntKind.u32 (w.fdiv
      (1048576 : Int)) (1 : Int) != (0 : Int)) = false ∧ (IntKind.i64 = IntKind.i64 ∧ IntKind.i64.wrap (bits BinOp.and IntKind.u32 (w.fdiv (4096 : Int)) (15 : Int)) = (0 : Int))
      ∧ (IntKind.i64 = IntKind.i64 ∧ IntKind.i64.wrap (bits BinOp.and IntKind.u32 (w.fdiv (65536 : Int)) (15 : Int)) = (0 : Int)) ∧ (IntKind.i64 = IntKind.i64 ∧ (0 : Int) = (0 :
      Int)) ∧ (IntKind.i64 = IntKind.i64 ∧ IntKind.i64.wrap (bits BinOp.and IntKind.u32 (w.fdiv (1 : Int)) (15 : Int)) = (0 : Int)) ∧ (IntKind.u32 = IntKind.u32 ∧ (0 : Int) =
      imm w) ∧ false = false ∧ (IntKind.i64 = IntKind.i64 ∧ IntKind.i64.wrap (bits BinOp.and IntKind.u32 (w.fdiv (32 : Int)) (3 : Int)) = (0 : Int)) ∧ (IntKind.i64 = IntKind.i64
      ∧ IntKind.i64.wrap (bits BinOp.and IntKind.u32 (w.fdiv (128 : Int)) (31 : Int)) = (0 : Int)) ∧ false = false ∧ false = false ∧ false = false ∧ false = false ∧ false =
      false ∧ false = false ∧ false = false ∧ false = false ∧ (IntKind.i64 = IntKind.i64 ∧ (0 : Int) = (0 : Int)) ∧ false = lnk w ∧ false = false ∧ false = false)) ∧ ((!bits
      BinOp.and IntKind.u32 (w.fdiv (16 : Int)) (1 : Int) != (0 : Int)) = false → ((!bits BinOp.and IntKind.u32 (w.fdiv (128 : Int)) (1 : Int) != (0 : Int)) = true → (decide
      (IntKind.i64.wrap (bits BinOp.and IntKind.u32 (w.fdiv (2097152 : Int)) (15 : Int)) ≥ (8 : Int)) = true → (decide (IntKind.i64.wrap (bits BinOp.and IntKind.u32 (w.fdiv
      (2097152 : Int)) (15 : Int)) ≤ (11 : Int)) = true → ((!bits BinOp.and IntKind.u32 (w.fdiv (1048576 : Int)) (1 : Int) != (0 : Int)) = true → (IntKind.i64 = IntKind.i64 ∧ (0
      : Int) = (9 : Int)) ∧ (IntKind.i64 = IntKind.i64 ∧ (0 : Int) = (0 : Int)) ∧ (IntKind.i64 = IntKind.i64 ∧ (0 : Int) = (0 : Int)) ∧ false = false ∧ (IntKind.i64 =
      IntKind.i64 ∧ (0 : Int) = (0 : Int)) ∧ (IntKind.i64 = IntKind.i64 ∧ (0 : Int) = (0 : Int)) ∧ (IntKind.i64 = IntKind.i64 ∧ (0 : Int) = (0 : Int)) ∧ (IntKind.i64 =
      IntKind.i64 ∧ (0 : Int) = (0 : Int)) ∧ (IntKind.u32 = IntKind.u32 ∧ (0 : Int) = imm w) ∧ false = false ∧ (IntKind.i64 = IntKind.i64 ∧ (0 : Int) = (0 : Int)) ∧ (IntKind.i64
      = IntKind.i64 ∧ (0 : Int) = (0 : Int)) ∧ false = false ∧ false = false ∧ false = false ∧ false = false ∧ false = false ∧ false = false ∧ false = false ∧ false = false ∧
      (IntKind.i64 = IntKind.i64 ∧ (0 : Int) = (0 : Int)) ∧ false = lnk w ∧ false = false ∧ false = false) ∧ ((!bits BinOp.and IntKind.u32 (w.fdiv (1048576 : Int)) (1 : Int) !=
      (0 : Int)) = false → (IntKind.i64 = IntKind.i64 ∧ (1 : Int) = (9 : Int)) ∧ (IntKind.i64 = IntKind.i64 ∧ (0 : Int) = (0 : Int)) ∧ (IntKind.i64 = IntKind.i64 ∧
      IntKind.i64.wrap (bits BinOp.and IntKind.u32 (w.fdiv (2097152 : Int)) (15 : Int)) = (0 : Int)) ∧ (bits BinOp.and IntKind.u32 (w.fdiv (1048576 : Int)) (1 : Int) != (0 :
      Int)) = false ∧ (IntKind.i64 = IntKind.i64 ∧ IntKind.i64.wrap (bits BinOp.and IntKind.u32 (w.fdiv (4096 : Int)) (15 : Int)) = (0 : Int)) ∧ (IntKind.i64 = IntKind.i64 ∧
      IntKind.i64.wrap (bits BinOp.and IntKind.u32 (w.fdiv (65536 : Int)) (15 : Int)) = (0 : Int)) ∧ (IntKind.i64 = IntKind.i64 ∧ IntKind.i64.wrap (bits BinOp.and IntKind.u32
      (w.fdiv (256 : Int)) (15 : Int)) = (0 : Int)) ∧ (IntKind.i64 = IntKind.i64 ∧ IntKind.i64.wrap (bits BinOp.and IntKind.u32 (w.fdiv (1 : Int)) (15 : Int)) = (0 : Int)) ∧
      (IntKind.u32 = IntKind.u32 ∧ (0 : Int) = imm w) ∧ false = false ∧ (IntKind.i64 = IntKind.i64 ∧ IntKind.i64.wrap (bits BinOp.and IntKind.u32 (w.fdiv (32 : Int)) (3 : Int))
      = (0 : Int)) ∧ (IntKind.i64 = IntKind.i64 ∧ (0 : Int) = (0 : Int)) ∧ true = false ∧ false = false ∧ false = false ∧ false = false ∧ false = false ∧ false = false ∧ false =
      false ∧ false = false ∧ (IntKind.i64 = IntKind.i64 ∧ (0 : Int) = (0 : Int)) ∧ false = lnk w ∧ false = false ∧ false = false)) ∧ (decide (IntKind.i64.wrap (bits BinOp.and
      IntKind.u32 (w.fdiv (2097152 : Int)) (15 : Int)) ≤ (11 : Int)) = false → (IntKind.i64 = IntKind.i64 ∧ (1 : Int) = (9 : Int)) ∧ (IntKind.i64 = IntKind.i64 ∧ (0 : Int) = (0
      : Int)) ∧ (IntKind.i64 = IntKind.i64 ∧ IntKind.i64.wrap (bits BinOp.and IntKind.u32 (w.fdiv (2097152 : Int)) (15 : Int)) = (0 : Int)) ∧ (bits BinOp.and IntKind.u32 (w.fdiv
      (1048576 : Int)) (1 : Int) != (0 : Int)) = false ∧ (IntKind.i64 = IntKind.i64 ∧ IntKind.i64.wrap (bits BinOp.and IntKind.u32 (w.fdiv (4096 : Int)) (15 : Int)) = (0 : Int))
      ∧ (IntKind.i64 = IntKind.i64 ∧ IntKind.i64.wrap (bits BinOp.and IntKind.u32 (w.fdiv (65536 : Int)) (15 : Int)) = (0 : Int)) ∧ (IntKind.i64 = IntKind.i64 ∧ IntKind.i64.wrap
      (bits BinOp.and IntKind.u32 (w.fdiv (256 : Int)) (15 : Int)) = (0 : Int)) ∧ (IntKind.i64 = IntKind.i64 ∧ IntKind.i64.wrap (bits BinOp.and IntKind.u32 (w.fdiv (1 : Int))
      (15 : Int)) = (0 : Int)) ∧ (IntKind.u32 = IntKind.u32 ∧ (0 : Int) = imm w) ∧ false = false ∧ (IntKind.i64 = IntKind.i64 ∧ IntKind.i64.wrap (bits BinOp.and IntKind.u32
      (w.fdiv (32 : Int)) (3 : Int)) = (0 : Int)) ∧ (IntKind.i64 = IntKind.i64 ∧ (0 : Int) = (0 : Int)) ∧ true = false ∧ false = false ∧ false = false ∧ false = false ∧ false =
      false ∧ false = false ∧ false = false ∧ false = false ∧ (IntKind.i64 = IntKind.i64 ∧ (0 : Int) = (0 : Int)) ∧ false = lnk w ∧ false = false ∧ false = false)) ∧ (decide
      (IntKind.i64.wrap (bits BinOp.and IntKind.u32 (w.fdiv (2097152 : Int)) (15 : Int)) ≥ (8 : Int)) = false → (IntKind.i64 = IntKind.i64 ∧ (1 : Int) = (9 : Int)) ∧
      (IntKind.i64 = IntKind.i64 ∧ (0 : Int) = (0 : Int)) ∧ (IntKind.i64 = IntKind.i64 ∧ IntKind.i64.wrap (bits BinOp.and IntKind.u32 (w.fdiv (2097152 : Int)) (15 : Int)) = (0 :
      Int)) ∧ (bits BinOp.and IntKind.u32 (w.fdiv (1048576 : Int)) (1 : Int) != (0 : Int)) = false ∧ (IntKind.i64 = IntKind.i64 ∧ IntKind.i64.wrap (bits BinOp.and IntKind.u32
      (w.fdiv (4096 : Int)) (15 : Int)) = (0 : Int)) ∧ (IntKind.i64 = IntKind.i64 ∧ IntKind.i64.wrap (bits BinOp.and IntKind.u32 (w.fdiv (65536 : Int)) (15 : Int)) = (0 : Int))
      ∧ (IntKind.i64 = IntKind.i64 ∧ IntKind.i64.wrap (bits BinOp.and IntKind.u32 (w.fdiv (256 : Int)) (15 : Int)) = (0 : Int)) ∧ (IntKind.i64 = IntKind.i64 ∧ IntKind.i64.wrap
      (bits BinOp.and IntKind.u32 (w.fdiv (1 : Int)) (15 : Int)) = (0 : Int)) ∧ (IntKind.u32 = IntKind.u32 ∧ (0 : Int) = imm w) ∧ false = false ∧ (IntKind.i64 = IntKind.i64 ∧
      IntKind.i64.wrap (bits BinOp.and IntKind.u32 (w.fdiv (32 : Int)) (3 : Int)) = (0 : Int)) ∧ (IntKind.i64 = IntKind.i64 ∧ (0 : Int) = (0 : Int)) ∧ true = false ∧ false =
      false ∧ false = false ∧ false = false ∧ false = false ∧ false = false ∧ false = false ∧ false = false ∧ (IntKind.i64 = IntKind.i64 ∧ (0 : Int) = (0 : Int)) ∧ false = lnk w
      ∧ false = false ∧ false = false)) ∧ ((!bits BinOp.and IntKind.u32 (w.fdiv (128 : Int)) (1 : Int) != (0 : Int)) = false → (IntKind.i64 = IntKind.i64 ∧ (0 : Int) = (9 :
      Int)) ∧ (IntKind.i64 = IntKind.i64 ∧ (0 : Int) = (0 : Int)) ∧ (IntKind.i64 = IntKind.i64 ∧ (0 : Int) = (0 : Int)) ∧ false = false ∧ (IntKind.i64 = IntKind.i64 ∧ (0 : Int)
      = (0 : Int)) ∧ (IntKind.i64 = IntKind.i64 ∧ (0 : Int) = (0 : Int)) ∧ (IntKind.i64 = IntKind.i64 ∧ (0 : Int) = (0 : Int)) ∧ (IntKind.i64 = IntKind.i64 ∧ (0 : Int) = (0 :
      Int)) ∧ (IntKind.u32 = IntKind.u32 ∧ (0 : Int) = imm w) ∧ false = false ∧ (IntKind.i64 = IntKind.i64 ∧ (0 : Int) = (0 : Int)) ∧ (IntKind.i64 = IntKind.i64 ∧ (0 : Int) = (0
      : Int)) ∧ false = false ∧ false = false ∧ false = false ∧ false = false ∧ false = false ∧ false = false ∧ false = false ∧ false = false ∧ (IntKind.i64 = IntKind.i64 ∧ (0 :
      Int) = (0 : Int)) ∧ false = lnk w ∧ false = false ∧ false = false))))))))))) ∧ ((IntKind.i64.wrap (bits BinOp.and IntKind.u32 (w.fdiv (33554432 : Int)) (7 : Int)) == (0 :
      Int)) = false → ((IntKind.i64.wrap (bits BinOp.and IntKind.u32 (w.fdiv (33554432 : Int)) (7 : Int)) == (1 : Int)) = true → ((bits BinOp.and IntKind.u32 w (263254016 : Int)
      == (52490240 : Int)) = true → (IntKind.i64 = IntKind.i64 ∧ (12 : Int) = (9 : Int)) ∧ (IntKind.i64 = IntKind.i64 ∧ (0 : Int) = (0 : Int)) ∧ (IntKind.i64 = IntKind.i64 ∧ (0
      : Int) = (0 : Int)) ∧ false = false ∧ (IntKind.i64 = IntKind.i64 ∧ (0 : Int) = (0 : Int)) ∧ (IntKind.i64 = IntKind.i64 ∧ (0 : Int) = (0 : Int)) ∧ (IntKind.i64 =
      IntKind.i64 ∧ (0 : Int) = (0 : Int)) ∧ (IntKind.i64 = IntKind.i64 ∧ (0 : Int) = (0 : Int)) ∧ (IntKind.u32 = IntKind.u32 ∧ bits BinOp.and IntKind.u32 w (255 : Int) = imm w)
      ∧ true = false ∧ (IntKind.i64 = IntKind.i64 ∧ (0 : Int) = (0 : Int)) ∧ (IntKind.i64 = IntKind.i64 ∧ IntKind.i64.wrap (bits BinOp.and IntKind.u32 (w.fdiv (256 : Int)) (15 :
      Int)) = (0 : Int)) ∧ false = false ∧ false = false ∧ false = false ∧ false = false ∧ false = false ∧ false = false ∧ false = false ∧ (bits BinOp.and IntKind.u32 (w.fdiv
      (4194304 : Int)) (1 : Int) != (0 : Int)) = false ∧ (IntKind.i64 = IntKind.i64 ∧ IntKind.i64.wrap (bits BinOp.and IntKind.u32 (w.fdiv (65536 : Int)) (15 : Int)) = (0 :
      Int)) ∧ false = lnk w ∧ false = false ∧ false = false) ∧ ((bits BinOp.and IntKind.u32 w (263254016 : Int) == (52490240 : Int)) = false → (decide (IntKind.i64.wrap (bits
      BinOp.and IntKind.u32 (w.fdiv (2097152 : Int)) (15 : Int)) ≥ (8 : Int)) = true → (decide (IntKind.i64.wrap (bits BinOp.and IntKind.u32 (w.fdiv (2097152 : Int)) (15 : Int))
      ≤ (11 : Int)) = true → ((!bits BinOp.and IntKind.u32 (w.fdiv (1048576 : Int)) (1 : Int) != (0 : Int)) = true → (IntKind.i64 = IntKind.i64 ∧ (0 : Int) = (9 : Int)) ∧
      (IntKind.i64 = IntKind.i64 ∧ (0 : Int) = (0 : Int)) ∧ (IntKind.i64 = IntKind.i64 ∧ (0 : Int) = (0 : Int)) ∧ false = false ∧ (IntKind.i64 = IntKind.i64 ∧ (0 : Int) = (0 :
      Int)) ∧ (IntKind.i64 = IntKind.i64 ∧ (0 : Int) = (0 : Int)) ∧ (IntKind.i64 = IntKind.i64 ∧ (0 : Int) = (0 : Int)) ∧ (IntKind.i64 = IntKind.i64 ∧ (0 : Int) = (0 : Int)) ∧
      (IntKind.u32 = IntKind.u32 ∧ (0 : Int) = imm w) ∧ false = false ∧ (IntKind.i64 = IntKind.i64 ∧ (0 : Int) = (0 : Int)) ∧ (IntKind.i64 = IntKind.i64 ∧ (0 : Int) = (0 : Int))
      ∧ false = false ∧ false = false ∧ false = false ∧ false = false ∧ false = false ∧ false = false ∧ false = false ∧ false = false ∧ (IntKind.i64 = IntKind.i64 ∧ (0 : Int) =
      (0 : Int)) ∧ false = lnk w ∧ false = false ∧ false = false) ∧ ((!bits BinOp.and IntKind.u32 (w.fdiv (1048576 : Int)) (1 : Int) != (0 : Int)) = false → (IntKind.i64 =
      IntKind.i64 ∧ (1 : Int) = (9 : Int)) ∧ (IntKind.i64 = IntKind.i64 ∧ (0 : Int) = (0 : Int)) ∧ (IntKind.i64 = IntKind.i64 ∧ IntKind.i64.wrap (bits BinOp.and IntKind.u32
      (w.fdiv (2097152 : Int)) (15 : Int)) = (0 : Int)) ∧ (bits BinOp.and IntKind.u32 (w.fdiv (1048576 : Int)) (1 : Int) != (0 : Int)) = false ∧ (IntKind.i64 = IntKind.i64 ∧
      IntKind.i64.wrap (bits BinOp.and IntKind.u32 (w.fdiv (4096 : Int)) (15 : Int)) = (0 : Int)) ∧ (IntKind.i64 = IntKind.i64 ∧ IntKind.i64.wrap (bits BinOp.and IntKind.u32
      (w.fdiv (65536 : Int)) (15 : Int)) = (0 : Int)) ∧ (IntKind.i64 = IntKind.i64 ∧ (0 : Int) = (0 : Int)) ∧ (IntKind.i64 = IntKind.i64 ∧ (0 : Int) = (0 : Int)) ∧ (IntKind.u32
      = IntKind.u32 ∧ bits BinOp.and IntKind.u32 w (255 : Int) = imm w) ∧ true = false ∧ (IntKind.i64 = IntKind.i64 ∧ (0 : Int) = (0 : Int)) ∧ (IntKind.i64 = IntKind.i64 ∧
      IntKind.i64.wrap (bits BinOp.and IntKind.u32 (w.fdiv (256 : Int)) (15 : Int)) = (0 : Int)) ∧ false = false ∧ false = false ∧ false = false ∧ false = false ∧ false = false
      ∧ false = false ∧ false = false ∧ false = false ∧ (IntKind.i64 = IntKind.i64 ∧ (0 : Int) = (0 : Int)) ∧ false = lnk w ∧ false = false ∧ false = false)) ∧ (decide
      (IntKind.i64.wrap (bits BinOp.and IntKind.u32 (w.fdiv (2097152 : Int)) (15 : Int)) ≤ (11 : Int)) = false → (IntKind.i64 = IntKind.i64 ∧ (1 : Int) = (9 : Int)) ∧
      (IntKind.i64 = IntKind.i64 ∧ (0 : Int) = (0 : Int)) ∧ (IntKind.i64 = IntKind.i64 ∧ IntKind.i64.wrap (bits BinOp.and IntKind.u32 (w.fdiv (2097152 : Int)) (15 : Int)) = (0 :
      Int)) ∧ (bits BinOp.and IntKind.u32 (w.fdiv (1048576 : Int)) (1 : Int) != (0 : Int)) = false ∧ (IntKind.i64 = IntKind.i64 ∧ IntKind.i64.wrap (bits BinOp.and IntKind.u32
      (w.fdiv (4096 : Int)) (15 : Int)) = (0 : Int)) ∧ (IntKind.i64 = IntKind.i64 ∧ IntKind.i64.wrap (bits BinOp.and IntKind.u32 (w.fdiv (65536 : Int)) (15 : Int)) = (0 : Int))
      ∧ (IntKind.i64 = IntKind.i64 ∧ (0 : Int) = (0 : Int)) ∧ (IntKind.i64 = IntKind.i64 ∧ (0 : Int) = (0 : Int)) ∧ (IntKind.u32 = IntKind.u32 ∧ bits BinOp.and IntKind.u32 w
      (255 : Int) = imm w) ∧ true = false ∧ (IntKind.i64 = IntKind.i64 ∧ (0 : Int) = (0 : Int)) ∧ (IntKind.i64 = IntKind.i64 ∧ IntKind.i64.wrap (bits BinOp.and IntKind.u32
      (w.fdiv (256 : Int)) (15 : Int)) = (0 : Int)) ∧ false = false ∧ false = false ∧ false = false ∧ false = false ∧ false = false ∧ false = false ∧ false = false ∧ false =
      false ∧ (IntKind.i64 = IntKind.i64 ∧ (0 : Int) = (0 : Int)) ∧ false = lnk w ∧ false = false ∧ false = false)) ∧ (decide (IntKind.i64.wrap (bits BinOp.and IntKind.u32
      (w.fdiv (2097152 : Int)) (15 : Int)) ≥ (8 : Int)) = false → (IntKind.i64 = IntKind.i64 ∧ (1 : Int) = (9 : Int)) ∧ (IntKind.i64 = IntKind.i64 ∧ (0 : Int) = (0 : Int)) ∧
      (IntKind.i64 = IntKind.i64 ∧ IntKind.i64.wrap (bits BinOp.and IntKind.u32 (w.fdiv (2097152 : Int)) (15 : Int)) = (0 : Int)) ∧ (bits BinOp.and IntKind.u32 (w.fdiv (1048576
      : Int)) (1 : Int) != (0 : Int)) = false ∧ (IntKind.i64 = IntKind.i64 ∧ IntKind.i64.wrap (bits BinOp.and IntKind.u32 (w.fdiv (4096 : Int)) (15 : Int)) = (0 : Int)) ∧
      (IntKind.i64 = IntKind.i64 ∧ IntKind.i64.wrap (bits BinOp.and IntKind.u32 (w.fdiv (65536 : Int)) (15 : Int)) = (0 : Int)) ∧ (IntKind.i64 = IntKind.i64 ∧ (0 : Int) = (0 :
      Int)) ∧ (IntKind.i64 = IntKind.i64 ∧ (0 : Int) = (0 : Int)) ∧ (IntKind.u32 = IntKind.u32 ∧ bits BinOp.and IntKind.u32 w (255 : Int) = imm w) ∧ true = false ∧ (IntKind.i64
      = IntKind.i64 ∧ (0 : Int) = (0 : Int)) ∧ (IntKind.i64 = IntKind.i64 ∧ IntKind.i64.wrap (bits BinOp.and IntKind.u32 (w.fdiv (256 : Int)) (15 : Int)) = (0 : Int)) ∧ false =
      false ∧ false = false ∧ false = false ∧ false = false ∧ false = false ∧ false = false ∧ false = false ∧ false = false ∧ (IntKind.i64 = IntKind.i64 ∧ (0 : Int) = (0 : Int))
      ∧ false = lnk w ∧ false = false ∧ false = false))) ∧ ((IntKind.i64.wrap (bits BinOp.and IntKind.u32 (w.fdiv (33554432 : Int)) (7 : Int)) == (1 : Int)) = false →
      ((IntKind.i64.wrap (bits BinOp.and IntKind.u32 (w.fdiv (33554432 : Int)) (7 : Int)) == (2 : Int)) = true → ((bits BinOp.and IntKind.u32 (w.fdiv (33554432 : Int)) (1 : Int)
      != (0 : Int)) = true → ((bits BinOp.and IntKind.u32 (w.fdiv (2097152 : Int)) (1 : Int) != (0 : Int)) = true → (IntKind.i64 = IntKind.i64 ∧ (7 : Int) = (9 : Int)) ∧
      (IntKind.i64 = IntKind.i64 ∧ (0 : Int) = (0 : Int)) ∧ (IntKind.i64 = IntKind.i64 ∧ (0 : Int) = (0 : Int)) ∧ false = false ∧ (IntKind.i64 = IntKind.i64 ∧ IntKind.i64.wrap
      (bits BinOp.and IntKind.u32 (w.fdiv (4096 : Int)) (15 : Int)) = (0 : Int)) ∧ (IntKind.i64 = IntKind.i64 ∧ IntKind.i64.wrap (bits BinOp.and IntKind.u32 (w.fdiv (65536 :
      Int)) (15 : Int)) = (0 : Int)) ∧ (IntKind.i64 = IntKind.i64 ∧ (0 : Int) = (0 : Int)) ∧ (IntKind.i64 = IntKind.i64 ∧ IntKind.i64.wrap (bits BinOp.and IntKind.u32 (w.fdiv (1
      : Int)) (15 : Int)) = (0 : Int)) ∧ (IntKind.u32 = IntKind.u32 ∧ (0 : Int) = imm w) ∧ false = false ∧ (IntKind.i64 = IntKind.i64 ∧ IntKind.i64.wrap (bits BinOp.and
      IntKind.u32 (w.fdiv (32 : Int)) (3 : Int)) = (0 : Int)) ∧ (IntKind.i64 = IntKind.i64 ∧ IntKind.i64.wrap (bits BinOp.and IntKind.u32 (w.fdiv (128 : Int)) (31 : Int)) = (0 :
      Int)) ∧ false = false ∧ (bits BinOp.and IntKind.u32 (w.fdiv (1048576 : Int)) (1 : Int) != (0 : Int)) = false ∧ (bits BinOp.and IntKind.u32 (w.fdiv (4194304 : Int)) (1 :
      Int) != (0 : Int)) = false ∧ false = false ∧ (bits BinOp.and IntKind.u32 (w.fdiv (16777216 : Int)) (1 : Int) != (0 : Int)) = false ∧ (bits BinOp.and IntKind.u32 (w.fdiv
      (8388608 : Int)) (1 : Int) != (0 : Int)) = false ∧ true = false ∧ false = false ∧ (IntKind.i64 = IntKind.i64 ∧ (0 : Int) = (0 : Int)) ∧ false = lnk w ∧ false = false ∧
      false = false) ∧ ((bits BinOp.and IntKind.u32 (w.fdiv (2097152 : Int)) (1 : Int) != (0 : Int)) = false → (IntKind.i64 = IntKind.i64 ∧ (7 : Int) = (9 : Int)) ∧ (IntKind.i64
      = IntKind.i64 ∧ (0 : Int) = (0 : Int)) ∧ (IntKind.i64 = IntKind.i64 ∧ (0 : Int) = (0 : Int)) ∧ false = false ∧ (IntKind.i64 = IntKind.i64 ∧ IntKind.i64.wrap (bits
      BinOp.and IntKind.u32 (w.fdiv (4096 : Int)) (15 : Int)) = (0 : Int)) ∧ (IntKind.i64 = IntKind.i64 ∧ IntKind.i64.wrap (bits BinOp.and IntKind.u32 (w.fdiv (65536 : Int)) (15
      : Int)) = (0 : Int)) ∧ (IntKind.i64 = IntKind.i64 ∧ (0 : Int) = (0 : Int)) ∧ (IntKind.i64 = IntKind.i64 ∧ IntKind.i64.wrap (bits BinOp.and IntKind.u32 (w.fdiv (1 : Int))
      (15 : Int)) = (0 : Int)) ∧ (IntKind.u32 = IntKind.u32 ∧ (0 : Int) = imm w) ∧ false = false ∧ (IntKind.i64 = IntKind.i64 ∧ IntKind.i64.wrap (bits BinOp.and IntKind.u32
      (w.fdiv (32 : Int)) (3 : Int)) = (0 : Int)) ∧ (IntKind.i64 = IntKind.i64 ∧ IntKind.i64.wrap (bits BinOp.and IntKind.u32 (w.fdiv (128 : Int)) (31 : Int)) = (0 : Int)) ∧
      false = false ∧ (bits BinOp.and IntKind.u32 (w.fdiv (1048576 : Int)) (1 : Int) != (0 : Int)) = false ∧ (bits BinOp.and IntKind.u32 (w.fdiv (4194304 : Int)) (1 : Int) != (0
      : Int)) = false ∧ false = false ∧ (bits BinOp.and IntKind.u32 (w.fdiv (16777216 : Int)) (1 : Int) != (0 : Int)) = false ∧ (bits BinOp.and IntKind.u32 (w.fdiv (8388608 :
      Int)) (1 : Int) != (0 : Int)) = false ∧ (!bits BinOp.and IntKind.u32 (w.fdiv (16777216 : Int)) (1 : Int) != (0 : Int)) = false ∧ false = false ∧ (IntKind.i64 = IntKind.i64
      ∧ (0 : Int) = (0 : Int)) ∧ false = lnk w ∧ false = false ∧ false = false)) ∧ ((bits BinOp.and IntKind.u32 (w.fdiv (33554432 : Int)) (1 : Int) != (0 : Int)) = false →
      ((bits BinOp.and IntKind.u32 (w.fdiv (2097152 : Int)) (1 : Int) != (0 : Int)) = true → (IntKind.i64 = IntKind.i64 ∧ (7 : Int) = (9 : Int)) ∧ (IntKind.i64 = IntKind.i64 ∧
      (0 : Int) = (0 : Int)) ∧ (IntKind.i64 = IntKind.i64 ∧ (0 : Int) = (0 : Int)) ∧ false = false ∧ (IntKind.i64 = IntKind.i64 ∧ IntKind.i64.wrap (bits BinOp.and IntKind.u32
      (w.fdiv (4096 : Int)) (15 : Int)) = (0 : Int)) ∧ (IntKind.i64 = IntKind.i64 ∧ IntKind.i64.wrap (bits BinOp.and IntKind.u32 (w.fdiv (65536 : Int)) (15 : Int)) = (0 : Int))
      ∧ (IntKind.i64 = IntKind.i64 ∧ (0 : Int) = (0 : Int)) ∧ (IntKind.i64 = IntKind.i64 ∧ (0 : Int) = (0 : Int)) ∧ (IntKind.u32 = IntKind.u32 ∧ bits BinOp.and IntKind.u32 w
      (4095 : Int) = imm w) ∧ true = false ∧ (IntKind.i64 = IntKind.i64 ∧ (0 : Int) = (0 : Int)) ∧ (IntKind.i64 = IntKind.i64 ∧ (0 : Int) = (0 : Int)) ∧ false = false ∧ (bits
      BinOp.and IntKind.u32 (w.fdiv (1048576 : Int)) (1 : Int) != (0 : Int)) = false ∧ (bits BinOp.and IntKind.u32 (w.fdiv (4194304 : Int)) (1 : Int) != (0 : Int)) = false ∧
      false = false ∧ (bits BinOp.and IntKind.u32 (w.fdiv (16777216 : Int)) (1 : Int) != (0 : Int)) = false ∧ (bits BinOp.and IntKind.u32 (w.fdiv (8388608 : Int)) (1 : Int) !=
      (0 : Int)) = false ∧ true = false ∧ false = false ∧ (IntKind.i64 = IntKind.i64 ∧ (0 : Int) = (0 : Int)) ∧ false = lnk w ∧ false = false ∧ false = false) ∧ ((bits BinOp.and
      IntKind.u32 (w.fdiv (2097152 : Int)) (1 : Int) != (0 : Int)) = false → (IntKind.i64 = IntKind.i64 ∧ (7 : Int) = (9 : Int)) ∧ (IntKind.i64 = IntKind.i64 ∧ (0 : Int) = (0 :
      Int)) ∧ (IntKind.i64 = IntKind.i64 ∧ (0 : Int) = (0 : Int)) ∧ false = false ∧ (IntKind.i64 = IntKind.i64 ∧ IntKind.i64.wrap (bits BinOp.and IntKind.u32 (w.fdiv (4096 :
      Int)) (15 : Int)) = (0 : Int)) ∧ (IntKind.i64 = IntKind.i64 ∧ IntKind.i64.wrap (bits BinOp.and IntKind.u32 (w.fdiv (65536 : Int)) (15 : Int)) = (0 : Int)) ∧ (IntKind.i64 =
      IntKind.i64 ∧ (0 : Int) = (0 : Int)) ∧ (IntKind.i64 = IntKind.i64 ∧ (0 : Int) = (0 : Int)) ∧ (IntKind.u32 = IntKind.u32 ∧ bits BinOp.and IntKind.u32 w (4095 : Int) = imm
      w) ∧ true = false ∧ (IntKind.i64 = IntKind.i64 ∧ (0 : Int) = (0 : Int)) ∧ (IntKind.i64 = IntKind.i64 ∧ (0 : Int) = (0 : Int)) ∧ false = false ∧ (bits BinOp.and IntKind.u32
      (w.fdiv (1048576 : Int)) (1 : Int) != (0 : Int)) = false ∧ (bits BinOp.and IntKind.u32 (w.fdiv (4194304 : Int)) (1 : Int) != (0 : Int)) = false ∧ false = false ∧ (bits
      BinOp.and IntKind.u32 (w.fdiv (16777216 : Int)) (1 : Int) != (0 : Int)) = false ∧ (bits BinOp.and IntKind.u32 (w.fdiv (8388608 : Int)) (1 : Int) != (0 : Int)) = false ∧
      (!bits BinOp.and IntKind.u32 (w.fdiv (16777216 : Int)) (1 : Int) != (0 : Int)) = false ∧ false = false ∧ (IntKind.i64 = IntKind.i64 ∧ (0 : Int) = (0 : Int)) ∧ false = lnk
      w ∧ false = false ∧ false = false))) ∧ ((IntKind.i64.wrap (bits BinOp.and IntKind.u32 (w.fdiv (33554432 : Int)) (7 : Int)) == (2 : Int)) = false → ((IntKind.i64.wrap (bits
      BinOp.and IntKind.u32 (w.fdiv (33554432 : Int)) (7 : Int)) == (3 : Int)) = true → ((bits BinOp.and IntKind.u32 (w.fdiv (16 : Int)) (1 : Int) != (0 : Int)) = true →
      (IntKind.i64 = IntKind.i64 ∧ (0 : Int) = (9 : Int)) ∧ (IntKind.i64 = IntKind.i64 ∧ (0 : Int) = (0 : Int)) ∧ (IntKind.i64 = IntKind.i64 ∧ (0 : Int) = (0 : Int)) ∧ false =
      false ∧ (IntKind.i64 = IntKind.i64 ∧ (0 : Int) = (0 : Int)) ∧ (IntKind.i64 = IntKind.i64 ∧ (0 : Int) = (0 : Int)) ∧ (IntKind.i64 = IntKind.i64 ∧ (0 : Int) = (0 : Int)) ∧
      (IntKind.i64 = IntKind.i64 ∧ (0 : Int) = (0 : Int)) ∧ (IntKind.u32 = IntKind.u32 ∧ (0 : Int) = imm w) ∧ false = false ∧ (IntKind.i64 = IntKind.i64 ∧ (0 : Int) = (0 : Int))
      ∧ (IntKind.i64 = IntKind.i64 ∧ (0 : Int) = (0 : Int)) ∧ false = false ∧ false = false ∧ false = false ∧ false = false ∧ false = false ∧ false = false ∧ false = false ∧
      false = false ∧ (IntKind.i64 = IntKind.i64 ∧ (0 : Int) = (0 : Int)) ∧ false = lnk w ∧ false = false ∧ false = false) ∧ ((bits BinOp.and IntKind.u32 (w.fdiv (16 : Int)) (1
      : Int) != (0 : Int)) = false → ((bits BinOp.and IntKind.u32 (w.fdiv (33554432 : Int)) (1 : Int) != (0 : Int)) = true → ((bits BinOp.and IntKind.u32 (w.fdiv (2097152 :
      Int)) (1 : Int) != (0 : Int)) = true → (IntKind.i64 = IntKind.i64 ∧ (7 : Int) = (9 : Int)) ∧ (IntKind.i64 = IntKind.i64 ∧ (0 : Int) = (0 : Int)) ∧ (IntKind.i64 =
      IntKind.i64 ∧ (0 : Int) = (0 : Int)) ∧ false = false ∧ (IntKind.i64 = IntKind.i64 ∧ IntKind.i64.wrap (bits BinOp.and IntKind.u32 (w.fdiv (4096 : Int)) (15 : Int)) = (0 :
      Int)) ∧ (IntKind.i64 = IntKind.i64 ∧ IntKind.i64.wrap (bits BinOp.and IntKind.u32 (w.fdiv (65536 : Int)) (15 : Int)) = (0 : Int)) ∧ (IntKind.i64 = IntKind.i64 ∧ (0 : Int)
      = (0 : Int)) ∧ (IntKind.i64 = IntKind.i64 ∧ IntKind.i64.wrap (bits BinOp.and IntKind.u32 (w.fdiv (1 : Int)) (15 : Int)) = (0 : Int)) ∧ (IntKind.u32 = IntKind.u32 ∧ (0 :
      Int) = imm w) ∧ false = false ∧ (IntKind.i64 = IntKind.i64 ∧ IntKind.i64.wrap (bits BinOp.and IntKind.u32 (w.fdiv (32 : Int)) (3 : Int)) = (0 : Int)) ∧ (IntKind.i64 =
      IntKind.i64 ∧ IntKind.i64.wrap (bits BinOp.and IntKind.u32 (w.fdiv (128 : Int)) (31 : Int)) = (0 : Int)) ∧ false = false ∧ (bits BinOp.and IntKind.u32 (w.fdiv (1048576 :
      Int)) (1 : Int) != (0 : Int)) = false ∧ (bits BinOp.and IntKind.u32 (w.fdiv (4194304 : Int)) (1 : Int) != (0 : Int)) = false ∧ false = false ∧ (bits BinOp.and IntKind.u32
      (w.fdiv (16777216 : Int)) (1 : Int) != (0 : Int)) = false ∧ (bits BinOp.and IntKind.u32 (w.fdiv (8388608 : Int)) (1 : Int) != (0 : Int)) = false ∧ true = false ∧ false =
      false ∧ (IntKind.i64 = IntKind.i64 ∧ (0 : Int) = (0 : Int)) ∧ false = lnk w ∧ false = false ∧ false = false) ∧ ((bits BinOp.and IntKind.u32 (w.fdiv (2097152 : Int)) (1 :
      Int) != (0 : Int)) = false → (IntKind.i64 = IntKind.i64 ∧ (7 : Int) = (9 : Int)) ∧ (IntKind.i64 = IntKind.i64 ∧ (0 : Int) = (0 : Int)) ∧ (IntKind.i64 = IntKind.i64 ∧ (0 :
      Int) = (0 : Int)) ∧ false = false ∧ (IntKind.i64 = IntKind.i64 ∧ IntKind.i64.wrap (bits BinOp.and IntKind.u32 (w.fdiv (4096 : Int)) (15 : Int)) = (0 : Int)) ∧ (IntKind.i64
      = IntKind.i64 ∧ IntKind.i64.wrap (bits BinOp.and IntKind.u32 (w.fdiv (65536 : Int)) (15 : Int)) = (0 : Int)) ∧ (IntKind.i64 = IntKind.i64 ∧ (0 : Int) = (0 : Int)) ∧
      (IntKind.i64 = IntKind.i64 ∧ IntKind.i64.wrap (bits BinOp.and IntKind.u32 (w.fdiv (1 : Int)) (15 : Int)) = (0 : Int)) ∧ (IntKind.u32 = IntKind.u32 ∧ (0 : Int) = imm w) ∧
      false = false ∧ (IntKind.i64 = IntKind.i64 ∧ IntKind.i64.wrap (bits BinOp.and IntKind.u32 (w.fdiv (32 : Int)) (3 : Int)) = (0 : Int)) ∧ (IntKind.i64 = IntKind.i64 ∧
      IntKind.i64.wrap (bits BinOp.and IntKind.u32 (w.fdiv (128 : Int)) (31 : Int)) = (0 : Int)) ∧ false = false ∧ (bits BinOp.and IntKind.u32 (w.fdiv (1048576 : Int)) (1 : Int)
      != (0 : Int)) = false ∧ (bits BinOp.and IntKind.u32 (w.fdiv (4194304 : Int)) (1 : Int) != (0 : Int)) = false ∧ false = false ∧ (bits BinOp.and IntKind.u32 (w.fdiv
      (16777216 : Int)) (1 : Int) != (0 : Int)) = false ∧ (bits BinOp.and IntKind.u32 (w.fdiv (8388608 : Int)) (1 : Int) != (0 : Int)) = false ∧ (!bits BinOp.and IntKind.u32
      (w.fdiv (16777216 : Int)) (1 : Int) != (0 : Int)) = false ∧ false = false ∧ (IntKind.i64 = IntKind.i64 ∧ (0 : Int) = (0 : Int)) ∧ false = lnk w ∧ false = false ∧ false =
      false)) ∧ ((bits BinOp.and IntKind.u32 (w.fdiv (33554432 : Int)) (1 : Int) != (0 : Int)) = false → ((bits BinOp.and IntKind.u32 (w.fdiv (2097152 : Int)) (1 : Int) != (0 :
      Int)) = true → (IntKind.i64 = IntKind.i64 ∧ (7 : Int) = (9 : Int)) ∧ (IntKind.i64 = IntKind.i64 ∧ (0 : Int) = (0 : Int)) ∧ (IntKind.i64 = IntKind.i64 ∧ (0 : Int) = (0 :
      Int)) ∧ false = false ∧ (IntKind.i64 = IntKind.i64 ∧ IntKind.i64.wrap (bits BinOp.and IntKind.u32 (w.fdiv (4096 : Int)) (15 : Int)) = (0 : Int)) ∧ (IntKind.i64 =
      IntKind.i64 ∧ IntKind.i64.wrap (bits BinOp.and IntKind.u32 (w.fdiv (65536 : Int)) (15 : Int)) = (0 : Int)) ∧ (IntKind.i64 = IntKind.i64 ∧ (0 : Int) = (0 : Int)) ∧
      (IntKind.i64 = IntKind.i64 ∧ (0 : Int) = (0 : Int)) ∧ (IntKind.u32 = IntKind.u32 ∧ bits BinOp.and IntKind.u32 w (4095 : Int) = imm w) ∧ true = false ∧ (IntKind.i64 =
      IntKind.i64 ∧ (0 : Int) = (0 : Int)) ∧ (IntKind.i64 = IntKind.i64 ∧ (0 : Int) = (0 : Int)) ∧ false = false ∧ (bits BinOp.and IntKind.u32 (w.fdiv (1048576 : Int)) (1 : Int)
      != (0 : Int)) = false ∧ (bits BinOp.and IntKind.u32 (w.fdiv (4194304 : Int)) (1 : Int) != (0 : Int)) = false ∧ false = false ∧ (bits BinOp.and IntKind.u32 (w.fdiv
      (16777216 : Int)) (1 : Int) != (0 : Int)) = false ∧ (bits BinOp.and IntKind.u32 (w.fdiv (8388608 : Int)) (1 : Int) != (0 : Int)) = false ∧ true = false ∧ false = false ∧
      (IntKind.i64 = IntKind.i64 ∧ (0 : Int) = (0 : Int)) ∧ false = lnk w ∧ false = false ∧ false = false) ∧ ((bits BinOp.and IntKind.u32 (w.fdiv (2097152 : Int)) (1 : Int) !=
      (0 : Int)) = false → (IntKind.i64 = IntKind.i64 ∧ (7 : Int) = (9 : Int)) ∧ (IntKind.i64 = IntKind.i64 ∧ (0 : Int) = (0 : Int)) ∧ (IntKind.i64 = IntKind.i64 ∧ (0 : Int) =
      (0 : Int)) ∧ false = false ∧ (IntKind.i64 = IntKind.i64 ∧ IntKind.i64.wrap (bits BinOp.and IntKind.u32 (w.fdiv (4096 : Int)) (15 : Int)) = (0 : Int)) ∧ (IntKind.i64 =
      IntKind.i64 ∧ IntKind.i64.wrap (bits BinOp.and IntKind.u32 (w.fdiv (65536 : Int)) (15 : Int)) = (0 : Int)) ∧ (IntKind.i64 = IntKind.i64 ∧ (0 : Int) = (0 : Int)) ∧
      (IntKind.i64 = IntKind.i64 ∧ (0 : Int) = (0 : Int)) ∧ (IntKind.u32 = IntKind.u32 ∧ bits BinOp.and IntKind.u32 w (4095 : Int) = imm w) ∧ true = false ∧ (IntKind.i64 =
      IntKind.i64 ∧ (0 : Int) = (0 : Int)) ∧ (IntKind.i64 = IntKind.i64 ∧ (0 : Int) = (0 : Int)) ∧ false = false ∧ (bits BinOp.and IntKind.u32 (w.fdiv (1048576 : Int)) (1 : Int)
      != (0 : Int)) = false ∧ (bits BinOp.and IntKind.u32 (w.fdiv (4194304 : Int)) (1 : Int) != (0 : Int)) = false ∧ false = false ∧ (bits BinOp.and IntKind.u32 (w.fdiv
      (16777216 : Int)) (1 : Int) != (0 : Int)) = false ∧ (bits BinOp.and IntKind.u32 (w.fdiv (8388608 : Int)) (1 : Int) != (0 : Int)) = false ∧ (!bits BinOp.and IntKind.u32
      (w.fdiv (16777216 : Int)) (1 : Int) != (0 : Int)) = false ∧ false = false ∧ (IntKind.i64 = IntKind.i64 ∧ (0 : Int) = (0 : Int)) ∧ false = lnk w ∧ false = false ∧ false =
      false)))) ∧ ((IntKind.i64.wrap (bits BinOp.and IntKind.u32 (w.fdiv (33554432 : Int)) (7 : Int)) == (3 : Int)) = false → ((IntKind.i64.wrap (bits BinOp.and IntKind.u32
      (w.fdiv (33554432 : Int)) (7 : Int)) == (4 : Int)) = true → (IntKind.i64 = IntKind.i64 ∧ (8 : Int) = (9 : Int)) ∧ (IntKind.i64 = IntKind.i64 ∧ (0 : Int) = (0 : Int)) ∧
      (IntKind.i64 = IntKind.i64 ∧ (0 : Int) = (0 : Int)) ∧ false = false ∧ (IntKind.i64 = IntKind.i64 ∧ (0 : Int) = (0 : Int)) ∧ (IntKind.i64 = IntKind.i64 ∧ IntKind.i64.wrap
      (bits BinOp.and IntKind.u32 (w.fdiv (65536 : Int)) (15 : Int)) = (0 : Int)) ∧ (IntKind.i64 = IntKind.i64 ∧ (0 : Int) = (0 : Int)) ∧ (IntKind.i64 = IntKind.i64 ∧ (0 : Int)
      = (0 : Int)) ∧ (IntKind.u32 = IntKind.u32 ∧ (0 : Int) = imm w) ∧ false = false ∧ (IntKind.i64 = IntKind.i64 ∧ (0 : Int) = (0 : Int)) ∧ (IntKind.i64 = IntKind.i64 ∧ (0 :
      Int) = (0 : Int)) ∧ false = false ∧ (bits BinOp.and IntKind.u32 (w.fdiv (1048576 : Int)) (1 : Int) != (0 : Int)) = false ∧ false = false ∧ false = false ∧ (bits BinOp.and
      IntKind.u32 (w.fdiv (16777216 : Int)) (1 : Int) != (0 : Int)) = false ∧ (bits BinOp.and IntKind.u32 (w.fdiv (8388608 : Int)) (1 : Int) != (0 : Int)) = false ∧ (bits
      BinOp.and IntKind.u32 (w.fdiv (2097152 : Int)) (1 : Int) != (0 : Int)) = false ∧ (bits BinOp.and IntKind.u32 (w.fdiv (4194304 : Int)) (1 : Int) != (0 : Int)) = false ∧
      (IntKind.i64 = IntKind.i64 ∧ IntKind.i64.wrap (bits BinOp.and IntKind.u32 (w.fdiv (1 : Int)) (65535 : Int)) = (0 : Int)) ∧ false = lnk w ∧ false = false ∧ false = false) ∧
      ((IntKind.i64.wrap (bits BinOp.and IntKind.u32 (w.fdiv (33554432 : Int)) (7 : Int)) == (4 : Int)) = false → ((IntKind.i64.wrap (bits BinOp.and IntKind.u32 (w.fdiv
      (33554432 : Int)) (7 : Int)) == (5 : Int)) = true → (IntKind.i64 = IntKind.i64 ∧ (9 : Int) = (9 : Int)) ∧ (IntKind.i64 = IntKind.i64 ∧ (0 : Int) = (0 : Int)) ∧
      (IntKind.i64 = IntKind.i64 ∧ (0 : Int) = (0 : Int)) ∧ false = false ∧ (IntKind.i64 = IntKind.i64 ∧ (0 : Int) = (0 : Int)) ∧ (IntKind.i64 = IntKind.i64 ∧ (0 : Int) = (0 :
      Int)) ∧ (IntKind.i64 = IntKind.i64 ∧ (0 : Int) = (0 : Int)) ∧ (IntKind.i64 = IntKind.i64 ∧ (0 : Int) = (0 : Int)) ∧ (IntKind.u32 = IntKind.u32 ∧ IntKind.u32.wrap
      ((IntKind.i32.wrap (IntKind.u32.wrap (w * (256 : Int)))).fdiv (64 : Int)) = imm w) ∧ false = false ∧ (IntKind.i64 = IntKind.i64 ∧ (0 : Int) = (0 : Int)) ∧ (IntKind.i64 =
      IntKind.i64 ∧ (0 : Int) = (0 : Int)) ∧ false = false ∧ false = false ∧ false = false ∧ false = false ∧ false = false ∧ false = false ∧ false = false ∧ false = false ∧
      (IntKind.i64 = IntKind.i64 ∧ (0 : Int) = (0 : Int)) ∧ (bits BinOp.and IntKind.u32 (w.fdiv (16777216 : Int)) (1 : Int) != (0 : Int)) = lnk w ∧ false = false ∧ false =
      false) ∧ ((IntKind.i64.wrap (bits BinOp.and IntKind.u32 (w.fdiv (33554432 : Int)) (7 : Int)) == (5 : Int)) = false → ((IntKind.i64.wrap (bits BinOp.and IntKind.u32 (w.fdiv
      (16777216 : Int)) (15 : Int)) == (15 : Int)) = true → (IntKind.i64 = IntKind.i64 ∧ (10 : Int) = (9 : Int)) ∧ (IntKind.i64 = IntKind.i64 ∧ (0 : Int) = (0 : Int)) ∧
      (IntKind.i64 = IntKind.i64 ∧ (0 : Int) = (0 : Int)) ∧ false = false ∧ (IntKind.i64 = IntKind.i64 ∧ (0 : Int) = (0 : Int)) ∧ (IntKind.i64 = IntKind.i64 ∧ (0 : Int) = (0 :
      Int)) ∧ (IntKind.i64 = IntKind.i64 ∧ (0 : Int) = (0 : Int)) ∧ (IntKind.i64 = IntKind.i64 ∧ (0 : Int) = (0 : Int)) ∧ (IntKind.u32 = IntKind.u32 ∧ bits BinOp.and IntKind.u32
      (w.fdiv (65536 : Int)) (255 : Int) = imm w) ∧ false = false ∧ (IntKind.i64 = IntKind.i64 ∧ (0 : Int) = (0 : Int)) ∧ (IntKind.i64 = IntKind.i64 ∧ (0 : Int) = (0 : Int)) ∧
      false = false ∧ false = false ∧ false = false ∧ false = false ∧ false = false ∧ false = false ∧ false = false ∧ false = false ∧ (IntKind.i64 = IntKind.i64 ∧ (0 : Int) = (0
      : Int)) ∧ false = lnk w ∧ false = false ∧ false = false) ∧ ((IntKind.i64.wrap (bits BinOp.and IntKind.u32 (w.fdiv (16777216 : Int)) (15 : Int)) == (15 : Int)) = false →
      (IntKind.i64 = IntKind.i64 ∧ (0 : Int) = (9 : Int)) ∧ (IntKind.i64 = IntKind.i64 ∧ (0 : Int) = (0 : Int)) ∧ (IntKind.i64 = IntKind.i64 ∧ (0 : Int) = (0 : Int)) ∧ false =
      false ∧ (IntKind.i64 = IntKind.i64 ∧ (0 : Int) = (0 : Int)) ∧ (IntKind.i64 = IntKind.i64 ∧ (0 : Int) = (0 : Int)) ∧ (IntKind.i64 = IntKind.i64 ∧ (0 : Int) = (0 : Int)) ∧
      (IntKind.i64 = IntKind.i64 ∧ (0 : Int) = (0 : Int)) ∧ (IntKind.u32 = IntKind.u32 ∧ (0 : Int) = imm w) ∧ false = false ∧ (IntKind.i64 = IntKind.i64 ∧ (0 : Int) = (0 : Int))
      ∧ (IntKind.i64 = IntKind.i64 ∧ (0 : Int) = (0 : Int)) ∧ false = false ∧ false = false ∧ false = false ∧ false = false ∧ false = false ∧ false = false ∧ false = false ∧
      false = false ∧ (IntKind.i64 = IntKind.i64 ∧ (0 : Int) = (0 : Int)) ∧ false = lnk w ∧ false = false ∧ false = false)))))))) := by kernel_rfl
theorem apart_ok (w : Int) (hw : u32b w = true) (h5 : five w = true) : conP (.a [.i false .i64 9, .i false .i64 0, .i false .i64 0, .b false false, .i false .i64 0, .i false .i64 0, .i false .i64 0, .i false .i64 0, .i false .u32 (imm w), .b false false, .i false .i64 0, .i false .i64 0, .b false false, .b false false, .b false false, .b false false, .b false false, .b false false, .b false false, .b false false, .i false .i64 0, .b false (lnk w), .b false false, .b false false]) (fnTree Try.prog orc1 (tabL fns) 20000 Try.f10 [.c (.i false .u32 w)] []) := by
  rw [apart_p]
  rw [u32b, decide_eq_true_eq] at hw
  rw [five, decide_eq_true_eq] at h5
  have e5 : IntKind.i64.wrap (bits .and .u32 (w.fdiv 33554432) 7) = 5 := by
    rw [and_m3 .u32 _ (by decide), fdiv_lit _ _ (by decide), h5]; decide
  have el : (bits .and .u32 (w.fdiv 16777216) 1 != 0) = lnk w := by
    rw [and_m1 .u32 _ (by decide), fdiv_lit _ _ (by decide), lnk, bne0, decide_eq_decide]; omega
  rw [e5]
  simp only [Int.reduceBEq, Bool.false_eq_true, Bool.true_eq_false, false_implies, true_implies, true_and, and_true, el, forall_const]
  rfl

set_option maxRecDepth 100000 in
theorem apart_c (l1 : Bool) (w : Int) (s : SW) (hw : (u32b w) = true) (h5 : (five w) = true) : CallTree Try.prog 10 [.c (.i l1 .u32 w)] s (.leaf (.a [.i false .i64 9, .i false .i64 0, .i false .i64 0, .b false false, .i false .i64 0, .i false .i64 0, .i false .i64 0, .i false .i64 0, .i false .u32 (imm w), .b false false, .i false .i64 0, .i false .i64 0, .b false false, .b false false, .b false false, .b false false, .b false false, .b false false, .b false false, .b false false, .i false .i64 0, .b false (lnk w), .b false false, .b false false], s)) := by
  refine CallTree.args (vs' := [.c (.i false .u32 w)]) ⟨rfl, rfl⟩ ?_
  exact pure_contract (fnTree_sound orc1_ok tab_ok tab_sz mixed 20000 Try.func10 (by decide) [.c (.i false .u32 w)] []) (by simp [SV.ok, C.ok, okL]) (v := .a [.i false .i64 9, .i false .i64 0, .i false .i64 0, .b false false, .i false .i64 0, .i false .i64 0, .i false .i64 0, .i false .i64 0, .i false .u32 (imm w), .b false false, .i false .i64 0, .i false .i64 0, .b false false, .b false false, .b false false, .b false false, .b false false, .b false false, .b false false, .b false false, .i false .i64 0, .b false (lnk w), .b false false, .b false false]) rfl (conP_OK _ (apart_ok w hw h5)) s
def orc2 : Orc := fun g vs s => match g, vs with
  | 10, [.c (.i _ .u32 w)] => some (.need (u32b w) (.need (five w) (.leaf (.a [.i false .i64 9, .i false .i64 0, .i false .i64 0, .b false false, .i false .i64 0, .i false .i64 0, .i false .i64 0, .i false .i64 0, .i false .u32 (imm w), .b false false, .i false .i64 0, .i false .i64 0, .b false false, .b false false, .b false false, .b false false, .b false false, .b false false, .b false false, .b false false, .i false .i64 0, .b false (lnk w), .b false false, .b false false], s))))
  | g, vs => orc1 g vs s
theorem orc2_ok : OrcOK Try.prog orc2 := by
  intro g vs s t h
  unfold orc2 at h
  split at h
  · cases h
    exact CallTree.need fun hw => CallTree.need fun h5 => apart_c _ _ s hw h5
  · exact orc1_ok _ _ _ _ h

theorem branches_p (y : Int) (l : Bool) (c : Int) :
    (lawP (fnTree Try.prog orc2 (tabL fns) 20000 Try.f6 [.c (.i false .i32 y), .c (.b false l), .c (.i false .i64 c)] [])) =
    ((l = true → u32b (bits BinOp.or IntKind.u32 (bits BinOp.or IntKind.u32 (bits BinOp.or IntKind.u32 (IntKind.u32.wrap (IntKind.u32.wrap (bits BinOp.and IntKind.i64 c (15 :
      Int)) * (268435456 : Int))) (167772160 : Int)) (bits BinOp.and IntKind.u32 (IntKind.u32.wrap ((IntKind.i32.wrap (y * (256 : Int))).fdiv (256 : Int))) (16777215 : Int)))
      (16777216 : Int)) = true ∧ five (bits BinOp.or IntKind.u32 (bits BinOp.or IntKind.u32 (bits BinOp.or IntKind.u32 (IntKind.u32.wrap (IntKind.u32.wrap (bits BinOp.and
      IntKind.i64 c (15 : Int)) * (268435456 : Int))) (167772160 : Int)) (bits BinOp.and IntKind.u32 (IntKind.u32.wrap ((IntKind.i32.wrap (y * (256 : Int))).fdiv (256 : Int)))
      (16777215 : Int))) (16777216 : Int)) = true ∧ (false ^^ (9 : Int) == (9 : Int) && (IntKind.i64.wrap ((bits BinOp.or IntKind.u32 (bits BinOp.or IntKind.u32 (bits BinOp.or
      IntKind.u32 (IntKind.u32.wrap (IntKind.u32.wrap (bits BinOp.and IntKind.i64 c (15 : Int)) * (268435456 : Int))) (167772160 : Int)) (bits BinOp.and IntKind.u32
      (IntKind.u32.wrap ((IntKind.i32.wrap (y * (256 : Int))).fdiv (256 : Int))) (16777215 : Int))) (16777216 : Int)).fdiv (268435456 : Int)) == bits BinOp.and IntKind.i64 c (15
      : Int) && ((0 : Int) == (0 : Int) && (false == false && ((0 : Int) == (0 : Int) && ((0 : Int) == (0 : Int) && ((0 : Int) == (0 : Int) && ((0 : Int) == (0 : Int) && (imm
      (bits BinOp.or IntKind.u32 (bits BinOp.or IntKind.u32 (bits BinOp.or IntKind.u32 (IntKind.u32.wrap (IntKind.u32.wrap (bits BinOp.and IntKind.i64 c (15 : Int)) * (268435456
      : Int))) (167772160 : Int)) (bits BinOp.and IntKind.u32 (IntKind.u32.wrap ((IntKind.i32.wrap (y * (256 : Int))).fdiv (256 : Int))) (16777215 : Int))) (16777216 : Int)) ==
      IntKind.u32.wrap (IntKind.i32.wrap ((IntKind.i32.wrap (y * (256 : Int))).fdiv (256 : Int) * (4 : Int))) && (false == false && ((0 : Int) == (0 : Int) && ((0 : Int) == (0 :
      Int) && (false == false && (false == false && (false == false && (false == false && (false == false && (false == false && (false == false && (false == false && ((0 : Int)
      == (0 : Int) && (lnk (bits BinOp.or IntKind.u32 (bits BinOp.or IntKind.u32 (bits BinOp.or IntKind.u32 (IntKind.u32.wrap (IntKind.u32.wrap (bits BinOp.and IntKind.i64 c (15
      : Int)) * (268435456 : Int))) (167772160 : Int)) (bits BinOp.and IntKind.u32 (IntKind.u32.wrap ((IntKind.i32.wrap (y * (256 : Int))).fdiv (256 : Int))) (16777215 : Int)))
      (16777216 : Int)) == l && (false == false && (false == false && true)))))))))))))))))))))))) = true) ∧ (l = false → u32b (bits BinOp.or IntKind.u32 (bits BinOp.or
      IntKind.u32 (IntKind.u32.wrap (IntKind.u32.wrap (bits BinOp.and IntKind.i64 c (15 : Int)) * (268435456 : Int))) (167772160 : Int)) (bits BinOp.and IntKind.u32
      (IntKind.u32.wrap ((IntKind.i32.wrap (y * (256 : Int))).fdiv (256 : Int))) (16777215 : Int))) = true ∧ five (bits BinOp.or IntKind.u32 (bits BinOp.or IntKind.u32
      (IntKind.u32.wrap (IntKind.u32.wrap (bits BinOp.and IntKind.i64 c (15 : Int)) * (268435456 : Int))) (167772160 : Int)) (bits BinOp.and IntKind.u32 (IntKind.u32.wrap
      ((IntKind.i32.wrap (y * (256 : Int))).fdiv (256 : Int))) (16777215 : Int))) = true ∧ (false ^^ (9 : Int) == (9 : Int) && (IntKind.i64.wrap ((bits BinOp.or IntKind.u32
      (bits BinOp.or IntKind.u32 (IntKind.u32.wrap (IntKind.u32.wrap (bits BinOp.and IntKind.i64 c (15 : Int)) * (268435456 : Int))) (167772160 : Int)) (bits BinOp.and
      IntKind.u32 (IntKind.u32.wrap ((IntKind.i32.wrap (y * (256 : Int))).fdiv (256 : Int))) (16777215 : Int))).fdiv (268435456 : Int)) == bits BinOp.and IntKind.i64 c (15 :
      Int) && ((0 : Int) == (0 : Int) && (false == false && ((0 : Int) == (0 : Int) && ((0 : Int) == (0 : Int) && ((0 : Int) == (0 : Int) && ((0 : Int) == (0 : Int) && (imm
      (bits BinOp.or IntKind.u32 (bits BinOp.or IntKind.u32 (IntKind.u32.wrap (IntKind.u32.wrap (bits BinOp.and IntKind.i64 c (15 : Int)) * (268435456 : Int))) (167772160 :
      Int)) (bits BinOp.and IntKind.u32 (IntKind.u32.wrap ((IntKind.i32.wrap (y * (256 : Int))).fdiv (256 : Int))) (16777215 : Int))) == IntKind.u32.wrap (IntKind.i32.wrap
      ((IntKind.i32.wrap (y * (256 : Int))).fdiv (256 : Int) * (4 : Int))) && (false == false && ((0 : Int) == (0 : Int) && ((0 : Int) == (0 : Int) && (false == false && (false
      == false && (false == false && (false == false && (false == false && (false == false && (false == false && (false == false && ((0 : Int) == (0 : Int) && (lnk (bits
      BinOp.or IntKind.u32 (bits BinOp.or IntKind.u32 (IntKind.u32.wrap (IntKind.u32.wrap (bits BinOp.and IntKind.i64 c (15 : Int)) * (268435456 : Int))) (167772160 : Int))
      (bits BinOp.and IntKind.u32 (IntKind.u32.wrap ((IntKind.i32.wrap (y * (256 : Int))).fdiv (256 : Int))) (16777215 : Int))) == l && (false == false && (false == false &&
      true)))))))))))))))))))))))) = true)) := by kernel_rfl
end Go.Proofs.Ytbnglhfhmhnimaa

