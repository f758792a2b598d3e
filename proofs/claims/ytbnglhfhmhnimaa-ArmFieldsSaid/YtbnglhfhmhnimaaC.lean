import Derived.Test.YtbnglhfhmhnimaaA
set_option linter.unusedVariables false
set_option linter.unusedSimpArgs false
namespace Go.Proofs.Ytbnglhfhmhnimaa
open Go Go.Proofs Go.Proofs.Ytbnglhfhmhnimaa.Ev
theorem ArmFields_p (w : Int) :
    (lawP (fnTree Try.prog orc1 (tabL fns) 20000 Try.f5 [.c (.i false .u32 w)] [])) =
    (((IntKind.i64.wrap (bits BinOp.and IntKind.u32 (w.fdiv (33554432 : Int)) (7 : Int)) == (0 : Int)) = true → ((bits BinOp.and IntKind.u32 w (264241392 : Int) == (144 : Int))
      = true → decide (IntKind.i64.wrap (w.fdiv (268435456 : Int)) < (0 : Int)) = false ∧ decide (IntKind.i64.wrap (w.fdiv (268435456 : Int)) > (15 : Int)) = false ∧ decide
      (IntKind.i64.wrap (bits BinOp.and IntKind.u32 (w.fdiv (65536 : Int)) (15 : Int)) < (0 : Int)) = false ∧ decide (IntKind.i64.wrap (bits BinOp.and IntKind.u32 (w.fdiv (65536
      : Int)) (15 : Int)) > (15 : Int)) = false ∧ decide (IntKind.i64.wrap (bits BinOp.and IntKind.u32 (w.fdiv (4096 : Int)) (15 : Int)) < (0 : Int)) = false ∧ decide
      (IntKind.i64.wrap (bits BinOp.and IntKind.u32 (w.fdiv (4096 : Int)) (15 : Int)) > (15 : Int)) = false ∧ decide (IntKind.i64.wrap (bits BinOp.and IntKind.u32 (w.fdiv (256 :
      Int)) (15 : Int)) < (0 : Int)) = false ∧ decide (IntKind.i64.wrap (bits BinOp.and IntKind.u32 (w.fdiv (256 : Int)) (15 : Int)) > (15 : Int)) = false ∧ decide
      (IntKind.i64.wrap (bits BinOp.and IntKind.u32 (w.fdiv (1 : Int)) (15 : Int)) < (0 : Int)) = false ∧ decide (IntKind.i64.wrap (bits BinOp.and IntKind.u32 (w.fdiv (1 : Int))
      (15 : Int)) > (15 : Int)) = false ∧ true = true) ∧ ((bits BinOp.and IntKind.u32 w (264241392 : Int) == (144 : Int)) = false → ((bits BinOp.and IntKind.u32 w (260047088 :
      Int) == (8388752 : Int)) = true → decide (IntKind.i64.wrap (w.fdiv (268435456 : Int)) < (0 : Int)) = false ∧ decide (IntKind.i64.wrap (w.fdiv (268435456 : Int)) > (15 :
      Int)) = false ∧ decide (IntKind.i64.wrap (bits BinOp.and IntKind.u32 (w.fdiv (65536 : Int)) (15 : Int)) < (0 : Int)) = false ∧ decide (IntKind.i64.wrap (bits BinOp.and
      IntKind.u32 (w.fdiv (65536 : Int)) (15 : Int)) > (15 : Int)) = false ∧ decide (IntKind.i64.wrap (bits BinOp.and IntKind.u32 (w.fdiv (4096 : Int)) (15 : Int)) < (0 : Int))
      = false ∧ decide (IntKind.i64.wrap (bits BinOp.and IntKind.u32 (w.fdiv (4096 : Int)) (15 : Int)) > (15 : Int)) = false ∧ decide (IntKind.i64.wrap (bits BinOp.and
      IntKind.u32 (w.fdiv (256 : Int)) (15 : Int)) < (0 : Int)) = false ∧ decide (IntKind.i64.wrap (bits BinOp.and IntKind.u32 (w.fdiv (256 : Int)) (15 : Int)) > (15 : Int)) =
      false ∧ decide (IntKind.i64.wrap (bits BinOp.and IntKind.u32 (w.fdiv (1 : Int)) (15 : Int)) < (0 : Int)) = false ∧ decide (IntKind.i64.wrap (bits BinOp.and IntKind.u32
      (w.fdiv (1 : Int)) (15 : Int)) > (15 : Int)) = false ∧ true = true) ∧ ((bits BinOp.and IntKind.u32 w (260047088 : Int) == (8388752 : Int)) = false → ((bits BinOp.and
      IntKind.u32 w (263196656 : Int) == (16777360 : Int)) = true → decide (IntKind.i64.wrap (w.fdiv (268435456 : Int)) < (0 : Int)) = false ∧ decide (IntKind.i64.wrap (w.fdiv
      (268435456 : Int)) > (15 : Int)) = false ∧ decide (IntKind.i64.wrap (bits BinOp.and IntKind.u32 (w.fdiv (4096 : Int)) (15 : Int)) < (0 : Int)) = false ∧ decide
      (IntKind.i64.wrap (bits BinOp.and IntKind.u32 (w.fdiv (4096 : Int)) (15 : Int)) > (15 : Int)) = false ∧ decide (IntKind.i64.wrap (bits BinOp.and IntKind.u32 (w.fdiv (65536
      : Int)) (15 : Int)) < (0 : Int)) = false ∧ decide (IntKind.i64.wrap (bits BinOp.and IntKind.u32 (w.fdiv (65536 : Int)) (15 : Int)) > (15 : Int)) = false ∧ decide
      (IntKind.i64.wrap (bits BinOp.and IntKind.u32 (w.fdiv (1 : Int)) (15 : Int)) < (0 : Int)) = false ∧ decide (IntKind.i64.wrap (bits BinOp.and IntKind.u32 (w.fdiv (1 : Int))
      (15 : Int)) > (15 : Int)) = false ∧ true = true) ∧ ((bits BinOp.and IntKind.u32 w (263196656 : Int) == (16777360 : Int)) = false → ((bits BinOp.and IntKind.u32 w (1048720
      : Int) == (1048720 : Int)) = true → ((IntKind.i64.wrap (bits BinOp.and IntKind.u32 (w.fdiv (32 : Int)) (3 : Int)) != (0 : Int)) = true → ((bits BinOp.and IntKind.u32
      (w.fdiv (4194304 : Int)) (1 : Int) != (0 : Int)) = true → ((bits BinOp.and IntKind.u32 (w.fdiv (2097152 : Int)) (1 : Int) != (0 : Int)) = true → decide (IntKind.i64.wrap
      (w.fdiv (268435456 : Int)) < (0 : Int)) = false ∧ decide (IntKind.i64.wrap (w.fdiv (268435456 : Int)) > (15 : Int)) = false ∧ decide (IntKind.i64.wrap (bits BinOp.and
      IntKind.u32 (w.fdiv (32 : Int)) (3 : Int)) < (0 : Int)) = false ∧ decide (IntKind.i64.wrap (bits BinOp.and IntKind.u32 (w.fdiv (32 : Int)) (3 : Int)) > (15 : Int)) = false
      ∧ decide (IntKind.i64.wrap (bits BinOp.and IntKind.u32 (w.fdiv (4096 : Int)) (15 : Int)) < (0 : Int)) = false ∧ decide (IntKind.i64.wrap (bits BinOp.and IntKind.u32
      (w.fdiv (4096 : Int)) (15 : Int)) > (15 : Int)) = false ∧ decide (IntKind.i64.wrap (bits BinOp.and IntKind.u32 (w.fdiv (65536 : Int)) (15 : Int)) < (0 : Int)) = false ∧
      decide (IntKind.i64.wrap (bits BinOp.and IntKind.u32 (w.fdiv (65536 : Int)) (15 : Int)) > (15 : Int)) = false ∧ true = true) ∧ ((bits BinOp.and IntKind.u32 (w.fdiv
      (2097152 : Int)) (1 : Int) != (0 : Int)) = false → decide (IntKind.i64.wrap (w.fdiv (268435456 : Int)) < (0 : Int)) = false ∧ decide (IntKind.i64.wrap (w.fdiv (268435456 :
      Int)) > (15 : Int)) = false ∧ decide (IntKind.i64.wrap (bits BinOp.and IntKind.u32 (w.fdiv (32 : Int)) (3 : Int)) < (0 : Int)) = false ∧ decide (IntKind.i64.wrap (bits
      BinOp.and IntKind.u32 (w.fdiv (32 : Int)) (3 : Int)) > (15 : Int)) = false ∧ decide (IntKind.i64.wrap (bits BinOp.and IntKind.u32 (w.fdiv (4096 : Int)) (15 : Int)) < (0 :
      Int)) = false ∧ decide (IntKind.i64.wrap (bits BinOp.and IntKind.u32 (w.fdiv (4096 : Int)) (15 : Int)) > (15 : Int)) = false ∧ decide (IntKind.i64.wrap (bits BinOp.and
      IntKind.u32 (w.fdiv (65536 : Int)) (15 : Int)) < (0 : Int)) = false ∧ decide (IntKind.i64.wrap (bits BinOp.and IntKind.u32 (w.fdiv (65536 : Int)) (15 : Int)) > (15 : Int))
      = false ∧ true = true)) ∧ ((bits BinOp.and IntKind.u32 (w.fdiv (4194304 : Int)) (1 : Int) != (0 : Int)) = false → ((bits BinOp.and IntKind.u32 (w.fdiv (2097152 : Int)) (1
      : Int) != (0 : Int)) = true → decide (IntKind.i64.wrap (w.fdiv (268435456 : Int)) < (0 : Int)) = false ∧ decide (IntKind.i64.wrap (w.fdiv (268435456 : Int)) > (15 : Int))
      = false ∧ decide (IntKind.i64.wrap (bits BinOp.and IntKind.u32 (w.fdiv (32 : Int)) (3 : Int)) < (0 : Int)) = false ∧ decide (IntKind.i64.wrap (bits BinOp.and IntKind.u32
      (w.fdiv (32 : Int)) (3 : Int)) > (15 : Int)) = false ∧ decide (IntKind.i64.wrap (bits BinOp.and IntKind.u32 (w.fdiv (4096 : Int)) (15 : Int)) < (0 : Int)) = false ∧ decide
      (IntKind.i64.wrap (bits BinOp.and IntKind.u32 (w.fdiv (4096 : Int)) (15 : Int)) > (15 : Int)) = false ∧ decide (IntKind.i64.wrap (bits BinOp.and IntKind.u32 (w.fdiv (65536
      : Int)) (15 : Int)) < (0 : Int)) = false ∧ decide (IntKind.i64.wrap (bits BinOp.and IntKind.u32 (w.fdiv (65536 : Int)) (15 : Int)) > (15 : Int)) = false ∧ decide
      (IntKind.i64.wrap (bits BinOp.and IntKind.u32 (w.fdiv (1 : Int)) (15 : Int)) < (0 : Int)) = false ∧ decide (IntKind.i64.wrap (bits BinOp.and IntKind.u32 (w.fdiv (1 : Int))
      (15 : Int)) > (15 : Int)) = false ∧ true = true) ∧ ((bits BinOp.and IntKind.u32 (w.fdiv (2097152 : Int)) (1 : Int) != (0 : Int)) = false → decide (IntKind.i64.wrap (w.fdiv
      (268435456 : Int)) < (0 : Int)) = false ∧ decide (IntKind.i64.wrap (w.fdiv (268435456 : Int)) > (15 : Int)) = false ∧ decide (IntKind.i64.wrap (bits BinOp.and IntKind.u32
      (w.fdiv (32 : Int)) (3 : Int)) < (0 : Int)) = false ∧ decide (IntKind.i64.wrap (bits BinOp.and IntKind.u32 (w.fdiv (32 : Int)) (3 : Int)) > (15 : Int)) = false ∧ decide
      (IntKind.i64.wrap (bits BinOp.and IntKind.u32 (w.fdiv (4096 : Int)) (15 : Int)) < (0 : Int)) = false ∧ decide (IntKind.i64.wrap (bits BinOp.and IntKind.u32 (w.fdiv (4096 :
      Int)) (15 : Int)) > (15 : Int)) = false ∧ decide (IntKind.i64.wrap (bits BinOp.and IntKind.u32 (w.fdiv (65536 : Int)) (15 : Int)) < (0 : Int)) = false ∧ decide
      (IntKind.i64.wrap (bits BinOp.and IntKind.u32 (w.fdiv (65536 : Int)) (15 : Int)) > (15 : Int)) = false ∧ decide (IntKind.i64.wrap (bits BinOp.and IntKind.u32 (w.fdiv (1 :
      Int)) (15 : Int)) < (0 : Int)) = false ∧ decide (IntKind.i64.wrap (bits BinOp.and IntKind.u32 (w.fdiv (1 : Int)) (15 : Int)) > (15 : Int)) = false ∧ true = true))) ∧
      ((IntKind.i64.wrap (bits BinOp.and IntKind.u32 (w.fdiv (32 : Int)) (3 : Int)) != (0 : Int)) = false → ((bits BinOp.and IntKind.u32 w (1048816 : Int) == (176 : Int)) = true
      → ((bits BinOp.and IntKind.u32 (w.fdiv (4194304 : Int)) (1 : Int) != (0 : Int)) = true → ((bits BinOp.and IntKind.u32 (w.fdiv (2097152 : Int)) (1 : Int) != (0 : Int)) =
      true → decide (IntKind.i64.wrap (w.fdiv (268435456 : Int)) < (0 : Int)) = false ∧ decide (IntKind.i64.wrap (w.fdiv (268435456 : Int)) > (15 : Int)) = false ∧ decide
      (IntKind.i64.wrap (bits BinOp.and IntKind.u32 (w.fdiv (32 : Int)) (3 : Int)) < (0 : Int)) = false ∧ decide (IntKind.i64.wrap (bits BinOp.and IntKind.u32 (w.fdiv (32 :
      Int)) (3 : Int)) > (15 : Int)) = false ∧ decide (IntKind.i64.wrap (bits BinOp.and IntKind.u32 (w.fdiv (4096 : Int)) (15 : Int)) < (0 : Int)) = false ∧ decide
      (IntKind.i64.wrap (bits BinOp.and IntKind.u32 (w.fdiv (4096 : Int)) (15 : Int)) > (15 : Int)) = false ∧ decide (IntKind.i64.wrap (bits BinOp.and IntKind.u32 (w.fdiv (65536
      : Int)) (15 : Int)) < (0 : Int)) = false ∧ decide (IntKind.i64.wrap (bits BinOp.and IntKind.u32 (w.fdiv (65536 : Int)) (15 : Int)) > (15 : Int)) = false ∧ true = true) ∧
      ((bits BinOp.and IntKind.u32 (w.fdiv (2097152 : Int)) (1 : Int) != (0 : Int)) = false → decide (IntKind.i64.wrap (w.fdiv (268435456 : Int)) < (0 : Int)) = false ∧ decide
      (IntKind.i64.wrap (w.fdiv (268435456 : Int)) > (15 : Int)) = false ∧ decide (IntKind.i64.wrap (bits BinOp.and IntKind.u32 (w.fdiv (32 : Int)) (3 : Int)) < (0 : Int)) =
      false ∧ decide (IntKind.i64.wrap (bits BinOp.and IntKind.u32 (w.fdiv (32 : Int)) (3 : Int)) > (15 : Int)) = false ∧ decide (IntKind.i64.wrap (bits BinOp.and IntKind.u32
      (w.fdiv (4096 : Int)) (15 : Int)) < (0 : Int)) = false ∧ decide (IntKind.i64.wrap (bits BinOp.and IntKind.u32 (w.fdiv (4096 : Int)) (15 : Int)) > (15 : Int)) = false ∧
      decide (IntKind.i64.wrap (bits BinOp.and IntKind.u32 (w.fdiv (65536 : Int)) (15 : Int)) < (0 : Int)) = false ∧ decide (IntKind.i64.wrap (bits BinOp.and IntKind.u32 (w.fdiv
      (65536 : Int)) (15 : Int)) > (15 : Int)) = false ∧ true = true)) ∧ ((bits BinOp.and IntKind.u32 (w.fdiv (4194304 : Int)) (1 : Int) != (0 : Int)) = false → ((bits BinOp.and
      IntKind.u32 (w.fdiv (2097152 : Int)) (1 : Int) != (0 : Int)) = true → decide (IntKind.i64.wrap (w.fdiv (268435456 : Int)) < (0 : Int)) = false ∧ decide (IntKind.i64.wrap
      (w.fdiv (268435456 : Int)) > (15 : Int)) = false ∧ decide (IntKind.i64.wrap (bits BinOp.and IntKind.u32 (w.fdiv (32 : Int)) (3 : Int)) < (0 : Int)) = false ∧ decide
      (IntKind.i64.wrap (bits BinOp.and IntKind.u32 (w.fdiv (32 : Int)) (3 : Int)) > (15 : Int)) = false ∧ decide (IntKind.i64.wrap (bits BinOp.and IntKind.u32 (w.fdiv (4096 :
      Int)) (15 : Int)) < (0 : Int)) = false ∧ decide (IntKind.i64.wrap (bits BinOp.and IntKind.u32 (w.fdiv (4096 : Int)) (15 : Int)) > (15 : Int)) = false ∧ decide
      (IntKind.i64.wrap (bits BinOp.and IntKind.u32 (w.fdiv (65536 : Int)) (15 : Int)) < (0 : Int)) = false ∧ decide (IntKind.i64.wrap (bits BinOp.and IntKind.u32 (w.fdiv (65536
      : Int)) (15 : Int)) > (15 : Int)) = false ∧ decide (IntKind.i64.wrap (bits BinOp.and IntKind.u32 (w.fdiv (1 : Int)) (15 : Int)) < (0 : Int)) = false ∧ decide
      (IntKind.i64.wrap (bits BinOp.and IntKind.u32 (w.fdiv (1 : Int)) (15 : Int)) > (15 : Int)) = false ∧ true = true) ∧ ((bits BinOp.and IntKind.u32 (w.fdiv (2097152 : Int))
      (1 : Int) != (0 : Int)) = false → decide (IntKind.i64.wrap (w.fdiv (268435456 : Int)) < (0 : Int)) = false ∧ decide (IntKind.i64.wrap (w.fdiv (268435456 : Int)) > (15 :
      Int)) = false ∧ decide (IntKind.i64.wrap (bits BinOp.and IntKind.u32 (w.fdiv (32 : Int)) (3 : Int)) < (0 : Int)) = false ∧ decide (IntKind.i64.wrap (bits BinOp.and
      IntKind.u32 (w.fdiv (32 : Int)) (3 : Int)) > (15 : Int)) = false ∧ decide (IntKind.i64.wrap (bits BinOp.and IntKind.u32 (w.fdiv (4096 : Int)) (15 : Int)) < (0 : Int)) =
      false ∧ decide (IntKind.i64.wrap (bits BinOp.and IntKind.u32 (w.fdiv (4096 : Int)) (15 : Int)) > (15 : Int)) = false ∧ decide (IntKind.i64.wrap (bits BinOp.and IntKind.u32
      (w.fdiv (65536 : Int)) (15 : Int)) < (0 : Int)) = false ∧ decide (IntKind.i64.wrap (bits BinOp.and IntKind.u32 (w.fdiv (65536 : Int)) (15 : Int)) > (15 : Int)) = false ∧
      decide (IntKind.i64.wrap (bits BinOp.and IntKind.u32 (w.fdiv (1 : Int)) (15 : Int)) < (0 : Int)) = false ∧ decide (IntKind.i64.wrap (bits BinOp.and IntKind.u32 (w.fdiv (1
      : Int)) (15 : Int)) > (15 : Int)) = false ∧ true = true))) ∧ ((bits BinOp.and IntKind.u32 w (1048816 : Int) == (176 : Int)) = false → ((bits BinOp.and IntKind.u32 w
      (268435440 : Int) == (19922704 : Int)) = true → decide (IntKind.i64.wrap (w.fdiv (268435456 : Int)) < (0 : Int)) = false ∧ decide (IntKind.i64.wrap (w.fdiv (268435456 :
      Int)) > (15 : Int)) = false ∧ decide (IntKind.i64.wrap (bits BinOp.and IntKind.u32 (w.fdiv (1 : Int)) (15 : Int)) < (0 : Int)) = false ∧ decide (IntKind.i64.wrap (bits
      BinOp.and IntKind.u32 (w.fdiv (1 : Int)) (15 : Int)) > (15 : Int)) = false ∧ true = true) ∧ ((bits BinOp.and IntKind.u32 w (268435440 : Int) == (19922704 : Int)) = false →
      ((bits BinOp.and IntKind.u32 w (264179711 : Int) == (17760256 : Int)) = true → decide (IntKind.i64.wrap (w.fdiv (268435456 : Int)) < (0 : Int)) = false ∧ decide
      (IntKind.i64.wrap (w.fdiv (268435456 : Int)) > (15 : Int)) = false ∧ decide (IntKind.i64.wrap (bits BinOp.and IntKind.u32 (w.fdiv (4096 : Int)) (15 : Int)) < (0 : Int)) =
      false ∧ decide (IntKind.i64.wrap (bits BinOp.and IntKind.u32 (w.fdiv (4096 : Int)) (15 : Int)) > (15 : Int)) = false ∧ true = true) ∧ ((bits BinOp.and IntKind.u32 w
      (264179711 : Int) == (17760256 : Int)) = false → ((bits BinOp.and IntKind.u32 w (263258096 : Int) == (18935808 : Int)) = true → decide (IntKind.i64.wrap (w.fdiv (268435456
      : Int)) < (0 : Int)) = false ∧ decide (IntKind.i64.wrap (w.fdiv (268435456 : Int)) > (15 : Int)) = false ∧ decide (IntKind.i64.wrap (bits BinOp.and IntKind.u32 (w.fdiv (1
      : Int)) (15 : Int)) < (0 : Int)) = false ∧ decide (IntKind.i64.wrap (bits BinOp.and IntKind.u32 (w.fdiv (1 : Int)) (15 : Int)) > (15 : Int)) = false ∧ decide
      (IntKind.i64.wrap (bits BinOp.and IntKind.u32 (w.fdiv (65536 : Int)) (15 : Int)) < (0 : Int)) = false ∧ decide (IntKind.i64.wrap (bits BinOp.and IntKind.u32 (w.fdiv (65536
      : Int)) (15 : Int)) > (65535 : Int)) = false ∧ true = true) ∧ ((bits BinOp.and IntKind.u32 w (263258096 : Int) == (18935808 : Int)) = false → ((!bits BinOp.and IntKind.u32
      (w.fdiv (16 : Int)) (1 : Int) != (0 : Int)) = true → (decide (IntKind.i64.wrap (bits BinOp.and IntKind.u32 (w.fdiv (2097152 : Int)) (15 : Int)) ≥ (8 : Int)) = true →
      (decide (IntKind.i64.wrap (bits BinOp.and IntKind.u32 (w.fdiv (2097152 : Int)) (15 : Int)) ≤ (11 : Int)) = true → ((!bits BinOp.and IntKind.u32 (w.fdiv (1048576 : Int)) (1
      : Int) != (0 : Int)) = true → decide (IntKind.i64.wrap (w.fdiv (268435456 : Int)) < (0 : Int)) = false ∧ decide (IntKind.i64.wrap (w.fdiv (268435456 : Int)) > (15 : Int))
      = false ∧ (false ^^ (0 : Int) == (0 : Int) && (IntKind.i64.wrap (w.fdiv (268435456 : Int)) == IntKind.i64.wrap (w.fdiv (268435456 : Int)) && ((0 : Int) == (0 : Int) &&
      (false == false && ((0 : Int) == (0 : Int) && ((0 : Int) == (0 : Int) && ((0 : Int) == (0 : Int) && ((0 : Int) == (0 : Int) && ((0 : Int) == (0 : Int) && (false == false
      && ((0 : Int) == (0 : Int) && ((0 : Int) == (0 : Int) && (false == false && (false == false && (false == false && (false == false && (false == false && (false == false &&
      (false == false && (false == false && ((0 : Int) == (0 : Int) && (false == false && (false == false && (false == false && true)))))))))))))))))))))))) = true) ∧ ((!bits
      BinOp.and IntKind.u32 (w.fdiv (1048576 : Int)) (1 : Int) != (0 : Int)) = false → decide (IntKind.i64.wrap (w.fdiv (268435456 : Int)) < (0 : Int)) = false ∧ decide
      (IntKind.i64.wrap (w.fdiv (268435456 : Int)) > (15 : Int)) = false ∧ decide (IntKind.i64.wrap (bits BinOp.and IntKind.u32 (w.fdiv (2097152 : Int)) (15 : Int)) < (0 : Int))
      = false ∧ decide (IntKind.i64.wrap (bits BinOp.and IntKind.u32 (w.fdiv (2097152 : Int)) (15 : Int)) > (15 : Int)) = false ∧ decide (IntKind.i64.wrap (bits BinOp.and
      IntKind.u32 (w.fdiv (4096 : Int)) (15 : Int)) < (0 : Int)) = false ∧ decide (IntKind.i64.wrap (bits BinOp.and IntKind.u32 (w.fdiv (4096 : Int)) (15 : Int)) > (15 : Int)) =
      false ∧ decide (IntKind.i64.wrap (bits BinOp.and IntKind.u32 (w.fdiv (65536 : Int)) (15 : Int)) < (0 : Int)) = false ∧ decide (IntKind.i64.wrap (bits BinOp.and IntKind.u32
      (w.fdiv (65536 : Int)) (15 : Int)) > (15 : Int)) = false ∧ decide (IntKind.i64.wrap (bits BinOp.and IntKind.u32 (w.fdiv (1 : Int)) (15 : Int)) < (0 : Int)) = false ∧
      decide (IntKind.i64.wrap (bits BinOp.and IntKind.u32 (w.fdiv (1 : Int)) (15 : Int)) > (15 : Int)) = false ∧ decide (IntKind.i64.wrap (bits BinOp.and IntKind.u32 (w.fdiv
      (32 : Int)) (3 : Int)) < (0 : Int)) = false ∧ decide (IntKind.i64.wrap (bits BinOp.and IntKind.u32 (w.fdiv (32 : Int)) (3 : Int)) > (3 : Int)) = false ∧ decide
      (IntKind.i64.wrap (bits BinOp.and IntKind.u32 (w.fdiv (128 : Int)) (31 : Int)) < (0 : Int)) = false ∧ decide (IntKind.i64.wrap (bits BinOp.and IntKind.u32 (w.fdiv (128 :
      Int)) (31 : Int)) > (31 : Int)) = false ∧ true = true)) ∧ (decide (IntKind.i64.wrap (bits BinOp.and IntKind.u32 (w.fdiv (2097152 : Int)) (15 : Int)) ≤ (11 : Int)) = false
      → decide (IntKind.i64.wrap (w.fdiv (268435456 : Int)) < (0 : Int)) = false ∧ decide (IntKind.i64.wrap (w.fdiv (268435456 : Int)) > (15 : Int)) = false ∧ decide
      (IntKind.i64.wrap (bits BinOp.and IntKind.u32 (w.fdiv (2097152 : Int)) (15 : Int)) < (0 : Int)) = false ∧ decide (IntKind.i64.wrap (bits BinOp.and IntKind.u32 (w.fdiv
      (2097152 : Int)) (15 : Int)) > (15 : Int)) = false ∧ decide (IntKind.i64.wrap (bits BinOp.and IntKind.u32 (w.fdiv (4096 : Int)) (15 : Int)) < (0 : Int)) = false ∧ decide
      (IntKind.i64.wrap (bits BinOp.and IntKind.u32 (w.fdiv (4096 : Int)) (15 : Int)) > (15 : Int)) = false ∧ decide (IntKind.i64.wrap (bits BinOp.and IntKind.u32 (w.fdiv (65536
      : Int)) (15 : Int)) < (0 : Int)) = false ∧ decide (IntKind.i64.wrap (bits BinOp.and IntKind.u32 (w.fdiv (65536 : Int)) (15 : Int)) > (15 : Int)) = false ∧ decide
      (IntKind.i64.wrap (bits BinOp.and IntKind.u32 (w.fdiv (1 : Int)) (15 : Int)) < (0 : Int)) = false ∧ decide (IntKind.i64.wrap (bits BinOp.and IntKind.u32 (w.fdiv (1 : Int))
      (15 : Int)) > (15 : Int)) = false ∧ decide (IntKind.i64.wrap (bits BinOp.and IntKind.u32 (w.fdiv (32 : Int)) (3 : Int)) < (0 : Int)) = false ∧ decide (IntKind.i64.wrap
      (bits BinOp.and IntKind.u32 (w.fdiv (32 : Int)) (3 : Int)) > (3 : Int)) = false ∧ decide (IntKind.i64.wrap (bits BinOp.and IntKind.u32 (w.fdiv (128 : Int)) (31 : Int)) <
      (0 : Int)) = false ∧ decide (IntKind.i64.wrap (bits BinOp.and IntKind.u32 (w.fdiv (128 : Int)) (31 : Int)) > (31 : Int)) = false ∧ true = true)) ∧ (decide
      (IntKind.i64.wrap (bits BinOp.and IntKind.u32 (w.fdiv (2097152 : Int)) (15 : Int)) ≥ (8 : Int)) = false → decide (IntKind.i64.wrap (w.fdiv (268435456 : Int)) < (0 : Int))
      = false ∧ decide (IntKind.i64.wrap (w.fdiv (268435456 : Int)) > (15 : Int)) = false ∧ decide (IntKind.i64.wrap (bits BinOp.and IntKind.u32 (w.fdiv (2097152 : Int)) (15 :
      Int)) < (0 : Int)) = false ∧ decide (IntKind.i64.wrap (bits BinOp.and IntKind.u32 (w.fdiv (2097152 : Int)) (15 : Int)) > (15 : Int)) = false ∧ decide (IntKind.i64.wrap
      (bits BinOp.and IntKind.u32 (w.fdiv (4096 : Int)) (15 : Int)) < (0 : Int)) = false ∧ decide (IntKind.i64.wrap (bits BinOp.and IntKind.u32 (w.fdiv (4096 : Int)) (15 : Int))
      > (15 : Int)) = false ∧ decide (IntKind.i64.wrap (bits BinOp.and IntKind.u32 (w.fdiv (65536 : Int)) (15 : Int)) < (0 : Int)) = false ∧ decide (IntKind.i64.wrap (bits
      BinOp.and IntKind.u32 (w.fdiv (65536 : Int)) (15 : Int)) > (15 : Int)) = false ∧ decide (IntKind.i64.wrap (bits BinOp.and IntKind.u32 (w.fdiv (1 : Int)) (15 : Int)) < (0 :
      Int)) = false ∧ decide (IntKind.i64.wrap (bits BinOp.and IntKind.u32 (w.fdiv (1 : Int)) (15 : Int)) > (15 : Int)) = false ∧ decide (IntKind.i64.wrap (bits BinOp.and
      IntKind.u32 (w.fdiv (32 : Int)) (3 : Int)) < (0 : Int)) = false ∧ decide (IntKind.i64.wrap (bits BinOp.and IntKind.u32 (w.fdiv (32 : Int)) (3 : Int)) > (3 : Int)) = false
      ∧ decide (IntKind.i64.wrap (bits BinOp.and IntKind.u32 (w.fdiv (128 : Int)) (31 : Int)) < (0 : Int)) = false ∧ decide (IntKind.i64.wrap (bits BinOp.and IntKind.u32 (w.fdiv
      (128 : Int)) (31 : Int)) > (31 : Int)) = false ∧ true = true)) ∧ ((!bits BinOp.and IntKind.u32 (w.fdiv (16 : Int)) (1 : Int) != (0 : Int)) = false → ((!bits BinOp.and
      IntKind.u32 (w.fdiv (128 : Int)) (1 : Int) != (0 : Int)) = true → (decide (IntKind.i64.wrap (bits BinOp.and IntKind.u32 (w.fdiv (2097152 : Int)) (15 : Int)) ≥ (8 : Int)) =
      true → (decide (IntKind.i64.wrap (bits BinOp.and IntKind.u32 (w.fdiv (2097152 : Int)) (15 : Int)) ≤ (11 : Int)) = true → ((!bits BinOp.and IntKind.u32 (w.fdiv (1048576 :
      Int)) (1 : Int) != (0 : Int)) = true → decide (IntKind.i64.wrap (w.fdiv (268435456 : Int)) < (0 : Int)) = false ∧ decide (IntKind.i64.wrap (w.fdiv (268435456 : Int)) > (15
      : Int)) = false ∧ (false ^^ (0 : Int) == (0 : Int) && (IntKind.i64.wrap (w.fdiv (268435456 : Int)) == IntKind.i64.wrap (w.fdiv (268435456 : Int)) && ((0 : Int) == (0 :
      Int) && (false == false && ((0 : Int) == (0 : Int) && ((0 : Int) == (0 : Int) && ((0 : Int) == (0 : Int) && ((0 : Int) == (0 : Int) && ((0 : Int) == (0 : Int) && (false ==
      false && ((0 : Int) == (0 : Int) && ((0 : Int) == (0 : Int) && (false == false && (false == false && (false == false && (false == false && (false == false && (false ==
      false && (false == false && (false == false && ((0 : Int) == (0 : Int) && (false == false && (false == false && (false == false && true)))))))))))))))))))))))) = true) ∧
      ((!bits BinOp.and IntKind.u32 (w.fdiv (1048576 : Int)) (1 : Int) != (0 : Int)) = false → decide (IntKind.i64.wrap (w.fdiv (268435456 : Int)) < (0 : Int)) = false ∧ decide
      (IntKind.i64.wrap (w.fdiv (268435456 : Int)) > (15 : Int)) = false ∧ decide (IntKind.i64.wrap (bits BinOp.and IntKind.u32 (w.fdiv (2097152 : Int)) (15 : Int)) < (0 : Int))
      = false ∧ decide (IntKind.i64.wrap (bits BinOp.and IntKind.u32 (w.fdiv (2097152 : Int)) (15 : Int)) > (15 : Int)) = false ∧ decide (IntKind.i64.wrap (bits BinOp.and
      IntKind.u32 (w.fdiv (4096 : Int)) (15 : Int)) < (0 : Int)) = false ∧ decide (IntKind.i64.wrap (bits BinOp.and IntKind.u32 (w.fdiv (4096 : Int)) (15 : Int)) > (15 : Int)) =
      false ∧ decide (IntKind.i64.wrap (bits BinOp.and IntKind.u32 (w.fdiv (65536 : Int)) (15 : Int)) < (0 : Int)) = false ∧ decide (IntKind.i64.wrap (bits BinOp.and IntKind.u32
      (w.fdiv (65536 : Int)) (15 : Int)) > (15 : Int)) = false ∧ decide (IntKind.i64.wrap (bits BinOp.and IntKind.u32 (w.fdiv (256 : Int)) (15 : Int)) < (0 : Int)) = false ∧
      decide (IntKind.i64.wrap (bits BinOp.and IntKind.u32 (w.fdiv (256 : Int)) (15 : Int)) > (15 : Int)) = false ∧ decide (IntKind.i64.wrap (bits BinOp.and IntKind.u32 (w.fdiv
      (1 : Int)) (15 : Int)) < (0 : Int)) = false ∧ decide (IntKind.i64.wrap (bits BinOp.and IntKind.u32 (w.fdiv (1 : Int)) (15 : Int)) > (15 : Int)) = false ∧ decide
      (IntKind.i64.wrap (bits BinOp.and IntKind.u32 (w.fdiv (32 : Int)) (3 : Int)) < (0 : Int)) = false ∧ decide (IntKind.i64.wrap (bits BinOp.and IntKind.u32 (w.fdiv (32 :
      Int)) (3 : Int)) > (3 : Int)) = false ∧ true = true)) ∧ (decide (IntKind.i64.wrap (bits BinOp.and IntKind.u32 (w.fdiv (2097152 : Int)) (15 : Int)) ≤ (11 : Int)) = false →
      decide (IntKind.i64.wrap (w.fdiv (268435456 : Int)) < (0 : Int)) = false ∧ decide (IntKind.i64.wrap (w.fdiv (268435456 : Int)) > (15 : Int)) = false ∧ decide
      (IntKind.i64.wrap (bits BinOp.and IntKind.u32 (w.fdiv (2097152 : Int)) (15 : Int)) < (0 : Int)) = false ∧ decide (IntKind.i64.wrap (bits BinOp.and IntKind.u32 (w.fdiv
      (2097152 : Int)) (15 : Int)) > (15 : Int)) = false ∧ decide (IntKind.i64.wrap (bits BinOp.and IntKind.u32 (w.fdiv (4096 : Int)) (15 : Int)) < (0 : Int)) = false ∧ decide
      (IntKind.i64.wrap (bits BinOp.and IntKind.u32 (w.fdiv (4096 : Int)) (15 : Int)) > (15 : Int)) = false ∧ decide (IntKind.i64.wrap (bits BinOp.and IntKind.u32 (w.fdiv (65536
      : Int)) (15 : Int)) < (0 : Int)) = false ∧ decide (IntKind.i64.wrap (bits BinOp.and IntKind.u32 (w.fdiv (65536 : Int)) (15 : Int)) > (15 : Int)) = false ∧ decide
      (IntKind.i64.wrap (bits BinOp.and IntKind.u32 (w.fdiv (256 : Int)) (15 : Int)) < (0 : Int)) = false ∧ decide (IntKind.i64.wrap (bits BinOp.and IntKind.u32 (w.fdiv (256 :
      Int)) (15 : Int)) > (15 : Int)) = false ∧ decide (IntKind.i64.wrap (bits BinOp.and IntKind.u32 (w.fdiv (1 : Int)) (15 : Int)) < (0 : Int)) = false ∧ decide
      (IntKind.i64.wrap (bits BinOp.and IntKind.u32 (w.fdiv (1 : Int)) (15 : Int)) > (15 : Int)) = false ∧ decide (IntKind.i64.wrap (bits BinOp.and IntKind.u32 (w.fdiv (32 :
      Int)) (3 : Int)) < (0 : Int)) = false ∧ decide (IntKind.i64.wrap (bits BinOp.and IntKind.u32 (w.fdiv (32 : Int)) (3 : Int)) > (3 : Int)) = false ∧ true = true)) ∧ (decide
      (IntKind.i64.wrap (bits BinOp.and IntKind.u32 (w.fdiv (2097152 : Int)) (15 : Int)) ≥ (8 : Int)) = false → decide (IntKind.i64.wrap (w.fdiv (268435456 : Int)) < (0 : Int))
      = false ∧ decide (IntKind.i64.wrap (w.fdiv (268435456 : Int)) > (15 : Int)) = false ∧ decide (IntKind.i64.wrap (bits BinOp.and IntKind.u32 (w.fdiv (2097152 : Int)) (15 :
      Int)) < (0 : Int)) = false ∧ decide (IntKind.i64.wrap (bits BinOp.and IntKind.u32 (w.fdiv (2097152 : Int)) (15 : Int)) > (15 : Int)) = false ∧ decide (IntKind.i64.wrap
      (bits BinOp.and IntKind.u32 (w.fdiv (4096 : Int)) (15 : Int)) < (0 : Int)) = false ∧ decide (IntKind.i64.wrap (bits BinOp.and IntKind.u32 (w.fdiv (4096 : Int)) (15 : Int))
      > (15 : Int)) = false ∧ decide (IntKind.i64.wrap (bits BinOp.and IntKind.u32 (w.fdiv (65536 : Int)) (15 : Int)) < (0 : Int)) = false ∧ decide (IntKind.i64.wrap (bits
      BinOp.and IntKind.u32 (w.fdiv (65536 : Int)) (15 : Int)) > (15 : Int)) = false ∧ decide (IntKind.i64.wrap (bits BinOp.and IntKind.u32 (w.fdiv (256 : Int)) (15 : Int)) < (0
      : Int)) = false ∧ decide (IntKind.i64.wrap (bits BinOp.and IntKind.u32 (w.fdiv (256 : Int)) (15 : Int)) > (15 : Int)) = false ∧ decide (IntKind.i64.wrap (bits BinOp.and
      IntKind.u32 (w.fdiv (1 : Int)) (15 : Int)) < (0 : Int)) = false ∧ decide (IntKind.i64.wrap (bits BinOp.and IntKind.u32 (w.fdiv (1 : Int)) (15 : Int)) > (15 : Int)) = false
      ∧ decide (IntKind.i64.wrap (bits BinOp.and IntKind.u32 (w.fdiv (32 : Int)) (3 : Int)) < (0 : Int)) = false ∧ decide (IntKind.i64.wrap (bits BinOp.and IntKind.u32 (w.fdiv
      (32 : Int)) (3 : Int)) > (3 : Int)) = false ∧ true = true)) ∧ ((!bits BinOp.and IntKind.u32 (w.fdiv (128 : Int)) (1 : Int) != (0 : Int)) = false → decide (IntKind.i64.wrap
      (w.fdiv (268435456 : Int)) < (0 : Int)) = false ∧ decide (IntKind.i64.wrap (w.fdiv (268435456 : Int)) > (15 : Int)) = false ∧ (false ^^ (0 : Int) == (0 : Int) &&
      (IntKind.i64.wrap (w.fdiv (268435456 : Int)) == IntKind.i64.wrap (w.fdiv (268435456 : Int)) && ((0 : Int) == (0 : Int) && (false == false && ((0 : Int) == (0 : Int) && ((0
      : Int) == (0 : Int) && ((0 : Int) == (0 : Int) && ((0 : Int) == (0 : Int) && ((0 : Int) == (0 : Int) && (false == false && ((0 : Int) == (0 : Int) && ((0 : Int) == (0 :
      Int) && (false == false && (false == false && (false == false && (false == false && (false == false && (false == false && (false == false && (false == false && ((0 : Int)
      == (0 : Int) && (false == false && (false == false && (false == false && true)))))))))))))))))))))))) = true)))))))) ∧ ((bits BinOp.and IntKind.u32 w (1048720 : Int) ==
      (1048720 : Int)) = false → ((bits BinOp.and IntKind.u32 w (1048816 : Int) == (176 : Int)) = true → ((bits BinOp.and IntKind.u32 (w.fdiv (4194304 : Int)) (1 : Int) != (0 :
      Int)) = true → ((bits BinOp.and IntKind.u32 (w.fdiv (2097152 : Int)) (1 : Int) != (0 : Int)) = true → decide (IntKind.i64.wrap (w.fdiv (268435456 : Int)) < (0 : Int)) =
      false ∧ decide (IntKind.i64.wrap (w.fdiv (268435456 : Int)) > (15 : Int)) = false ∧ decide (IntKind.i64.wrap (bits BinOp.and IntKind.u32 (w.fdiv (32 : Int)) (3 : Int)) <
      (0 : Int)) = false ∧ decide (IntKind.i64.wrap (bits BinOp.and IntKind.u32 (w.fdiv (32 : Int)) (3 : Int)) > (15 : Int)) = false ∧ decide (IntKind.i64.wrap (bits BinOp.and
      IntKind.u32 (w.fdiv (4096 : Int)) (15 : Int)) < (0 : Int)) = false ∧ decide (IntKind.i64.wrap (bits BinOp.and IntKind.u32 (w.fdiv (4096 : Int)) (15 : Int)) > (15 : Int)) =
      false ∧ decide (IntKind.i64.wrap (bits BinOp.and IntKind.u32 (w.fdiv (65536 : Int)) (15 : Int)) < (0 : Int)) = false ∧ decide (IntKind.i64.wrap (bits BinOp.and IntKind.u32
      (w.fdiv (65536 : Int)) (15 : Int)) > (15 : Int)) = false ∧ true = true) ∧ ((bits BinOp.and IntKind.u32 (w.fdiv (2097152 : Int)) (1 : Int) != (0 : Int)) = false → decide
      (IntKind.i64.wrap (w.fdiv (268435456 : Int)) < (0 : Int)) = false ∧ decide (IntKind.i64.wrap (w.fdiv (268435456 : Int)) > (15 : Int)) = false ∧ decide (IntKind.i64.wrap
      (bits BinOp.and IntKind.u32 (w.fdiv (32 : Int)) (3 : Int)) < (0 : Int)) = false ∧ decide (IntKind.i64.wrap (bits BinOp.and IntKind.u32 (w.fdiv (32 : Int)) (3 : Int)) > (15
      : Int)) = false ∧ decide (IntKind.i64.wrap (bits BinOp.and IntKind.u32 (w.fdiv (4096 : Int)) (15 : Int)) < (0 : Int)) = false ∧ decide (IntKind.i64.wrap (bits BinOp.and
      IntKind.u32 (w.fdiv (4096 : Int)) (15 : Int)) > (15 : Int)) = false ∧ decide (IntKind.i64.wrap (bits BinOp.and IntKind.u32 (w.fdiv (65536 : Int)) (15 : Int)) < (0 : Int))
      = false ∧ decide (IntKind.i64.wrap (bits BinOp.and IntKind.u32 (w.fdiv (65536 : Int)) (15 : Int)) > (15 : Int)) = false ∧ true = true)) ∧ ((bits BinOp.and IntKind.u32
      (w.fdiv (4194304 : Int)) (1 : Int) != (0 : Int)) = false → ((bits BinOp.and IntKind.u32 (w.fdiv (2097152 : Int)) (1 : Int) != (0 : Int)) = true → decide (IntKind.i64.wrap
      (w.fdiv (268435456 : Int)) < (0 : Int)) = false ∧ decide (IntKind.i64.wrap (w.fdiv (268435456 : Int)) > (15 : Int)) = false ∧ decide (IntKind.i64.wrap (bits BinOp.and
      IntKind.u32 (w.fdiv (32 : Int)) (3 : Int)) < (0 : Int)) = false ∧ decide (IntKind.i64.wrap (bits BinOp.and IntKind.u32 (w.fdiv (32 : Int)) (3 : Int)) > (15 : Int)) = false
      ∧ decide (IntKind.i64.wrap (bits BinOp.and IntKind.u32 (w.fdiv (4096 : Int)) (15 : Int)) < (0 : Int)) = false ∧ decide (IntKind.i64.wrap (bits BinOp.and IntKind.u32
      (w.fdiv (4096 : Int)) (15 : Int)) > (15 : Int)) = false ∧ decide (IntKind.i64.wrap (bits BinOp.and IntKind.u32 (w.fdiv (65536 : Int)) (15 : Int)) < (0 : Int)) = false ∧
      decide (IntKind.i64.wrap (bits BinOp.and IntKind.u32 (w.fdiv (65536 : Int)) (15 : Int)) > (15 : Int)) = false ∧ decide (IntKind.i64.wrap (bits BinOp.and IntKind.u32
      (w.fdiv (1 : Int)) (15 : Int)) < (0 : Int)) = false ∧ decide (IntKind.i64.wrap (bits BinOp.and IntKind.u32 (w.fdiv (1 : Int)) (15 : Int)) > (15 : Int)) = false ∧ true =
      true) ∧ ((bits BinOp.and IntKind.u32 (w.fdiv (2097152 : Int)) (1 : Int) != (0 : Int)) = false → decide (IntKind.i64.wrap (w.fdiv (268435456 : Int)) < (0 : Int)) = false ∧
      decide (IntKind.i64.wrap (w.fdiv (268435456 : Int)) > (15 : Int)) = false ∧ decide (IntKind.i64.wrap (bits BinOp.and IntKind.u32 (w.fdiv (32 : Int)) (3 : Int)) < (0 :
      Int)) = false ∧ decide (IntKind.i64.wrap (bits BinOp.and IntKind.u32 (w.fdiv (32 : Int)) (3 : Int)) > (15 : Int)) = false ∧ decide (IntKind.i64.wrap (bits BinOp.and
      IntKind.u32 (w.fdiv (4096 : Int)) (15 : Int)) < (0 : Int)) = false ∧ decide (IntKind.i64.wrap (bits BinOp.and IntKind.u32 (w.fdiv (4096 : Int)) (15 : Int)) > (15 : Int)) =
      false ∧ decide (IntKind.i64.wrap (bits BinOp.and IntKind.u32 (w.fdiv (65536 : Int)) (15 : Int)) < (0 : Int)) = false ∧ decide (IntKind.i64.wrap (bits BinOp.and IntKind.u32
      (w.fdiv (65536 : Int)) (15 : Int)) > (15 : Int)) = false ∧ decide (IntKind.i64.wrap (bits BinOp.and IntKind.u32 (w.fdiv (1 : Int)) (15 : Int)) < (0 : Int)) = false ∧
      decide (IntKind.i64.wrap (bits BinOp.and IntKind.u32 (w.fdiv (1 : Int)) (15 : Int)) > (15 : Int)) = false ∧ true = true))) ∧ ((bits BinOp.and IntKind.u32 w (1048816 : Int)
      == (176 : Int)) = false → ((bits BinOp.and IntKind.u32 w (268435440 : Int) == (19922704 : Int)) = true → decide (IntKind.i64.wrap (w.fdiv (268435456 : Int)) < (0 : Int)) =
      false ∧ decide (IntKind.i64.wrap (w.fdiv (268435456 : Int)) > (15 : Int)) = false ∧ decide (IntKind.i64.wrap (bits BinOp.and IntKind.u32 (w.fdiv (1 : Int)) (15 : Int)) <
      (0 : Int)) = false ∧ decide (IntKind.i64.wrap (bits BinOp.and IntKind.u32 (w.fdiv (1 : Int)) (15 : Int)) > (15 : Int)) = false ∧ true = true) ∧ ((bits BinOp.and
      IntKind.u32 w (268435440 : Int) == (19922704 : Int)) = false → ((bits BinOp.and IntKind.u32 w (264179711 : Int) == (17760256 : Int)) = true → decide (IntKind.i64.wrap
      (w.fdiv (268435456 : Int)) < (0 : Int)) = false ∧ decide (IntKind.i64.wrap (w.fdiv (268435456 : Int)) > (15 : Int)) = false ∧ decide (IntKind.i64.wrap (bits BinOp.and
      IntKind.u32 (w.fdiv (4096 : Int)) (15 : Int)) < (0 : Int)) = false ∧ decide (IntKind.i64.wrap (bits BinOp.and IntKind.u32 (w.fdiv (4096 : Int)) (15 : Int)) > (15 : Int)) =
      false ∧ true = true) ∧ ((bits BinOp.and IntKind.u32 w (264179711 : Int) == (17760256 : Int)) = false → ((bits BinOp.and IntKind.u32 w (263258096 : Int) == (18935808 :
      Int)) = true → decide (IntKind.i64.wrap (w.fdiv (268435456 : Int)) < (0 : Int)) = false ∧ decide (IntKind.i64.wrap (w.fdiv (268435456 : Int)) > (15 : Int)) = false ∧
      decide (IntKind.i64.wrap (bits BinOp.and IntKind.u32 (w.fdiv (1 : Int)) (15 : Int)) < (0 : Int)) = false ∧ decide (IntKind.i64.wrap (bits BinOp.and IntKind.u32 (w.fdiv (1
      : Int)) (15 : Int)) > (15 : Int)) = false ∧ decide (IntKind.i64.wrap (bits BinOp.and IntKind.u32 (w.fdiv (65536 : Int)) (15 : Int)) < (0 : Int)) = false ∧ decide
      (IntKind.i64.wrap (bits BinOp.and IntKind.u32 (w.fdiv (65536 : Int)) (15 : Int)) > (65535 : Int)) = false ∧ true = true) ∧ ((bits BinOp.and IntKind.u32 w (263258096 : Int)
      == (18935808 : Int)) = false → ((!bits BinOp.and IntKind.u32 (w.fdiv (16 : Int)) (1 : Int) != (0 : Int)) = true → (decide (IntKind.i64.wrap (bits BinOp.and IntKind.u32
      (w.fdiv (2097152 : Int)) (15 : Int)) ≥ (8 : Int)) = true → (decide (IntKind.i64.wrap (bits BinOp.and IntKind.u32 (w.fdiv (2097152 : Int)) (15 : Int)) ≤ (11 : Int)) = true
      → ((!bits BinOp.and IntKind.u32 (w.fdiv (1048576 : Int)) (1 : Int) != (0 : Int)) = true → decide (IntKind.i64.wrap (w.fdiv (268435456 : Int)) < (0 : Int)) = false ∧ decide
      (IntKind.i64.wrap (w.fdiv (268435456 : Int)) > (15 : Int)) = false ∧ (false ^^ (0 : Int) == (0 : Int) && (IntKind.i64.wrap (w.fdiv (268435456 : Int)) == IntKind.i64.wrap
      (w.fdiv (268435456 : Int)) && ((0 : Int) == (0 : Int) && (false == false && ((0 : Int) == (0 : Int) && ((0 : Int) == (0 : Int) && ((0 : Int) == (0 : Int) && ((0 : Int) ==
      (0 : Int) && ((0 : Int) == (0 : Int) && (false == false && ((0 : Int) == (0 : Int) && ((0 : Int) == (0 : Int) && (false == false && (false == false && (false == false &&
      (false == false && (false == false && (false == false && (false == false && (false == false && ((0 : Int) == (0 : Int) && (false == false && (false == false && (false ==
      false && true)))))))))))))))))))))))) = true) ∧ ((!bits BinOp.and IntKind.u32 (w.fdiv (1048576 : Int)) (1 : Int) != (0 : Int)) = false → decide (IntKind.i64.wrap (w.fdiv
      (268435456 : Int)) < (0 : Int)) = false ∧ decide (IntKind.i64.wrap (w.fdiv (268435456 : Int)) > (15 : Int)) = false ∧ decide (IntKind.i64.wrap (bits BinOp.and IntKind.u32
      (w.fdiv (2097152 : Int)) (15 : Int)) < (0 : Int)) = false ∧ decide (IntKind.i64.wrap (bits BinOp.and IntKind.u32 (w.fdiv (2097152 : Int)) (15 : Int)) > (15 : Int)) = false
      ∧ decide (IntKind.i64.wrap (bits BinOp.and IntKind.u32 (w.fdiv (4096 : Int)) (15 : Int)) < (0 : Int)) = false ∧ decide (IntKind.i64.wrap (bits BinOp.and IntKind.u32
      (w.fdiv (4096 : Int)) (15 : Int)) > (15 : Int)) = false ∧ decide (IntKind.i64.wrap (bits BinOp.and IntKind.u32 (w.fdiv (65536 : Int)) (15 : Int)) < (0 : Int)) = false ∧
      decide (IntKind.i64.wrap (bits BinOp.and IntKind.u32 (w.fdiv (65536 : Int)) (15 : Int)) > (15 : Int)) = false ∧ decide (IntKind.i64.wrap (bits BinOp.and IntKind.u32
      (w.fdiv (1 : Int)) (15 : Int)) < (0 : Int)) = false ∧ decide (IntKind.i64.wrap (bits BinOp.and IntKind.u32 (w.fdiv (1 : Int)) (15 : Int)) > (15 : Int)) = false ∧ decide
      (IntKind.i64.wrap (bits BinOp.and IntKind.u32 (w.fdiv (32 : Int)) (3 : Int)) < (0 : Int)) = false ∧ decide (IntKind.i64.wrap (bits BinOp.and IntKind.u32 (w.fdiv (32 :
      Int)) (3 : Int)) > (3 : Int)) = false ∧ decide (IntKind.i64.wrap (bits BinOp.and IntKind.u32 (w.fdiv (128 : Int)) (31 : Int)) < (0 : Int)) = false ∧ decide
      (IntKind.i64.wrap (bits BinOp.and IntKind.u32 (w.fdiv (128 : Int)) (31 : Int)) > (31 : Int)) = false ∧ true = true)) ∧ (decide (IntKind.i64.wrap (bits BinOp.and
      IntKind.u32 (w.fdiv (2097152 : Int)) (15 : Int)) ≤ (11 : Int)) = false → decide (IntKind.i64.wrap (w.fdiv (268435456 : Int)) < (0 : Int)) = false ∧ decide
      (IntKind.i64.wrap (w.fdiv (268435456 : Int)) > (15 : Int)) = false ∧ decide (IntKind.i64.wrap (bits BinOp.and IntKind.u32 (w.fdiv (2097152 : Int)) (15 : Int)) < (0 : Int))
      = false ∧ decide (IntKind.i64.wrap (bits BinOp.and IntKind.u32 (w.fdiv (2097152 : Int)) (15 : Int)) > (15 : Int)) = false ∧ decide (IntKind.i64.wrap (bits BinOp.and
      IntKind.u32 (w.fdiv (4096 : Int)) (15 : Int)) < (0 : Int)) = false ∧ decide (IntKind.i64.wrap (bits BinOp.and IntKind.u32 (w.fdiv (4096 : Int)) (15 : Int)) > (15 : Int)) =
      false ∧ decide (IntKind.i64.wrap (bits BinOp.and IntKind.u32 (w.fdiv (65536 : Int)) (15 : Int)) < (0 : Int)) = false ∧ decide (IntKind.i64.wrap (bits BinOp.and IntKind.u32
      (w.fdiv (65536 : Int)) (15 : Int)) > (15 : Int)) = false ∧ decide (IntKind.i64.wrap (bits BinOp.and IntKind.u32 (w.fdiv (1 : Int)) (15 : Int)) < (0 : Int)) = false ∧
      decide (IntKind.i64.wrap (bits BinOp.and IntKind.u32 (w.fdiv (1 : Int)) (15 : Int)) > (15 : Int)) = false ∧ decide (IntKind.i64.wrap (bits BinOp.and IntKind.u32 (w.fdiv
      (32 : Int)) (3 : Int)) < (0 : Int)) = false ∧ decide (IntKind.i64.wrap (bits BinOp.and IntKind.u32 (w.fdiv (32 : Int)) (3 : Int)) > (3 : Int)) = false ∧ decide
      (IntKind.i64.wrap (bits BinOp.and IntKind.u32 (w.fdiv (128 : Int)) (31 : Int)) < (0 : Int)) = false ∧ decide (IntKind.i64.wrap (bits BinOp.and IntKind.u32 (w.fdiv (128 :
      Int)) (31 : Int)) > (31 : Int)) = false ∧ true = true)) ∧ (decide (IntKind.i64.wrap (bits BinOp.and IntKind.u32 (w.fdiv (2097152 : Int)) (15 : Int)) ≥ (8 : Int)) = false →
      decide (IntKind.i64.wrap (w.fdiv (268435456 : Int)) < (0 : Int)) = false ∧ decide (IntKind.i64.wrap (w.fdiv (268435456 : Int)) > (15 : Int)) = false ∧ decide
      (IntKind.i64.wrap (bits BinOp.and IntKind.u32 (w.fdiv (2097152 : Int)) (15 : Int)) < (0 : Int)) = false ∧ decide (IntKind.i64.wrap (bits BinOp.and IntKind.u32 (w.fdiv
      (2097152 : Int)) (15 : Int)) > (15 : Int)) = false ∧ decide (IntKind.i64.wrap (bits BinOp.and IntKind.u32 (w.fdiv (4096 : Int)) (15 : Int)) < (0 : Int)) = false ∧ decide
      (IntKind.i64.wrap (bits BinOp.and IntKind.u32 (w.fdiv (4096 : Int)) (15 : Int)) > (15 : Int)) = false ∧ decide (IntKind.i64.wrap (bits BinOp.and IntKind.u32 (w.fdiv (65536
      : Int)) (15 : Int)) < (0 : Int)) = false ∧ decide (IntKind.i64.wrap (bits BinOp.and IntKind.u32 (w.fdiv (65536 : Int)) (15 : Int)) > (15 : Int)) = false ∧ decide
      (IntKind.i64.wrap (bits BinOp.and IntKind.u32 (w.fdiv (1 : Int)) (15 : Int)) < (0 : Int)) = false ∧ decide (IntKind.i64.wrap (bits BinOp.and IntKind.u32 (w.fdiv (1 : Int))
      (15 : Int)) > (15 : Int)) = false ∧ decide (IntKind.i64.wrap (bits BinOp.and IntKind.u32 (w.fdiv (32 : Int)) (3 : Int)) < (0 : Int)) = false ∧ decide (IntKind.i64.wrap
      (bits BinOp.and IntKind.u32 (w.fdiv (32 : Int)) (3 : Int)) > (3 : Int)) = false ∧ decide (IntKind.i64.wrap (bits BinOp.and IntKind.u32 (w.fdiv (128 : Int)) (31 : Int)) <
      (0 : Int)) = false ∧ decide (IntKind.i64.wrap (bits BinOp.and IntKind.u32 (w.fdiv (128 : Int)) (31 : Int)) > (31 : Int)) = false ∧ true = true)) ∧ ((!bits BinOp.and
      IntKind.u32 (w.fdiv (16 : Int)) (1 : Int) != (0 : Int)) = false → ((!bits BinOp.and IntKind.u32 (w.fdiv (128 : Int)) (1 : Int) != (0 : Int)) = true → (decide
      (IntKind.i64.wrap (bits BinOp.and IntKind.u32 (w.fdiv (2097152 : Int)) (15 : Int)) ≥ (8 : Int)) = true → (decide (IntKind.i64.wrap (bits BinOp.and IntKind.u32 (w.fdiv
      (2097152 : Int)) (15 : Int)) ≤ (11 : Int)) = true → ((!bits BinOp.and IntKind.u32 (w.fdiv (1048576 : Int)) (1 : Int) != (0 : Int)) = true → decide (IntKind.i64.wrap
      (w.fdiv (268435456 : Int)) < (0 : Int)) = false ∧ decide (IntKind.i64.wrap (w.fdiv (268435456 : Int)) > (15 : Int)) = false ∧ (false ^^ (0 : Int) == (0 : Int) &&
      (IntKind.i64.wrap (w.fdiv (268435456 : Int)) == IntKind.i64.wrap (w.fdiv (268435456 : Int)) && ((0 : Int) == (0 : Int) && (false == false && ((0 : Int) == (0 : Int) && ((0
      : Int) == (0 : Int) && ((0 : Int) == (0 : Int) && ((0 : Int) == (0 : Int) && ((0 : Int) == (0 : Int) && (false == false && ((0 : Int) == (0 : Int) && ((0 : Int) == (0 :
      Int) && (false == false && (false == false && (false == false && (false == false && (false == false && (false == false && (false == false && (false == false && ((0 : Int)
      == (0 : Int) && (false == false && (false == false && (false == false && true)))))))))))))))))))))))) = true) ∧ ((!bits BinOp.and IntKind.u32 (w.fdiv (1048576 : Int)) (1 :
      Int) != (0 : Int)) = false → decide (IntKind.i64.wrap (w.fdiv (268435456 : Int)) < (0 : Int)) = false ∧ decide (IntKind.i64.wrap (w.fdiv (268435456 : Int)) > (15 : Int)) =
      false ∧ decide (IntKind.i64.wrap (bits BinOp.and IntKind.u32 (w.fdiv (2097152 : Int)) (15 : Int)) < (0 : Int)) = false ∧ decide (IntKind.i64.wrap (bits BinOp.and
      IntKind.u32 (w.fdiv (2097152 : Int)) (15 : Int)) > (15 : Int)) = false ∧ decide (IntKind.i64.wrap (bits BinOp.and IntKind.u32 (w.fdiv (4096 : Int)) (15 : Int)) < (0 :
      Int)) = false ∧ decide (IntKind.i64.wrap (bits BinOp.and IntKind.u32 (w.fdiv (4096 : Int)) (15 : Int)) > (15 : Int)) = false ∧ decide (IntKind.i64.wrap (bits BinOp.and
      IntKind.u32 (w.fdiv (65536 : Int)) (15 : Int)) < (0 : Int)) = false ∧ decide (IntKind.i64.wrap (bits BinOp.and IntKind.u32 (w.fdiv (65536 : Int)) (15 : Int)) > (15 : Int))
      = false ∧ decide (IntKind.i64.wrap (bits BinOp.and IntKind.u32 (w.fdiv (256 : Int)) (15 : Int)) < (0 : Int)) = false ∧ decide (IntKind.i64.wrap (bits BinOp.and IntKind.u32
      (w.fdiv (256 : Int)) (15 : Int)) > (15 : Int)) = false ∧ decide (IntKind.i64.wrap (bits BinOp.and IntKind.u32 (w.fdiv (1 : Int)) (15 : Int)) < (0 : Int)) = false ∧ decide
      (IntKind.i64.wrap (bits BinOp.and IntKind.u32 (w.fdiv (1 : Int)) (15 : Int)) > (15 : Int)) = false ∧ decide (IntKind.i64.wrap (bits BinOp.and IntKind.u32 (w.fdiv (32 :
      Int)) (3 : Int)) < (0 : Int)) = false ∧ decide (IntKind.i64.wrap (bits BinOp.and IntKind.u32 (w.fdiv (32 : Int)) (3 : Int)) > (3 : Int)) = false ∧ true = true)) ∧ (decide
      (IntKind.i64.wrap (bits BinOp.and IntKind.u32 (w.fdiv (2097152 : Int)) (15 : Int)) ≤ (11 : Int)) = false → decide (IntKind.i64.wrap (w.fdiv (268435456 : Int)) < (0 : Int))
      = false ∧ decide (IntKind.i64.wrap (w.fdiv (268435456 : Int)) > (15 : Int)) = false ∧ decide (IntKind.i64.wrap (bits BinOp.and IntKind.u32 (w.fdiv (2097152 : Int)) (15 :
      Int)) < (0 : Int)) = false ∧ decide (IntKind.i64.wrap (bits BinOp.and IntKind.u32 (w.fdiv (2097152 : Int)) (15 : Int)) > (15 : Int)) = false ∧ decide (IntKind.i64.wrap
      (bits BinOp.and IntKind.u32 (w.fdiv (4096 : Int)) (15 : Int)) < (0 : Int)) = false ∧ decide (IntKind.i64.wrap (bits BinOp.and IntKind.u32 (w.fdiv (4096 : Int)) (15 : Int))
      > (15 : Int)) = false ∧ decide (IntKind.i64.wrap (bits BinOp.and IntKind.u32 (w.fdiv (65536 : Int)) (15 : Int)) < (0 : Int)) = false ∧ decide (IntKind.i64.wrap (bits
      BinOp.and IntKind.u32 (w.fdiv (65536 : Int)) (15 : Int)) > (15 : Int)) = false ∧ decide (IntKind.i64.wrap (bits BinOp.and IntKind.u32 (w.fdiv (256 : Int)) (15 : Int)) < (0
      : Int)) = false ∧ decide (IntKind.i64.wrap (bits BinOp.and IntKind.u32 (w.fdiv (256 : Int)) (15 : Int)) > (15 : Int)) = false ∧ decide (IntKind.i64.wrap (bits BinOp.and
      IntKind.u32 (w.fdiv (1 : Int)) (15 : Int)) < (0 : Int)) = false ∧ decide (IntKind.i64.wrap (bits BinOp.and IntKind.u32 (w.fdiv (1 : Int)) (15 : Int)) > (15 : Int)) = false
      ∧ decide (IntKind.i64.wrap (bits BinOp.and IntKind.u32 (w.fdiv (32 : Int)) (3 : Int)) < (0 : Int)) = false ∧ decide (IntKind.i64.wrap (bits BinOp.and IntKind.u32 (w.fdiv
      (32 : Int)) (3 : Int)) > (3 : Int)) = false ∧ true = true)) ∧ (decide (IntKind.i64.wrap (bits BinOp.and IntKind.u32 (w.fdiv (2097152 : Int)) (15 : Int)) ≥ (8 : Int)) =
      false → decide (IntKind.i64.wrap (w.fdiv (268435456 : Int)) < (0 : Int)) = false ∧ decide (IntKind.i64.wrap (w.fdiv (268435456 : Int)) > (15 : Int)) = false ∧ decide
      (IntKind.i64.wrap (bits BinOp.and IntKind.u32 (w.fdiv (2097152 : Int)) (15 : Int)) < (0 : Int)) = false ∧ decide (IntKind.i64.wrap (bits BinOp.and IntKind.u32 (w.fdiv
      (2097152 : Int)) (15 : Int)) > (15 : Int)) = false ∧ decide (IntKind.i64.wrap (bits BinOp.and IntKind.u32 (w.fdiv (4096 : Int)) (15 : Int)) < (0 : Int)) = false ∧ decide
      (IntKind.i64.wrap (bits BinOp.and IntKind.u32 (w.fdiv (4096 : Int)) (15 : Int)) > (15 : Int)) = false ∧ decide (IntKind.i64.wrap (bits BinOp.and IntKind.u32 (w.fdiv (65536
      : Int)) (15 : Int)) < (0 : Int)) = false ∧ decide (IntKind.i64.wrap (bits BinOp.and IntKind.u32 (w.fdiv (65536 : Int)) (15 : Int)) > (15 : Int)) = false ∧ decide
      (IntKind.i64.wrap (bits BinOp.and IntKind.u32 (w.fdiv (256 : Int)) (15 : Int)) < (0 : Int)) = false ∧ decide (IntKind.i64.wrap (bits BinOp.and IntKind.u32 (w.fdiv (256 :
      Int)) (15 : Int)) > (15 : Int)) = false ∧ decide (IntKind.i64.wrap (bits BinOp.and IntKind.u32 (w.fdiv (1 : Int)) (15 : Int)) < (0 : Int)) = false ∧ decide
      (IntKind.i64.wrap (bits BinOp.and IntKind.u32 (w.fdiv (1 : Int)) (15 : Int)) > (15 : Int)) = false ∧ decide (IntKind.i64.wrap (bits BinOp.and IntKind.u32 (w.fdiv (32 :
      Int)) (3 : Int)) < (0 : Int)) = false ∧ decide (IntKind.i64.wrap (bits BinOp.and IntKind.u32 (w.fdiv (32 : Int)) (3 : Int)) > (3 : Int)) = false ∧ true = true)) ∧ ((!bits
      BinOp.and IntKind.u32 (w.fdiv (128 : Int)) (1 : Int) != (0 : Int)) = false → decide (IntKind.i64.wrap (w.fdiv (268435456 : Int)) < (0 : Int)) = false ∧ decide
      (IntKind.i64.wrap (w.fdiv (268435456 : Int)) > (15 : Int)) = false ∧ (false ^^ (0 : Int) == (0 : Int) && (IntKind.i64.wrap (w.fdiv (268435456 : Int)) == IntKind.i64.wrap
      (w.fdiv (268435456 : Int)) && ((0 : Int) == (0 : Int) && (false == false && ((0 : Int) == (0 : Int) && ((0 : Int) == (0 : Int) && ((0 : Int) == (0 : Int) && ((0 : Int) ==
      (0 : Int) && ((0 : Int) == (0 : Int) && (false == false && ((0 : Int) == (0 : Int) && ((0 : Int) == (0 : Int) && (false == false && (false == false && (false == false &&
      (false == false && (false == false && (false == false && (false == false && (false == false && ((0 : Int) == (0 : Int) && (false == false && (false == false && (false ==
      false && true)))))))))))))))))))))))) = true))))))))))) ∧ ((IntKind.i64.wrap (bits BinOp.and IntKind.u32 (w.fdiv (33554432 : Int)) (7 : Int)) == (0 : Int)) = false →
      ((IntKind.i64.wrap (bits BinOp.and IntKind.u32 (w.fdiv (33554432 : Int)) (7 : Int)) == (1 : Int)) = true → ((bits BinOp.and IntKind.u32 w (263254016 : Int) == (52490240 :
      Int)) = true → decide (IntKind.i64.wrap (w.fdiv (268435456 : Int)) < (0 : Int)) = false ∧ decide (IntKind.i64.wrap (w.fdiv (268435456 : Int)) > (15 : Int)) = false ∧
      decide (IntKind.i64.wrap (bits BinOp.and IntKind.u32 (w.fdiv (256 : Int)) (15 : Int)) < (0 : Int)) = false ∧ decide (IntKind.i64.wrap (bits BinOp.and IntKind.u32 (w.fdiv
      (256 : Int)) (15 : Int)) > (31 : Int)) = false ∧ decide (IntKind.i64.wrap (bits BinOp.and IntKind.u32 (w.fdiv (65536 : Int)) (15 : Int)) < (0 : Int)) = false ∧ decide
      (IntKind.i64.wrap (bits BinOp.and IntKind.u32 (w.fdiv (65536 : Int)) (15 : Int)) > (65535 : Int)) = false ∧ true = true) ∧ ((bits BinOp.and IntKind.u32 w (263254016 : Int)
      == (52490240 : Int)) = false → (decide (IntKind.i64.wrap (bits BinOp.and IntKind.u32 (w.fdiv (2097152 : Int)) (15 : Int)) ≥ (8 : Int)) = true → (decide (IntKind.i64.wrap
      (bits BinOp.and IntKind.u32 (w.fdiv (2097152 : Int)) (15 : Int)) ≤ (11 : Int)) = true → ((!bits BinOp.and IntKind.u32 (w.fdiv (1048576 : Int)) (1 : Int) != (0 : Int)) =
      true → decide (IntKind.i64.wrap (w.fdiv (268435456 : Int)) < (0 : Int)) = false ∧ decide (IntKind.i64.wrap (w.fdiv (268435456 : Int)) > (15 : Int)) = false ∧ (false ^^ (0
      : Int) == (0 : Int) && (IntKind.i64.wrap (w.fdiv (268435456 : Int)) == IntKind.i64.wrap (w.fdiv (268435456 : Int)) && ((0 : Int) == (0 : Int) && (false == false && ((0 :
      Int) == (0 : Int) && ((0 : Int) == (0 : Int) && ((0 : Int) == (0 : Int) && ((0 : Int) == (0 : Int) && ((0 : Int) == (0 : Int) && (false == false && ((0 : Int) == (0 : Int)
      && ((0 : Int) == (0 : Int) && (false == false && (false == false && (false == false && (false == false && (false == false && (false == false && (false == false && (false
      == false && ((0 : Int) == (0 : Int) && (false == false && (false == false && (false == false && true)))))))))))))))))))))))) = true) ∧ ((!bits BinOp.and IntKind.u32
      (w.fdiv (1048576 : Int)) (1 : Int) != (0 : Int)) = false → decide (IntKind.i64.wrap (w.fdiv (268435456 : Int)) < (0 : Int)) = false ∧ decide (IntKind.i64.wrap (w.fdiv
      (268435456 : Int)) > (15 : Int)) = false ∧ decide (IntKind.i64.wrap (bits BinOp.and IntKind.u32 (w.fdiv (2097152 : Int)) (15 : Int)) < (0 : Int)) = false ∧ decide
      (IntKind.i64.wrap (bits BinOp.and IntKind.u32 (w.fdiv (2097152 : Int)) (15 : Int)) > (15 : Int)) = false ∧ decide (IntKind.i64.wrap (bits BinOp.and IntKind.u32 (w.fdiv
      (4096 : Int)) (15 : Int)) < (0 : Int)) = false ∧ decide (IntKind.i64.wrap (bits BinOp.and IntKind.u32 (w.fdiv (4096 : Int)) (15 : Int)) > (15 : Int)) = false ∧ decide
      (IntKind.i64.wrap (bits BinOp.and IntKind.u32 (w.fdiv (65536 : Int)) (15 : Int)) < (0 : Int)) = false ∧ decide (IntKind.i64.wrap (bits BinOp.and IntKind.u32 (w.fdiv (65536
      : Int)) (15 : Int)) > (15 : Int)) = false ∧ decide (IntKind.i64.wrap (bits BinOp.and IntKind.u32 (w.fdiv (256 : Int)) (15 : Int)) < (0 : Int)) = false ∧ decide
      (IntKind.i64.wrap (bits BinOp.and IntKind.u32 (w.fdiv (256 : Int)) (15 : Int)) > (31 : Int)) = false ∧ true = true)) ∧ (decide (IntKind.i64.wrap (bits BinOp.and
      IntKind.u32 (w.fdiv (2097152 : Int)) (15 : Int)) ≤ (11 : Int)) = false → decide (IntKind.i64.wrap (w.fdiv (268435456 : Int)) < (0 : Int)) = false ∧ decide
      (IntKind.i64.wrap (w.fdiv (268435456 : Int)) > (15 : Int)) = false ∧ decide (IntKind.i64.wrap (bits BinOp.and IntKind.u32 (w.fdiv (2097152 : Int)) (15 : Int)) < (0 : Int))
      = false ∧ decide (IntKind.i64.wrap (bits BinOp.and IntKind.u32 (w.fdiv (2097152 : Int)) (15 : Int)) > (15 : Int)) = false ∧ decide (IntKind.i64.wrap (bits BinOp.and
      IntKind.u32 (w.fdiv (4096 : Int)) (15 : Int)) < (0 : Int)) = false ∧ decide (IntKind.i64.wrap (bits BinOp.and IntKind.u32 (w.fdiv (4096 : Int)) (15 : Int)) > (15 : Int)) =
      false ∧ decide (IntKind.i64.wrap (bits BinOp.and IntKind.u32 (w.fdiv (65536 : Int)) (15 : Int)) < (0 : Int)) = false ∧ decide (IntKind.i64.wrap (bits BinOp.and IntKind.u32
      (w.fdiv (65536 : Int)) (15 : Int)) > (15 : Int)) = false ∧ decide (IntKind.i64.wrap (bits BinOp.and IntKind.u32 (w.fdiv (256 : Int)) (15 : Int)) < (0 : Int)) = false ∧
      decide (IntKind.i64.wrap (bits BinOp.and IntKind.u32 (w.fdiv (256 : Int)) (15 : Int)) > (31 : Int)) = false ∧ true = true)) ∧ (decide (IntKind.i64.wrap (bits BinOp.and
      IntKind.u32 (w.fdiv (2097152 : Int)) (15 : Int)) ≥ (8 : Int)) = false → decide (IntKind.i64.wrap (w.fdiv (268435456 : Int)) < (0 : Int)) = false ∧ decide (IntKind.i64.wrap
      (w.fdiv (268435456 : Int)) > (15 : Int)) = false ∧ decide (IntKind.i64.wrap (bits BinOp.and IntKind.u32 (w.fdiv (2097152 : Int)) (15 : Int)) < (0 : Int)) = false ∧ decide
      (IntKind.i64.wrap (bits BinOp.and IntKind.u32 (w.fdiv (2097152 : Int)) (15 : Int)) > (15 : Int)) = false ∧ decide (IntKind.i64.wrap (bits BinOp.and IntKind.u32 (w.fdiv
      (4096 : Int)) (15 : Int)) < (0 : Int)) = false ∧ decide (IntKind.i64.wrap (bits BinOp.and IntKind.u32 (w.fdiv (4096 : Int)) (15 : Int)) > (15 : Int)) = false ∧ decide
      (IntKind.i64.wrap (bits BinOp.and IntKind.u32 (w.fdiv (65536 : Int)) (15 : Int)) < (0 : Int)) = false ∧ decide (IntKind.i64.wrap (bits BinOp.and IntKind.u32 (w.fdiv (65536
      : Int)) (15 : Int)) > (15 : Int)) = false ∧ decide (IntKind.i64.wrap (bits BinOp.and IntKind.u32 (w.fdiv (256 : Int)) (15 : Int)) < (0 : Int)) = false ∧ decide
      (IntKind.i64.wrap (bits BinOp.and IntKind.u32 (w.fdiv (256 : Int)) (15 : Int)) > (31 : Int)) = false ∧ true = true))) ∧ ((IntKind.i64.wrap (bits BinOp.and IntKind.u32
      (w.fdiv (33554432 : Int)) (7 : Int)) == (1 : Int)) = false → ((IntKind.i64.wrap (bits BinOp.and IntKind.u32 (w.fdiv (33554432 : Int)) (7 : Int)) == (2 : Int)) = true →
      ((bits BinOp.and IntKind.u32 (w.fdiv (33554432 : Int)) (1 : Int) != (0 : Int)) = true → ((bits BinOp.and IntKind.u32 (w.fdiv (2097152 : Int)) (1 : Int) != (0 : Int)) =
      true → decide (IntKind.i64.wrap (w.fdiv (268435456 : Int)) < (0 : Int)) = false ∧ decide (IntKind.i64.wrap (w.fdiv (268435456 : Int)) > (15 : Int)) = false ∧ decide
      (IntKind.i64.wrap (bits BinOp.and IntKind.u32 (w.fdiv (4096 : Int)) (15 : Int)) < (0 : Int)) = false ∧ decide (IntKind.i64.wrap (bits BinOp.and IntKind.u32 (w.fdiv (4096 :
      Int)) (15 : Int)) > (15 : Int)) = false ∧ decide (IntKind.i64.wrap (bits BinOp.and IntKind.u32 (w.fdiv (65536 : Int)) (15 : Int)) < (0 : Int)) = false ∧ decide
      (IntKind.i64.wrap (bits BinOp.and IntKind.u32 (w.fdiv (65536 : Int)) (15 : Int)) > (15 : Int)) = false ∧ decide (IntKind.i64.wrap (bits BinOp.and IntKind.u32 (w.fdiv (1 :
      Int)) (15 : Int)) < (0 : Int)) = false ∧ decide (IntKind.i64.wrap (bits BinOp.and IntKind.u32 (w.fdiv (1 : Int)) (15 : Int)) > (15 : Int)) = false ∧ decide
      (IntKind.i64.wrap (bits BinOp.and IntKind.u32 (w.fdiv (32 : Int)) (3 : Int)) < (0 : Int)) = false ∧ decide (IntKind.i64.wrap (bits BinOp.and IntKind.u32 (w.fdiv (32 :
      Int)) (3 : Int)) > (3 : Int)) = false ∧ decide (IntKind.i64.wrap (bits BinOp.and IntKind.u32 (w.fdiv (128 : Int)) (31 : Int)) < (0 : Int)) = false ∧ decide
      (IntKind.i64.wrap (bits BinOp.and IntKind.u32 (w.fdiv (128 : Int)) (31 : Int)) > (31 : Int)) = false ∧ true = true) ∧ ((bits BinOp.and IntKind.u32 (w.fdiv (2097152 : Int))
      (1 : Int) != (0 : Int)) = false → decide (IntKind.i64.wrap (w.fdiv (268435456 : Int)) < (0 : Int)) = false ∧ decide (IntKind.i64.wrap (w.fdiv (268435456 : Int)) > (15 :
      Int)) = false ∧ decide (IntKind.i64.wrap (bits BinOp.and IntKind.u32 (w.fdiv (4096 : Int)) (15 : Int)) < (0 : Int)) = false ∧ decide (IntKind.i64.wrap (bits BinOp.and
      IntKind.u32 (w.fdiv (4096 : Int)) (15 : Int)) > (15 : Int)) = false ∧ decide (IntKind.i64.wrap (bits BinOp.and IntKind.u32 (w.fdiv (65536 : Int)) (15 : Int)) < (0 : Int))
      = false ∧ decide (IntKind.i64.wrap (bits BinOp.and IntKind.u32 (w.fdiv (65536 : Int)) (15 : Int)) > (15 : Int)) = false ∧ decide (IntKind.i64.wrap (bits BinOp.and
      IntKind.u32 (w.fdiv (1 : Int)) (15 : Int)) < (0 : Int)) = false ∧ decide (IntKind.i64.wrap (bits BinOp.and IntKind.u32 (w.fdiv (1 : Int)) (15 : Int)) > (15 : Int)) = false
      ∧ decide (IntKind.i64.wrap (bits BinOp.and IntKind.u32 (w.fdiv (32 : Int)) (3 : Int)) < (0 : Int)) = false ∧ decide (IntKind.i64.wrap (bits BinOp.and IntKind.u32 (w.fdiv
      (32 : Int)) (3 : Int)) > (3 : Int)) = false ∧ decide (IntKind.i64.wrap (bits BinOp.and IntKind.u32 (w.fdiv (128 : Int)) (31 : Int)) < (0 : Int)) = false ∧ decide
      (IntKind.i64.wrap (bits BinOp.and IntKind.u32 (w.fdiv (128 : Int)) (31 : Int)) > (31 : Int)) = false ∧ true = true)) ∧ ((bits BinOp.and IntKind.u32 (w.fdiv (33554432 :
      Int)) (1 : Int) != (0 : Int)) = false → ((bits BinOp.and IntKind.u32 (w.fdiv (2097152 : Int)) (1 : Int) != (0 : Int)) = true → decide (IntKind.i64.wrap (w.fdiv (268435456
      : Int)) < (0 : Int)) = false ∧ decide (IntKind.i64.wrap (w.fdiv (268435456 : Int)) > (15 : Int)) = false ∧ decide (IntKind.i64.wrap (bits BinOp.and IntKind.u32 (w.fdiv
      (4096 : Int)) (15 : Int)) < (0 : Int)) = false ∧ decide (IntKind.i64.wrap (bits BinOp.and IntKind.u32 (w.fdiv (4096 : Int)) (15 : Int)) > (15 : Int)) = false ∧ decide
      (IntKind.i64.wrap (bits BinOp.and IntKind.u32 (w.fdiv (65536 : Int)) (15 : Int)) < (0 : Int)) = false ∧ decide (IntKind.i64.wrap (bits BinOp.and IntKind.u32 (w.fdiv (65536
      : Int)) (15 : Int)) > (15 : Int)) = false ∧ true = true) ∧ ((bits BinOp.and IntKind.u32 (w.fdiv (2097152 : Int)) (1 : Int) != (0 : Int)) = false → decide (IntKind.i64.wrap
      (w.fdiv (268435456 : Int)) < (0 : Int)) = false ∧ decide (IntKind.i64.wrap (w.fdiv (268435456 : Int)) > (15 : Int)) = false ∧ decide (IntKind.i64.wrap (bits BinOp.and
      IntKind.u32 (w.fdiv (4096 : Int)) (15 : Int)) < (0 : Int)) = false ∧ decide (IntKind.i64.wrap (bits BinOp.and IntKind.u32 (w.fdiv (4096 : Int)) (15 : Int)) > (15 : Int)) =
      false ∧ decide (IntKind.i64.wrap (bits BinOp.and IntKind.u32 (w.fdiv (65536 : Int)) (15 : Int)) < (0 : Int)) = false ∧ decide (IntKind.i64.wrap (bits BinOp.and IntKind.u32
      (w.fdiv (65536 : Int)) (15 : Int)) > (15 : Int)) = false ∧ true = true))) ∧ ((IntKind.i64.wrap (bits BinOp.and IntKind.u32 (w.fdiv (33554432 : Int)) (7 : Int)) == (2 :
      Int)) = false → ((IntKind.i64.wrap (bits BinOp.and IntKind.u32 (w.fdiv (33554432 : Int)) (7 : Int)) == (3 : Int)) = true → ((bits BinOp.and IntKind.u32 (w.fdiv (16 : Int))
      (1 : Int) != (0 : Int)) = true → decide (IntKind.i64.wrap (w.fdiv (268435456 : Int)) < (0 : Int)) = false ∧ decide (IntKind.i64.wrap (w.fdiv (268435456 : Int)) > (15 :
      Int)) = false ∧ (false ^^ (0 : Int) == (0 : Int) && (IntKind.i64.wrap (w.fdiv (268435456 : Int)) == IntKind.i64.wrap (w.fdiv (268435456 : Int)) && ((0 : Int) == (0 : Int)
      && (false == false && ((0 : Int) == (0 : Int) && ((0 : Int) == (0 : Int) && ((0 : Int) == (0 : Int) && ((0 : Int) == (0 : Int) && ((0 : Int) == (0 : Int) && (false ==
      false && ((0 : Int) == (0 : Int) && ((0 : Int) == (0 : Int) && (false == false && (false == false && (false == false && (false == false && (false == false && (false ==
      false && (false == false && (false == false && ((0 : Int) == (0 : Int) && (false == false && (false == false && (false == false && true)))))))))))))))))))))))) = true) ∧
      ((bits BinOp.and IntKind.u32 (w.fdiv (16 : Int)) (1 : Int) != (0 : Int)) = false → ((bits BinOp.and IntKind.u32 (w.fdiv (33554432 : Int)) (1 : Int) != (0 : Int)) = true →
      ((bits BinOp.and IntKind.u32 (w.fdiv (2097152 : Int)) (1 : Int) != (0 : Int)) = true → decide (IntKind.i64.wrap (w.fdiv (268435456 : Int)) < (0 : Int)) = false ∧ decide
      (IntKind.i64.wrap (w.fdiv (268435456 : Int)) > (15 : Int)) = false ∧ decide (IntKind.i64.wrap (bits BinOp.and IntKind.u32 (w.fdiv (4096 : Int)) (15 : Int)) < (0 : Int)) =
      false ∧ decide (IntKind.i64.wrap (bits BinOp.and IntKind.u32 (w.fdiv (4096 : Int)) (15 : Int)) > (15 : Int)) = false ∧ decide (IntKind.i64.wrap (bits BinOp.and IntKind.u32
      (w.fdiv (65536 : Int)) (15 : Int)) < (0 : Int)) = false ∧ decide (IntKind.i64.wrap (bits BinOp.and IntKind.u32 (w.fdiv (65536 : Int)) (15 : Int)) > (15 : Int)) = false ∧
      decide (IntKind.i64.wrap (bits BinOp.and IntKind.u32 (w.fdiv (1 : Int)) (15 : Int)) < (0 : Int)) = false ∧ decide (IntKind.i64.wrap (bits BinOp.and IntKind.u32 (w.fdiv (1
      : Int)) (15 : Int)) > (15 : Int)) = false ∧ decide (IntKind.i64.wrap (bits BinOp.and IntKind.u32 (w.fdiv (32 : Int)) (3 : Int)) < (0 : Int)) = false ∧ decide
      (IntKind.i64.wrap (bits BinOp.and IntKind.u32 (w.fdiv (32 : Int)) (3 : Int)) > (3 : Int)) = false ∧ decide (IntKind.i64.wrap (bits BinOp.and IntKind.u32 (w.fdiv (128 :
      Int)) (31 : Int)) < (0 : Int)) = false ∧ decide (IntKind.i64.wrap (bits BinOp.and IntKind.u32 (w.fdiv (128 : Int)) (31 : Int)) > (31 : Int)) = false ∧ true = true) ∧
      ((bits BinOp.and IntKind.u32 (w.fdiv (2097152 : Int)) (1 : Int) != (0 : Int)) = false → decide (IntKind.i64.wrap (w.fdiv (268435456 : Int)) < (0 : Int)) = false ∧ decide
      (IntKind.i64.wrap (w.fdiv (268435456 : Int)) > (15 : Int)) = false ∧ decide (IntKind.i64.wrap (bits BinOp.and IntKind.u32 (w.fdiv (4096 : Int)) (15 : Int)) < (0 : Int)) =
      false ∧ decide (IntKind.i64.wrap (bits BinOp.and IntKind.u32 (w.fdiv (4096 : Int)) (15 : Int)) > (15 : Int)) = false ∧ decide (IntKind.i64.wrap (bits BinOp.and IntKind.u32
      (w.fdiv (65536 : Int)) (15 : Int)) < (0 : Int)) = false ∧ decide (IntKind.i64.wrap (bits BinOp.and IntKind.u32 (w.fdiv (65536 : Int)) (15 : Int)) > (15 : Int)) = false ∧
      decide (IntKind.i64.wrap (bits BinOp.and IntKind.u32 (w.fdiv (1 : Int)) (15 : Int)) < (0 : Int)) = false ∧ decide (IntKind.i64.wrap (bits BinOp.and IntKind.u32 (w.fdiv (1
      : Int)) (15 : Int)) > (15 : Int)) = false ∧ decide (IntKind.i64.wrap (bits BinOp.and IntKind.u32 (w.fdiv (32 : Int)) (3 : Int)) < (0 : Int)) = false ∧ decide
      (IntKind.i64.wrap (bits BinOp.and IntKind.u32 (w.fdiv (32 : Int)) (3 : Int)) > (3 : Int)) = false ∧ decide (IntKind.i64.wrap (bits BinOp.and IntKind.u32 (w.fdiv (128 :
      Int)) (31 : Int)) < (0 : Int)) = false ∧ decide (IntKind.i64.wrap (bits BinOp.and IntKind.u32 (w.fdiv (128 : Int)) (31 : Int)) > (31 : Int)) = false ∧ true = true)) ∧
      ((bits BinOp.and IntKind.u32 (w.fdiv (33554432 : Int)) (1 : Int) != (0 : Int)) = false → ((bits BinOp.and IntKind.u32 (w.fdiv (2097152 : Int)) (1 : Int) != (0 : Int)) =
      true → decide (IntKind.i64.wrap (w.fdiv (268435456 : Int)) < (0 : Int)) = false ∧ decide (IntKind.i64.wrap (w.fdiv (268435456 : Int)) > (15 : Int)) = false ∧ decide
      (IntKind.i64.wrap (bits BinOp.and IntKind.u32 (w.fdiv (4096 : Int)) (15 : Int)) < (0 : Int)) = false ∧ decide (IntKind.i64.wrap (bits BinOp.and IntKind.u32 (w.fdiv (4096 :
      Int)) (15 : Int)) > (15 : Int)) = false ∧ decide (IntKind.i64.wrap (bits BinOp.and IntKind.u32 (w.fdiv (65536 : Int)) (15 : Int)) < (0 : Int)) = false ∧ decide
      (IntKind.i64.wrap (bits BinOp.and IntKind.u32 (w.fdiv (65536 : Int)) (15 : Int)) > (15 : Int)) = false ∧ true = true) ∧ ((bits BinOp.and IntKind.u32 (w.fdiv (2097152 :
      Int)) (1 : Int) != (0 : Int)) = false → decide (IntKind.i64.wrap (w.fdiv (268435456 : Int)) < (0 : Int)) = false ∧ decide (IntKind.i64.wrap (w.fdiv (268435456 : Int)) >
      (15 : Int)) = false ∧ decide (IntKind.i64.wrap (bits BinOp.and IntKind.u32 (w.fdiv (4096 : Int)) (15 : Int)) < (0 : Int)) = false ∧ decide (IntKind.i64.wrap (bits
      BinOp.and IntKind.u32 (w.fdiv (4096 : Int)) (15 : Int)) > (15 : Int)) = false ∧ decide (IntKind.i64.wrap (bits BinOp.and IntKind.u32 (w.fdiv (65536 : Int)) (15 : Int)) <
      (0 : Int)) = false ∧ decide (IntKind.i64.wrap (bits BinOp.and IntKind.u32 (w.fdiv (65536 : Int)) (15 : Int)) > (15 : Int)) = false ∧ true = true)))) ∧ ((IntKind.i64.wrap
      (bits BinOp.and IntKind.u32 (w.fdiv (33554432 : Int)) (7 : Int)) == (3 : Int)) = false → ((IntKind.i64.wrap (bits BinOp.and IntKind.u32 (w.fdiv (33554432 : Int)) (7 :
      Int)) == (4 : Int)) = true → decide (IntKind.i64.wrap (w.fdiv (268435456 : Int)) < (0 : Int)) = false ∧ decide (IntKind.i64.wrap (w.fdiv (268435456 : Int)) > (15 : Int)) =
      false ∧ decide (IntKind.i64.wrap (bits BinOp.and IntKind.u32 (w.fdiv (65536 : Int)) (15 : Int)) < (0 : Int)) = false ∧ decide (IntKind.i64.wrap (bits BinOp.and IntKind.u32
      (w.fdiv (65536 : Int)) (15 : Int)) > (15 : Int)) = false ∧ decide (IntKind.i64.wrap (bits BinOp.and IntKind.u32 (w.fdiv (1 : Int)) (65535 : Int)) < (0 : Int)) = false ∧
      decide (IntKind.i64.wrap (bits BinOp.and IntKind.u32 (w.fdiv (1 : Int)) (65535 : Int)) > (65535 : Int)) = false ∧ true = true) ∧ ((IntKind.i64.wrap (bits BinOp.and
      IntKind.u32 (w.fdiv (33554432 : Int)) (7 : Int)) == (4 : Int)) = false → ((IntKind.i64.wrap (bits BinOp.and IntKind.u32 (w.fdiv (33554432 : Int)) (7 : Int)) == (5 : Int))
      = true → decide (IntKind.i64.wrap (w.fdiv (268435456 : Int)) < (0 : Int)) = false ∧ decide (IntKind.i64.wrap (w.fdiv (268435456 : Int)) > (15 : Int)) = false ∧
      ((IntKind.u32.wrap ((IntKind.i32.wrap (IntKind.u32.wrap (w * (256 : Int)))).fdiv (64 : Int)) != (0 : Int)) = true → true = true) ∧ ((IntKind.u32.wrap ((IntKind.i32.wrap
      (IntKind.u32.wrap (w * (256 : Int)))).fdiv (64 : Int)) != (0 : Int)) = false → true = true)) ∧ ((IntKind.i64.wrap (bits BinOp.and IntKind.u32 (w.fdiv (33554432 : Int)) (7
      : Int)) == (5 : Int)) = false → ((IntKind.i64.wrap (bits BinOp.and IntKind.u32 (w.fdiv (16777216 : Int)) (15 : Int)) == (15 : Int)) = true → decide (IntKind.i64.wrap
      (w.fdiv (268435456 : Int)) < (0 : Int)) = false ∧ decide (IntKind.i64.wrap (w.fdiv (268435456 : Int)) > (15 : Int)) = false ∧ ((bits BinOp.and IntKind.u32 (w.fdiv (65536 :
      Int)) (255 : Int) != (0 : Int)) = true → true = true) ∧ ((bits BinOp.and IntKind.u32 (w.fdiv (65536 : Int)) (255 : Int) != (0 : Int)) = false → true = true)) ∧
      ((IntKind.i64.wrap (bits BinOp.and IntKind.u32 (w.fdiv (16777216 : Int)) (15 : Int)) == (15 : Int)) = false → decide (IntKind.i64.wrap (w.fdiv (268435456 : Int)) < (0 :
      Int)) = false ∧ decide (IntKind.i64.wrap (w.fdiv (268435456 : Int)) > (15 : Int)) = false ∧ (false ^^ (0 : Int) == (0 : Int) && (IntKind.i64.wrap (w.fdiv (268435456 :
      Int)) == IntKind.i64.wrap (w.fdiv (268435456 : Int)) && ((0 : Int) == (0 : Int) && (false == false && ((0 : Int) == (0 : Int) && ((0 : Int) == (0 : Int) && ((0 : Int) ==
      (0 : Int) && ((0 : Int) == (0 : Int) && ((0 : Int) == (0 : Int) && (false == false && ((0 : Int) == (0 : Int) && ((0 : Int) == (0 : Int) && (false == false && (false ==
      false && (false == false && (false == false && (false == false && (false == false && (false == false && (false == false && ((0 : Int) == (0 : Int) && (false == false &&
      (false == false && (false == false && true)))))))))))))))))))))))) = true)))))))) := by kernel_rfl
end Go.Proofs.Ytbnglhfhmhnimaa

