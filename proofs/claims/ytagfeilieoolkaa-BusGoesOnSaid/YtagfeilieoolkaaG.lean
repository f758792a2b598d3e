import Derived.Test.YtagfeilieoolkaaA
set_option linter.unusedVariables false
set_option linter.unusedSimpArgs false
namespace Go.Proofs.Ytagfeilieoolkaa
open Go Go.Proofs Go.Proofs.Ytagfeilieoolkaa.Ev
theorem goes_p (E : World) (x : Int) :
    (lawP (fnTree (pe E) (orcA E) (tabL fns) 20000 Try.f4 [.c (.i false .u32 x)] [])) =
    (((x.fdiv (16777216 : Int) == (0 : Int)) = true → (decide (bits BinOp.and IntKind.u32 x (16777215 : Int) < (16384 : Int)) = true → decide (IntKind.i64.wrap (bits BinOp.and
      IntKind.u32 x (16777215 : Int)) < (0 : Int)) = false ∧ decide (IntKind.i64.wrap (bits BinOp.and IntKind.u32 x (16777215 : Int)) ≥ (16384 : Int)) = false ∧ true = true) ∧
      (decide (bits BinOp.and IntKind.u32 x (16777215 : Int) < (16384 : Int)) = false → true = true)) ∧ ((x.fdiv (16777216 : Int) == (0 : Int)) = false → ((x.fdiv (16777216 :
      Int) == (2 : Int)) = true → decide (IntKind.i64.wrap (x.tmod (262144 : Int)) < (0 : Int)) = false ∧ decide (IntKind.i64.wrap (x.tmod (262144 : Int)) ≥ (262144 : Int)) =
      false ∧ (((IntKind.u32.wrap (x + (262144 : Int))).fdiv (16777216 : Int) != x.fdiv (16777216 : Int)) = true → true = true) ∧ (((IntKind.u32.wrap (x + (262144 : Int))).fdiv
      (16777216 : Int) != x.fdiv (16777216 : Int)) = false → (((IntKind.u32.wrap (x + (262144 : Int))).fdiv (16777216 : Int) == (0 : Int)) = true → decide (bits BinOp.and
      IntKind.u32 (IntKind.u32.wrap (x + (262144 : Int))) (16777215 : Int) < (16384 : Int)) = true ∧ false = true) ∧ (((IntKind.u32.wrap (x + (262144 : Int))).fdiv (16777216 :
      Int) == (0 : Int)) = false → (((IntKind.u32.wrap (x + (262144 : Int))).fdiv (16777216 : Int) == (2 : Int)) = true → (IntKind.i64.wrap ((IntKind.u32.wrap (x + (262144 :
      Int))).tmod (262144 : Int)) == IntKind.i64.wrap (x.tmod (262144 : Int))) = true) ∧ (((IntKind.u32.wrap (x + (262144 : Int))).fdiv (16777216 : Int) == (2 : Int)) = false →
      ((IntKind.u32.wrap (x + (262144 : Int))).fdiv (16777216 : Int) == (3 : Int)) = false ∧ (((IntKind.u32.wrap (x + (262144 : Int))).fdiv (16777216 : Int) == (4 : Int)) = true
      → decide (bits BinOp.and IntKind.u32 (IntKind.u32.wrap (x + (262144 : Int))) (16777215 : Int) < (1024 : Int)) = true ∧ false = true) ∧ (((IntKind.u32.wrap (x + (262144 :
      Int))).fdiv (16777216 : Int) == (4 : Int)) = false → ((IntKind.u32.wrap (x + (262144 : Int))).fdiv (16777216 : Int) == (5 : Int)) = false ∧ (((IntKind.u32.wrap (x +
      (262144 : Int))).fdiv (16777216 : Int) == (6 : Int)) = true → decide ((IntKind.u32.wrap (x + (262144 : Int))).tmod (131072 : Int) ≥ (98304 : Int)) = true ∧ false = true) ∧
      (((IntKind.u32.wrap (x + (262144 : Int))).fdiv (16777216 : Int) == (6 : Int)) = false → ((IntKind.u32.wrap (x + (262144 : Int))).fdiv (16777216 : Int) == (7 : Int)) =
      false ∧ ((IntKind.u32.wrap (x + (262144 : Int))).fdiv (16777216 : Int) == (8 : Int)) = false ∧ ((IntKind.u32.wrap (x + (262144 : Int))).fdiv (16777216 : Int) == (9 : Int))
      = false ∧ ((IntKind.u32.wrap (x + (262144 : Int))).fdiv (16777216 : Int) == (10 : Int)) = false ∧ ((IntKind.u32.wrap (x + (262144 : Int))).fdiv (16777216 : Int) == (11 :
      Int)) = false ∧ ((IntKind.u32.wrap (x + (262144 : Int))).fdiv (16777216 : Int) == (12 : Int)) = false ∧ ((IntKind.u32.wrap (x + (262144 : Int))).fdiv (16777216 : Int) ==
      (13 : Int)) = false ∧ ((IntKind.u32.wrap (x + (262144 : Int))).fdiv (16777216 : Int) == (14 : Int)) = false ∧ ((IntKind.u32.wrap (x + (262144 : Int))).fdiv (16777216 :
      Int) == (15 : Int)) = true ∧ false = true)))))) ∧ ((x.fdiv (16777216 : Int) == (2 : Int)) = false → ((x.fdiv (16777216 : Int) == (3 : Int)) = true → decide
      (IntKind.i64.wrap (x.tmod (32768 : Int)) < (0 : Int)) = false ∧ decide (IntKind.i64.wrap (x.tmod (32768 : Int)) ≥ (32768 : Int)) = false ∧ (((IntKind.u32.wrap (x + (32768
      : Int))).fdiv (16777216 : Int) != x.fdiv (16777216 : Int)) = true → true = true) ∧ (((IntKind.u32.wrap (x + (32768 : Int))).fdiv (16777216 : Int) != x.fdiv (16777216 :
      Int)) = false → (((IntKind.u32.wrap (x + (32768 : Int))).fdiv (16777216 : Int) == (0 : Int)) = true → decide (bits BinOp.and IntKind.u32 (IntKind.u32.wrap (x + (32768 :
      Int))) (16777215 : Int) < (16384 : Int)) = true ∧ false = true) ∧ (((IntKind.u32.wrap (x + (32768 : Int))).fdiv (16777216 : Int) == (0 : Int)) = false → ((IntKind.u32.wrap
      (x + (32768 : Int))).fdiv (16777216 : Int) == (2 : Int)) = false ∧ (((IntKind.u32.wrap (x + (32768 : Int))).fdiv (16777216 : Int) == (3 : Int)) = true → (IntKind.i64.wrap
      ((IntKind.u32.wrap (x + (32768 : Int))).tmod (32768 : Int)) == IntKind.i64.wrap (x.tmod (32768 : Int))) = true) ∧ (((IntKind.u32.wrap (x + (32768 : Int))).fdiv (16777216 :
      Int) == (3 : Int)) = false → (((IntKind.u32.wrap (x + (32768 : Int))).fdiv (16777216 : Int) == (4 : Int)) = true → decide (bits BinOp.and IntKind.u32 (IntKind.u32.wrap (x
      + (32768 : Int))) (16777215 : Int) < (1024 : Int)) = true ∧ false = true) ∧ (((IntKind.u32.wrap (x + (32768 : Int))).fdiv (16777216 : Int) == (4 : Int)) = false →
      ((IntKind.u32.wrap (x + (32768 : Int))).fdiv (16777216 : Int) == (5 : Int)) = false ∧ (((IntKind.u32.wrap (x + (32768 : Int))).fdiv (16777216 : Int) == (6 : Int)) = true →
      decide ((IntKind.u32.wrap (x + (32768 : Int))).tmod (131072 : Int) ≥ (98304 : Int)) = true ∧ false = true) ∧ (((IntKind.u32.wrap (x + (32768 : Int))).fdiv (16777216 : Int)
      == (6 : Int)) = false → ((IntKind.u32.wrap (x + (32768 : Int))).fdiv (16777216 : Int) == (7 : Int)) = false ∧ ((IntKind.u32.wrap (x + (32768 : Int))).fdiv (16777216 : Int)
      == (8 : Int)) = false ∧ ((IntKind.u32.wrap (x + (32768 : Int))).fdiv (16777216 : Int) == (9 : Int)) = false ∧ ((IntKind.u32.wrap (x + (32768 : Int))).fdiv (16777216 : Int)
      == (10 : Int)) = false ∧ ((IntKind.u32.wrap (x + (32768 : Int))).fdiv (16777216 : Int) == (11 : Int)) = false ∧ ((IntKind.u32.wrap (x + (32768 : Int))).fdiv (16777216 :
      Int) == (12 : Int)) = false ∧ ((IntKind.u32.wrap (x + (32768 : Int))).fdiv (16777216 : Int) == (13 : Int)) = false ∧ ((IntKind.u32.wrap (x + (32768 : Int))).fdiv (16777216
      : Int) == (14 : Int)) = false ∧ ((IntKind.u32.wrap (x + (32768 : Int))).fdiv (16777216 : Int) == (15 : Int)) = true ∧ false = true)))))) ∧ ((x.fdiv (16777216 : Int) == (3
      : Int)) = false → ((x.fdiv (16777216 : Int) == (4 : Int)) = true → (decide (bits BinOp.and IntKind.u32 x (16777215 : Int) < (1024 : Int)) = true → decide (IntKind.i64.wrap
      (bits BinOp.and IntKind.u32 x (16777215 : Int)) < (0 : Int)) = false ∧ decide (IntKind.i64.wrap (bits BinOp.and IntKind.u32 x (16777215 : Int)) ≥ (1024 : Int)) = false ∧
      true = true) ∧ (decide (bits BinOp.and IntKind.u32 x (16777215 : Int) < (1024 : Int)) = false → true = true)) ∧ ((x.fdiv (16777216 : Int) == (4 : Int)) = false → ((x.fdiv
      (16777216 : Int) == (5 : Int)) = true → decide (IntKind.i64.wrap (x.tmod (1024 : Int)) < (0 : Int)) = false ∧ decide (IntKind.i64.wrap (x.tmod (1024 : Int)) ≥ (1024 :
      Int)) = false ∧ (((IntKind.u32.wrap (x + (1024 : Int))).fdiv (16777216 : Int) != x.fdiv (16777216 : Int)) = true → true = true) ∧ (((IntKind.u32.wrap (x + (1024 :
      Int))).fdiv (16777216 : Int) != x.fdiv (16777216 : Int)) = false → (((IntKind.u32.wrap (x + (1024 : Int))).fdiv (16777216 : Int) == (0 : Int)) = true → decide (bits
      BinOp.and IntKind.u32 (IntKind.u32.wrap (x + (1024 : Int))) (16777215 : Int) < (16384 : Int)) = true ∧ false = true) ∧ (((IntKind.u32.wrap (x + (1024 : Int))).fdiv
      (16777216 : Int) == (0 : Int)) = false → ((IntKind.u32.wrap (x + (1024 : Int))).fdiv (16777216 : Int) == (2 : Int)) = false ∧ ((IntKind.u32.wrap (x + (1024 : Int))).fdiv
      (16777216 : Int) == (3 : Int)) = false ∧ (((IntKind.u32.wrap (x + (1024 : Int))).fdiv (16777216 : Int) == (4 : Int)) = true → decide (bits BinOp.and IntKind.u32
      (IntKind.u32.wrap (x + (1024 : Int))) (16777215 : Int) < (1024 : Int)) = true ∧ false = true) ∧ (((IntKind.u32.wrap (x + (1024 : Int))).fdiv (16777216 : Int) == (4 : Int))
      = false → (((IntKind.u32.wrap (x + (1024 : Int))).fdiv (16777216 : Int) == (5 : Int)) = true → (IntKind.i64.wrap ((IntKind.u32.wrap (x + (1024 : Int))).tmod (1024 : Int))
      == IntKind.i64.wrap (x.tmod (1024 : Int))) = true) ∧ (((IntKind.u32.wrap (x + (1024 : Int))).fdiv (16777216 : Int) == (5 : Int)) = false → (((IntKind.u32.wrap (x + (1024 :
      Int))).fdiv (16777216 : Int) == (6 : Int)) = true → decide ((IntKind.u32.wrap (x + (1024 : Int))).tmod (131072 : Int) ≥ (98304 : Int)) = true ∧ false = true) ∧
      (((IntKind.u32.wrap (x + (1024 : Int))).fdiv (16777216 : Int) == (6 : Int)) = false → ((IntKind.u32.wrap (x + (1024 : Int))).fdiv (16777216 : Int) == (7 : Int)) = false ∧
      ((IntKind.u32.wrap (x + (1024 : Int))).fdiv (16777216 : Int) == (8 : Int)) = false ∧ ((IntKind.u32.wrap (x + (1024 : Int))).fdiv (16777216 : Int) == (9 : Int)) = false ∧
      ((IntKind.u32.wrap (x + (1024 : Int))).fdiv (16777216 : Int) == (10 : Int)) = false ∧ ((IntKind.u32.wrap (x + (1024 : Int))).fdiv (16777216 : Int) == (11 : Int)) = false ∧
      ((IntKind.u32.wrap (x + (1024 : Int))).fdiv (16777216 : Int) == (12 : Int)) = false ∧ ((IntKind.u32.wrap (x + (1024 : Int))).fdiv (16777216 : Int) == (13 : Int)) = false ∧
      ((IntKind.u32.wrap (x + (1024 : Int))).fdiv (16777216 : Int) == (14 : Int)) = false ∧ ((IntKind.u32.wrap (x + (1024 : Int))).fdiv (16777216 : Int) == (15 : Int)) = true ∧
      false = true)))))) ∧ ((x.fdiv (16777216 : Int) == (5 : Int)) = false → ((x.fdiv (16777216 : Int) == (6 : Int)) = true → (decide (x.tmod (131072 : Int) ≥ (98304 : Int)) =
      true → decide (IntKind.i64.wrap (IntKind.u32.wrap (x.tmod (131072 : Int) - (32768 : Int))) < (0 : Int)) = false ∧ decide (IntKind.i64.wrap (IntKind.u32.wrap (x.tmod
      (131072 : Int) - (32768 : Int))) ≥ (98304 : Int)) = false ∧ (((IntKind.u32.wrap (x + (131072 : Int))).fdiv (16777216 : Int) != x.fdiv (16777216 : Int)) = true → true =
      true) ∧ (((IntKind.u32.wrap (x + (131072 : Int))).fdiv (16777216 : Int) != x.fdiv (16777216 : Int)) = false → (((IntKind.u32.wrap (x + (131072 : Int))).fdiv (16777216 :
      Int) == (0 : Int)) = true → decide (bits BinOp.and IntKind.u32 (IntKind.u32.wrap (x + (131072 : Int))) (16777215 : Int) < (16384 : Int)) = true ∧ false = true) ∧
      (((IntKind.u32.wrap (x + (131072 : Int))).fdiv (16777216 : Int) == (0 : Int)) = false → ((IntKind.u32.wrap (x + (131072 : Int))).fdiv (16777216 : Int) == (2 : Int)) =
      false ∧ ((IntKind.u32.wrap (x + (131072 : Int))).fdiv (16777216 : Int) == (3 : Int)) = false ∧ (((IntKind.u32.wrap (x + (131072 : Int))).fdiv (16777216 : Int) == (4 :
      Int)) = true → decide (bits BinOp.and IntKind.u32 (IntKind.u32.wrap (x + (131072 : Int))) (16777215 : Int) < (1024 : Int)) = true ∧ false = true) ∧ (((IntKind.u32.wrap (x
      + (131072 : Int))).fdiv (16777216 : Int) == (4 : Int)) = false → ((IntKind.u32.wrap (x + (131072 : Int))).fdiv (16777216 : Int) == (5 : Int)) = false ∧ (((IntKind.u32.wrap
      (x + (131072 : Int))).fdiv (16777216 : Int) == (6 : Int)) = true → (decide ((IntKind.u32.wrap (x + (131072 : Int))).tmod (131072 : Int) ≥ (98304 : Int)) = true →
      (IntKind.i64.wrap (IntKind.u32.wrap ((IntKind.u32.wrap (x + (131072 : Int))).tmod (131072 : Int) - (32768 : Int))) == IntKind.i64.wrap (IntKind.u32.wrap (x.tmod (131072 :
      Int) - (32768 : Int)))) = true) ∧ (decide ((IntKind.u32.wrap (x + (131072 : Int))).tmod (131072 : Int) ≥ (98304 : Int)) = false → (IntKind.i64.wrap ((IntKind.u32.wrap (x +
      (131072 : Int))).tmod (131072 : Int)) == IntKind.i64.wrap (IntKind.u32.wrap (x.tmod (131072 : Int) - (32768 : Int)))) = true)) ∧ (((IntKind.u32.wrap (x + (131072 :
      Int))).fdiv (16777216 : Int) == (6 : Int)) = false → ((IntKind.u32.wrap (x + (131072 : Int))).fdiv (16777216 : Int) == (7 : Int)) = false ∧ ((IntKind.u32.wrap (x + (131072
      : Int))).fdiv (16777216 : Int) == (8 : Int)) = false ∧ ((IntKind.u32.wrap (x + (131072 : Int))).fdiv (16777216 : Int) == (9 : Int)) = false ∧ ((IntKind.u32.wrap (x +
      (131072 : Int))).fdiv (16777216 : Int) == (10 : Int)) = false ∧ ((IntKind.u32.wrap (x + (131072 : Int))).fdiv (16777216 : Int) == (11 : Int)) = false ∧ ((IntKind.u32.wrap
      (x + (131072 : Int))).fdiv (16777216 : Int) == (12 : Int)) = false ∧ ((IntKind.u32.wrap (x + (131072 : Int))).fdiv (16777216 : Int) == (13 : Int)) = false ∧
      ((IntKind.u32.wrap (x + (131072 : Int))).fdiv (16777216 : Int) == (14 : Int)) = false ∧ ((IntKind.u32.wrap (x + (131072 : Int))).fdiv (16777216 : Int) == (15 : Int)) =
      true ∧ false = true))))) ∧ (decide (x.tmod (131072 : Int) ≥ (98304 : Int)) = false → decide (IntKind.i64.wrap (x.tmod (131072 : Int)) < (0 : Int)) = false ∧ decide
      (IntKind.i64.wrap (x.tmod (131072 : Int)) ≥ (98304 : Int)) = false ∧ (((IntKind.u32.wrap (x + (131072 : Int))).fdiv (16777216 : Int) != x.fdiv (16777216 : Int)) = true →
      true = true) ∧ (((IntKind.u32.wrap (x + (131072 : Int))).fdiv (16777216 : Int) != x.fdiv (16777216 : Int)) = false → (((IntKind.u32.wrap (x + (131072 : Int))).fdiv
      (16777216 : Int) == (0 : Int)) = true → decide (bits BinOp.and IntKind.u32 (IntKind.u32.wrap (x + (131072 : Int))) (16777215 : Int) < (16384 : Int)) = true ∧ false = true)
      ∧ (((IntKind.u32.wrap (x + (131072 : Int))).fdiv (16777216 : Int) == (0 : Int)) = false → ((IntKind.u32.wrap (x + (131072 : Int))).fdiv (16777216 : Int) == (2 : Int)) =
      false ∧ ((IntKind.u32.wrap (x + (131072 : Int))).fdiv (16777216 : Int) == (3 : Int)) = false ∧ (((IntKind.u32.wrap (x + (131072 : Int))).fdiv (16777216 : Int) == (4 :
      Int)) = true → decide (bits BinOp.and IntKind.u32 (IntKind.u32.wrap (x + (131072 : Int))) (16777215 : Int) < (1024 : Int)) = true ∧ false = true) ∧ (((IntKind.u32.wrap (x
      + (131072 : Int))).fdiv (16777216 : Int) == (4 : Int)) = false → ((IntKind.u32.wrap (x + (131072 : Int))).fdiv (16777216 : Int) == (5 : Int)) = false ∧ (((IntKind.u32.wrap
      (x + (131072 : Int))).fdiv (16777216 : Int) == (6 : Int)) = true → (decide ((IntKind.u32.wrap (x + (131072 : Int))).tmod (131072 : Int) ≥ (98304 : Int)) = true →
      (IntKind.i64.wrap (IntKind.u32.wrap ((IntKind.u32.wrap (x + (131072 : Int))).tmod (131072 : Int) - (32768 : Int))) == IntKind.i64.wrap (x.tmod (131072 : Int))) = true) ∧
      (decide ((IntKind.u32.wrap (x + (131072 : Int))).tmod (131072 : Int) ≥ (98304 : Int)) = false → (IntKind.i64.wrap ((IntKind.u32.wrap (x + (131072 : Int))).tmod (131072 :
      Int)) == IntKind.i64.wrap (x.tmod (131072 : Int))) = true)) ∧ (((IntKind.u32.wrap (x + (131072 : Int))).fdiv (16777216 : Int) == (6 : Int)) = false → ((IntKind.u32.wrap (x
      + (131072 : Int))).fdiv (16777216 : Int) == (7 : Int)) = false ∧ ((IntKind.u32.wrap (x + (131072 : Int))).fdiv (16777216 : Int) == (8 : Int)) = false ∧ ((IntKind.u32.wrap
      (x + (131072 : Int))).fdiv (16777216 : Int) == (9 : Int)) = false ∧ ((IntKind.u32.wrap (x + (131072 : Int))).fdiv (16777216 : Int) == (10 : Int)) = false ∧
      ((IntKind.u32.wrap (x + (131072 : Int))).fdiv (16777216 : Int) == (11 : Int)) = false ∧ ((IntKind.u32.wrap (x + (131072 : Int))).fdiv (16777216 : Int) == (12 : Int)) =
      false ∧ ((IntKind.u32.wrap (x + (131072 : Int))).fdiv (16777216 : Int) == (13 : Int)) = false ∧ ((IntKind.u32.wrap (x + (131072 : Int))).fdiv (16777216 : Int) == (14 :
      Int)) = false ∧ ((IntKind.u32.wrap (x + (131072 : Int))).fdiv (16777216 : Int) == (15 : Int)) = true ∧ false = true)))))) ∧ ((x.fdiv (16777216 : Int) == (6 : Int)) = false
      → ((x.fdiv (16777216 : Int) == (7 : Int)) = true → decide (IntKind.i64.wrap (x.tmod (1024 : Int)) < (0 : Int)) = false ∧ decide (IntKind.i64.wrap (x.tmod (1024 : Int)) ≥
      (1024 : Int)) = false ∧ (((IntKind.u32.wrap (x + (1024 : Int))).fdiv (16777216 : Int) != x.fdiv (16777216 : Int)) = true → true = true) ∧ (((IntKind.u32.wrap (x + (1024 :
      Int))).fdiv (16777216 : Int) != x.fdiv (16777216 : Int)) = false → (((IntKind.u32.wrap (x + (1024 : Int))).fdiv (16777216 : Int) == (0 : Int)) = true → decide (bits
      BinOp.and IntKind.u32 (IntKind.u32.wrap (x + (1024 : Int))) (16777215 : Int) < (16384 : Int)) = true ∧ false = true) ∧ (((IntKind.u32.wrap (x + (1024 : Int))).fdiv
      (16777216 : Int) == (0 : Int)) = false → ((IntKind.u32.wrap (x + (1024 : Int))).fdiv (16777216 : Int) == (2 : Int)) = false ∧ ((IntKind.u32.wrap (x + (1024 : Int))).fdiv
      (16777216 : Int) == (3 : Int)) = false ∧ (((IntKind.u32.wrap (x + (1024 : Int))).fdiv (16777216 : Int) == (4 : Int)) = true → decide (bits BinOp.and IntKind.u32
      (IntKind.u32.wrap (x + (1024 : Int))) (16777215 : Int) < (1024 : Int)) = true ∧ false = true) ∧ (((IntKind.u32.wrap (x + (1024 : Int))).fdiv (16777216 : Int) == (4 : Int))
      = false → ((IntKind.u32.wrap (x + (1024 : Int))).fdiv (16777216 : Int) == (5 : Int)) = false ∧ (((IntKind.u32.wrap (x + (1024 : Int))).fdiv (16777216 : Int) == (6 : Int))
      = true → decide ((IntKind.u32.wrap (x + (1024 : Int))).tmod (131072 : Int) ≥ (98304 : Int)) = true ∧ false = true) ∧ (((IntKind.u32.wrap (x + (1024 : Int))).fdiv (16777216
      : Int) == (6 : Int)) = false → (((IntKind.u32.wrap (x + (1024 : Int))).fdiv (16777216 : Int) == (7 : Int)) = true → (IntKind.i64.wrap ((IntKind.u32.wrap (x + (1024 :
      Int))).tmod (1024 : Int)) == IntKind.i64.wrap (x.tmod (1024 : Int))) = true) ∧ (((IntKind.u32.wrap (x + (1024 : Int))).fdiv (16777216 : Int) == (7 : Int)) = false →
      ((IntKind.u32.wrap (x + (1024 : Int))).fdiv (16777216 : Int) == (8 : Int)) = false ∧ ((IntKind.u32.wrap (x + (1024 : Int))).fdiv (16777216 : Int) == (9 : Int)) = false ∧
      ((IntKind.u32.wrap (x + (1024 : Int))).fdiv (16777216 : Int) == (10 : Int)) = false ∧ ((IntKind.u32.wrap (x + (1024 : Int))).fdiv (16777216 : Int) == (11 : Int)) = false ∧
      ((IntKind.u32.wrap (x + (1024 : Int))).fdiv (16777216 : Int) == (12 : Int)) = false ∧ ((IntKind.u32.wrap (x + (1024 : Int))).fdiv (16777216 : Int) == (13 : Int)) = false ∧
      ((IntKind.u32.wrap (x + (1024 : Int))).fdiv (16777216 : Int) == (14 : Int)) = false ∧ ((IntKind.u32.wrap (x + (1024 : Int))).fdiv (16777216 : Int) == (15 : Int)) = true ∧
      false = true)))))) ∧ ((x.fdiv (16777216 : Int) == (7 : Int)) = false → ((x.fdiv (16777216 : Int) == (8 : Int)) = true → decide (IntKind.i64.wrap (x.tmod (33554432 : Int))
      < (0 : Int)) = false ∧ decide (IntKind.i64.wrap (x.tmod (33554432 : Int)) ≥ (33554432 : Int)) = false ∧ true = true) ∧ ((x.fdiv (16777216 : Int) == (8 : Int)) = false →
      ((x.fdiv (16777216 : Int) == (9 : Int)) = true → decide (IntKind.i64.wrap (x.tmod (33554432 : Int)) < (0 : Int)) = false ∧ decide (IntKind.i64.wrap (x.tmod (33554432 :
      Int)) ≥ (33554432 : Int)) = false ∧ true = true) ∧ ((x.fdiv (16777216 : Int) == (9 : Int)) = false → ((x.fdiv (16777216 : Int) == (10 : Int)) = true → decide
      (IntKind.i64.wrap (x.tmod (33554432 : Int)) < (0 : Int)) = false ∧ decide (IntKind.i64.wrap (x.tmod (33554432 : Int)) ≥ (33554432 : Int)) = false ∧ true = true) ∧ ((x.fdiv
      (16777216 : Int) == (10 : Int)) = false → ((x.fdiv (16777216 : Int) == (11 : Int)) = true → decide (IntKind.i64.wrap (x.tmod (33554432 : Int)) < (0 : Int)) = false ∧
      decide (IntKind.i64.wrap (x.tmod (33554432 : Int)) ≥ (33554432 : Int)) = false ∧ true = true) ∧ ((x.fdiv (16777216 : Int) == (11 : Int)) = false → ((x.fdiv (16777216 :
      Int) == (12 : Int)) = true → decide (IntKind.i64.wrap (x.tmod (33554432 : Int)) < (0 : Int)) = false ∧ decide (IntKind.i64.wrap (x.tmod (33554432 : Int)) ≥ (33554432 :
      Int)) = false ∧ true = true) ∧ ((x.fdiv (16777216 : Int) == (12 : Int)) = false → ((x.fdiv (16777216 : Int) == (13 : Int)) = true → decide (IntKind.i64.wrap (x.tmod
      (33554432 : Int)) < (0 : Int)) = false ∧ decide (IntKind.i64.wrap (x.tmod (33554432 : Int)) ≥ (33554432 : Int)) = false ∧ true = true) ∧ ((x.fdiv (16777216 : Int) == (13 :
      Int)) = false → ((x.fdiv (16777216 : Int) == (14 : Int)) = true → decide (IntKind.i64.wrap (x.tmod (65536 : Int)) < (0 : Int)) = false ∧ decide (IntKind.i64.wrap (x.tmod
      (65536 : Int)) ≥ (65536 : Int)) = false ∧ (((IntKind.u32.wrap (x + (65536 : Int))).fdiv (16777216 : Int) != x.fdiv (16777216 : Int)) = true → true = true) ∧
      (((IntKind.u32.wrap (x + (65536 : Int))).fdiv (16777216 : Int) != x.fdiv (16777216 : Int)) = false → (((IntKind.u32.wrap (x + (65536 : Int))).fdiv (16777216 : Int) == (0 :
      Int)) = true → decide (bits BinOp.and IntKind.u32 (IntKind.u32.wrap (x + (65536 : Int))) (16777215 : Int) < (16384 : Int)) = true ∧ false = true) ∧ (((IntKind.u32.wrap (x
      + (65536 : Int))).fdiv (16777216 : Int) == (0 : Int)) = false → ((IntKind.u32.wrap (x + (65536 : Int))).fdiv (16777216 : Int) == (2 : Int)) = false ∧ ((IntKind.u32.wrap (x
      + (65536 : Int))).fdiv (16777216 : Int) == (3 : Int)) = false ∧ (((IntKind.u32.wrap (x + (65536 : Int))).fdiv (16777216 : Int) == (4 : Int)) = true → decide (bits
      BinOp.and IntKind.u32 (IntKind.u32.wrap (x + (65536 : Int))) (16777215 : Int) < (1024 : Int)) = true ∧ false = true) ∧ (((IntKind.u32.wrap (x + (65536 : Int))).fdiv
      (16777216 : Int) == (4 : Int)) = false → ((IntKind.u32.wrap (x + (65536 : Int))).fdiv (16777216 : Int) == (5 : Int)) = false ∧ (((IntKind.u32.wrap (x + (65536 :
      Int))).fdiv (16777216 : Int) == (6 : Int)) = true → decide ((IntKind.u32.wrap (x + (65536 : Int))).tmod (131072 : Int) ≥ (98304 : Int)) = true ∧ false = true) ∧
      (((IntKind.u32.wrap (x + (65536 : Int))).fdiv (16777216 : Int) == (6 : Int)) = false → ((IntKind.u32.wrap (x + (65536 : Int))).fdiv (16777216 : Int) == (7 : Int)) = false
      ∧ ((IntKind.u32.wrap (x + (65536 : Int))).fdiv (16777216 : Int) == (8 : Int)) = false ∧ ((IntKind.u32.wrap (x + (65536 : Int))).fdiv (16777216 : Int) == (9 : Int)) = false
      ∧ ((IntKind.u32.wrap (x + (65536 : Int))).fdiv (16777216 : Int) == (10 : Int)) = false ∧ ((IntKind.u32.wrap (x + (65536 : Int))).fdiv (16777216 : Int) == (11 : Int)) =
      false ∧ ((IntKind.u32.wrap (x + (65536 : Int))).fdiv (16777216 : Int) == (12 : Int)) = false ∧ ((IntKind.u32.wrap (x + (65536 : Int))).fdiv (16777216 : Int) == (13 : Int))
      = false ∧ (((IntKind.u32.wrap (x + (65536 : Int))).fdiv (16777216 : Int) == (14 : Int)) = true → (IntKind.i64.wrap ((IntKind.u32.wrap (x + (65536 : Int))).tmod (65536 :
      Int)) == IntKind.i64.wrap (x.tmod (65536 : Int))) = true) ∧ (((IntKind.u32.wrap (x + (65536 : Int))).fdiv (16777216 : Int) == (14 : Int)) = false → ((IntKind.u32.wrap (x +
      (65536 : Int))).fdiv (16777216 : Int) == (15 : Int)) = true ∧ (IntKind.i64.wrap ((IntKind.u32.wrap (x + (65536 : Int))).tmod (65536 : Int)) == IntKind.i64.wrap (x.tmod
      (65536 : Int))) = true)))))) ∧ ((x.fdiv (16777216 : Int) == (14 : Int)) = false → ((x.fdiv (16777216 : Int) == (15 : Int)) = true → decide (IntKind.i64.wrap (x.tmod (65536
      : Int)) < (0 : Int)) = false ∧ decide (IntKind.i64.wrap (x.tmod (65536 : Int)) ≥ (65536 : Int)) = false ∧ (((IntKind.u32.wrap (x + (65536 : Int))).fdiv (16777216 : Int) !=
      x.fdiv (16777216 : Int)) = true → true = true) ∧ (((IntKind.u32.wrap (x + (65536 : Int))).fdiv (16777216 : Int) != x.fdiv (16777216 : Int)) = false → (((IntKind.u32.wrap
      (x + (65536 : Int))).fdiv (16777216 : Int) == (0 : Int)) = true → decide (bits BinOp.and IntKind.u32 (IntKind.u32.wrap (x + (65536 : Int))) (16777215 : Int) < (16384 :
      Int)) = true ∧ false = true) ∧ (((IntKind.u32.wrap (x + (65536 : Int))).fdiv (16777216 : Int) == (0 : Int)) = false → ((IntKind.u32.wrap (x + (65536 : Int))).fdiv
      (16777216 : Int) == (2 : Int)) = false ∧ ((IntKind.u32.wrap (x + (65536 : Int))).fdiv (16777216 : Int) == (3 : Int)) = false ∧ (((IntKind.u32.wrap (x + (65536 :
      Int))).fdiv (16777216 : Int) == (4 : Int)) = true → decide (bits BinOp.and IntKind.u32 (IntKind.u32.wrap (x + (65536 : Int))) (16777215 : Int) < (1024 : Int)) = true ∧
      false = true) ∧ (((IntKind.u32.wrap (x + (65536 : Int))).fdiv (16777216 : Int) == (4 : Int)) = false → ((IntKind.u32.wrap (x + (65536 : Int))).fdiv (16777216 : Int) == (5
      : Int)) = false ∧ (((IntKind.u32.wrap (x + (65536 : Int))).fdiv (16777216 : Int) == (6 : Int)) = true → decide ((IntKind.u32.wrap (x + (65536 : Int))).tmod (131072 : Int)
      ≥ (98304 : Int)) = true ∧ false = true) ∧ (((IntKind.u32.wrap (x + (65536 : Int))).fdiv (16777216 : Int) == (6 : Int)) = false → ((IntKind.u32.wrap (x + (65536 :
      Int))).fdiv (16777216 : Int) == (7 : Int)) = false ∧ ((IntKind.u32.wrap (x + (65536 : Int))).fdiv (16777216 : Int) == (8 : Int)) = false ∧ ((IntKind.u32.wrap (x + (65536 :
      Int))).fdiv (16777216 : Int) == (9 : Int)) = false ∧ ((IntKind.u32.wrap (x + (65536 : Int))).fdiv (16777216 : Int) == (10 : Int)) = false ∧ ((IntKind.u32.wrap (x + (65536
      : Int))).fdiv (16777216 : Int) == (11 : Int)) = false ∧ ((IntKind.u32.wrap (x + (65536 : Int))).fdiv (16777216 : Int) == (12 : Int)) = false ∧ ((IntKind.u32.wrap (x +
      (65536 : Int))).fdiv (16777216 : Int) == (13 : Int)) = false ∧ (((IntKind.u32.wrap (x + (65536 : Int))).fdiv (16777216 : Int) == (14 : Int)) = true → (IntKind.i64.wrap
      ((IntKind.u32.wrap (x + (65536 : Int))).tmod (65536 : Int)) == IntKind.i64.wrap (x.tmod (65536 : Int))) = true) ∧ (((IntKind.u32.wrap (x + (65536 : Int))).fdiv (16777216 :
      Int) == (14 : Int)) = false → ((IntKind.u32.wrap (x + (65536 : Int))).fdiv (16777216 : Int) == (15 : Int)) = true ∧ (IntKind.i64.wrap ((IntKind.u32.wrap (x + (65536 :
      Int))).tmod (65536 : Int)) == IntKind.i64.wrap (x.tmod (65536 : Int))) = true)))))) ∧ ((x.fdiv (16777216 : Int) == (15 : Int)) = false → true = true)))))))))))))))) := by kernel_rfl
theorem goes_l (E : World) (x : Int) (hx : 0 ≤ x ∧ x < 4294967296) : Holds (lawP (fnTree (pe E) (orcA E) (tabL fns) 20000 Try.f4 [.c (.i false .u32 x)] [])) := ⟨by
  rw [goes_p]
  simp (disch := first | decide | omega) only [fdiv_lit, wu32, tmod_n, and_m24, wi64_in, beqd, bne0, ne_eq, decide_eq_true_eq, decide_eq_false_iff_not, Decidable.not_not]
  obtain ⟨q, r, rfl, h0, h1, h2, h3⟩ : ∃ q r : Int, x = 16777216 * q + r ∧ 0 ≤ r ∧ r < 16777216 ∧ 0 ≤ q ∧ q < 256 := ⟨x / 16777216, x % 16777216, by omega, by omega, by omega, by omega, by omega⟩
  have e1 : (16777216 * q + r) / 16777216 = q := by omega
  have e2 : (16777216 * q + r) % 16777216 = r := by omega
  rw [e1]
  try rw [e2]
  (repeat' first | apply And.intro | intro _) <;> first | trivial | omega
⟩
end Go.Proofs.Ytagfeilieoolkaa

