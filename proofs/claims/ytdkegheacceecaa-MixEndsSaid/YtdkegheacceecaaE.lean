import Derived.Test.YtdkegheacceecaaC
import Derived.Test.YtdkegheacceecaaG
set_option linter.unusedVariables false
set_option linter.unusedSimpArgs false
namespace Go.Proofs.Ytdkegheacceecaa
open Go Go.Proofs Go.Proofs.Ytdkegheacceecaa.Ev
set_option maxRecDepth 100000
theorem ends_p (E : World) (a : Int) (b : Int) :
    (lawP (fnTree (pe E) (orcA E) (tabL fns) 20000 Try.f6 [.c (.i false .u16 a), .c (.i false .u16 b)] [])) =
    ((IntKind.u16.wrap (bits BinOp.or IntKind.i64 (bits BinOp.or IntKind.i64 (if (31 : Int) < IntKind.i64.wrap ((IntKind.i64.wrap (IntKind.i64.wrap (IntKind.i64.wrap (bits
      BinOp.and IntKind.u16 (bits BinOp.and IntKind.u16 a (32767 : Int)) (31 : Int)) * (16 : Int)) + IntKind.i64.wrap (IntKind.i64.wrap (bits BinOp.and IntKind.u16 (bits
      BinOp.and IntKind.u16 b (32767 : Int)) (31 : Int)) * (0 : Int)))).tdiv (16 : Int)) then (31 : Int) else IntKind.i64.wrap ((IntKind.i64.wrap (IntKind.i64.wrap
      (IntKind.i64.wrap (bits BinOp.and IntKind.u16 (bits BinOp.and IntKind.u16 a (32767 : Int)) (31 : Int)) * (16 : Int)) + IntKind.i64.wrap (IntKind.i64.wrap (bits BinOp.and
      IntKind.u16 (bits BinOp.and IntKind.u16 b (32767 : Int)) (31 : Int)) * (0 : Int)))).tdiv (16 : Int))) (IntKind.i64.wrap ((if (31 : Int) < IntKind.i64.wrap
      ((IntKind.i64.wrap (IntKind.i64.wrap (IntKind.i64.wrap (bits BinOp.and IntKind.u16 ((bits BinOp.and IntKind.u16 a (32767 : Int)).fdiv (32 : Int)) (31 : Int)) * (16 : Int))
      + IntKind.i64.wrap (IntKind.i64.wrap (bits BinOp.and IntKind.u16 ((bits BinOp.and IntKind.u16 b (32767 : Int)).fdiv (32 : Int)) (31 : Int)) * (0 : Int)))).tdiv (16 : Int))
      then (31 : Int) else IntKind.i64.wrap ((IntKind.i64.wrap (IntKind.i64.wrap (IntKind.i64.wrap (bits BinOp.and IntKind.u16 ((bits BinOp.and IntKind.u16 a (32767 : Int)).fdiv
      (32 : Int)) (31 : Int)) * (16 : Int)) + IntKind.i64.wrap (IntKind.i64.wrap (bits BinOp.and IntKind.u16 ((bits BinOp.and IntKind.u16 b (32767 : Int)).fdiv (32 : Int)) (31 :
      Int)) * (0 : Int)))).tdiv (16 : Int))) * (32 : Int)))) (IntKind.i64.wrap ((if (31 : Int) < IntKind.i64.wrap ((IntKind.i64.wrap (IntKind.i64.wrap (IntKind.i64.wrap (bits
      BinOp.and IntKind.u16 ((bits BinOp.and IntKind.u16 a (32767 : Int)).fdiv (1024 : Int)) (31 : Int)) * (16 : Int)) + IntKind.i64.wrap (IntKind.i64.wrap (bits BinOp.and
      IntKind.u16 ((bits BinOp.and IntKind.u16 b (32767 : Int)).fdiv (1024 : Int)) (31 : Int)) * (0 : Int)))).tdiv (16 : Int)) then (31 : Int) else IntKind.i64.wrap
      ((IntKind.i64.wrap (IntKind.i64.wrap (IntKind.i64.wrap (bits BinOp.and IntKind.u16 ((bits BinOp.and IntKind.u16 a (32767 : Int)).fdiv (1024 : Int)) (31 : Int)) * (16 :
      Int)) + IntKind.i64.wrap (IntKind.i64.wrap (bits BinOp.and IntKind.u16 ((bits BinOp.and IntKind.u16 b (32767 : Int)).fdiv (1024 : Int)) (31 : Int)) * (0 : Int)))).tdiv (16
      : Int))) * (1024 : Int)))) == bits BinOp.and IntKind.u16 a (32767 : Int)) = true ∧ (IntKind.u16.wrap (bits BinOp.or IntKind.i64 (bits BinOp.or IntKind.i64 (if (31 : Int) <
      IntKind.i64.wrap ((IntKind.i64.wrap (IntKind.i64.wrap (IntKind.i64.wrap (bits BinOp.and IntKind.u16 (bits BinOp.and IntKind.u16 a (32767 : Int)) (31 : Int)) * (0 : Int)) +
      IntKind.i64.wrap (IntKind.i64.wrap (bits BinOp.and IntKind.u16 (bits BinOp.and IntKind.u16 b (32767 : Int)) (31 : Int)) * (16 : Int)))).tdiv (16 : Int)) then (31 : Int)
      else IntKind.i64.wrap ((IntKind.i64.wrap (IntKind.i64.wrap (IntKind.i64.wrap (bits BinOp.and IntKind.u16 (bits BinOp.and IntKind.u16 a (32767 : Int)) (31 : Int)) * (0 :
      Int)) + IntKind.i64.wrap (IntKind.i64.wrap (bits BinOp.and IntKind.u16 (bits BinOp.and IntKind.u16 b (32767 : Int)) (31 : Int)) * (16 : Int)))).tdiv (16 : Int)))
      (IntKind.i64.wrap ((if (31 : Int) < IntKind.i64.wrap ((IntKind.i64.wrap (IntKind.i64.wrap (IntKind.i64.wrap (bits BinOp.and IntKind.u16 ((bits BinOp.and IntKind.u16 a
      (32767 : Int)).fdiv (32 : Int)) (31 : Int)) * (0 : Int)) + IntKind.i64.wrap (IntKind.i64.wrap (bits BinOp.and IntKind.u16 ((bits BinOp.and IntKind.u16 b (32767 :
      Int)).fdiv (32 : Int)) (31 : Int)) * (16 : Int)))).tdiv (16 : Int)) then (31 : Int) else IntKind.i64.wrap ((IntKind.i64.wrap (IntKind.i64.wrap (IntKind.i64.wrap (bits
      BinOp.and IntKind.u16 ((bits BinOp.and IntKind.u16 a (32767 : Int)).fdiv (32 : Int)) (31 : Int)) * (0 : Int)) + IntKind.i64.wrap (IntKind.i64.wrap (bits BinOp.and
      IntKind.u16 ((bits BinOp.and IntKind.u16 b (32767 : Int)).fdiv (32 : Int)) (31 : Int)) * (16 : Int)))).tdiv (16 : Int))) * (32 : Int)))) (IntKind.i64.wrap ((if (31 : Int)
      < IntKind.i64.wrap ((IntKind.i64.wrap (IntKind.i64.wrap (IntKind.i64.wrap (bits BinOp.and IntKind.u16 ((bits BinOp.and IntKind.u16 a (32767 : Int)).fdiv (1024 : Int)) (31
      : Int)) * (0 : Int)) + IntKind.i64.wrap (IntKind.i64.wrap (bits BinOp.and IntKind.u16 ((bits BinOp.and IntKind.u16 b (32767 : Int)).fdiv (1024 : Int)) (31 : Int)) * (16 :
      Int)))).tdiv (16 : Int)) then (31 : Int) else IntKind.i64.wrap ((IntKind.i64.wrap (IntKind.i64.wrap (IntKind.i64.wrap (bits BinOp.and IntKind.u16 ((bits BinOp.and
      IntKind.u16 a (32767 : Int)).fdiv (1024 : Int)) (31 : Int)) * (0 : Int)) + IntKind.i64.wrap (IntKind.i64.wrap (bits BinOp.and IntKind.u16 ((bits BinOp.and IntKind.u16 b
      (32767 : Int)).fdiv (1024 : Int)) (31 : Int)) * (16 : Int)))).tdiv (16 : Int))) * (1024 : Int)))) == bits BinOp.and IntKind.u16 b (32767 : Int)) = true ∧ (IntKind.u16.wrap
      (bits BinOp.or IntKind.i64 (bits BinOp.or IntKind.i64 (IntKind.i64.wrap (IntKind.i64.wrap (bits BinOp.and IntKind.u16 (bits BinOp.and IntKind.u16 a (32767 : Int)) (31 :
      Int)) - IntKind.i64.wrap ((IntKind.i64.wrap (IntKind.i64.wrap (bits BinOp.and IntKind.u16 (bits BinOp.and IntKind.u16 a (32767 : Int)) (31 : Int)) * (0 : Int))).tdiv (16 :
      Int)))) (IntKind.i64.wrap (IntKind.i64.wrap (IntKind.i64.wrap (bits BinOp.and IntKind.u16 ((bits BinOp.and IntKind.u16 a (32767 : Int)).fdiv (32 : Int)) (31 : Int)) -
      IntKind.i64.wrap ((IntKind.i64.wrap (IntKind.i64.wrap (bits BinOp.and IntKind.u16 ((bits BinOp.and IntKind.u16 a (32767 : Int)).fdiv (32 : Int)) (31 : Int)) * (0 :
      Int))).tdiv (16 : Int))) * (32 : Int)))) (IntKind.i64.wrap (IntKind.i64.wrap (IntKind.i64.wrap (bits BinOp.and IntKind.u16 ((bits BinOp.and IntKind.u16 a (32767 :
      Int)).fdiv (1024 : Int)) (31 : Int)) - IntKind.i64.wrap ((IntKind.i64.wrap (IntKind.i64.wrap (bits BinOp.and IntKind.u16 ((bits BinOp.and IntKind.u16 a (32767 : Int)).fdiv
      (1024 : Int)) (31 : Int)) * (0 : Int))).tdiv (16 : Int))) * (1024 : Int)))) == bits BinOp.and IntKind.u16 a (32767 : Int)) = true ∧ (IntKind.u16.wrap (bits BinOp.or
      IntKind.i64 (bits BinOp.or IntKind.i64 (IntKind.i64.wrap (IntKind.i64.wrap (bits BinOp.and IntKind.u16 (bits BinOp.and IntKind.u16 a (32767 : Int)) (31 : Int)) +
      IntKind.i64.wrap ((IntKind.i64.wrap (IntKind.i64.wrap ((31 : Int) - IntKind.i64.wrap (bits BinOp.and IntKind.u16 (bits BinOp.and IntKind.u16 a (32767 : Int)) (31 : Int)))
      * (0 : Int))).tdiv (16 : Int)))) (IntKind.i64.wrap (IntKind.i64.wrap (IntKind.i64.wrap (bits BinOp.and IntKind.u16 ((bits BinOp.and IntKind.u16 a (32767 : Int)).fdiv (32 :
      Int)) (31 : Int)) + IntKind.i64.wrap ((IntKind.i64.wrap (IntKind.i64.wrap ((31 : Int) - IntKind.i64.wrap (bits BinOp.and IntKind.u16 ((bits BinOp.and IntKind.u16 a (32767
      : Int)).fdiv (32 : Int)) (31 : Int))) * (0 : Int))).tdiv (16 : Int))) * (32 : Int)))) (IntKind.i64.wrap (IntKind.i64.wrap (IntKind.i64.wrap (bits BinOp.and IntKind.u16
      ((bits BinOp.and IntKind.u16 a (32767 : Int)).fdiv (1024 : Int)) (31 : Int)) + IntKind.i64.wrap ((IntKind.i64.wrap (IntKind.i64.wrap ((31 : Int) - IntKind.i64.wrap (bits
      BinOp.and IntKind.u16 ((bits BinOp.and IntKind.u16 a (32767 : Int)).fdiv (1024 : Int)) (31 : Int))) * (0 : Int))).tdiv (16 : Int))) * (1024 : Int)))) == bits BinOp.and
      IntKind.u16 a (32767 : Int)) = true ∧ (IntKind.u16.wrap (bits BinOp.or IntKind.i64 (bits BinOp.or IntKind.i64 (IntKind.i64.wrap (IntKind.i64.wrap (bits BinOp.and
      IntKind.u16 (bits BinOp.and IntKind.u16 a (32767 : Int)) (31 : Int)) - IntKind.i64.wrap ((IntKind.i64.wrap (IntKind.i64.wrap (bits BinOp.and IntKind.u16 (bits BinOp.and
      IntKind.u16 a (32767 : Int)) (31 : Int)) * (16 : Int))).tdiv (16 : Int)))) (IntKind.i64.wrap (IntKind.i64.wrap (IntKind.i64.wrap (bits BinOp.and IntKind.u16 ((bits
      BinOp.and IntKind.u16 a (32767 : Int)).fdiv (32 : Int)) (31 : Int)) - IntKind.i64.wrap ((IntKind.i64.wrap (IntKind.i64.wrap (bits BinOp.and IntKind.u16 ((bits BinOp.and
      IntKind.u16 a (32767 : Int)).fdiv (32 : Int)) (31 : Int)) * (16 : Int))).tdiv (16 : Int))) * (32 : Int)))) (IntKind.i64.wrap (IntKind.i64.wrap (IntKind.i64.wrap (bits
      BinOp.and IntKind.u16 ((bits BinOp.and IntKind.u16 a (32767 : Int)).fdiv (1024 : Int)) (31 : Int)) - IntKind.i64.wrap ((IntKind.i64.wrap (IntKind.i64.wrap (bits BinOp.and
      IntKind.u16 ((bits BinOp.and IntKind.u16 a (32767 : Int)).fdiv (1024 : Int)) (31 : Int)) * (16 : Int))).tdiv (16 : Int))) * (1024 : Int)))) == (0 : Int)) = true ∧
      (IntKind.u16.wrap (bits BinOp.or IntKind.i64 (bits BinOp.or IntKind.i64 (IntKind.i64.wrap (IntKind.i64.wrap (bits BinOp.and IntKind.u16 (bits BinOp.and IntKind.u16 a
      (32767 : Int)) (31 : Int)) + IntKind.i64.wrap ((IntKind.i64.wrap (IntKind.i64.wrap ((31 : Int) - IntKind.i64.wrap (bits BinOp.and IntKind.u16 (bits BinOp.and IntKind.u16 a
      (32767 : Int)) (31 : Int))) * (16 : Int))).tdiv (16 : Int)))) (IntKind.i64.wrap (IntKind.i64.wrap (IntKind.i64.wrap (bits BinOp.and IntKind.u16 ((bits BinOp.and
      IntKind.u16 a (32767 : Int)).fdiv (32 : Int)) (31 : Int)) + IntKind.i64.wrap ((IntKind.i64.wrap (IntKind.i64.wrap ((31 : Int) - IntKind.i64.wrap (bits BinOp.and
      IntKind.u16 ((bits BinOp.and IntKind.u16 a (32767 : Int)).fdiv (32 : Int)) (31 : Int))) * (16 : Int))).tdiv (16 : Int))) * (32 : Int)))) (IntKind.i64.wrap
      (IntKind.i64.wrap (IntKind.i64.wrap (bits BinOp.and IntKind.u16 ((bits BinOp.and IntKind.u16 a (32767 : Int)).fdiv (1024 : Int)) (31 : Int)) + IntKind.i64.wrap
      ((IntKind.i64.wrap (IntKind.i64.wrap ((31 : Int) - IntKind.i64.wrap (bits BinOp.and IntKind.u16 ((bits BinOp.and IntKind.u16 a (32767 : Int)).fdiv (1024 : Int)) (31 :
      Int))) * (16 : Int))).tdiv (16 : Int))) * (1024 : Int)))) == (32767 : Int)) = true ∧ (IntKind.u16.wrap (bits BinOp.or IntKind.i64 (bits BinOp.or IntKind.i64 (if (31 : Int)
      < IntKind.i64.wrap ((IntKind.i64.wrap (IntKind.i64.wrap (IntKind.i64.wrap (bits BinOp.and IntKind.u16 (bits BinOp.and IntKind.u16 a (32767 : Int)) (31 : Int)) * (8 : Int))
      + IntKind.i64.wrap (IntKind.i64.wrap (bits BinOp.and IntKind.u16 (bits BinOp.and IntKind.u16 a (32767 : Int)) (31 : Int)) * (8 : Int)))).tdiv (16 : Int)) then (31 : Int)
      else IntKind.i64.wrap ((IntKind.i64.wrap (IntKind.i64.wrap (IntKind.i64.wrap (bits BinOp.and IntKind.u16 (bits BinOp.and IntKind.u16 a (32767 : Int)) (31 : Int)) * (8 :
      Int)) + IntKind.i64.wrap (IntKind.i64.wrap (bits BinOp.and IntKind.u16 (bits BinOp.and IntKind.u16 a (32767 : Int)) (31 : Int)) * (8 : Int)))).tdiv (16 : Int)))
      (IntKind.i64.wrap ((if (31 : Int) < IntKind.i64.wrap ((IntKind.i64.wrap (IntKind.i64.wrap (IntKind.i64.wrap (bits BinOp.and IntKind.u16 ((bits BinOp.and IntKind.u16 a
      (32767 : Int)).fdiv (32 : Int)) (31 : Int)) * (8 : Int)) + IntKind.i64.wrap (IntKind.i64.wrap (bits BinOp.and IntKind.u16 ((bits BinOp.and IntKind.u16 a (32767 :
      Int)).fdiv (32 : Int)) (31 : Int)) * (8 : Int)))).tdiv (16 : Int)) then (31 : Int) else IntKind.i64.wrap ((IntKind.i64.wrap (IntKind.i64.wrap (IntKind.i64.wrap (bits
      BinOp.and IntKind.u16 ((bits BinOp.and IntKind.u16 a (32767 : Int)).fdiv (32 : Int)) (31 : Int)) * (8 : Int)) + IntKind.i64.wrap (IntKind.i64.wrap (bits BinOp.and
      IntKind.u16 ((bits BinOp.and IntKind.u16 a (32767 : Int)).fdiv (32 : Int)) (31 : Int)) * (8 : Int)))).tdiv (16 : Int))) * (32 : Int)))) (IntKind.i64.wrap ((if (31 : Int) <
      IntKind.i64.wrap ((IntKind.i64.wrap (IntKind.i64.wrap (IntKind.i64.wrap (bits BinOp.and IntKind.u16 ((bits BinOp.and IntKind.u16 a (32767 : Int)).fdiv (1024 : Int)) (31 :
      Int)) * (8 : Int)) + IntKind.i64.wrap (IntKind.i64.wrap (bits BinOp.and IntKind.u16 ((bits BinOp.and IntKind.u16 a (32767 : Int)).fdiv (1024 : Int)) (31 : Int)) * (8 :
      Int)))).tdiv (16 : Int)) then (31 : Int) else IntKind.i64.wrap ((IntKind.i64.wrap (IntKind.i64.wrap (IntKind.i64.wrap (bits BinOp.and IntKind.u16 ((bits BinOp.and
      IntKind.u16 a (32767 : Int)).fdiv (1024 : Int)) (31 : Int)) * (8 : Int)) + IntKind.i64.wrap (IntKind.i64.wrap (bits BinOp.and IntKind.u16 ((bits BinOp.and IntKind.u16 a
      (32767 : Int)).fdiv (1024 : Int)) (31 : Int)) * (8 : Int)))).tdiv (16 : Int))) * (1024 : Int)))) == bits BinOp.and IntKind.u16 a (32767 : Int)) = true ∧ (IntKind.u16.wrap
      (bits BinOp.or IntKind.i64 (bits BinOp.or IntKind.i64 (if (31 : Int) < IntKind.i64.wrap ((IntKind.i64.wrap (IntKind.i64.wrap (IntKind.i64.wrap (bits BinOp.and IntKind.u16
      (bits BinOp.and IntKind.u16 a (32767 : Int)) (31 : Int)) * (7 : Int)) + IntKind.i64.wrap (IntKind.i64.wrap (bits BinOp.and IntKind.u16 (bits BinOp.and IntKind.u16 b (32767
      : Int)) (31 : Int)) * (7 : Int)))).tdiv (16 : Int)) then (31 : Int) else IntKind.i64.wrap ((IntKind.i64.wrap (IntKind.i64.wrap (IntKind.i64.wrap (bits BinOp.and
      IntKind.u16 (bits BinOp.and IntKind.u16 a (32767 : Int)) (31 : Int)) * (7 : Int)) + IntKind.i64.wrap (IntKind.i64.wrap (bits BinOp.and IntKind.u16 (bits BinOp.and
      IntKind.u16 b (32767 : Int)) (31 : Int)) * (7 : Int)))).tdiv (16 : Int))) (IntKind.i64.wrap ((if (31 : Int) < IntKind.i64.wrap ((IntKind.i64.wrap (IntKind.i64.wrap
      (IntKind.i64.wrap (bits BinOp.and IntKind.u16 ((bits BinOp.and IntKind.u16 a (32767 : Int)).fdiv (32 : Int)) (31 : Int)) * (7 : Int)) + IntKind.i64.wrap (IntKind.i64.wrap
      (bits BinOp.and IntKind.u16 ((bits BinOp.and IntKind.u16 b (32767 : Int)).fdiv (32 : Int)) (31 : Int)) * (7 : Int)))).tdiv (16 : Int)) then (31 : Int) else
      IntKind.i64.wrap ((IntKind.i64.wrap (IntKind.i64.wrap (IntKind.i64.wrap (bits BinOp.and IntKind.u16 ((bits BinOp.and IntKind.u16 a (32767 : Int)).fdiv (32 : Int)) (31 :
      Int)) * (7 : Int)) + IntKind.i64.wrap (IntKind.i64.wrap (bits BinOp.and IntKind.u16 ((bits BinOp.and IntKind.u16 b (32767 : Int)).fdiv (32 : Int)) (31 : Int)) * (7 :
      Int)))).tdiv (16 : Int))) * (32 : Int)))) (IntKind.i64.wrap ((if (31 : Int) < IntKind.i64.wrap ((IntKind.i64.wrap (IntKind.i64.wrap (IntKind.i64.wrap (bits BinOp.and
      IntKind.u16 ((bits BinOp.and IntKind.u16 a (32767 : Int)).fdiv (1024 : Int)) (31 : Int)) * (7 : Int)) + IntKind.i64.wrap (IntKind.i64.wrap (bits BinOp.and IntKind.u16
      ((bits BinOp.and IntKind.u16 b (32767 : Int)).fdiv (1024 : Int)) (31 : Int)) * (7 : Int)))).tdiv (16 : Int)) then (31 : Int) else IntKind.i64.wrap ((IntKind.i64.wrap
      (IntKind.i64.wrap (IntKind.i64.wrap (bits BinOp.and IntKind.u16 ((bits BinOp.and IntKind.u16 a (32767 : Int)).fdiv (1024 : Int)) (31 : Int)) * (7 : Int)) +
      IntKind.i64.wrap (IntKind.i64.wrap (bits BinOp.and IntKind.u16 ((bits BinOp.and IntKind.u16 b (32767 : Int)).fdiv (1024 : Int)) (31 : Int)) * (7 : Int)))).tdiv (16 :
      Int))) * (1024 : Int)))) == IntKind.u16.wrap (bits BinOp.or IntKind.i64 (bits BinOp.or IntKind.i64 (if (31 : Int) < IntKind.i64.wrap ((IntKind.i64.wrap (IntKind.i64.wrap
      (IntKind.i64.wrap (bits BinOp.and IntKind.u16 (bits BinOp.and IntKind.u16 b (32767 : Int)) (31 : Int)) * (7 : Int)) + IntKind.i64.wrap (IntKind.i64.wrap (bits BinOp.and
      IntKind.u16 (bits BinOp.and IntKind.u16 a (32767 : Int)) (31 : Int)) * (7 : Int)))).tdiv (16 : Int)) then (31 : Int) else IntKind.i64.wrap ((IntKind.i64.wrap
      (IntKind.i64.wrap (IntKind.i64.wrap (bits BinOp.and IntKind.u16 (bits BinOp.and IntKind.u16 b (32767 : Int)) (31 : Int)) * (7 : Int)) + IntKind.i64.wrap (IntKind.i64.wrap
      (bits BinOp.and IntKind.u16 (bits BinOp.and IntKind.u16 a (32767 : Int)) (31 : Int)) * (7 : Int)))).tdiv (16 : Int))) (IntKind.i64.wrap ((if (31 : Int) < IntKind.i64.wrap
      ((IntKind.i64.wrap (IntKind.i64.wrap (IntKind.i64.wrap (bits BinOp.and IntKind.u16 ((bits BinOp.and IntKind.u16 b (32767 : Int)).fdiv (32 : Int)) (31 : Int)) * (7 : Int))
      + IntKind.i64.wrap (IntKind.i64.wrap (bits BinOp.and IntKind.u16 ((bits BinOp.and IntKind.u16 a (32767 : Int)).fdiv (32 : Int)) (31 : Int)) * (7 : Int)))).tdiv (16 : Int))
      then (31 : Int) else IntKind.i64.wrap ((IntKind.i64.wrap (IntKind.i64.wrap (IntKind.i64.wrap (bits BinOp.and IntKind.u16 ((bits BinOp.and IntKind.u16 b (32767 : Int)).fdiv
      (32 : Int)) (31 : Int)) * (7 : Int)) + IntKind.i64.wrap (IntKind.i64.wrap (bits BinOp.and IntKind.u16 ((bits BinOp.and IntKind.u16 a (32767 : Int)).fdiv (32 : Int)) (31 :
      Int)) * (7 : Int)))).tdiv (16 : Int))) * (32 : Int)))) (IntKind.i64.wrap ((if (31 : Int) < IntKind.i64.wrap ((IntKind.i64.wrap (IntKind.i64.wrap (IntKind.i64.wrap (bits
      BinOp.and IntKind.u16 ((bits BinOp.and IntKind.u16 b (32767 : Int)).fdiv (1024 : Int)) (31 : Int)) * (7 : Int)) + IntKind.i64.wrap (IntKind.i64.wrap (bits BinOp.and
      IntKind.u16 ((bits BinOp.and IntKind.u16 a (32767 : Int)).fdiv (1024 : Int)) (31 : Int)) * (7 : Int)))).tdiv (16 : Int)) then (31 : Int) else IntKind.i64.wrap
      ((IntKind.i64.wrap (IntKind.i64.wrap (IntKind.i64.wrap (bits BinOp.and IntKind.u16 ((bits BinOp.and IntKind.u16 b (32767 : Int)).fdiv (1024 : Int)) (31 : Int)) * (7 :
      Int)) + IntKind.i64.wrap (IntKind.i64.wrap (bits BinOp.and IntKind.u16 ((bits BinOp.and IntKind.u16 a (32767 : Int)).fdiv (1024 : Int)) (31 : Int)) * (7 : Int)))).tdiv (16
      : Int))) * (1024 : Int))))) = true) := by kernel_rfl
theorem ends_l (E : World) (a : Int) (b : Int) : Holds (lawP (fnTree (pe E) (orcA E) (tabL fns) 20000 Try.f6 [.c (.i false .u16 a), .c (.i false .u16 b)] [])) := ⟨by
  rw [ends_p]
  have hA : 0 ≤ bits .and .u16 a 32767 ∧ bits .and .u16 a 32767 < 32768 := by rw [b15']; omega
  have hB : 0 ≤ bits .and .u16 b 32767 ∧ bits .and .u16 b 32767 < 32768 := by rw [b15']; omega
  generalize bits .and .u16 a 32767 = A at hA ⊢
  generalize bits .and .u16 b 32767 = B at hB ⊢
  simp only [k0, g32, g1024, beq_iff_eq]
  refine ⟨?_, ?_, ?_, ?_, ?_, ?_, ?_, ?_⟩
  · rw [a16 _ _ (hb _).1 (hb _).2 (hb _).1 (hb _).2, a16 _ _ (hb _).1 (hb _).2 (hb _).1 (hb _).2, a16 _ _ (hb _).1 (hb _).2 (hb _).1 (hb _).2, jn _ _ _ (hb _).1 (hb _).2 (hb _).1 (hb _).2 (hb _).1 (hb _).2]; omega
  · rw [a0 _ _ (hb _).1 (hb _).2 (hb _).1 (hb _).2, a0 _ _ (hb _).1 (hb _).2 (hb _).1 (hb _).2, a0 _ _ (hb _).1 (hb _).2 (hb _).1 (hb _).2, jn _ _ _ (hb _).1 (hb _).2 (hb _).1 (hb _).2 (hb _).1 (hb _).2]; omega
  · rw [d0 _ (hb _).1 (hb _).2, d0 _ (hb _).1 (hb _).2, d0 _ (hb _).1 (hb _).2, jn _ _ _ (hb _).1 (hb _).2 (hb _).1 (hb _).2 (hb _).1 (hb _).2]; omega
  · rw [l0 _ (hb _).1 (hb _).2, l0 _ (hb _).1 (hb _).2, l0 _ (hb _).1 (hb _).2, jn _ _ _ (hb _).1 (hb _).2 (hb _).1 (hb _).2 (hb _).1 (hb _).2]; omega
  · rw [d16 _ (hb _).1 (hb _).2, d16 _ (hb _).1 (hb _).2, d16 _ (hb _).1 (hb _).2, jn _ _ _ (by omega) (by omega) (by omega) (by omega) (by omega) (by omega)]; omega
  · rw [l16 _ (hb _).1 (hb _).2, l16 _ (hb _).1 (hb _).2, l16 _ (hb _).1 (hb _).2, jn _ _ _ (by omega) (by omega) (by omega) (by omega) (by omega) (by omega)]; omega
  · rw [a8 _ (hb _).1 (hb _).2, a8 _ (hb _).1 (hb _).2, a8 _ (hb _).1 (hb _).2, jn _ _ _ (hb _).1 (hb _).2 (hb _).1 (hb _).2 (hb _).1 (hb _).2]; omega
  · rw [Int.add_comm (IntKind.i64.wrap (B % 32 * 7)), Int.add_comm (IntKind.i64.wrap (B / 32 % 32 * 7)), Int.add_comm (IntKind.i64.wrap (B / 1024 % 32 * 7))]⟩
end Go.Proofs.Ytdkegheacceecaa

