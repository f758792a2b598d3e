import Derived.Test.YtabklphoccicmaaD
set_option linter.unusedVariables false
set_option linter.unusedSimpArgs false
namespace Go.Proofs.Ytabklphoccicmaa
open Go Go.Proofs Go.Proofs.Ytabklphoccicmaa.Ev
theorem still_p (E : World) (x : Int) (y : Int) (a : Int) :
    (lawP (fnTree (pe E) (orcF E) (tabL fns) 20000 Try.f9 [.c (.i false .i32 x), .c (.i false .i32 y), .c (.i false .u16 a)] [])) =
    ((IntKind.u32.wrap (IntKind.u32.wrap (IntKind.u32.wrap ((0 : Int) + IntKind.u32.wrap (IntKind.u8.wrap (IntKind.u32.wrap ((bits BinOp.and IntKind.u32 (IntKind.u32.wrap
      (IntKind.i32.wrap (IntKind.i16.wrap ((IntKind.i32.wrap ((256 : Int) * IntKind.i32.wrap (sn (IntKind.i64.wrap (IntKind.i64.wrap ((IntKind.u16.wrap (IntKind.i32.wrap
      (IntKind.i16.wrap (IntKind.u32.wrap (IntKind.u32.wrap (IntKind.u32.wrap ((0 : Int) + IntKind.u32.wrap (IntKind.u8.wrap (IntKind.u32.wrap ((IntKind.u32.wrap (bits BinOp.and
      IntKind.u16 a (255 : Int))).tdiv (256 : Int))))) * (256 : Int)) + IntKind.u32.wrap (IntKind.u8.wrap (IntKind.u32.wrap (bits BinOp.and IntKind.u16 a (255 :
      Int))))))))).fdiv (256 : Int)) + (64 : Int)))))).fdiv (16384 : Int))))) (65535 : Int)).tdiv (256 : Int))))) * (256 : Int)) + IntKind.u32.wrap (IntKind.u8.wrap (bits
      BinOp.and IntKind.u32 (IntKind.u32.wrap (IntKind.i32.wrap (IntKind.i16.wrap ((IntKind.i32.wrap ((256 : Int) * IntKind.i32.wrap (sn (IntKind.i64.wrap (IntKind.i64.wrap
      ((IntKind.u16.wrap (IntKind.i32.wrap (IntKind.i16.wrap (IntKind.u32.wrap (IntKind.u32.wrap (IntKind.u32.wrap ((0 : Int) + IntKind.u32.wrap (IntKind.u8.wrap
      (IntKind.u32.wrap ((IntKind.u32.wrap (bits BinOp.and IntKind.u16 a (255 : Int))).tdiv (256 : Int))))) * (256 : Int)) + IntKind.u32.wrap (IntKind.u8.wrap (IntKind.u32.wrap
      (bits BinOp.and IntKind.u16 a (255 : Int))))))))).fdiv (256 : Int)) + (64 : Int)))))).fdiv (16384 : Int))))) (65535 : Int)))) != (256 : Int)) = false ∧ (IntKind.u32.wrap
      (IntKind.u32.wrap (IntKind.u32.wrap ((0 : Int) + IntKind.u32.wrap (IntKind.u8.wrap (IntKind.u32.wrap ((bits BinOp.and IntKind.u32 (IntKind.u32.wrap (IntKind.i32.wrap
      (IntKind.i16.wrap ((IntKind.i32.wrap ((256 : Int) * IntKind.i32.wrap (sn (IntKind.i64.wrap (IntKind.i64.wrap ((IntKind.u16.wrap (IntKind.i32.wrap (IntKind.i16.wrap
      (IntKind.u32.wrap (IntKind.u32.wrap (IntKind.u32.wrap ((0 : Int) + IntKind.u32.wrap (IntKind.u8.wrap (IntKind.u32.wrap ((IntKind.u32.wrap (bits BinOp.and IntKind.u16 a
      (255 : Int))).tdiv (256 : Int))))) * (256 : Int)) + IntKind.u32.wrap (IntKind.u8.wrap (IntKind.u32.wrap (bits BinOp.and IntKind.u16 a (255 : Int))))))))).fdiv (256 : Int))
      + (64 : Int)))))).fdiv (16384 : Int))))) (65535 : Int)).tdiv (256 : Int))))) * (256 : Int)) + IntKind.u32.wrap (IntKind.u8.wrap (bits BinOp.and IntKind.u32
      (IntKind.u32.wrap (IntKind.i32.wrap (IntKind.i16.wrap ((IntKind.i32.wrap ((256 : Int) * IntKind.i32.wrap (sn (IntKind.i64.wrap (IntKind.i64.wrap ((IntKind.u16.wrap
      (IntKind.i32.wrap (IntKind.i16.wrap (IntKind.u32.wrap (IntKind.u32.wrap (IntKind.u32.wrap ((0 : Int) + IntKind.u32.wrap (IntKind.u8.wrap (IntKind.u32.wrap
      ((IntKind.u32.wrap (bits BinOp.and IntKind.u16 a (255 : Int))).tdiv (256 : Int))))) * (256 : Int)) + IntKind.u32.wrap (IntKind.u8.wrap (IntKind.u32.wrap (bits BinOp.and
      IntKind.u16 a (255 : Int))))))))).fdiv (256 : Int)) + (64 : Int)))))).fdiv (16384 : Int))))) (65535 : Int)))) != (256 : Int)) = false ∧ (IntKind.u32.wrap (IntKind.u32.wrap
      (IntKind.u32.wrap ((0 : Int) + IntKind.u32.wrap (IntKind.u8.wrap (IntKind.u32.wrap ((bits BinOp.and IntKind.u32 (IntKind.u32.wrap (IntKind.i32.wrap (IntKind.i16.wrap
      ((IntKind.i32.wrap ((-256 : Int) * IntKind.i32.wrap (sn (IntKind.i64.wrap ((IntKind.u16.wrap (IntKind.i32.wrap (IntKind.i16.wrap (IntKind.u32.wrap (IntKind.u32.wrap
      (IntKind.u32.wrap ((0 : Int) + IntKind.u32.wrap (IntKind.u8.wrap (IntKind.u32.wrap ((IntKind.u32.wrap (bits BinOp.and IntKind.u16 a (255 : Int))).tdiv (256 : Int))))) *
      (256 : Int)) + IntKind.u32.wrap (IntKind.u8.wrap (IntKind.u32.wrap (bits BinOp.and IntKind.u16 a (255 : Int))))))))).fdiv (256 : Int)))))).fdiv (16384 : Int))))) (65535 :
      Int)).tdiv (256 : Int))))) * (256 : Int)) + IntKind.u32.wrap (IntKind.u8.wrap (bits BinOp.and IntKind.u32 (IntKind.u32.wrap (IntKind.i32.wrap (IntKind.i16.wrap
      ((IntKind.i32.wrap ((-256 : Int) * IntKind.i32.wrap (sn (IntKind.i64.wrap ((IntKind.u16.wrap (IntKind.i32.wrap (IntKind.i16.wrap (IntKind.u32.wrap (IntKind.u32.wrap
      (IntKind.u32.wrap ((0 : Int) + IntKind.u32.wrap (IntKind.u8.wrap (IntKind.u32.wrap ((IntKind.u32.wrap (bits BinOp.and IntKind.u16 a (255 : Int))).tdiv (256 : Int))))) *
      (256 : Int)) + IntKind.u32.wrap (IntKind.u8.wrap (IntKind.u32.wrap (bits BinOp.and IntKind.u16 a (255 : Int))))))))).fdiv (256 : Int)))))).fdiv (16384 : Int))))) (65535 :
      Int)))) != (0 : Int)) = false ∧ (IntKind.u32.wrap (IntKind.u32.wrap (IntKind.u32.wrap ((0 : Int) + IntKind.u32.wrap (IntKind.u8.wrap (IntKind.u32.wrap ((bits BinOp.and
      IntKind.u32 (IntKind.u32.wrap (IntKind.i32.wrap (IntKind.i16.wrap ((IntKind.i32.wrap ((-256 : Int) * IntKind.i32.wrap (sn (IntKind.i64.wrap ((IntKind.u16.wrap
      (IntKind.i32.wrap (IntKind.i16.wrap (IntKind.u32.wrap (IntKind.u32.wrap (IntKind.u32.wrap ((0 : Int) + IntKind.u32.wrap (IntKind.u8.wrap (IntKind.u32.wrap
      ((IntKind.u32.wrap (bits BinOp.and IntKind.u16 a (255 : Int))).tdiv (256 : Int))))) * (256 : Int)) + IntKind.u32.wrap (IntKind.u8.wrap (IntKind.u32.wrap (bits BinOp.and
      IntKind.u16 a (255 : Int))))))))).fdiv (256 : Int)))))).fdiv (16384 : Int))))) (65535 : Int)).tdiv (256 : Int))))) * (256 : Int)) + IntKind.u32.wrap (IntKind.u8.wrap (bits
      BinOp.and IntKind.u32 (IntKind.u32.wrap (IntKind.i32.wrap (IntKind.i16.wrap ((IntKind.i32.wrap ((-256 : Int) * IntKind.i32.wrap (sn (IntKind.i64.wrap ((IntKind.u16.wrap
      (IntKind.i32.wrap (IntKind.i16.wrap (IntKind.u32.wrap (IntKind.u32.wrap (IntKind.u32.wrap ((0 : Int) + IntKind.u32.wrap (IntKind.u8.wrap (IntKind.u32.wrap
      ((IntKind.u32.wrap (bits BinOp.and IntKind.u16 a (255 : Int))).tdiv (256 : Int))))) * (256 : Int)) + IntKind.u32.wrap (IntKind.u8.wrap (IntKind.u32.wrap (bits BinOp.and
      IntKind.u16 a (255 : Int))))))))).fdiv (256 : Int)))))).fdiv (16384 : Int))))) (65535 : Int)))) != (0 : Int)) = false ∧ (IntKind.u32.wrap (IntKind.u32.wrap
      (IntKind.u32.wrap ((0 : Int) + IntKind.u32.wrap (IntKind.u8.wrap (IntKind.u32.wrap ((bits BinOp.and IntKind.u32 (IntKind.u32.wrap (IntKind.i32.wrap (IntKind.i16.wrap
      ((IntKind.i32.wrap ((256 : Int) * IntKind.i32.wrap (sn (IntKind.i64.wrap ((IntKind.u16.wrap (IntKind.i32.wrap (IntKind.i16.wrap (IntKind.u32.wrap (IntKind.u32.wrap
      (IntKind.u32.wrap ((0 : Int) + IntKind.u32.wrap (IntKind.u8.wrap (IntKind.u32.wrap ((IntKind.u32.wrap (bits BinOp.and IntKind.u16 a (255 : Int))).tdiv (256 : Int))))) *
      (256 : Int)) + IntKind.u32.wrap (IntKind.u8.wrap (IntKind.u32.wrap (bits BinOp.and IntKind.u16 a (255 : Int))))))))).fdiv (256 : Int)))))).fdiv (16384 : Int))))) (65535 :
      Int)).tdiv (256 : Int))))) * (256 : Int)) + IntKind.u32.wrap (IntKind.u8.wrap (bits BinOp.and IntKind.u32 (IntKind.u32.wrap (IntKind.i32.wrap (IntKind.i16.wrap
      ((IntKind.i32.wrap ((256 : Int) * IntKind.i32.wrap (sn (IntKind.i64.wrap ((IntKind.u16.wrap (IntKind.i32.wrap (IntKind.i16.wrap (IntKind.u32.wrap (IntKind.u32.wrap
      (IntKind.u32.wrap ((0 : Int) + IntKind.u32.wrap (IntKind.u8.wrap (IntKind.u32.wrap ((IntKind.u32.wrap (bits BinOp.and IntKind.u16 a (255 : Int))).tdiv (256 : Int))))) *
      (256 : Int)) + IntKind.u32.wrap (IntKind.u8.wrap (IntKind.u32.wrap (bits BinOp.and IntKind.u16 a (255 : Int))))))))).fdiv (256 : Int)))))).fdiv (16384 : Int))))) (65535 :
      Int)))) != (0 : Int)) = false ∧ (IntKind.u32.wrap (IntKind.u32.wrap (IntKind.u32.wrap ((0 : Int) + IntKind.u32.wrap (IntKind.u8.wrap (IntKind.u32.wrap ((bits BinOp.and
      IntKind.u32 (IntKind.u32.wrap (IntKind.i32.wrap (IntKind.i16.wrap ((IntKind.i32.wrap ((256 : Int) * IntKind.i32.wrap (sn (IntKind.i64.wrap ((IntKind.u16.wrap
      (IntKind.i32.wrap (IntKind.i16.wrap (IntKind.u32.wrap (IntKind.u32.wrap (IntKind.u32.wrap ((0 : Int) + IntKind.u32.wrap (IntKind.u8.wrap (IntKind.u32.wrap
      ((IntKind.u32.wrap (bits BinOp.and IntKind.u16 a (255 : Int))).tdiv (256 : Int))))) * (256 : Int)) + IntKind.u32.wrap (IntKind.u8.wrap (IntKind.u32.wrap (bits BinOp.and
      IntKind.u16 a (255 : Int))))))))).fdiv (256 : Int)))))).fdiv (16384 : Int))))) (65535 : Int)).tdiv (256 : Int))))) * (256 : Int)) + IntKind.u32.wrap (IntKind.u8.wrap (bits
      BinOp.and IntKind.u32 (IntKind.u32.wrap (IntKind.i32.wrap (IntKind.i16.wrap ((IntKind.i32.wrap ((256 : Int) * IntKind.i32.wrap (sn (IntKind.i64.wrap ((IntKind.u16.wrap
      (IntKind.i32.wrap (IntKind.i16.wrap (IntKind.u32.wrap (IntKind.u32.wrap (IntKind.u32.wrap ((0 : Int) + IntKind.u32.wrap (IntKind.u8.wrap (IntKind.u32.wrap
      ((IntKind.u32.wrap (bits BinOp.and IntKind.u16 a (255 : Int))).tdiv (256 : Int))))) * (256 : Int)) + IntKind.u32.wrap (IntKind.u8.wrap (IntKind.u32.wrap (bits BinOp.and
      IntKind.u16 a (255 : Int))))))))).fdiv (256 : Int)))))).fdiv (16384 : Int))))) (65535 : Int)))) != (0 : Int)) = false ∧ (IntKind.u32.wrap (IntKind.u32.wrap
      (IntKind.u32.wrap ((0 : Int) + IntKind.u32.wrap (IntKind.u8.wrap (IntKind.u32.wrap ((bits BinOp.and IntKind.u32 (IntKind.u32.wrap (IntKind.i32.wrap (IntKind.i16.wrap
      ((IntKind.i32.wrap ((256 : Int) * IntKind.i32.wrap (sn (IntKind.i64.wrap (IntKind.i64.wrap ((IntKind.u16.wrap (IntKind.i32.wrap (IntKind.i16.wrap (IntKind.u32.wrap
      (IntKind.u32.wrap (IntKind.u32.wrap ((0 : Int) + IntKind.u32.wrap (IntKind.u8.wrap (IntKind.u32.wrap ((IntKind.u32.wrap (bits BinOp.and IntKind.u16 a (255 : Int))).tdiv
      (256 : Int))))) * (256 : Int)) + IntKind.u32.wrap (IntKind.u8.wrap (IntKind.u32.wrap (bits BinOp.and IntKind.u16 a (255 : Int))))))))).fdiv (256 : Int)) + (64 :
      Int)))))).fdiv (16384 : Int))))) (65535 : Int)).tdiv (256 : Int))))) * (256 : Int)) + IntKind.u32.wrap (IntKind.u8.wrap (bits BinOp.and IntKind.u32 (IntKind.u32.wrap
      (IntKind.i32.wrap (IntKind.i16.wrap ((IntKind.i32.wrap ((256 : Int) * IntKind.i32.wrap (sn (IntKind.i64.wrap (IntKind.i64.wrap ((IntKind.u16.wrap (IntKind.i32.wrap
      (IntKind.i16.wrap (IntKind.u32.wrap (IntKind.u32.wrap (IntKind.u32.wrap ((0 : Int) + IntKind.u32.wrap (IntKind.u8.wrap (IntKind.u32.wrap ((IntKind.u32.wrap (bits BinOp.and
      IntKind.u16 a (255 : Int))).tdiv (256 : Int))))) * (256 : Int)) + IntKind.u32.wrap (IntKind.u8.wrap (IntKind.u32.wrap (bits BinOp.and IntKind.u16 a (255 :
      Int))))))))).fdiv (256 : Int)) + (64 : Int)))))).fdiv (16384 : Int))))) (65535 : Int)))) != (256 : Int)) = false ∧ (IntKind.u32.wrap (IntKind.u32.wrap (IntKind.u32.wrap
      ((0 : Int) + IntKind.u32.wrap (IntKind.u8.wrap (IntKind.u32.wrap ((bits BinOp.and IntKind.u32 (IntKind.u32.wrap (IntKind.i32.wrap (IntKind.i16.wrap ((IntKind.i32.wrap
      ((256 : Int) * IntKind.i32.wrap (sn (IntKind.i64.wrap (IntKind.i64.wrap ((IntKind.u16.wrap (IntKind.i32.wrap (IntKind.i16.wrap (IntKind.u32.wrap (IntKind.u32.wrap
      (IntKind.u32.wrap ((0 : Int) + IntKind.u32.wrap (IntKind.u8.wrap (IntKind.u32.wrap ((IntKind.u32.wrap (bits BinOp.and IntKind.u16 a (255 : Int))).tdiv (256 : Int))))) *
      (256 : Int)) + IntKind.u32.wrap (IntKind.u8.wrap (IntKind.u32.wrap (bits BinOp.and IntKind.u16 a (255 : Int))))))))).fdiv (256 : Int)) + (64 : Int)))))).fdiv (16384 :
      Int))))) (65535 : Int)).tdiv (256 : Int))))) * (256 : Int)) + IntKind.u32.wrap (IntKind.u8.wrap (bits BinOp.and IntKind.u32 (IntKind.u32.wrap (IntKind.i32.wrap
      (IntKind.i16.wrap ((IntKind.i32.wrap ((256 : Int) * IntKind.i32.wrap (sn (IntKind.i64.wrap (IntKind.i64.wrap ((IntKind.u16.wrap (IntKind.i32.wrap (IntKind.i16.wrap
      (IntKind.u32.wrap (IntKind.u32.wrap (IntKind.u32.wrap ((0 : Int) + IntKind.u32.wrap (IntKind.u8.wrap (IntKind.u32.wrap ((IntKind.u32.wrap (bits BinOp.and IntKind.u16 a
      (255 : Int))).tdiv (256 : Int))))) * (256 : Int)) + IntKind.u32.wrap (IntKind.u8.wrap (IntKind.u32.wrap (bits BinOp.and IntKind.u16 a (255 : Int))))))))).fdiv (256 : Int))
      + (64 : Int)))))).fdiv (16384 : Int))))) (65535 : Int)))) != (256 : Int)) = false ∧ (IntKind.u32.wrap (IntKind.u32.wrap (IntKind.u32.wrap (IntKind.u32.wrap
      (IntKind.u32.wrap (IntKind.u32.wrap (IntKind.u32.wrap ((0 : Int) + IntKind.u32.wrap (IntKind.u8.wrap (IntKind.u32.wrap ((IntKind.u32.wrap ((IntKind.u32.wrap
      ((IntKind.u32.wrap (IntKind.i32.wrap (IntKind.i32.wrap (IntKind.i32.wrap (IntKind.u32.wrap (IntKind.u32.wrap (IntKind.u32.wrap (IntKind.u32.wrap (IntKind.u32.wrap
      (IntKind.u32.wrap (IntKind.u32.wrap ((0 : Int) + IntKind.u32.wrap (IntKind.u8.wrap (IntKind.u32.wrap ((IntKind.u32.wrap ((IntKind.u32.wrap ((IntKind.u32.wrap x).tdiv (256
      : Int))).tdiv (256 : Int))).tdiv (256 : Int))))) * (256 : Int)) + IntKind.u32.wrap (IntKind.u8.wrap (IntKind.u32.wrap ((IntKind.u32.wrap ((IntKind.u32.wrap x).tdiv (256 :
      Int))).tdiv (256 : Int))))) * (256 : Int)) + IntKind.u32.wrap (IntKind.u8.wrap (IntKind.u32.wrap ((IntKind.u32.wrap x).tdiv (256 : Int))))) * (256 : Int)) +
      IntKind.u32.wrap (IntKind.u8.wrap (IntKind.u32.wrap x)))) - IntKind.i32.wrap (IntKind.i32.wrap (IntKind.i16.wrap ((IntKind.i32.wrap ((256 : Int) * IntKind.i32.wrap (sn
      (IntKind.i64.wrap (IntKind.i64.wrap ((IntKind.u16.wrap (IntKind.i32.wrap (IntKind.i16.wrap (IntKind.u32.wrap (IntKind.u32.wrap (IntKind.u32.wrap ((0 : Int) +
      IntKind.u32.wrap (IntKind.u8.wrap (IntKind.u32.wrap ((IntKind.u32.wrap (bits BinOp.and IntKind.u16 a (255 : Int))).tdiv (256 : Int))))) * (256 : Int)) + IntKind.u32.wrap
      (IntKind.u8.wrap (IntKind.u32.wrap (bits BinOp.and IntKind.u16 a (255 : Int))))))))).fdiv (256 : Int)) + (64 : Int)))))).fdiv (16384 : Int))) * (0 : Int))) -
      IntKind.i32.wrap (IntKind.i32.wrap (IntKind.i16.wrap ((IntKind.i32.wrap ((-256 : Int) * IntKind.i32.wrap (sn (IntKind.i64.wrap ((IntKind.u16.wrap (IntKind.i32.wrap
      (IntKind.i16.wrap (IntKind.u32.wrap (IntKind.u32.wrap (IntKind.u32.wrap ((0 : Int) + IntKind.u32.wrap (IntKind.u8.wrap (IntKind.u32.wrap ((IntKind.u32.wrap (bits BinOp.and
      IntKind.u16 a (255 : Int))).tdiv (256 : Int))))) * (256 : Int)) + IntKind.u32.wrap (IntKind.u8.wrap (IntKind.u32.wrap (bits BinOp.and IntKind.u16 a (255 :
      Int))))))))).fdiv (256 : Int)))))).fdiv (16384 : Int))) * (0 : Int))))).tdiv (256 : Int))).tdiv (256 : Int))).tdiv (256 : Int))))) * (256 : Int)) + IntKind.u32.wrap
      (IntKind.u8.wrap (IntKind.u32.wrap ((IntKind.u32.wrap ((IntKind.u32.wrap (IntKind.i32.wrap (IntKind.i32.wrap (IntKind.i32.wrap (IntKind.u32.wrap (IntKind.u32.wrap
      (IntKind.u32.wrap (IntKind.u32.wrap (IntKind.u32.wrap (IntKind.u32.wrap (IntKind.u32.wrap ((0 : Int) + IntKind.u32.wrap (IntKind.u8.wrap (IntKind.u32.wrap
      ((IntKind.u32.wrap ((IntKind.u32.wrap ((IntKind.u32.wrap x).tdiv (256 : Int))).tdiv (256 : Int))).tdiv (256 : Int))))) * (256 : Int)) + IntKind.u32.wrap (IntKind.u8.wrap
      (IntKind.u32.wrap ((IntKind.u32.wrap ((IntKind.u32.wrap x).tdiv (256 : Int))).tdiv (256 : Int))))) * (256 : Int)) + IntKind.u32.wrap (IntKind.u8.wrap (IntKind.u32.wrap
      ((IntKind.u32.wrap x).tdiv (256 : Int))))) * (256 : Int)) + IntKind.u32.wrap (IntKind.u8.wrap (IntKind.u32.wrap x)))) - IntKind.i32.wrap (IntKind.i32.wrap
      (IntKind.i16.wrap ((IntKind.i32.wrap ((256 : Int) * IntKind.i32.wrap (sn (IntKind.i64.wrap (IntKind.i64.wrap ((IntKind.u16.wrap (IntKind.i32.wrap (IntKind.i16.wrap
      (IntKind.u32.wrap (IntKind.u32.wrap (IntKind.u32.wrap ((0 : Int) + IntKind.u32.wrap (IntKind.u8.wrap (IntKind.u32.wrap ((IntKind.u32.wrap (bits BinOp.and IntKind.u16 a
      (255 : Int))).tdiv (256 : Int))))) * (256 : Int)) + IntKind.u32.wrap (IntKind.u8.wrap (IntKind.u32.wrap (bits BinOp.and IntKind.u16 a (255 : Int))))))))).fdiv (256 : Int))
      + (64 : Int)))))).fdiv (16384 : Int))) * (0 : Int))) - IntKind.i32.wrap (IntKind.i32.wrap (IntKind.i16.wrap ((IntKind.i32.wrap ((-256 : Int) * IntKind.i32.wrap (sn
      (IntKind.i64.wrap ((IntKind.u16.wrap (IntKind.i32.wrap (IntKind.i16.wrap (IntKind.u32.wrap (IntKind.u32.wrap (IntKind.u32.wrap ((0 : Int) + IntKind.u32.wrap
      (IntKind.u8.wrap (IntKind.u32.wrap ((IntKind.u32.wrap (bits BinOp.and IntKind.u16 a (255 : Int))).tdiv (256 : Int))))) * (256 : Int)) + IntKind.u32.wrap (IntKind.u8.wrap
      (IntKind.u32.wrap (bits BinOp.and IntKind.u16 a (255 : Int))))))))).fdiv (256 : Int)))))).fdiv (16384 : Int))) * (0 : Int))))).tdiv (256 : Int))).tdiv (256 : Int))))) *
      (256 : Int)) + IntKind.u32.wrap (IntKind.u8.wrap (IntKind.u32.wrap ((IntKind.u32.wrap (IntKind.i32.wrap (IntKind.i32.wrap (IntKind.i32.wrap (IntKind.u32.wrap
      (IntKind.u32.wrap (IntKind.u32.wrap (IntKind.u32.wrap (IntKind.u32.wrap (IntKind.u32.wrap (IntKind.u32.wrap ((0 : Int) + IntKind.u32.wrap (IntKind.u8.wrap
      (IntKind.u32.wrap ((IntKind.u32.wrap ((IntKind.u32.wrap ((IntKind.u32.wrap x).tdiv (256 : Int))).tdiv (256 : Int))).tdiv (256 : Int))))) * (256 : Int)) + IntKind.u32.wrap
      (IntKind.u8.wrap (IntKind.u32.wrap ((IntKind.u32.wrap ((IntKind.u32.wrap x).tdiv (256 : Int))).tdiv (256 : Int))))) * (256 : Int)) + IntKind.u32.wrap (IntKind.u8.wrap
      (IntKind.u32.wrap ((IntKind.u32.wrap x).tdiv (256 : Int))))) * (256 : Int)) + IntKind.u32.wrap (IntKind.u8.wrap (IntKind.u32.wrap x)))) - IntKind.i32.wrap
      (IntKind.i32.wrap (IntKind.i16.wrap ((IntKind.i32.wrap ((256 : Int) * IntKind.i32.wrap (sn (IntKind.i64.wrap (IntKind.i64.wrap ((IntKind.u16.wrap (IntKind.i32.wrap
      (IntKind.i16.wrap (IntKind.u32.wrap (IntKind.u32.wrap (IntKind.u32.wrap ((0 : Int) + IntKind.u32.wrap (IntKind.u8.wrap (IntKind.u32.wrap ((IntKind.u32.wrap (bits BinOp.and
      IntKind.u16 a (255 : Int))).tdiv (256 : Int))))) * (256 : Int)) + IntKind.u32.wrap (IntKind.u8.wrap (IntKind.u32.wrap (bits BinOp.and IntKind.u16 a (255 :
      Int))))))))).fdiv (256 : Int)) + (64 : Int)))))).fdiv (16384 : Int))) * (0 : Int))) - IntKind.i32.wrap (IntKind.i32.wrap (IntKind.i16.wrap ((IntKind.i32.wrap ((-256 : Int)
      * IntKind.i32.wrap (sn (IntKind.i64.wrap ((IntKind.u16.wrap (IntKind.i32.wrap (IntKind.i16.wrap (IntKind.u32.wrap (IntKind.u32.wrap (IntKind.u32.wrap ((0 : Int) +
      IntKind.u32.wrap (IntKind.u8.wrap (IntKind.u32.wrap ((IntKind.u32.wrap (bits BinOp.and IntKind.u16 a (255 : Int))).tdiv (256 : Int))))) * (256 : Int)) + IntKind.u32.wrap
      (IntKind.u8.wrap (IntKind.u32.wrap (bits BinOp.and IntKind.u16 a (255 : Int))))))))).fdiv (256 : Int)))))).fdiv (16384 : Int))) * (0 : Int))))).tdiv (256 : Int))))) * (256
      : Int)) + IntKind.u32.wrap (IntKind.u8.wrap (IntKind.u32.wrap (IntKind.i32.wrap (IntKind.i32.wrap (IntKind.i32.wrap (IntKind.u32.wrap (IntKind.u32.wrap (IntKind.u32.wrap
      (IntKind.u32.wrap (IntKind.u32.wrap (IntKind.u32.wrap (IntKind.u32.wrap ((0 : Int) + IntKind.u32.wrap (IntKind.u8.wrap (IntKind.u32.wrap ((IntKind.u32.wrap
      ((IntKind.u32.wrap ((IntKind.u32.wrap x).tdiv (256 : Int))).tdiv (256 : Int))).tdiv (256 : Int))))) * (256 : Int)) + IntKind.u32.wrap (IntKind.u8.wrap (IntKind.u32.wrap
      ((IntKind.u32.wrap ((IntKind.u32.wrap x).tdiv (256 : Int))).tdiv (256 : Int))))) * (256 : Int)) + IntKind.u32.wrap (IntKind.u8.wrap (IntKind.u32.wrap ((IntKind.u32.wrap
      x).tdiv (256 : Int))))) * (256 : Int)) + IntKind.u32.wrap (IntKind.u8.wrap (IntKind.u32.wrap x)))) - IntKind.i32.wrap (IntKind.i32.wrap (IntKind.i16.wrap
      ((IntKind.i32.wrap ((256 : Int) * IntKind.i32.wrap (sn (IntKind.i64.wrap (IntKind.i64.wrap ((IntKind.u16.wrap (IntKind.i32.wrap (IntKind.i16.wrap (IntKind.u32.wrap
      (IntKind.u32.wrap (IntKind.u32.wrap ((0 : Int) + IntKind.u32.wrap (IntKind.u8.wrap (IntKind.u32.wrap ((IntKind.u32.wrap (bits BinOp.and IntKind.u16 a (255 : Int))).tdiv
      (256 : Int))))) * (256 : Int)) + IntKind.u32.wrap (IntKind.u8.wrap (IntKind.u32.wrap (bits BinOp.and IntKind.u16 a (255 : Int))))))))).fdiv (256 : Int)) + (64 :
      Int)))))).fdiv (16384 : Int))) * (0 : Int))) - IntKind.i32.wrap (IntKind.i32.wrap (IntKind.i16.wrap ((IntKind.i32.wrap ((-256 : Int) * IntKind.i32.wrap (sn
      (IntKind.i64.wrap ((IntKind.u16.wrap (IntKind.i32.wrap (IntKind.i16.wrap (IntKind.u32.wrap (IntKind.u32.wrap (IntKind.u32.wrap ((0 : Int) + IntKind.u32.wrap
      (IntKind.u8.wrap (IntKind.u32.wrap ((IntKind.u32.wrap (bits BinOp.and IntKind.u16 a (255 : Int))).tdiv (256 : Int))))) * (256 : Int)) + IntKind.u32.wrap (IntKind.u8.wrap
      (IntKind.u32.wrap (bits BinOp.and IntKind.u16 a (255 : Int))))))))).fdiv (256 : Int)))))).fdiv (16384 : Int))) * (0 : Int))))))) == IntKind.u32.wrap x) = true ∧
      (IntKind.u32.wrap (IntKind.u32.wrap (IntKind.u32.wrap (IntKind.u32.wrap (IntKind.u32.wrap (IntKind.u32.wrap (IntKind.u32.wrap ((0 : Int) + IntKind.u32.wrap
      (IntKind.u8.wrap (IntKind.u32.wrap ((IntKind.u32.wrap ((IntKind.u32.wrap ((IntKind.u32.wrap (IntKind.i32.wrap (IntKind.i32.wrap (IntKind.i32.wrap (IntKind.u32.wrap
      (IntKind.u32.wrap (IntKind.u32.wrap (IntKind.u32.wrap (IntKind.u32.wrap (IntKind.u32.wrap (IntKind.u32.wrap ((0 : Int) + IntKind.u32.wrap (IntKind.u8.wrap
      (IntKind.u32.wrap ((IntKind.u32.wrap ((IntKind.u32.wrap ((IntKind.u32.wrap y).tdiv (256 : Int))).tdiv (256 : Int))).tdiv (256 : Int))))) * (256 : Int)) + IntKind.u32.wrap
      (IntKind.u8.wrap (IntKind.u32.wrap ((IntKind.u32.wrap ((IntKind.u32.wrap y).tdiv (256 : Int))).tdiv (256 : Int))))) * (256 : Int)) + IntKind.u32.wrap (IntKind.u8.wrap
      (IntKind.u32.wrap ((IntKind.u32.wrap y).tdiv (256 : Int))))) * (256 : Int)) + IntKind.u32.wrap (IntKind.u8.wrap (IntKind.u32.wrap y)))) - IntKind.i32.wrap
      (IntKind.i32.wrap (IntKind.i16.wrap ((IntKind.i32.wrap ((256 : Int) * IntKind.i32.wrap (sn (IntKind.i64.wrap ((IntKind.u16.wrap (IntKind.i32.wrap (IntKind.i16.wrap
      (IntKind.u32.wrap (IntKind.u32.wrap (IntKind.u32.wrap ((0 : Int) + IntKind.u32.wrap (IntKind.u8.wrap (IntKind.u32.wrap ((IntKind.u32.wrap (bits BinOp.and IntKind.u16 a
      (255 : Int))).tdiv (256 : Int))))) * (256 : Int)) + IntKind.u32.wrap (IntKind.u8.wrap (IntKind.u32.wrap (bits BinOp.and IntKind.u16 a (255 : Int))))))))).fdiv (256 :
      Int)))))).fdiv (16384 : Int))) * (0 : Int))) - IntKind.i32.wrap (IntKind.i32.wrap (IntKind.i16.wrap ((IntKind.i32.wrap ((256 : Int) * IntKind.i32.wrap (sn
      (IntKind.i64.wrap (IntKind.i64.wrap ((IntKind.u16.wrap (IntKind.i32.wrap (IntKind.i16.wrap (IntKind.u32.wrap (IntKind.u32.wrap (IntKind.u32.wrap ((0 : Int) +
      IntKind.u32.wrap (IntKind.u8.wrap (IntKind.u32.wrap ((IntKind.u32.wrap (bits BinOp.and IntKind.u16 a (255 : Int))).tdiv (256 : Int))))) * (256 : Int)) + IntKind.u32.wrap
      (IntKind.u8.wrap (IntKind.u32.wrap (bits BinOp.and IntKind.u16 a (255 : Int))))))))).fdiv (256 : Int)) + (64 : Int)))))).fdiv (16384 : Int))) * (0 : Int))))).tdiv (256 :
      Int))).tdiv (256 : Int))).tdiv (256 : Int))))) * (256 : Int)) + IntKind.u32.wrap (IntKind.u8.wrap (IntKind.u32.wrap ((IntKind.u32.wrap ((IntKind.u32.wrap (IntKind.i32.wrap
      (IntKind.i32.wrap (IntKind.i32.wrap (IntKind.u32.wrap (IntKind.u32.wrap (IntKind.u32.wrap (IntKind.u32.wrap (IntKind.u32.wrap (IntKind.u32.wrap (IntKind.u32.wrap ((0 :
      Int) + IntKind.u32.wrap (IntKind.u8.wrap (IntKind.u32.wrap ((IntKind.u32.wrap ((IntKind.u32.wrap ((IntKind.u32.wrap y).tdiv (256 : Int))).tdiv (256 : Int))).tdiv (256 :
      Int))))) * (256 : Int)) + IntKind.u32.wrap (IntKind.u8.wrap (IntKind.u32.wrap ((IntKind.u32.wrap ((IntKind.u32.wrap y).tdiv (256 : Int))).tdiv (256 : Int))))) * (256 :
      Int)) + IntKind.u32.wrap (IntKind.u8.wrap (IntKind.u32.wrap ((IntKind.u32.wrap y).tdiv (256 : Int))))) * (256 : Int)) + IntKind.u32.wrap (IntKind.u8.wrap (IntKind.u32.wrap
      y)))) - IntKind.i32.wrap (IntKind.i32.wrap (IntKind.i16.wrap ((IntKind.i32.wrap ((256 : Int) * IntKind.i32.wrap (sn (IntKind.i64.wrap ((IntKind.u16.wrap (IntKind.i32.wrap
      (IntKind.i16.wrap (IntKind.u32.wrap (IntKind.u32.wrap (IntKind.u32.wrap ((0 : Int) + IntKind.u32.wrap (IntKind.u8.wrap (IntKind.u32.wrap ((IntKind.u32.wrap (bits BinOp.and
      IntKind.u16 a (255 : Int))).tdiv (256 : Int))))) * (256 : Int)) + IntKind.u32.wrap (IntKind.u8.wrap (IntKind.u32.wrap (bits BinOp.and IntKind.u16 a (255 :
      Int))))))))).fdiv (256 : Int)))))).fdiv (16384 : Int))) * (0 : Int))) - IntKind.i32.wrap (IntKind.i32.wrap (IntKind.i16.wrap ((IntKind.i32.wrap ((256 : Int) *
      IntKind.i32.wrap (sn (IntKind.i64.wrap (IntKind.i64.wrap ((IntKind.u16.wrap (IntKind.i32.wrap (IntKind.i16.wrap (IntKind.u32.wrap (IntKind.u32.wrap (IntKind.u32.wrap ((0 :
      Int) + IntKind.u32.wrap (IntKind.u8.wrap (IntKind.u32.wrap ((IntKind.u32.wrap (bits BinOp.and IntKind.u16 a (255 : Int))).tdiv (256 : Int))))) * (256 : Int)) +
      IntKind.u32.wrap (IntKind.u8.wrap (IntKind.u32.wrap (bits BinOp.and IntKind.u16 a (255 : Int))))))))).fdiv (256 : Int)) + (64 : Int)))))).fdiv (16384 : Int))) * (0 :
      Int))))).tdiv (256 : Int))).tdiv (256 : Int))))) * (256 : Int)) + IntKind.u32.wrap (IntKind.u8.wrap (IntKind.u32.wrap ((IntKind.u32.wrap (IntKind.i32.wrap
      (IntKind.i32.wrap (IntKind.i32.wrap (IntKind.u32.wrap (IntKind.u32.wrap (IntKind.u32.wrap (IntKind.u32.wrap (IntKind.u32.wrap (IntKind.u32.wrap (IntKind.u32.wrap ((0 :
      Int) + IntKind.u32.wrap (IntKind.u8.wrap (IntKind.u32.wrap ((IntKind.u32.wrap ((IntKind.u32.wrap ((IntKind.u32.wrap y).tdiv (256 : Int))).tdiv (256 : Int))).tdiv (256 :
      Int))))) * (256 : Int)) + IntKind.u32.wrap (IntKind.u8.wrap (IntKind.u32.wrap ((IntKind.u32.wrap ((IntKind.u32.wrap y).tdiv (256 : Int))).tdiv (256 : Int))))) * (256 :
      Int)) + IntKind.u32.wrap (IntKind.u8.wrap (IntKind.u32.wrap ((IntKind.u32.wrap y).tdiv (256 : Int))))) * (256 : Int)) + IntKind.u32.wrap (IntKind.u8.wrap (IntKind.u32.wrap
      y)))) - IntKind.i32.wrap (IntKind.i32.wrap (IntKind.i16.wrap ((IntKind.i32.wrap ((256 : Int) * IntKind.i32.wrap (sn (IntKind.i64.wrap ((IntKind.u16.wrap (IntKind.i32.wrap
      (IntKind.i16.wrap (IntKind.u32.wrap (IntKind.u32.wrap (IntKind.u32.wrap ((0 : Int) + IntKind.u32.wrap (IntKind.u8.wrap (IntKind.u32.wrap ((IntKind.u32.wrap (bits BinOp.and
      IntKind.u16 a (255 : Int))).tdiv (256 : Int))))) * (256 : Int)) + IntKind.u32.wrap (IntKind.u8.wrap (IntKind.u32.wrap (bits BinOp.and IntKind.u16 a (255 :
      Int))))))))).fdiv (256 : Int)))))).fdiv (16384 : Int))) * (0 : Int))) - IntKind.i32.wrap (IntKind.i32.wrap (IntKind.i16.wrap ((IntKind.i32.wrap ((256 : Int) *
      IntKind.i32.wrap (sn (IntKind.i64.wrap (IntKind.i64.wrap ((IntKind.u16.wrap (IntKind.i32.wrap (IntKind.i16.wrap (IntKind.u32.wrap (IntKind.u32.wrap (IntKind.u32.wrap ((0 :
      Int) + IntKind.u32.wrap (IntKind.u8.wrap (IntKind.u32.wrap ((IntKind.u32.wrap (bits BinOp.and IntKind.u16 a (255 : Int))).tdiv (256 : Int))))) * (256 : Int)) +
      IntKind.u32.wrap (IntKind.u8.wrap (IntKind.u32.wrap (bits BinOp.and IntKind.u16 a (255 : Int))))))))).fdiv (256 : Int)) + (64 : Int)))))).fdiv (16384 : Int))) * (0 :
      Int))))).tdiv (256 : Int))))) * (256 : Int)) + IntKind.u32.wrap (IntKind.u8.wrap (IntKind.u32.wrap (IntKind.i32.wrap (IntKind.i32.wrap (IntKind.i32.wrap (IntKind.u32.wrap
      (IntKind.u32.wrap (IntKind.u32.wrap (IntKind.u32.wrap (IntKind.u32.wrap (IntKind.u32.wrap (IntKind.u32.wrap ((0 : Int) + IntKind.u32.wrap (IntKind.u8.wrap
      (IntKind.u32.wrap ((IntKind.u32.wrap ((IntKind.u32.wrap ((IntKind.u32.wrap y).tdiv (256 : Int))).tdiv (256 : Int))).tdiv (256 : Int))))) * (256 : Int)) + IntKind.u32.wrap
      (IntKind.u8.wrap (IntKind.u32.wrap ((IntKind.u32.wrap ((IntKind.u32.wrap y).tdiv (256 : Int))).tdiv (256 : Int))))) * (256 : Int)) + IntKind.u32.wrap (IntKind.u8.wrap
      (IntKind.u32.wrap ((IntKind.u32.wrap y).tdiv (256 : Int))))) * (256 : Int)) + IntKind.u32.wrap (IntKind.u8.wrap (IntKind.u32.wrap y)))) - IntKind.i32.wrap
      (IntKind.i32.wrap (IntKind.i16.wrap ((IntKind.i32.wrap ((256 : Int) * IntKind.i32.wrap (sn (IntKind.i64.wrap ((IntKind.u16.wrap (IntKind.i32.wrap (IntKind.i16.wrap
      (IntKind.u32.wrap (IntKind.u32.wrap (IntKind.u32.wrap ((0 : Int) + IntKind.u32.wrap (IntKind.u8.wrap (IntKind.u32.wrap ((IntKind.u32.wrap (bits BinOp.and IntKind.u16 a
      (255 : Int))).tdiv (256 : Int))))) * (256 : Int)) + IntKind.u32.wrap (IntKind.u8.wrap (IntKind.u32.wrap (bits BinOp.and IntKind.u16 a (255 : Int))))))))).fdiv (256 :
      Int)))))).fdiv (16384 : Int))) * (0 : Int))) - IntKind.i32.wrap (IntKind.i32.wrap (IntKind.i16.wrap ((IntKind.i32.wrap ((256 : Int) * IntKind.i32.wrap (sn
      (IntKind.i64.wrap (IntKind.i64.wrap ((IntKind.u16.wrap (IntKind.i32.wrap (IntKind.i16.wrap (IntKind.u32.wrap (IntKind.u32.wrap (IntKind.u32.wrap ((0 : Int) +
      IntKind.u32.wrap (IntKind.u8.wrap (IntKind.u32.wrap ((IntKind.u32.wrap (bits BinOp.and IntKind.u16 a (255 : Int))).tdiv (256 : Int))))) * (256 : Int)) + IntKind.u32.wrap
      (IntKind.u8.wrap (IntKind.u32.wrap (bits BinOp.and IntKind.u16 a (255 : Int))))))))).fdiv (256 : Int)) + (64 : Int)))))).fdiv (16384 : Int))) * (0 : Int))))))) ==
      IntKind.u32.wrap y) = true) := by kernel_rfl
end Go.Proofs.Ytabklphoccicmaa

