import Derived.Test.YtjacbodjkgiohaaA
set_option linter.unusedVariables false
set_option linter.unusedSimpArgs false
namespace Go.Proofs.Ytjacbodjkgiohaa
open Go Go.Proofs Go.Proofs.Ytjacbodjkgiohaa.Ev
def orc1 : Orc := fun g vs s => match g, vs with
  | 22, [.c (.i _ .u32 a), .c (.i _ .u32 b), .c (.i _ .u32 c)] => some (.need (u32 a) (.need (u32 b) (.need (decide (0 ≤ c ∧ c ≤ 1)) (.leaf (sumS true (a + b + c) (sg a + sg b + c), s)))))
  | 24, [.c (.i _ .u32 a)] => some (.need (u32 a) (.leaf (.c (.i false .i64 (sg a)), s)))
  | 25, [.c (.i _ .i64 n), .c (.i _ .i64 q), .c (.b _ p)] => some (.need (decide (-4294967296 ≤ n ∧ n ≤ 8589934592)) (.leaf (sumS p n q, s)))
  | _, _ => none
def dn (k a b : Int) (c : Bool) : Int :=
  if k = 2 ∨ k = 10 then a - b else if k = 3 then b - a else if k = 4 ∨ k = 11 then a + b else if k = 5 then (if c then a + b + 1 else a + b) else if k = 6 then (if c then a - b else a - b - 1) else (if c then b - a else b - a - 1)
def dL (k : Int) : Bool := decide (k < 2 ∨ k = 8 ∨ k = 9 ∨ 12 ≤ k)
def dP (k : Int) : Bool := decide (k = 4 ∨ k = 5 ∨ k = 11)
def dl (k a b : Int) : Int :=
  if k = 0 ∨ k = 8 then bits .and .u32 a b else if k = 1 ∨ k = 9 then bits .xor .u32 a b else if k = 12 then bits .or .u32 a b else if k = 13 then b else if k = 14 then bits .and .u32 a (4294967295 - b) else 4294967295 - b
def dX (k a b : Int) (c : Bool) : Int := if dL k then dl k a b else yv (dn k a b c)
def dC (k a b : Int) (c sh : Bool) : Bool := if dL k then sh else flC (dP k) (dn k a b c)
def dV (k a b : Int) (c v : Bool) : Bool := if dL k then v else flV (dn k (sg a) (sg b) c)
def doS (k a b : Int) (c v sh : Bool) : SV := .t [.c (.i false .u32 (dX k a b c)), .a [.b false (decide (2147483648 ≤ dX k a b c)), .b false (decide (dX k a b c = 0)), .b false (dC k a b c sh), .b false (dV k a b c v)]]
theorem doi_p (m a b : Int) (n z c v sh : Bool) :
    (conP (doS (bits .and .i64 m 15) a b c v sh) (fnTree Try.prog orc1 (tabL fns) 1000 Try.f10 [.c (.i false .i64 m), .c (.i false .u32 a), .c (.i false .u32 b), .a [.b false n, .b false z, .b false c, .b false v], .c (.b false sh)] [])) =
    ((c = true →
          ((bits BinOp.and IntKind.i64 m (15 : Int) == (2 : Int)) = true →
              u32 a = true ∧
                u32 (bits BinOp.xor IntKind.u32 (4294967295 : Int) b) = true ∧
                  decide ((0 : Int) ≤ (1 : Int) ∧ (1 : Int) ≤ (1 : Int)) = true ∧
                    (IntKind.u32 = IntKind.u32 ∧
                        yv (a + bits BinOp.xor IntKind.u32 (4294967295 : Int) b + (1 : Int)) =
                          dX (bits BinOp.and IntKind.i64 m (15 : Int)) a b c) ∧
                      flN (a + bits BinOp.xor IntKind.u32 (4294967295 : Int) b + (1 : Int)) =
                          decide ((2147483648 : Int) ≤ dX (bits BinOp.and IntKind.i64 m (15 : Int)) a b c) ∧
                        flZ (a + bits BinOp.xor IntKind.u32 (4294967295 : Int) b + (1 : Int)) =
                            decide (dX (bits BinOp.and IntKind.i64 m (15 : Int)) a b c = (0 : Int)) ∧
                          flC true (a + bits BinOp.xor IntKind.u32 (4294967295 : Int) b + (1 : Int)) =
                              dC (bits BinOp.and IntKind.i64 m (15 : Int)) a b c sh ∧
                            flV (sg a + sg (bits BinOp.xor IntKind.u32 (4294967295 : Int) b) + (1 : Int)) =
                              dV (bits BinOp.and IntKind.i64 m (15 : Int)) a b c v) ∧
            ((bits BinOp.and IntKind.i64 m (15 : Int) == (2 : Int)) = false →
              ((bits BinOp.and IntKind.i64 m (15 : Int) == (10 : Int)) = true →
                  u32 a = true ∧
                    u32 (bits BinOp.xor IntKind.u32 (4294967295 : Int) b) = true ∧
                      decide ((0 : Int) ≤ (1 : Int) ∧ (1 : Int) ≤ (1 : Int)) = true ∧
                        (IntKind.u32 = IntKind.u32 ∧
                            yv (a + bits BinOp.xor IntKind.u32 (4294967295 : Int) b + (1 : Int)) =
                              dX (bits BinOp.and IntKind.i64 m (15 : Int)) a b c) ∧
                          flN (a + bits BinOp.xor IntKind.u32 (4294967295 : Int) b + (1 : Int)) =
                              decide ((2147483648 : Int) ≤ dX (bits BinOp.and IntKind.i64 m (15 : Int)) a b c) ∧
                            flZ (a + bits BinOp.xor IntKind.u32 (4294967295 : Int) b + (1 : Int)) =
                                decide (dX (bits BinOp.and IntKind.i64 m (15 : Int)) a b c = (0 : Int)) ∧
                              flC true (a + bits BinOp.xor IntKind.u32 (4294967295 : Int) b + (1 : Int)) =
                                  dC (bits BinOp.and IntKind.i64 m (15 : Int)) a b c sh ∧
                                flV (sg a + sg (bits BinOp.xor IntKind.u32 (4294967295 : Int) b) + (1 : Int)) =
                                  dV (bits BinOp.and IntKind.i64 m (15 : Int)) a b c v) ∧
                ((bits BinOp.and IntKind.i64 m (15 : Int) == (10 : Int)) = false →
                  ((bits BinOp.and IntKind.i64 m (15 : Int) == (3 : Int)) = true →
                      u32 b = true ∧
                        u32 (bits BinOp.xor IntKind.u32 (4294967295 : Int) a) = true ∧
                          decide ((0 : Int) ≤ (1 : Int) ∧ (1 : Int) ≤ (1 : Int)) = true ∧
                            (IntKind.u32 = IntKind.u32 ∧
                                yv (b + bits BinOp.xor IntKind.u32 (4294967295 : Int) a + (1 : Int)) =
                                  dX (bits BinOp.and IntKind.i64 m (15 : Int)) a b c) ∧
                              flN (b + bits BinOp.xor IntKind.u32 (4294967295 : Int) a + (1 : Int)) =
                                  decide ((2147483648 : Int) ≤ dX (bits BinOp.and IntKind.i64 m (15 : Int)) a b c) ∧
                                flZ (b + bits BinOp.xor IntKind.u32 (4294967295 : Int) a + (1 : Int)) =
                                    decide (dX (bits BinOp.and IntKind.i64 m (15 : Int)) a b c = (0 : Int)) ∧
                                  flC true (b + bits BinOp.xor IntKind.u32 (4294967295 : Int) a + (1 : Int)) =
                                      dC (bits BinOp.and IntKind.i64 m (15 : Int)) a b c sh ∧
                                    flV (sg b + sg (bits BinOp.xor IntKind.u32 (4294967295 : Int) a) + (1 : Int)) =
                                      dV (bits BinOp.and IntKind.i64 m (15 : Int)) a b c v) ∧
                    ((bits BinOp.and IntKind.i64 m (15 : Int) == (3 : Int)) = false →
                      ((bits BinOp.and IntKind.i64 m (15 : Int) == (4 : Int)) = true →
                          u32 a = true ∧
                            u32 b = true ∧
                              decide ((0 : Int) ≤ (0 : Int) ∧ (0 : Int) ≤ (1 : Int)) = true ∧
                                (IntKind.u32 = IntKind.u32 ∧
                                    yv (a + b + (0 : Int)) = dX (bits BinOp.and IntKind.i64 m (15 : Int)) a b c) ∧
                                  flN (a + b + (0 : Int)) =
                                      decide ((2147483648 : Int) ≤ dX (bits BinOp.and IntKind.i64 m (15 : Int)) a b c) ∧
                                    flZ (a + b + (0 : Int)) =
                                        decide (dX (bits BinOp.and IntKind.i64 m (15 : Int)) a b c = (0 : Int)) ∧
                                      flC true (a + b + (0 : Int)) = dC (bits BinOp.and IntKind.i64 m (15 : Int)) a b c sh ∧
                                        flV (sg a + sg b + (0 : Int)) =
                                          dV (bits BinOp.and IntKind.i64 m (15 : Int)) a b c v) ∧
                        ((bits BinOp.and IntKind.i64 m (15 : Int) == (4 : Int)) = false →
                          ((bits BinOp.and IntKind.i64 m (15 : Int) == (11 : Int)) = true →
                              u32 a = true ∧
                                u32 b = true ∧
                                  decide ((0 : Int) ≤ (0 : Int) ∧ (0 : Int) ≤ (1 : Int)) = true ∧
                                    (IntKind.u32 = IntKind.u32 ∧
                                        yv (a + b + (0 : Int)) = dX (bits BinOp.and IntKind.i64 m (15 : Int)) a b c) ∧
                                      flN (a + b + (0 : Int)) =
                                          decide ((2147483648 : Int) ≤ dX (bits BinOp.and IntKind.i64 m (15 : Int)) a b c) ∧
                                        flZ (a + b + (0 : Int)) =
                                            decide (dX (bits BinOp.and IntKind.i64 m (15 : Int)) a b c = (0 : Int)) ∧
                                          flC true (a + b + (0 : Int)) =
                                              dC (bits BinOp.and IntKind.i64 m (15 : Int)) a b c sh ∧
                                            flV (sg a + sg b + (0 : Int)) =
                                              dV (bits BinOp.and IntKind.i64 m (15 : Int)) a b c v) ∧
                            ((bits BinOp.and IntKind.i64 m (15 : Int) == (11 : Int)) = false →
                              ((bits BinOp.and IntKind.i64 m (15 : Int) == (5 : Int)) = true →
                                  u32 a = true ∧
                                    u32 b = true ∧
                                      decide ((0 : Int) ≤ (1 : Int) ∧ (1 : Int) ≤ (1 : Int)) = true ∧
                                        (IntKind.u32 = IntKind.u32 ∧
                                            yv (a + b + (1 : Int)) = dX (bits BinOp.and IntKind.i64 m (15 : Int)) a b c) ∧
                                          flN (a + b + (1 : Int)) =
                                              decide
                                                ((2147483648 : Int) ≤ dX (bits BinOp.and IntKind.i64 m (15 : Int)) a b c) ∧
                                            flZ (a + b + (1 : Int)) =
                                                decide (dX (bits BinOp.and IntKind.i64 m (15 : Int)) a b c = (0 : Int)) ∧
                                              flC true (a + b + (1 : Int)) =
                                                  dC (bits BinOp.and IntKind.i64 m (15 : Int)) a b c sh ∧
                                                flV (sg a + sg b + (1 : Int)) =
                                                  dV (bits BinOp.and IntKind.i64 m (15 : Int)) a b c v) ∧
                                ((bits BinOp.and IntKind.i64 m (15 : Int) == (5 : Int)) = false →
                                  ((bits BinOp.and IntKind.i64 m (15 : Int) == (6 : Int)) = true →
                                      u32 a = true ∧
                                        u32 (bits BinOp.xor IntKind.u32 (4294967295 : Int) b) = true ∧
                                          decide ((0 : Int) ≤ (1 : Int) ∧ (1 : Int) ≤ (1 : Int)) = true ∧
                                            (IntKind.u32 = IntKind.u32 ∧
                                                yv (a + bits BinOp.xor IntKind.u32 (4294967295 : Int) b + (1 : Int)) =
                                                  dX (bits BinOp.and IntKind.i64 m (15 : Int)) a b c) ∧
                                              flN (a + bits BinOp.xor IntKind.u32 (4294967295 : Int) b + (1 : Int)) =
                                                  decide
                                                    ((2147483648 : Int) ≤
                                                      dX (bits BinOp.and IntKind.i64 m (15 : Int)) a b c) ∧
                                                flZ (a + bits BinOp.xor IntKind.u32 (4294967295 : Int) b + (1 : Int)) =
                                                    decide (dX (bits BinOp.and IntKind.i64 m (15 : Int)) a b c = (0 : Int)) ∧
                                                  flC true (a + bits BinOp.xor IntKind.u32 (4294967295 : Int) b + (1 : Int)) =
                                                      dC (bits BinOp.and IntKind.i64 m (15 : Int)) a b c sh ∧
                                                    flV
                                                        (sg a + sg (bits BinOp.xor IntKind.u32 (4294967295 : Int) b) +
                                                          (1 : Int)) =
                                                      dV (bits BinOp.and IntKind.i64 m (15 : Int)) a b c v) ∧
                                    ((bits BinOp.and IntKind.i64 m (15 : Int) == (6 : Int)) = false →
                                      ((bits BinOp.and IntKind.i64 m (15 : Int) == (7 : Int)) = true →
                                          u32 b = true ∧
                                            u32 (bits BinOp.xor IntKind.u32 (4294967295 : Int) a) = true ∧
                                              decide ((0 : Int) ≤ (1 : Int) ∧ (1 : Int) ≤ (1 : Int)) = true ∧
                                                (IntKind.u32 = IntKind.u32 ∧
                                                    yv (b + bits BinOp.xor IntKind.u32 (4294967295 : Int) a + (1 : Int)) =
                                                      dX (bits BinOp.and IntKind.i64 m (15 : Int)) a b c) ∧
                                                  flN (b + bits BinOp.xor IntKind.u32 (4294967295 : Int) a + (1 : Int)) =
                                                      decide
                                                        ((2147483648 : Int) ≤
                                                          dX (bits BinOp.and IntKind.i64 m (15 : Int)) a b c) ∧
                                                    flZ (b + bits BinOp.xor IntKind.u32 (4294967295 : Int) a + (1 : Int)) =
                                                        decide
                                                          (dX (bits BinOp.and IntKind.i64 m (15 : Int)) a b c = (0 : Int)) ∧
                                                      flC true
                                                            (b + bits BinOp.xor IntKind.u32 (4294967295 : Int) a +
                                                              (1 : Int)) =
                                                          dC (bits BinOp.and IntKind.i64 m (15 : Int)) a b c sh ∧
                                                        flV
                                                            (sg b + sg (bits BinOp.xor IntKind.u32 (4294967295 : Int) a) +
                                                              (1 : Int)) =
                                                          dV (bits BinOp.and IntKind.i64 m (15 : Int)) a b c v) ∧
                                        ((bits BinOp.and IntKind.i64 m (15 : Int) == (7 : Int)) = false →
                                          ((bits BinOp.and IntKind.i64 m (15 : Int) == (0 : Int)) = true →
                                              (IntKind.u32 = IntKind.u32 ∧
                                                  bits BinOp.and IntKind.u32 a b =
                                                    dX (bits BinOp.and IntKind.i64 m (15 : Int)) a b c) ∧
                                                ((bits BinOp.and IntKind.u32 a b).fdiv (2147483648 : Int) != (0 : Int)) =
                                                    decide
                                                      ((2147483648 : Int) ≤
                                                        dX (bits BinOp.and IntKind.i64 m (15 : Int)) a b c) ∧
                                                  (bits BinOp.and IntKind.u32 a b == (0 : Int)) =
                                                      decide
                                                        (dX (bits BinOp.and IntKind.i64 m (15 : Int)) a b c = (0 : Int)) ∧
                                                    sh = dC (bits BinOp.and IntKind.i64 m (15 : Int)) a b c sh ∧
                                                      v = dV (bits BinOp.and IntKind.i64 m (15 : Int)) a b c v) ∧
                                            ((bits BinOp.and IntKind.i64 m (15 : Int) == (0 : Int)) = false →
                                              ((bits BinOp.and IntKind.i64 m (15 : Int) == (8 : Int)) = true →
                                                  (IntKind.u32 = IntKind.u32 ∧
                                                      bits BinOp.and IntKind.u32 a b =
                                                        dX (bits BinOp.and IntKind.i64 m (15 : Int)) a b c) ∧
                                                    ((bits BinOp.and IntKind.u32 a b).fdiv (2147483648 : Int) != (0 : Int)) =
                                                        decide
                                                          ((2147483648 : Int) ≤
                                                            dX (bits BinOp.and IntKind.i64 m (15 : Int)) a b c) ∧
                                                      (bits BinOp.and IntKind.u32 a b == (0 : Int)) =
                                                          decide
                                                            (dX (bits BinOp.and IntKind.i64 m (15 : Int)) a b c = (0 : Int)) ∧
                                                        sh = dC (bits BinOp.and IntKind.i64 m (15 : Int)) a b c sh ∧
                                                          v = dV (bits BinOp.and IntKind.i64 m (15 : Int)) a b c v) ∧
                                                ((bits BinOp.and IntKind.i64 m (15 : Int) == (8 : Int)) = false →
                                                  ((bits BinOp.and IntKind.i64 m (15 : Int) == (1 : Int)) = true →
                                                      (IntKind.u32 = IntKind.u32 ∧
                                                          bits BinOp.xor IntKind.u32 a b =
                                                            dX (bits BinOp.and IntKind.i64 m (15 : Int)) a b c) ∧
                                                        ((bits BinOp.xor IntKind.u32 a b).fdiv (2147483648 : Int) !=
                                                              (0 : Int)) =
                                                            decide
                                                              ((2147483648 : Int) ≤
                                                                dX (bits BinOp.and IntKind.i64 m (15 : Int)) a b c) ∧
                                                          (bits BinOp.xor IntKind.u32 a b == (0 : Int)) =
                                                              decide
                                                                (dX (bits BinOp.and IntKind.i64 m (15 : Int)) a b c =
                                                                  (0 : Int)) ∧
                                                            sh = dC (bits BinOp.and IntKind.i64 m (15 : Int)) a b c sh ∧
                                                              v = dV (bits BinOp.and IntKind.i64 m (15 : Int)) a b c v) ∧
                                                    ((bits BinOp.and IntKind.i64 m (15 : Int) == (1 : Int)) = false →
                                                      ((bits BinOp.and IntKind.i64 m (15 : Int) == (9 : Int)) = true →
                                                          (IntKind.u32 = IntKind.u32 ∧
                                                              bits BinOp.xor IntKind.u32 a b =
                                                                dX (bits BinOp.and IntKind.i64 m (15 : Int)) a b c) ∧
                                                            ((bits BinOp.xor IntKind.u32 a b).fdiv (2147483648 : Int) !=
                                                                  (0 : Int)) =
                                                                decide
                                                                  ((2147483648 : Int) ≤
                                                                    dX (bits BinOp.and IntKind.i64 m (15 : Int)) a b c) ∧
                                                              (bits BinOp.xor IntKind.u32 a b == (0 : Int)) =
                                                                  decide
                                                                    (dX (bits BinOp.and IntKind.i64 m (15 : Int)) a b c =
                                                                      (0 : Int)) ∧
                                                                sh = dC (bits BinOp.and IntKind.i64 m (15 : Int)) a b c sh ∧
                                                                  v = dV (bits BinOp.and IntKind.i64 m (15 : Int)) a b c v) ∧
                                                        ((bits BinOp.and IntKind.i64 m (15 : Int) == (9 : Int)) = false →
                                                          ((bits BinOp.and IntKind.i64 m (15 : Int) == (12 : Int)) = true →
                                                              (IntKind.u32 = IntKind.u32 ∧
                                                                  bits BinOp.or IntKind.u32 a b =
                                                                    dX (bits BinOp.and IntKind.i64 m (15 : Int)) a b c) ∧
                                                                ((bits BinOp.or IntKind.u32 a b).fdiv (2147483648 : Int) !=
                                                                      (0 : Int)) =
                                                                    decide
                                                                      ((2147483648 : Int) ≤
                                                                        dX (bits BinOp.and IntKind.i64 m (15 : Int)) a b c) ∧
                                                                  (bits BinOp.or IntKind.u32 a b == (0 : Int)) =
                                                                      decide
                                                                        (dX (bits BinOp.and IntKind.i64 m (15 : Int)) a b c =
                                                                          (0 : Int)) ∧
                                                                    sh =
                                                                        dC (bits BinOp.and IntKind.i64 m (15 : Int)) a b c
                                                                          sh ∧
                                                                      v =
                                                                        dV (bits BinOp.and IntKind.i64 m (15 : Int)) a b c
                                                                          v) ∧
                                                            ((bits BinOp.and IntKind.i64 m (15 : Int) == (12 : Int)) = false →
                                                              ((bits BinOp.and IntKind.i64 m (15 : Int) == (14 : Int)) =
                                                                    true →
                                                                  (IntKind.u32 = IntKind.u32 ∧
                                                                      bits BinOp.andNot IntKind.u32 a b =
                                                                        dX (bits BinOp.and IntKind.i64 m (15 : Int)) a b c) ∧
                                                                    ((bits BinOp.andNot IntKind.u32 a b).fdiv
                                                                            (2147483648 : Int) !=
                                                                          (0 : Int)) =
                                                                        decide
                                                                          ((2147483648 : Int) ≤
                                                                            dX (bits BinOp.and IntKind.i64 m (15 : Int)) a b
                                                                              c) ∧
                                                                      (bits BinOp.andNot IntKind.u32 a b == (0 : Int)) =
                                                                          decide
                                                                            (dX (bits BinOp.and IntKind.i64 m (15 : Int)) a b
                                                                                c =
                                                                              (0 : Int)) ∧
                                                                        sh =
                                                                            dC (bits BinOp.and IntKind.i64 m (15 : Int)) a b c
                                                                              sh ∧
                                                                          v =
                                                                            dV (bits BinOp.and IntKind.i64 m (15 : Int)) a b c
                                                                              v) ∧
                                                                ((bits BinOp.and IntKind.i64 m (15 : Int) == (14 : Int)) =
                                                                    false →
                                                                  ((bits BinOp.and IntKind.i64 m (15 : Int) == (15 : Int)) =
                                                                        true →
                                                                      (IntKind.u32 = IntKind.u32 ∧
                                                                          bits BinOp.xor IntKind.u32 (4294967295 : Int) b =
                                                                            dX (bits BinOp.and IntKind.i64 m (15 : Int)) a b
                                                                              c) ∧
                                                                        ((bits BinOp.xor IntKind.u32 (4294967295 : Int)
                                                                                    b).fdiv
                                                                                (2147483648 : Int) !=
                                                                              (0 : Int)) =
                                                                            decide
                                                                              ((2147483648 : Int) ≤
                                                                                dX (bits BinOp.and IntKind.i64 m (15 : Int)) a
                                                                                  b c) ∧
                                                                          (bits BinOp.xor IntKind.u32 (4294967295 : Int) b ==
                                                                                (0 : Int)) =
                                                                              decide
                                                                                (dX (bits BinOp.and IntKind.i64 m (15 : Int))
                                                                                    a b c =
                                                                                  (0 : Int)) ∧
                                                                            sh =
                                                                                dC (bits BinOp.and IntKind.i64 m (15 : Int)) a
                                                                                  b c sh ∧
                                                                              v =
                                                                                dV (bits BinOp.and IntKind.i64 m (15 : Int)) a
                                                                                  b c v) ∧
                                                                    ((bits BinOp.and IntKind.i64 m (15 : Int) == (15 : Int)) =
                                                                        false →
                                                                      (IntKind.u32 = IntKind.u32 ∧
                                                                          b =
                                                                            dX (bits BinOp.and IntKind.i64 m (15 : Int)) a b
                                                                              c) ∧
                                                                        (b.fdiv (2147483648 : Int) != (0 : Int)) =
                                                                            decide
                                                                              ((2147483648 : Int) ≤
                                                                                dX (bits BinOp.and IntKind.i64 m (15 : Int)) a
                                                                                  b c) ∧
                                                                          (b == (0 : Int)) =
                                                                              decide
                                                                                (dX (bits BinOp.and IntKind.i64 m (15 : Int))
                                                                                    a b c =
                                                                                  (0 : Int)) ∧
                                                                            sh =
                                                                                dC (bits BinOp.and IntKind.i64 m (15 : Int)) a
                                                                                  b c sh ∧
                                                                              v =
                                                                                dV (bits BinOp.and IntKind.i64 m (15 : Int)) a
                                                                                  b c v)))))))))))))))) ∧
        (c = false →
          ((bits BinOp.and IntKind.i64 m (15 : Int) == (2 : Int)) = true →
              u32 a = true ∧
                u32 (bits BinOp.xor IntKind.u32 (4294967295 : Int) b) = true ∧
                  decide ((0 : Int) ≤ (1 : Int) ∧ (1 : Int) ≤ (1 : Int)) = true ∧
                    (IntKind.u32 = IntKind.u32 ∧
                        yv (a + bits BinOp.xor IntKind.u32 (4294967295 : Int) b + (1 : Int)) =
                          dX (bits BinOp.and IntKind.i64 m (15 : Int)) a b c) ∧
                      flN (a + bits BinOp.xor IntKind.u32 (4294967295 : Int) b + (1 : Int)) =
                          decide ((2147483648 : Int) ≤ dX (bits BinOp.and IntKind.i64 m (15 : Int)) a b c) ∧
                        flZ (a + bits BinOp.xor IntKind.u32 (4294967295 : Int) b + (1 : Int)) =
                            decide (dX (bits BinOp.and IntKind.i64 m (15 : Int)) a b c = (0 : Int)) ∧
                          flC true (a + bits BinOp.xor IntKind.u32 (4294967295 : Int) b + (1 : Int)) =
                              dC (bits BinOp.and IntKind.i64 m (15 : Int)) a b c sh ∧
                            flV (sg a + sg (bits BinOp.xor IntKind.u32 (4294967295 : Int) b) + (1 : Int)) =
                              dV (bits BinOp.and IntKind.i64 m (15 : Int)) a b c v) ∧
            ((bits BinOp.and IntKind.i64 m (15 : Int) == (2 : Int)) = false →
              ((bits BinOp.and IntKind.i64 m (15 : Int) == (10 : Int)) = true →
                  u32 a = true ∧
                    u32 (bits BinOp.xor IntKind.u32 (4294967295 : Int) b) = true ∧
                      decide ((0 : Int) ≤ (1 : Int) ∧ (1 : Int) ≤ (1 : Int)) = true ∧
                        (IntKind.u32 = IntKind.u32 ∧
                            yv (a + bits BinOp.xor IntKind.u32 (4294967295 : Int) b + (1 : Int)) =
                              dX (bits BinOp.and IntKind.i64 m (15 : Int)) a b c) ∧
                          flN (a + bits BinOp.xor IntKind.u32 (4294967295 : Int) b + (1 : Int)) =
                              decide ((2147483648 : Int) ≤ dX (bits BinOp.and IntKind.i64 m (15 : Int)) a b c) ∧
                            flZ (a + bits BinOp.xor IntKind.u32 (4294967295 : Int) b + (1 : Int)) =
                                decide (dX (bits BinOp.and IntKind.i64 m (15 : Int)) a b c = (0 : Int)) ∧
                              flC true (a + bits BinOp.xor IntKind.u32 (4294967295 : Int) b + (1 : Int)) =
                                  dC (bits BinOp.and IntKind.i64 m (15 : Int)) a b c sh ∧
                                flV (sg a + sg (bits BinOp.xor IntKind.u32 (4294967295 : Int) b) + (1 : Int)) =
                                  dV (bits BinOp.and IntKind.i64 m (15 : Int)) a b c v) ∧
                ((bits BinOp.and IntKind.i64 m (15 : Int) == (10 : Int)) = false →
                  ((bits BinOp.and IntKind.i64 m (15 : Int) == (3 : Int)) = true →
                      u32 b = true ∧
                        u32 (bits BinOp.xor IntKind.u32 (4294967295 : Int) a) = true ∧
                          decide ((0 : Int) ≤ (1 : Int) ∧ (1 : Int) ≤ (1 : Int)) = true ∧
                            (IntKind.u32 = IntKind.u32 ∧
                                yv (b + bits BinOp.xor IntKind.u32 (4294967295 : Int) a + (1 : Int)) =
                                  dX (bits BinOp.and IntKind.i64 m (15 : Int)) a b c) ∧
                              flN (b + bits BinOp.xor IntKind.u32 (4294967295 : Int) a + (1 : Int)) =
                                  decide ((2147483648 : Int) ≤ dX (bits BinOp.and IntKind.i64 m (15 : Int)) a b c) ∧
                                flZ (b + bits BinOp.xor IntKind.u32 (4294967295 : Int) a + (1 : Int)) =
                                    decide (dX (bits BinOp.and IntKind.i64 m (15 : Int)) a b c = (0 : Int)) ∧
                                  flC true (b + bits BinOp.xor IntKind.u32 (4294967295 : Int) a + (1 : Int)) =
                                      dC (bits BinOp.and IntKind.i64 m (15 : Int)) a b c sh ∧
                                    flV (sg b + sg (bits BinOp.xor IntKind.u32 (4294967295 : Int) a) + (1 : Int)) =
                                      dV (bits BinOp.and IntKind.i64 m (15 : Int)) a b c v) ∧
                    ((bits BinOp.and IntKind.i64 m (15 : Int) == (3 : Int)) = false →
                      ((bits BinOp.and IntKind.i64 m (15 : Int) == (4 : Int)) = true →
                          u32 a = true ∧
                            u32 b = true ∧
                              decide ((0 : Int) ≤ (0 : Int) ∧ (0 : Int) ≤ (1 : Int)) = true ∧
                                (IntKind.u32 = IntKind.u32 ∧
                                    yv (a + b + (0 : Int)) = dX (bits BinOp.and IntKind.i64 m (15 : Int)) a b c) ∧
                                  flN (a + b + (0 : Int)) =
                                      decide ((2147483648 : Int) ≤ dX (bits BinOp.and IntKind.i64 m (15 : Int)) a b c) ∧
                                    flZ (a + b + (0 : Int)) =
                                        decide (dX (bits BinOp.and IntKind.i64 m (15 : Int)) a b c = (0 : Int)) ∧
                                      flC true (a + b + (0 : Int)) = dC (bits BinOp.and IntKind.i64 m (15 : Int)) a b c sh ∧
                                        flV (sg a + sg b + (0 : Int)) =
                                          dV (bits BinOp.and IntKind.i64 m (15 : Int)) a b c v) ∧
                        ((bits BinOp.and IntKind.i64 m (15 : Int) == (4 : Int)) = false →
                          ((bits BinOp.and IntKind.i64 m (15 : Int) == (11 : Int)) = true →
                              u32 a = true ∧
                                u32 b = true ∧
                                  decide ((0 : Int) ≤ (0 : Int) ∧ (0 : Int) ≤ (1 : Int)) = true ∧
                                    (IntKind.u32 = IntKind.u32 ∧
                                        yv (a + b + (0 : Int)) = dX (bits BinOp.and IntKind.i64 m (15 : Int)) a b c) ∧
                                      flN (a + b + (0 : Int)) =
                                          decide ((2147483648 : Int) ≤ dX (bits BinOp.and IntKind.i64 m (15 : Int)) a b c) ∧
                                        flZ (a + b + (0 : Int)) =
                                            decide (dX (bits BinOp.and IntKind.i64 m (15 : Int)) a b c = (0 : Int)) ∧
                                          flC true (a + b + (0 : Int)) =
                                              dC (bits BinOp.and IntKind.i64 m (15 : Int)) a b c sh ∧
                                            flV (sg a + sg b + (0 : Int)) =
                                              dV (bits BinOp.and IntKind.i64 m (15 : Int)) a b c v) ∧
                            ((bits BinOp.and IntKind.i64 m (15 : Int) == (11 : Int)) = false →
                              ((bits BinOp.and IntKind.i64 m (15 : Int) == (5 : Int)) = true →
                                  u32 a = true ∧
                                    u32 b = true ∧
                                      decide ((0 : Int) ≤ (0 : Int) ∧ (0 : Int) ≤ (1 : Int)) = true ∧
                                        (IntKind.u32 = IntKind.u32 ∧
                                            yv (a + b + (0 : Int)) = dX (bits BinOp.and IntKind.i64 m (15 : Int)) a b c) ∧
                                          flN (a + b + (0 : Int)) =
                                              decide
                                                ((2147483648 : Int) ≤ dX (bits BinOp.and IntKind.i64 m (15 : Int)) a b c) ∧
                                            flZ (a + b + (0 : Int)) =
                                                decide (dX (bits BinOp.and IntKind.i64 m (15 : Int)) a b c = (0 : Int)) ∧
                                              flC true (a + b + (0 : Int)) =
                                                  dC (bits BinOp.and IntKind.i64 m (15 : Int)) a b c sh ∧
                                                flV (sg a + sg b + (0 : Int)) =
                                                  dV (bits BinOp.and IntKind.i64 m (15 : Int)) a b c v) ∧
                                ((bits BinOp.and IntKind.i64 m (15 : Int) == (5 : Int)) = false →
                                  ((bits BinOp.and IntKind.i64 m (15 : Int) == (6 : Int)) = true →
                                      u32 a = true ∧
                                        u32 (bits BinOp.xor IntKind.u32 (4294967295 : Int) b) = true ∧
                                          decide ((0 : Int) ≤ (0 : Int) ∧ (0 : Int) ≤ (1 : Int)) = true ∧
                                            (IntKind.u32 = IntKind.u32 ∧
                                                yv (a + bits BinOp.xor IntKind.u32 (4294967295 : Int) b + (0 : Int)) =
                                                  dX (bits BinOp.and IntKind.i64 m (15 : Int)) a b c) ∧
                                              flN (a + bits BinOp.xor IntKind.u32 (4294967295 : Int) b + (0 : Int)) =
                                                  decide
                                                    ((2147483648 : Int) ≤
                                                      dX (bits BinOp.and IntKind.i64 m (15 : Int)) a b c) ∧
                                                flZ (a + bits BinOp.xor IntKind.u32 (4294967295 : Int) b + (0 : Int)) =
                                                    decide (dX (bits BinOp.and IntKind.i64 m (15 : Int)) a b c = (0 : Int)) ∧
                                                  flC true (a + bits BinOp.xor IntKind.u32 (4294967295 : Int) b + (0 : Int)) =
                                                      dC (bits BinOp.and IntKind.i64 m (15 : Int)) a b c sh ∧
                                                    flV
                                                        (sg a + sg (bits BinOp.xor IntKind.u32 (4294967295 : Int) b) +
                                                          (0 : Int)) =
                                                      dV (bits BinOp.and IntKind.i64 m (15 : Int)) a b c v) ∧
                                    ((bits BinOp.and IntKind.i64 m (15 : Int) == (6 : Int)) = false →
                                      ((bits BinOp.and IntKind.i64 m (15 : Int) == (7 : Int)) = true →
                                          u32 b = true ∧
                                            u32 (bits BinOp.xor IntKind.u32 (4294967295 : Int) a) = true ∧
                                              decide ((0 : Int) ≤ (0 : Int) ∧ (0 : Int) ≤ (1 : Int)) = true ∧
                                                (IntKind.u32 = IntKind.u32 ∧
                                                    yv (b + bits BinOp.xor IntKind.u32 (4294967295 : Int) a + (0 : Int)) =
                                                      dX (bits BinOp.and IntKind.i64 m (15 : Int)) a b c) ∧
                                                  flN (b + bits BinOp.xor IntKind.u32 (4294967295 : Int) a + (0 : Int)) =
                                                      decide
                                                        ((2147483648 : Int) ≤
                                                          dX (bits BinOp.and IntKind.i64 m (15 : Int)) a b c) ∧
                                                    flZ (b + bits BinOp.xor IntKind.u32 (4294967295 : Int) a + (0 : Int)) =
                                                        decide
                                                          (dX (bits BinOp.and IntKind.i64 m (15 : Int)) a b c = (0 : Int)) ∧
                                                      flC true
                                                            (b + bits BinOp.xor IntKind.u32 (4294967295 : Int) a +
                                                              (0 : Int)) =
                                                          dC (bits BinOp.and IntKind.i64 m (15 : Int)) a b c sh ∧
                                                        flV
                                                            (sg b + sg (bits BinOp.xor IntKind.u32 (4294967295 : Int) a) +
                                                              (0 : Int)) =
                                                          dV (bits BinOp.and IntKind.i64 m (15 : Int)) a b c v) ∧
                                        ((bits BinOp.and IntKind.i64 m (15 : Int) == (7 : Int)) = false →
                                          ((bits BinOp.and IntKind.i64 m (15 : Int) == (0 : Int)) = true →
                                              (IntKind.u32 = IntKind.u32 ∧
                                                  bits BinOp.and IntKind.u32 a b =
                                                    dX (bits BinOp.and IntKind.i64 m (15 : Int)) a b c) ∧
                                                ((bits BinOp.and IntKind.u32 a b).fdiv (2147483648 : Int) != (0 : Int)) =
                                                    decide
                                                      ((2147483648 : Int) ≤
                                                        dX (bits BinOp.and IntKind.i64 m (15 : Int)) a b c) ∧
                                                  (bits BinOp.and IntKind.u32 a b == (0 : Int)) =
                                                      decide
                                                        (dX (bits BinOp.and IntKind.i64 m (15 : Int)) a b c = (0 : Int)) ∧
                                                    sh = dC (bits BinOp.and IntKind.i64 m (15 : Int)) a b c sh ∧
                                                      v = dV (bits BinOp.and IntKind.i64 m (15 : Int)) a b c v) ∧
                                            ((bits BinOp.and IntKind.i64 m (15 : Int) == (0 : Int)) = false →
                                              ((bits BinOp.and IntKind.i64 m (15 : Int) == (8 : Int)) = true →
                                                  (IntKind.u32 = IntKind.u32 ∧
                                                      bits BinOp.and IntKind.u32 a b =
                                                        dX (bits BinOp.and IntKind.i64 m (15 : Int)) a b c) ∧
                                                    ((bits BinOp.and IntKind.u32 a b).fdiv (2147483648 : Int) != (0 : Int)) =
                                                        decide
                                                          ((2147483648 : Int) ≤
                                                            dX (bits BinOp.and IntKind.i64 m (15 : Int)) a b c) ∧
                                                      (bits BinOp.and IntKind.u32 a b == (0 : Int)) =
                                                          decide
                                                            (dX (bits BinOp.and IntKind.i64 m (15 : Int)) a b c = (0 : Int)) ∧
                                                        sh = dC (bits BinOp.and IntKind.i64 m (15 : Int)) a b c sh ∧
                                                          v = dV (bits BinOp.and IntKind.i64 m (15 : Int)) a b c v) ∧
                                                ((bits BinOp.and IntKind.i64 m (15 : Int) == (8 : Int)) = false →
                                                  ((bits BinOp.and IntKind.i64 m (15 : Int) == (1 : Int)) = true →
                                                      (IntKind.u32 = IntKind.u32 ∧
                                                          bits BinOp.xor IntKind.u32 a b =
                                                            dX (bits BinOp.and IntKind.i64 m (15 : Int)) a b c) ∧
                                                        ((bits BinOp.xor IntKind.u32 a b).fdiv (2147483648 : Int) !=
                                                              (0 : Int)) =
                                                            decide
                                                              ((2147483648 : Int) ≤
                                                                dX (bits BinOp.and IntKind.i64 m (15 : Int)) a b c) ∧
                                                          (bits BinOp.xor IntKind.u32 a b == (0 : Int)) =
                                                              decide
                                                                (dX (bits BinOp.and IntKind.i64 m (15 : Int)) a b c =
                                                                  (0 : Int)) ∧
                                                            sh = dC (bits BinOp.and IntKind.i64 m (15 : Int)) a b c sh ∧
                                                              v = dV (bits BinOp.and IntKind.i64 m (15 : Int)) a b c v) ∧
                                                    ((bits BinOp.and IntKind.i64 m (15 : Int) == (1 : Int)) = false →
                                                      ((bits BinOp.and IntKind.i64 m (15 : Int) == (9 : Int)) = true →
                                                          (IntKind.u32 = IntKind.u32 ∧
                                                              bits BinOp.xor IntKind.u32 a b =
                                                                dX (bits BinOp.and IntKind.i64 m (15 : Int)) a b c) ∧
                                                            ((bits BinOp.xor IntKind.u32 a b).fdiv (2147483648 : Int) !=
                                                                  (0 : Int)) =
                                                                decide
                                                                  ((2147483648 : Int) ≤
                                                                    dX (bits BinOp.and IntKind.i64 m (15 : Int)) a b c) ∧
                                                              (bits BinOp.xor IntKind.u32 a b == (0 : Int)) =
                                                                  decide
                                                                    (dX (bits BinOp.and IntKind.i64 m (15 : Int)) a b c =
                                                                      (0 : Int)) ∧
                                                                sh = dC (bits BinOp.and IntKind.i64 m (15 : Int)) a b c sh ∧
                                                                  v = dV (bits BinOp.and IntKind.i64 m (15 : Int)) a b c v) ∧
                                                        ((bits BinOp.and IntKind.i64 m (15 : Int) == (9 : Int)) = false →
                                                          ((bits BinOp.and IntKind.i64 m (15 : Int) == (12 : Int)) = true →
                                                              (IntKind.u32 = IntKind.u32 ∧
                                                                  bits BinOp.or IntKind.u32 a b =
                                                                    dX (bits BinOp.and IntKind.i64 m (15 : Int)) a b c) ∧
                                                                ((bits BinOp.or IntKind.u32 a b).fdiv (2147483648 : Int) !=
                                                                      (0 : Int)) =
                                                                    decide
                                                                      ((2147483648 : Int) ≤
                                                                        dX (bits BinOp.and IntKind.i64 m (15 : Int)) a b c) ∧
                                                                  (bits BinOp.or IntKind.u32 a b == (0 : Int)) =
                                                                      decide
                                                                        (dX (bits BinOp.and IntKind.i64 m (15 : Int)) a b c =
                                                                          (0 : Int)) ∧
                                                                    sh =
                                                                        dC (bits BinOp.and IntKind.i64 m (15 : Int)) a b c
                                                                          sh ∧
                                                                      v =
                                                                        dV (bits BinOp.and IntKind.i64 m (15 : Int)) a b c
                                                                          v) ∧
                                                            ((bits BinOp.and IntKind.i64 m (15 : Int) == (12 : Int)) = false →
                                                              ((bits BinOp.and IntKind.i64 m (15 : Int) == (14 : Int)) =
                                                                    true →
                                                                  (IntKind.u32 = IntKind.u32 ∧
                                                                      bits BinOp.andNot IntKind.u32 a b =
                                                                        dX (bits BinOp.and IntKind.i64 m (15 : Int)) a b c) ∧
                                                                    ((bits BinOp.andNot IntKind.u32 a b).fdiv
                                                                            (2147483648 : Int) !=
                                                                          (0 : Int)) =
                                                                        decide
                                                                          ((2147483648 : Int) ≤
                                                                            dX (bits BinOp.and IntKind.i64 m (15 : Int)) a b
                                                                              c) ∧
                                                                      (bits BinOp.andNot IntKind.u32 a b == (0 : Int)) =
                                                                          decide
                                                                            (dX (bits BinOp.and IntKind.i64 m (15 : Int)) a b
                                                                                c =
                                                                              (0 : Int)) ∧
                                                                        sh =
                                                                            dC (bits BinOp.and IntKind.i64 m (15 : Int)) a b c
                                                                              sh ∧
                                                                          v =
                                                                            dV (bits BinOp.and IntKind.i64 m (15 : Int)) a b c
                                                                              v) ∧
                                                                ((bits BinOp.and IntKind.i64 m (15 : Int) == (14 : Int)) =
                                                                    false →
                                                                  ((bits BinOp.and IntKind.i64 m (15 : Int) == (15 : Int)) =
                                                                        true →
                                                                      (IntKind.u32 = IntKind.u32 ∧
                                                                          bits BinOp.xor IntKind.u32 (4294967295 : Int) b =
                                                                            dX (bits BinOp.and IntKind.i64 m (15 : Int)) a b
                                                                              c) ∧
                                                                        ((bits BinOp.xor IntKind.u32 (4294967295 : Int)
                                                                                    b).fdiv
                                                                                (2147483648 : Int) !=
                                                                              (0 : Int)) =
                                                                            decide
                                                                              ((2147483648 : Int) ≤
                                                                                dX (bits BinOp.and IntKind.i64 m (15 : Int)) a
                                                                                  b c) ∧
                                                                          (bits BinOp.xor IntKind.u32 (4294967295 : Int) b ==
                                                                                (0 : Int)) =
                                                                              decide
                                                                                (dX (bits BinOp.and IntKind.i64 m (15 : Int))
                                                                                    a b c =
                                                                                  (0 : Int)) ∧
                                                                            sh =
                                                                                dC (bits BinOp.and IntKind.i64 m (15 : Int)) a
                                                                                  b c sh ∧
                                                                              v =
                                                                                dV (bits BinOp.and IntKind.i64 m (15 : Int)) a
                                                                                  b c v) ∧
                                                                    ((bits BinOp.and IntKind.i64 m (15 : Int) == (15 : Int)) =
                                                                        false →
                                                                      (IntKind.u32 = IntKind.u32 ∧
                                                                          b =
                                                                            dX (bits BinOp.and IntKind.i64 m (15 : Int)) a b
                                                                              c) ∧
                                                                        (b.fdiv (2147483648 : Int) != (0 : Int)) =
                                                                            decide
                                                                              ((2147483648 : Int) ≤
                                                                                dX (bits BinOp.and IntKind.i64 m (15 : Int)) a
                                                                                  b c) ∧
                                                                          (b == (0 : Int)) =
                                                                              decide
                                                                                (dX (bits BinOp.and IntKind.i64 m (15 : Int))
                                                                                    a b c =
                                                                                  (0 : Int)) ∧
                                                                            sh =
                                                                                dC (bits BinOp.and IntKind.i64 m (15 : Int)) a
                                                                                  b c sh ∧
                                                                              v =
                                                                                dV (bits BinOp.and IntKind.i64 m (15 : Int)) a
                                                                                  b c v))))))))))))))))) := by kernel_rfl
theorem dor_p (m a b : Int) (n z c v sh : Bool) :
    (conP (doS (bits .and .i64 m 15) a b c v sh) (fnTree Try.prog orc1 (tabL fns) 1000 Try.f11 [.c (.i false .i64 m), .c (.i false .u32 a), .c (.i false .u32 b), .a [.b false n, .b false z, .b false c, .b false v], .c (.b false sh)] [])) =
    ((c = true →
          u32 a = true ∧
            u32 b = true ∧
              ((bits BinOp.and IntKind.i64 m (15 : Int) == (2 : Int)) = true →
                  decide
                        ((-4294967296 : Int) ≤ IntKind.i64.wrap (IntKind.i64.wrap a - IntKind.i64.wrap b) ∧
                          IntKind.i64.wrap (IntKind.i64.wrap a - IntKind.i64.wrap b) ≤ (8589934592 : Int)) =
                      true ∧
                    (IntKind.u32 = IntKind.u32 ∧
                        yv (IntKind.i64.wrap (IntKind.i64.wrap a - IntKind.i64.wrap b)) =
                          dX (bits BinOp.and IntKind.i64 m (15 : Int)) a b c) ∧
                      flN (IntKind.i64.wrap (IntKind.i64.wrap a - IntKind.i64.wrap b)) =
                          decide ((2147483648 : Int) ≤ dX (bits BinOp.and IntKind.i64 m (15 : Int)) a b c) ∧
                        flZ (IntKind.i64.wrap (IntKind.i64.wrap a - IntKind.i64.wrap b)) =
                            decide (dX (bits BinOp.and IntKind.i64 m (15 : Int)) a b c = (0 : Int)) ∧
                          flC false (IntKind.i64.wrap (IntKind.i64.wrap a - IntKind.i64.wrap b)) =
                              dC (bits BinOp.and IntKind.i64 m (15 : Int)) a b c sh ∧
                            flV (IntKind.i64.wrap (sg a - sg b)) = dV (bits BinOp.and IntKind.i64 m (15 : Int)) a b c v) ∧
                ((bits BinOp.and IntKind.i64 m (15 : Int) == (2 : Int)) = false →
                  ((bits BinOp.and IntKind.i64 m (15 : Int) == (10 : Int)) = true →
                      decide
                            ((-4294967296 : Int) ≤ IntKind.i64.wrap (IntKind.i64.wrap a - IntKind.i64.wrap b) ∧
                              IntKind.i64.wrap (IntKind.i64.wrap a - IntKind.i64.wrap b) ≤ (8589934592 : Int)) =
                          true ∧
                        (IntKind.u32 = IntKind.u32 ∧
                            yv (IntKind.i64.wrap (IntKind.i64.wrap a - IntKind.i64.wrap b)) =
                              dX (bits BinOp.and IntKind.i64 m (15 : Int)) a b c) ∧
                          flN (IntKind.i64.wrap (IntKind.i64.wrap a - IntKind.i64.wrap b)) =
                              decide ((2147483648 : Int) ≤ dX (bits BinOp.and IntKind.i64 m (15 : Int)) a b c) ∧
                            flZ (IntKind.i64.wrap (IntKind.i64.wrap a - IntKind.i64.wrap b)) =
                                decide (dX (bits BinOp.and IntKind.i64 m (15 : Int)) a b c = (0 : Int)) ∧
                              flC false (IntKind.i64.wrap (IntKind.i64.wrap a - IntKind.i64.wrap b)) =
                                  dC (bits BinOp.and IntKind.i64 m (15 : Int)) a b c sh ∧
                                flV (IntKind.i64.wrap (sg a - sg b)) = dV (bits BinOp.and IntKind.i64 m (15 : Int)) a b c v) ∧
                    ((bits BinOp.and IntKind.i64 m (15 : Int) == (10 : Int)) = false →
                      ((bits BinOp.and IntKind.i64 m (15 : Int) == (3 : Int)) = true →
                          decide
                                ((-4294967296 : Int) ≤ IntKind.i64.wrap (IntKind.i64.wrap b - IntKind.i64.wrap a) ∧
                                  IntKind.i64.wrap (IntKind.i64.wrap b - IntKind.i64.wrap a) ≤ (8589934592 : Int)) =
                              true ∧
                            (IntKind.u32 = IntKind.u32 ∧
                                yv (IntKind.i64.wrap (IntKind.i64.wrap b - IntKind.i64.wrap a)) =
                                  dX (bits BinOp.and IntKind.i64 m (15 : Int)) a b c) ∧
                              flN (IntKind.i64.wrap (IntKind.i64.wrap b - IntKind.i64.wrap a)) =
                                  decide ((2147483648 : Int) ≤ dX (bits BinOp.and IntKind.i64 m (15 : Int)) a b c) ∧
                                flZ (IntKind.i64.wrap (IntKind.i64.wrap b - IntKind.i64.wrap a)) =
                                    decide (dX (bits BinOp.and IntKind.i64 m (15 : Int)) a b c = (0 : Int)) ∧
                                  flC false (IntKind.i64.wrap (IntKind.i64.wrap b - IntKind.i64.wrap a)) =
                                      dC (bits BinOp.and IntKind.i64 m (15 : Int)) a b c sh ∧
                                    flV (IntKind.i64.wrap (sg b - sg a)) =
                                      dV (bits BinOp.and IntKind.i64 m (15 : Int)) a b c v) ∧
                        ((bits BinOp.and IntKind.i64 m (15 : Int) == (3 : Int)) = false →
                          ((bits BinOp.and IntKind.i64 m (15 : Int) == (4 : Int)) = true →
                              decide
                                    ((-4294967296 : Int) ≤ IntKind.i64.wrap (IntKind.i64.wrap a + IntKind.i64.wrap b) ∧
                                      IntKind.i64.wrap (IntKind.i64.wrap a + IntKind.i64.wrap b) ≤ (8589934592 : Int)) =
                                  true ∧
                                (IntKind.u32 = IntKind.u32 ∧
                                    yv (IntKind.i64.wrap (IntKind.i64.wrap a + IntKind.i64.wrap b)) =
                                      dX (bits BinOp.and IntKind.i64 m (15 : Int)) a b c) ∧
                                  flN (IntKind.i64.wrap (IntKind.i64.wrap a + IntKind.i64.wrap b)) =
                                      decide ((2147483648 : Int) ≤ dX (bits BinOp.and IntKind.i64 m (15 : Int)) a b c) ∧
                                    flZ (IntKind.i64.wrap (IntKind.i64.wrap a + IntKind.i64.wrap b)) =
                                        decide (dX (bits BinOp.and IntKind.i64 m (15 : Int)) a b c = (0 : Int)) ∧
                                      flC true (IntKind.i64.wrap (IntKind.i64.wrap a + IntKind.i64.wrap b)) =
                                          dC (bits BinOp.and IntKind.i64 m (15 : Int)) a b c sh ∧
                                        flV (IntKind.i64.wrap (sg a + sg b)) =
                                          dV (bits BinOp.and IntKind.i64 m (15 : Int)) a b c v) ∧
                            ((bits BinOp.and IntKind.i64 m (15 : Int) == (4 : Int)) = false →
                              ((bits BinOp.and IntKind.i64 m (15 : Int) == (11 : Int)) = true →
                                  decide
                                        ((-4294967296 : Int) ≤ IntKind.i64.wrap (IntKind.i64.wrap a + IntKind.i64.wrap b) ∧
                                          IntKind.i64.wrap (IntKind.i64.wrap a + IntKind.i64.wrap b) ≤ (8589934592 : Int)) =
                                      true ∧
                                    (IntKind.u32 = IntKind.u32 ∧
                                        yv (IntKind.i64.wrap (IntKind.i64.wrap a + IntKind.i64.wrap b)) =
                                          dX (bits BinOp.and IntKind.i64 m (15 : Int)) a b c) ∧
                                      flN (IntKind.i64.wrap (IntKind.i64.wrap a + IntKind.i64.wrap b)) =
                                          decide ((2147483648 : Int) ≤ dX (bits BinOp.and IntKind.i64 m (15 : Int)) a b c) ∧
                                        flZ (IntKind.i64.wrap (IntKind.i64.wrap a + IntKind.i64.wrap b)) =
                                            decide (dX (bits BinOp.and IntKind.i64 m (15 : Int)) a b c = (0 : Int)) ∧
                                          flC true (IntKind.i64.wrap (IntKind.i64.wrap a + IntKind.i64.wrap b)) =
                                              dC (bits BinOp.and IntKind.i64 m (15 : Int)) a b c sh ∧
                                            flV (IntKind.i64.wrap (sg a + sg b)) =
                                              dV (bits BinOp.and IntKind.i64 m (15 : Int)) a b c v) ∧
                                ((bits BinOp.and IntKind.i64 m (15 : Int) == (11 : Int)) = false →
                                  ((bits BinOp.and IntKind.i64 m (15 : Int) == (5 : Int)) = true →
                                      decide
                                            ((-4294967296 : Int) ≤
                                                IntKind.i64.wrap
                                                  (IntKind.i64.wrap (IntKind.i64.wrap a + IntKind.i64.wrap b) + (1 : Int)) ∧
                                              IntKind.i64.wrap
                                                  (IntKind.i64.wrap (IntKind.i64.wrap a + IntKind.i64.wrap b) + (1 : Int)) ≤
                                                (8589934592 : Int)) =
                                          true ∧
                                        (IntKind.u32 = IntKind.u32 ∧
                                            yv
                                                (IntKind.i64.wrap
                                                  (IntKind.i64.wrap (IntKind.i64.wrap a + IntKind.i64.wrap b) + (1 : Int))) =
                                              dX (bits BinOp.and IntKind.i64 m (15 : Int)) a b c) ∧
                                          flN
                                                (IntKind.i64.wrap
                                                  (IntKind.i64.wrap (IntKind.i64.wrap a + IntKind.i64.wrap b) + (1 : Int))) =
                                              decide
                                                ((2147483648 : Int) ≤ dX (bits BinOp.and IntKind.i64 m (15 : Int)) a b c) ∧
                                            flZ
                                                  (IntKind.i64.wrap
                                                    (IntKind.i64.wrap (IntKind.i64.wrap a + IntKind.i64.wrap b) +
                                                      (1 : Int))) =
                                                decide (dX (bits BinOp.and IntKind.i64 m (15 : Int)) a b c = (0 : Int)) ∧
                                              flC true
                                                    (IntKind.i64.wrap
                                                      (IntKind.i64.wrap (IntKind.i64.wrap a + IntKind.i64.wrap b) +
                                                        (1 : Int))) =
                                                  dC (bits BinOp.and IntKind.i64 m (15 : Int)) a b c sh ∧
                                                flV (IntKind.i64.wrap (IntKind.i64.wrap (sg a + sg b) + (1 : Int))) =
                                                  dV (bits BinOp.and IntKind.i64 m (15 : Int)) a b c v) ∧
                                    ((bits BinOp.and IntKind.i64 m (15 : Int) == (5 : Int)) = false →
                                      ((bits BinOp.and IntKind.i64 m (15 : Int) == (6 : Int)) = true →
                                          decide
                                                ((-4294967296 : Int) ≤
                                                    IntKind.i64.wrap
                                                      (IntKind.i64.wrap
                                                          (IntKind.i64.wrap (IntKind.i64.wrap a - IntKind.i64.wrap b) -
                                                            (1 : Int)) +
                                                        (1 : Int)) ∧
                                                  IntKind.i64.wrap
                                                      (IntKind.i64.wrap
                                                          (IntKind.i64.wrap (IntKind.i64.wrap a - IntKind.i64.wrap b) -
                                                            (1 : Int)) +
                                                        (1 : Int)) ≤
                                                    (8589934592 : Int)) =
                                              true ∧
                                            (IntKind.u32 = IntKind.u32 ∧
                                                yv
                                                    (IntKind.i64.wrap
                                                      (IntKind.i64.wrap
                                                          (IntKind.i64.wrap (IntKind.i64.wrap a - IntKind.i64.wrap b) -
                                                            (1 : Int)) +
                                                        (1 : Int))) =
                                                  dX (bits BinOp.and IntKind.i64 m (15 : Int)) a b c) ∧
                                              flN
                                                    (IntKind.i64.wrap
                                                      (IntKind.i64.wrap
                                                          (IntKind.i64.wrap (IntKind.i64.wrap a - IntKind.i64.wrap b) -
                                                            (1 : Int)) +
                                                        (1 : Int))) =
                                                  decide
                                                    ((2147483648 : Int) ≤
                                                      dX (bits BinOp.and IntKind.i64 m (15 : Int)) a b c) ∧
                                                flZ
                                                      (IntKind.i64.wrap
                                                        (IntKind.i64.wrap
                                                            (IntKind.i64.wrap (IntKind.i64.wrap a - IntKind.i64.wrap b) -
                                                              (1 : Int)) +
                                                          (1 : Int))) =
                                                    decide (dX (bits BinOp.and IntKind.i64 m (15 : Int)) a b c = (0 : Int)) ∧
                                                  flC false
                                                        (IntKind.i64.wrap
                                                          (IntKind.i64.wrap
                                                              (IntKind.i64.wrap (IntKind.i64.wrap a - IntKind.i64.wrap b) -
                                                                (1 : Int)) +
                                                            (1 : Int))) =
                                                      dC (bits BinOp.and IntKind.i64 m (15 : Int)) a b c sh ∧
                                                    flV
                                                        (IntKind.i64.wrap
                                                          (IntKind.i64.wrap (IntKind.i64.wrap (sg a - sg b) - (1 : Int)) +
                                                            (1 : Int))) =
                                                      dV (bits BinOp.and IntKind.i64 m (15 : Int)) a b c v) ∧
                                        ((bits BinOp.and IntKind.i64 m (15 : Int) == (6 : Int)) = false →
                                          ((bits BinOp.and IntKind.i64 m (15 : Int) == (7 : Int)) = true →
                                              decide
                                                    ((-4294967296 : Int) ≤
                                                        IntKind.i64.wrap
                                                          (IntKind.i64.wrap
                                                              (IntKind.i64.wrap (IntKind.i64.wrap b - IntKind.i64.wrap a) -
                                                                (1 : Int)) +
                                                            (1 : Int)) ∧
                                                      IntKind.i64.wrap
                                                          (IntKind.i64.wrap
                                                              (IntKind.i64.wrap (IntKind.i64.wrap b - IntKind.i64.wrap a) -
                                                                (1 : Int)) +
                                                            (1 : Int)) ≤
                                                        (8589934592 : Int)) =
                                                  true ∧
                                                (IntKind.u32 = IntKind.u32 ∧
                                                    yv
                                                        (IntKind.i64.wrap
                                                          (IntKind.i64.wrap
                                                              (IntKind.i64.wrap (IntKind.i64.wrap b - IntKind.i64.wrap a) -
                                                                (1 : Int)) +
                                                            (1 : Int))) =
                                                      dX (bits BinOp.and IntKind.i64 m (15 : Int)) a b c) ∧
                                                  flN
                                                        (IntKind.i64.wrap
                                                          (IntKind.i64.wrap
                                                              (IntKind.i64.wrap (IntKind.i64.wrap b - IntKind.i64.wrap a) -
                                                                (1 : Int)) +
                                                            (1 : Int))) =
                                                      decide
                                                        ((2147483648 : Int) ≤
                                                          dX (bits BinOp.and IntKind.i64 m (15 : Int)) a b c) ∧
                                                    flZ
                                                          (IntKind.i64.wrap
                                                            (IntKind.i64.wrap
                                                                (IntKind.i64.wrap (IntKind.i64.wrap b - IntKind.i64.wrap a) -
                                                                  (1 : Int)) +
                                                              (1 : Int))) =
                                                        decide
                                                          (dX (bits BinOp.and IntKind.i64 m (15 : Int)) a b c = (0 : Int)) ∧
                                                      flC false
                                                            (IntKind.i64.wrap
                                                              (IntKind.i64.wrap
                                                                  (IntKind.i64.wrap
                                                                      (IntKind.i64.wrap b - IntKind.i64.wrap a) -
                                                                    (1 : Int)) +
                                                                (1 : Int))) =
                                                          dC (bits BinOp.and IntKind.i64 m (15 : Int)) a b c sh ∧
                                                        flV
                                                            (IntKind.i64.wrap
                                                              (IntKind.i64.wrap (IntKind.i64.wrap (sg b - sg a) - (1 : Int)) +
                                                                (1 : Int))) =
                                                          dV (bits BinOp.and IntKind.i64 m (15 : Int)) a b c v) ∧
                                            ((bits BinOp.and IntKind.i64 m (15 : Int) == (7 : Int)) = false →
                                              ((bits BinOp.and IntKind.i64 m (15 : Int) == (0 : Int)) = true →
                                                  (IntKind.u32 = IntKind.u32 ∧
                                                      bits BinOp.and IntKind.u32 a b =
                                                        dX (bits BinOp.and IntKind.i64 m (15 : Int)) a b c) ∧
                                                    decide (bits BinOp.and IntKind.u32 a b ≥ (2147483648 : Int)) =
                                                        decide
                                                          ((2147483648 : Int) ≤
                                                            dX (bits BinOp.and IntKind.i64 m (15 : Int)) a b c) ∧
                                                      (bits BinOp.and IntKind.u32 a b == (0 : Int)) =
                                                          decide
                                                            (dX (bits BinOp.and IntKind.i64 m (15 : Int)) a b c = (0 : Int)) ∧
                                                        sh = dC (bits BinOp.and IntKind.i64 m (15 : Int)) a b c sh ∧
                                                          v = dV (bits BinOp.and IntKind.i64 m (15 : Int)) a b c v) ∧
                                                ((bits BinOp.and IntKind.i64 m (15 : Int) == (0 : Int)) = false →
                                                  ((bits BinOp.and IntKind.i64 m (15 : Int) == (8 : Int)) = true →
                                                      (IntKind.u32 = IntKind.u32 ∧
                                                          bits BinOp.and IntKind.u32 a b =
                                                            dX (bits BinOp.and IntKind.i64 m (15 : Int)) a b c) ∧
                                                        decide (bits BinOp.and IntKind.u32 a b ≥ (2147483648 : Int)) =
                                                            decide
                                                              ((2147483648 : Int) ≤
                                                                dX (bits BinOp.and IntKind.i64 m (15 : Int)) a b c) ∧
                                                          (bits BinOp.and IntKind.u32 a b == (0 : Int)) =
                                                              decide
                                                                (dX (bits BinOp.and IntKind.i64 m (15 : Int)) a b c =
                                                                  (0 : Int)) ∧
                                                            sh = dC (bits BinOp.and IntKind.i64 m (15 : Int)) a b c sh ∧
                                                              v = dV (bits BinOp.and IntKind.i64 m (15 : Int)) a b c v) ∧
                                                    ((bits BinOp.and IntKind.i64 m (15 : Int) == (8 : Int)) = false →
                                                      ((bits BinOp.and IntKind.i64 m (15 : Int) == (1 : Int)) = true →
                                                          (IntKind.u32 = IntKind.u32 ∧
                                                              bits BinOp.xor IntKind.u32 a b =
                                                                dX (bits BinOp.and IntKind.i64 m (15 : Int)) a b c) ∧
                                                            decide (bits BinOp.xor IntKind.u32 a b ≥ (2147483648 : Int)) =
                                                                decide
                                                                  ((2147483648 : Int) ≤
                                                                    dX (bits BinOp.and IntKind.i64 m (15 : Int)) a b c) ∧
                                                              (bits BinOp.xor IntKind.u32 a b == (0 : Int)) =
                                                                  decide
                                                                    (dX (bits BinOp.and IntKind.i64 m (15 : Int)) a b c =
                                                                      (0 : Int)) ∧
                                                                sh = dC (bits BinOp.and IntKind.i64 m (15 : Int)) a b c sh ∧
                                                                  v = dV (bits BinOp.and IntKind.i64 m (15 : Int)) a b c v) ∧
                                                        ((bits BinOp.and IntKind.i64 m (15 : Int) == (1 : Int)) = false →
                                                          ((bits BinOp.and IntKind.i64 m (15 : Int) == (9 : Int)) = true →
                                                              (IntKind.u32 = IntKind.u32 ∧
                                                                  bits BinOp.xor IntKind.u32 a b =
                                                                    dX (bits BinOp.and IntKind.i64 m (15 : Int)) a b c) ∧
                                                                decide (bits BinOp.xor IntKind.u32 a b ≥ (2147483648 : Int)) =
                                                                    decide
                                                                      ((2147483648 : Int) ≤
                                                                        dX (bits BinOp.and IntKind.i64 m (15 : Int)) a b c) ∧
                                                                  (bits BinOp.xor IntKind.u32 a b == (0 : Int)) =
                                                                      decide
                                                                        (dX (bits BinOp.and IntKind.i64 m (15 : Int)) a b c =
                                                                          (0 : Int)) ∧
                                                                    sh =
                                                                        dC (bits BinOp.and IntKind.i64 m (15 : Int)) a b c
                                                                          sh ∧
                                                                      v =
                                                                        dV (bits BinOp.and IntKind.i64 m (15 : Int)) a b c
                                                                          v) ∧
                                                            ((bits BinOp.and IntKind.i64 m (15 : Int) == (9 : Int)) = false →
                                                              ((bits BinOp.and IntKind.i64 m (15 : Int) == (12 : Int)) =
                                                                    true →
                                                                  (IntKind.u32 = IntKind.u32 ∧
                                                                      bits BinOp.or IntKind.u32 a b =
                                                                        dX (bits BinOp.and IntKind.i64 m (15 : Int)) a b c) ∧
                                                                    decide
                                                                          (bits BinOp.or IntKind.u32 a b ≥
                                                                            (2147483648 : Int)) =
                                                                        decide
                                                                          ((2147483648 : Int) ≤
                                                                            dX (bits BinOp.and IntKind.i64 m (15 : Int)) a b
                                                                              c) ∧
                                                                      (bits BinOp.or IntKind.u32 a b == (0 : Int)) =
                                                                          decide
                                                                            (dX (bits BinOp.and IntKind.i64 m (15 : Int)) a b
                                                                                c =
                                                                              (0 : Int)) ∧
                                                                        sh =
                                                                            dC (bits BinOp.and IntKind.i64 m (15 : Int)) a b c
                                                                              sh ∧
                                                                          v =
                                                                            dV (bits BinOp.and IntKind.i64 m (15 : Int)) a b c
                                                                              v) ∧
                                                                ((bits BinOp.and IntKind.i64 m (15 : Int) == (12 : Int)) =
                                                                    false →
                                                                  ((bits BinOp.and IntKind.i64 m (15 : Int) == (13 : Int)) =
                                                                        true →
                                                                      (IntKind.u32 = IntKind.u32 ∧
                                                                          b =
                                                                            dX (bits BinOp.and IntKind.i64 m (15 : Int)) a b
                                                                              c) ∧
                                                                        decide (b ≥ (2147483648 : Int)) =
                                                                            decide
                                                                              ((2147483648 : Int) ≤
                                                                                dX (bits BinOp.and IntKind.i64 m (15 : Int)) a
                                                                                  b c) ∧
                                                                          (b == (0 : Int)) =
                                                                              decide
                                                                                (dX (bits BinOp.and IntKind.i64 m (15 : Int))
                                                                                    a b c =
                                                                                  (0 : Int)) ∧
                                                                            sh =
                                                                                dC (bits BinOp.and IntKind.i64 m (15 : Int)) a
                                                                                  b c sh ∧
                                                                              v =
                                                                                dV (bits BinOp.and IntKind.i64 m (15 : Int)) a
                                                                                  b c v) ∧
                                                                    ((bits BinOp.and IntKind.i64 m (15 : Int) == (13 : Int)) =
                                                                        false →
                                                                      ((bits BinOp.and IntKind.i64 m (15 : Int) ==
                                                                              (14 : Int)) =
                                                                            true →
                                                                          (IntKind.u32 = IntKind.u32 ∧
                                                                              bits BinOp.and IntKind.u32 a
                                                                                  (IntKind.u32.wrap
                                                                                    ((4294967295 : Int) - b)) =
                                                                                dX (bits BinOp.and IntKind.i64 m (15 : Int)) a
                                                                                  b c) ∧
                                                                            decide
                                                                                  (bits BinOp.and IntKind.u32 a
                                                                                      (IntKind.u32.wrap
                                                                                        ((4294967295 : Int) - b)) ≥
                                                                                    (2147483648 : Int)) =
                                                                                decide
                                                                                  ((2147483648 : Int) ≤
                                                                                    dX
                                                                                      (bits BinOp.and IntKind.i64 m
                                                                                        (15 : Int))
                                                                                      a b c) ∧
                                                                              (bits BinOp.and IntKind.u32 a
                                                                                      (IntKind.u32.wrap
                                                                                        ((4294967295 : Int) - b)) ==
                                                                                    (0 : Int)) =
                                                                                  decide
                                                                                    (dX
                                                                                        (bits BinOp.and IntKind.i64 m
                                                                                          (15 : Int))
                                                                                        a b c =
                                                                                      (0 : Int)) ∧
                                                                                sh =
                                                                                    dC
                                                                                      (bits BinOp.and IntKind.i64 m
                                                                                        (15 : Int))
                                                                                      a b c sh ∧
                                                                                  v =
                                                                                    dV
                                                                                      (bits BinOp.and IntKind.i64 m
                                                                                        (15 : Int))
                                                                                      a b c v) ∧
                                                                        ((bits BinOp.and IntKind.i64 m (15 : Int) ==
                                                                              (14 : Int)) =
                                                                            false →
                                                                          ((bits BinOp.and IntKind.i64 m (15 : Int) ==
                                                                                  (15 : Int)) =
                                                                                true →
                                                                              (IntKind.u32 = IntKind.u32 ∧
                                                                                  IntKind.u32.wrap ((4294967295 : Int) - b) =
                                                                                    dX
                                                                                      (bits BinOp.and IntKind.i64 m
                                                                                        (15 : Int))
                                                                                      a b c) ∧
                                                                                decide
                                                                                      (IntKind.u32.wrap
                                                                                          ((4294967295 : Int) - b) ≥
                                                                                        (2147483648 : Int)) =
                                                                                    decide
                                                                                      ((2147483648 : Int) ≤
                                                                                        dX
                                                                                          (bits BinOp.and IntKind.i64 m
                                                                                            (15 : Int))
                                                                                          a b c) ∧
                                                                                  (IntKind.u32.wrap
                                                                                          ((4294967295 : Int) - b) ==
                                                                                        (0 : Int)) =
                                                                                      decide
                                                                                        (dX
                                                                                            (bits BinOp.and IntKind.i64 m
                                                                                              (15 : Int))
                                                                                            a b c =
                                                                                          (0 : Int)) ∧
                                                                                    sh =
                                                                                        dC
                                                                                          (bits BinOp.and IntKind.i64 m
                                                                                            (15 : Int))
                                                                                          a b c sh ∧
                                                                                      v =
                                                                                        dV
                                                                                          (bits BinOp.and IntKind.i64 m
                                                                                            (15 : Int))
                                                                                          a b c v) ∧
                                                                            ((bits BinOp.and IntKind.i64 m (15 : Int) ==
                                                                                  (15 : Int)) =
                                                                                false →
                                                                              (IntKind.u32 = IntKind.u32 ∧
                                                                                  (0 : Int) =
                                                                                    dX
                                                                                      (bits BinOp.and IntKind.i64 m
                                                                                        (15 : Int))
                                                                                      a b c) ∧
                                                                                false =
                                                                                    decide
                                                                                      ((2147483648 : Int) ≤
                                                                                        dX
                                                                                          (bits BinOp.and IntKind.i64 m
                                                                                            (15 : Int))
                                                                                          a b c) ∧
                                                                                  true =
                                                                                      decide
                                                                                        (dX
                                                                                            (bits BinOp.and IntKind.i64 m
                                                                                              (15 : Int))
                                                                                            a b c =
                                                                                          (0 : Int)) ∧
                                                                                    sh =
                                                                                        dC
                                                                                          (bits BinOp.and IntKind.i64 m
                                                                                            (15 : Int))
                                                                                          a b c sh ∧
                                                                                      v =
                                                                                        dV
                                                                                          (bits BinOp.and IntKind.i64 m
                                                                                            (15 : Int))
                                                                                          a b c v))))))))))))))))) ∧
        (c = false →
          u32 a = true ∧
            u32 b = true ∧
              ((bits BinOp.and IntKind.i64 m (15 : Int) == (2 : Int)) = true →
                  decide
                        ((-4294967296 : Int) ≤ IntKind.i64.wrap (IntKind.i64.wrap a - IntKind.i64.wrap b) ∧
                          IntKind.i64.wrap (IntKind.i64.wrap a - IntKind.i64.wrap b) ≤ (8589934592 : Int)) =
                      true ∧
                    (IntKind.u32 = IntKind.u32 ∧
                        yv (IntKind.i64.wrap (IntKind.i64.wrap a - IntKind.i64.wrap b)) =
                          dX (bits BinOp.and IntKind.i64 m (15 : Int)) a b c) ∧
                      flN (IntKind.i64.wrap (IntKind.i64.wrap a - IntKind.i64.wrap b)) =
                          decide ((2147483648 : Int) ≤ dX (bits BinOp.and IntKind.i64 m (15 : Int)) a b c) ∧
                        flZ (IntKind.i64.wrap (IntKind.i64.wrap a - IntKind.i64.wrap b)) =
                            decide (dX (bits BinOp.and IntKind.i64 m (15 : Int)) a b c = (0 : Int)) ∧
                          flC false (IntKind.i64.wrap (IntKind.i64.wrap a - IntKind.i64.wrap b)) =
                              dC (bits BinOp.and IntKind.i64 m (15 : Int)) a b c sh ∧
                            flV (IntKind.i64.wrap (sg a - sg b)) = dV (bits BinOp.and IntKind.i64 m (15 : Int)) a b c v) ∧
                ((bits BinOp.and IntKind.i64 m (15 : Int) == (2 : Int)) = false →
                  ((bits BinOp.and IntKind.i64 m (15 : Int) == (10 : Int)) = true →
                      decide
                            ((-4294967296 : Int) ≤ IntKind.i64.wrap (IntKind.i64.wrap a - IntKind.i64.wrap b) ∧
                              IntKind.i64.wrap (IntKind.i64.wrap a - IntKind.i64.wrap b) ≤ (8589934592 : Int)) =
                          true ∧
                        (IntKind.u32 = IntKind.u32 ∧
                            yv (IntKind.i64.wrap (IntKind.i64.wrap a - IntKind.i64.wrap b)) =
                              dX (bits BinOp.and IntKind.i64 m (15 : Int)) a b c) ∧
                          flN (IntKind.i64.wrap (IntKind.i64.wrap a - IntKind.i64.wrap b)) =
                              decide ((2147483648 : Int) ≤ dX (bits BinOp.and IntKind.i64 m (15 : Int)) a b c) ∧
                            flZ (IntKind.i64.wrap (IntKind.i64.wrap a - IntKind.i64.wrap b)) =
                                decide (dX (bits BinOp.and IntKind.i64 m (15 : Int)) a b c = (0 : Int)) ∧
                              flC false (IntKind.i64.wrap (IntKind.i64.wrap a - IntKind.i64.wrap b)) =
                                  dC (bits BinOp.and IntKind.i64 m (15 : Int)) a b c sh ∧
                                flV (IntKind.i64.wrap (sg a - sg b)) = dV (bits BinOp.and IntKind.i64 m (15 : Int)) a b c v) ∧
                    ((bits BinOp.and IntKind.i64 m (15 : Int) == (10 : Int)) = false →
                      ((bits BinOp.and IntKind.i64 m (15 : Int) == (3 : Int)) = true →
                          decide
                                ((-4294967296 : Int) ≤ IntKind.i64.wrap (IntKind.i64.wrap b - IntKind.i64.wrap a) ∧
                                  IntKind.i64.wrap (IntKind.i64.wrap b - IntKind.i64.wrap a) ≤ (8589934592 : Int)) =
                              true ∧
                            (IntKind.u32 = IntKind.u32 ∧
                                yv (IntKind.i64.wrap (IntKind.i64.wrap b - IntKind.i64.wrap a)) =
                                  dX (bits BinOp.and IntKind.i64 m (15 : Int)) a b c) ∧
                              flN (IntKind.i64.wrap (IntKind.i64.wrap b - IntKind.i64.wrap a)) =
                                  decide ((2147483648 : Int) ≤ dX (bits BinOp.and IntKind.i64 m (15 : Int)) a b c) ∧
                                flZ (IntKind.i64.wrap (IntKind.i64.wrap b - IntKind.i64.wrap a)) =
                                    decide (dX (bits BinOp.and IntKind.i64 m (15 : Int)) a b c = (0 : Int)) ∧
                                  flC false (IntKind.i64.wrap (IntKind.i64.wrap b - IntKind.i64.wrap a)) =
                                      dC (bits BinOp.and IntKind.i64 m (15 : Int)) a b c sh ∧
                                    flV (IntKind.i64.wrap (sg b - sg a)) =
                                      dV (bits BinOp.and IntKind.i64 m (15 : Int)) a b c v) ∧
                        ((bits BinOp.and IntKind.i64 m (15 : Int) == (3 : Int)) = false →
                          ((bits BinOp.and IntKind.i64 m (15 : Int) == (4 : Int)) = true →
                              decide
                                    ((-4294967296 : Int) ≤ IntKind.i64.wrap (IntKind.i64.wrap a + IntKind.i64.wrap b) ∧
                                      IntKind.i64.wrap (IntKind.i64.wrap a + IntKind.i64.wrap b) ≤ (8589934592 : Int)) =
                                  true ∧
                                (IntKind.u32 = IntKind.u32 ∧
                                    yv (IntKind.i64.wrap (IntKind.i64.wrap a + IntKind.i64.wrap b)) =
                                      dX (bits BinOp.and IntKind.i64 m (15 : Int)) a b c) ∧
                                  flN (IntKind.i64.wrap (IntKind.i64.wrap a + IntKind.i64.wrap b)) =
                                      decide ((2147483648 : Int) ≤ dX (bits BinOp.and IntKind.i64 m (15 : Int)) a b c) ∧
                                    flZ (IntKind.i64.wrap (IntKind.i64.wrap a + IntKind.i64.wrap b)) =
                                        decide (dX (bits BinOp.and IntKind.i64 m (15 : Int)) a b c = (0 : Int)) ∧
                                      flC true (IntKind.i64.wrap (IntKind.i64.wrap a + IntKind.i64.wrap b)) =
                                          dC (bits BinOp.and IntKind.i64 m (15 : Int)) a b c sh ∧
                                        flV (IntKind.i64.wrap (sg a + sg b)) =
                                          dV (bits BinOp.and IntKind.i64 m (15 : Int)) a b c v) ∧
                            ((bits BinOp.and IntKind.i64 m (15 : Int) == (4 : Int)) = false →
                              ((bits BinOp.and IntKind.i64 m (15 : Int) == (11 : Int)) = true →
                                  decide
                                        ((-4294967296 : Int) ≤ IntKind.i64.wrap (IntKind.i64.wrap a + IntKind.i64.wrap b) ∧
                                          IntKind.i64.wrap (IntKind.i64.wrap a + IntKind.i64.wrap b) ≤ (8589934592 : Int)) =
                                      true ∧
                                    (IntKind.u32 = IntKind.u32 ∧
                                        yv (IntKind.i64.wrap (IntKind.i64.wrap a + IntKind.i64.wrap b)) =
                                          dX (bits BinOp.and IntKind.i64 m (15 : Int)) a b c) ∧
                                      flN (IntKind.i64.wrap (IntKind.i64.wrap a + IntKind.i64.wrap b)) =
                                          decide ((2147483648 : Int) ≤ dX (bits BinOp.and IntKind.i64 m (15 : Int)) a b c) ∧
                                        flZ (IntKind.i64.wrap (IntKind.i64.wrap a + IntKind.i64.wrap b)) =
                                            decide (dX (bits BinOp.and IntKind.i64 m (15 : Int)) a b c = (0 : Int)) ∧
                                          flC true (IntKind.i64.wrap (IntKind.i64.wrap a + IntKind.i64.wrap b)) =
                                              dC (bits BinOp.and IntKind.i64 m (15 : Int)) a b c sh ∧
                                            flV (IntKind.i64.wrap (sg a + sg b)) =
                                              dV (bits BinOp.and IntKind.i64 m (15 : Int)) a b c v) ∧
                                ((bits BinOp.and IntKind.i64 m (15 : Int) == (11 : Int)) = false →
                                  ((bits BinOp.and IntKind.i64 m (15 : Int) == (5 : Int)) = true →
                                      decide
                                            ((-4294967296 : Int) ≤
                                                IntKind.i64.wrap
                                                  (IntKind.i64.wrap (IntKind.i64.wrap a + IntKind.i64.wrap b) + (0 : Int)) ∧
                                              IntKind.i64.wrap
                                                  (IntKind.i64.wrap (IntKind.i64.wrap a + IntKind.i64.wrap b) + (0 : Int)) ≤
                                                (8589934592 : Int)) =
                                          true ∧
                                        (IntKind.u32 = IntKind.u32 ∧
                                            yv
                                                (IntKind.i64.wrap
                                                  (IntKind.i64.wrap (IntKind.i64.wrap a + IntKind.i64.wrap b) + (0 : Int))) =
                                              dX (bits BinOp.and IntKind.i64 m (15 : Int)) a b c) ∧
                                          flN
                                                (IntKind.i64.wrap
                                                  (IntKind.i64.wrap (IntKind.i64.wrap a + IntKind.i64.wrap b) + (0 : Int))) =
                                              decide
                                                ((2147483648 : Int) ≤ dX (bits BinOp.and IntKind.i64 m (15 : Int)) a b c) ∧
                                            flZ
                                                  (IntKind.i64.wrap
                                                    (IntKind.i64.wrap (IntKind.i64.wrap a + IntKind.i64.wrap b) +
                                                      (0 : Int))) =
                                                decide (dX (bits BinOp.and IntKind.i64 m (15 : Int)) a b c = (0 : Int)) ∧
                                              flC true
                                                    (IntKind.i64.wrap
                                                      (IntKind.i64.wrap (IntKind.i64.wrap a + IntKind.i64.wrap b) +
                                                        (0 : Int))) =
                                                  dC (bits BinOp.and IntKind.i64 m (15 : Int)) a b c sh ∧
                                                flV (IntKind.i64.wrap (IntKind.i64.wrap (sg a + sg b) + (0 : Int))) =
                                                  dV (bits BinOp.and IntKind.i64 m (15 : Int)) a b c v) ∧
                                    ((bits BinOp.and IntKind.i64 m (15 : Int) == (5 : Int)) = false →
                                      ((bits BinOp.and IntKind.i64 m (15 : Int) == (6 : Int)) = true →
                                          decide
                                                ((-4294967296 : Int) ≤
                                                    IntKind.i64.wrap
                                                      (IntKind.i64.wrap
                                                          (IntKind.i64.wrap (IntKind.i64.wrap a - IntKind.i64.wrap b) -
                                                            (1 : Int)) +
                                                        (0 : Int)) ∧
                                                  IntKind.i64.wrap
                                                      (IntKind.i64.wrap
                                                          (IntKind.i64.wrap (IntKind.i64.wrap a - IntKind.i64.wrap b) -
                                                            (1 : Int)) +
                                                        (0 : Int)) ≤
                                                    (8589934592 : Int)) =
                                              true ∧
                                            (IntKind.u32 = IntKind.u32 ∧
                                                yv
                                                    (IntKind.i64.wrap
                                                      (IntKind.i64.wrap
                                                          (IntKind.i64.wrap (IntKind.i64.wrap a - IntKind.i64.wrap b) -
                                                            (1 : Int)) +
                                                        (0 : Int))) =
                                                  dX (bits BinOp.and IntKind.i64 m (15 : Int)) a b c) ∧
                                              flN
                                                    (IntKind.i64.wrap
                                                      (IntKind.i64.wrap
                                                          (IntKind.i64.wrap (IntKind.i64.wrap a - IntKind.i64.wrap b) -
                                                            (1 : Int)) +
                                                        (0 : Int))) =
                                                  decide
                                                    ((2147483648 : Int) ≤
                                                      dX (bits BinOp.and IntKind.i64 m (15 : Int)) a b c) ∧
                                                flZ
                                                      (IntKind.i64.wrap
                                                        (IntKind.i64.wrap
                                                            (IntKind.i64.wrap (IntKind.i64.wrap a - IntKind.i64.wrap b) -
                                                              (1 : Int)) +
                                                          (0 : Int))) =
                                                    decide (dX (bits BinOp.and IntKind.i64 m (15 : Int)) a b c = (0 : Int)) ∧
                                                  flC false
                                                        (IntKind.i64.wrap
                                                          (IntKind.i64.wrap
                                                              (IntKind.i64.wrap (IntKind.i64.wrap a - IntKind.i64.wrap b) -
                                                                (1 : Int)) +
                                                            (0 : Int))) =
                                                      dC (bits BinOp.and IntKind.i64 m (15 : Int)) a b c sh ∧
                                                    flV
                                                        (IntKind.i64.wrap
                                                          (IntKind.i64.wrap (IntKind.i64.wrap (sg a - sg b) - (1 : Int)) +
                                                            (0 : Int))) =
                                                      dV (bits BinOp.and IntKind.i64 m (15 : Int)) a b c v) ∧
                                        ((bits BinOp.and IntKind.i64 m (15 : Int) == (6 : Int)) = false →
                                          ((bits BinOp.and IntKind.i64 m (15 : Int) == (7 : Int)) = true →
                                              decide
                                                    ((-4294967296 : Int) ≤
                                                        IntKind.i64.wrap
                                                          (IntKind.i64.wrap
                                                              (IntKind.i64.wrap (IntKind.i64.wrap b - IntKind.i64.wrap a) -
                                                                (1 : Int)) +
                                                            (0 : Int)) ∧
                                                      IntKind.i64.wrap
                                                          (IntKind.i64.wrap
                                                              (IntKind.i64.wrap (IntKind.i64.wrap b - IntKind.i64.wrap a) -
                                                                (1 : Int)) +
                                                            (0 : Int)) ≤
                                                        (8589934592 : Int)) =
                                                  true ∧
                                                (IntKind.u32 = IntKind.u32 ∧
                                                    yv
                                                        (IntKind.i64.wrap
                                                          (IntKind.i64.wrap
                                                              (IntKind.i64.wrap (IntKind.i64.wrap b - IntKind.i64.wrap a) -
                                                                (1 : Int)) +
                                                            (0 : Int))) =
                                                      dX (bits BinOp.and IntKind.i64 m (15 : Int)) a b c) ∧
                                                  flN
                                                        (IntKind.i64.wrap
                                                          (IntKind.i64.wrap
                                                              (IntKind.i64.wrap (IntKind.i64.wrap b - IntKind.i64.wrap a) -
                                                                (1 : Int)) +
                                                            (0 : Int))) =
                                                      decide
                                                        ((2147483648 : Int) ≤
                                                          dX (bits BinOp.and IntKind.i64 m (15 : Int)) a b c) ∧
                                                    flZ
                                                          (IntKind.i64.wrap
                                                            (IntKind.i64.wrap
                                                                (IntKind.i64.wrap (IntKind.i64.wrap b - IntKind.i64.wrap a) -
                                                                  (1 : Int)) +
                                                              (0 : Int))) =
                                                        decide
                                                          (dX (bits BinOp.and IntKind.i64 m (15 : Int)) a b c = (0 : Int)) ∧
                                                      flC false
                                                            (IntKind.i64.wrap
                                                              (IntKind.i64.wrap
                                                                  (IntKind.i64.wrap
                                                                      (IntKind.i64.wrap b - IntKind.i64.wrap a) -
                                                                    (1 : Int)) +
                                                                (0 : Int))) =
                                                          dC (bits BinOp.and IntKind.i64 m (15 : Int)) a b c sh ∧
                                                        flV
                                                            (IntKind.i64.wrap
                                                              (IntKind.i64.wrap (IntKind.i64.wrap (sg b - sg a) - (1 : Int)) +
                                                                (0 : Int))) =
                                                          dV (bits BinOp.and IntKind.i64 m (15 : Int)) a b c v) ∧
                                            ((bits BinOp.and IntKind.i64 m (15 : Int) == (7 : Int)) = false →
                                              ((bits BinOp.and IntKind.i64 m (15 : Int) == (0 : Int)) = true →
                                                  (IntKind.u32 = IntKind.u32 ∧
                                                      bits BinOp.and IntKind.u32 a b =
                                                        dX (bits BinOp.and IntKind.i64 m (15 : Int)) a b c) ∧
                                                    decide (bits BinOp.and IntKind.u32 a b ≥ (2147483648 : Int)) =
                                                        decide
                                                          ((2147483648 : Int) ≤
                                                            dX (bits BinOp.and IntKind.i64 m (15 : Int)) a b c) ∧
                                                      (bits BinOp.and IntKind.u32 a b == (0 : Int)) =
                                                          decide
                                                            (dX (bits BinOp.and IntKind.i64 m (15 : Int)) a b c = (0 : Int)) ∧
                                                        sh = dC (bits BinOp.and IntKind.i64 m (15 : Int)) a b c sh ∧
                                                          v = dV (bits BinOp.and IntKind.i64 m (15 : Int)) a b c v) ∧
                                                ((bits BinOp.and IntKind.i64 m (15 : Int) == (0 : Int)) = false →
                                                  ((bits BinOp.and IntKind.i64 m (15 : Int) == (8 : Int)) = true →
                                                      (IntKind.u32 = IntKind.u32 ∧
                                                          bits BinOp.and IntKind.u32 a b =
                                                            dX (bits BinOp.and IntKind.i64 m (15 : Int)) a b c) ∧
                                                        decide (bits BinOp.and IntKind.u32 a b ≥ (2147483648 : Int)) =
                                                            decide
                                                              ((2147483648 : Int) ≤
                                                                dX (bits BinOp.and IntKind.i64 m (15 : Int)) a b c) ∧
                                                          (bits BinOp.and IntKind.u32 a b == (0 : Int)) =
                                                              decide
                                                                (dX (bits BinOp.and IntKind.i64 m (15 : Int)) a b c =
                                                                  (0 : Int)) ∧
                                                            sh = dC (bits BinOp.and IntKind.i64 m (15 : Int)) a b c sh ∧
                                                              v = dV (bits BinOp.and IntKind.i64 m (15 : Int)) a b c v) ∧
                                                    ((bits BinOp.and IntKind.i64 m (15 : Int) == (8 : Int)) = false →
                                                      ((bits BinOp.and IntKind.i64 m (15 : Int) == (1 : Int)) = true →
                                                          (IntKind.u32 = IntKind.u32 ∧
                                                              bits BinOp.xor IntKind.u32 a b =
                                                                dX (bits BinOp.and IntKind.i64 m (15 : Int)) a b c) ∧
                                                            decide (bits BinOp.xor IntKind.u32 a b ≥ (2147483648 : Int)) =
                                                                decide
                                                                  ((2147483648 : Int) ≤
                                                                    dX (bits BinOp.and IntKind.i64 m (15 : Int)) a b c) ∧
                                                              (bits BinOp.xor IntKind.u32 a b == (0 : Int)) =
                                                                  decide
                                                                    (dX (bits BinOp.and IntKind.i64 m (15 : Int)) a b c =
                                                                      (0 : Int)) ∧
                                                                sh = dC (bits BinOp.and IntKind.i64 m (15 : Int)) a b c sh ∧
                                                                  v = dV (bits BinOp.and IntKind.i64 m (15 : Int)) a b c v) ∧
                                                        ((bits BinOp.and IntKind.i64 m (15 : Int) == (1 : Int)) = false →
                                                          ((bits BinOp.and IntKind.i64 m (15 : Int) == (9 : Int)) = true →
                                                              (IntKind.u32 = IntKind.u32 ∧
                                                                  bits BinOp.xor IntKind.u32 a b =
                                                                    dX (bits BinOp.and IntKind.i64 m (15 : Int)) a b c) ∧
                                                                decide (bits BinOp.xor IntKind.u32 a b ≥ (2147483648 : Int)) =
                                                                    decide
                                                                      ((2147483648 : Int) ≤
                                                                        dX (bits BinOp.and IntKind.i64 m (15 : Int)) a b c) ∧
                                                                  (bits BinOp.xor IntKind.u32 a b == (0 : Int)) =
                                                                      decide
                                                                        (dX (bits BinOp.and IntKind.i64 m (15 : Int)) a b c =
                                                                          (0 : Int)) ∧
                                                                    sh =
                                                                        dC (bits BinOp.and IntKind.i64 m (15 : Int)) a b c
                                                                          sh ∧
                                                                      v =
                                                                        dV (bits BinOp.and IntKind.i64 m (15 : Int)) a b c
                                                                          v) ∧
                                                            ((bits BinOp.and IntKind.i64 m (15 : Int) == (9 : Int)) = false →
                                                              ((bits BinOp.and IntKind.i64 m (15 : Int) == (12 : Int)) =
                                                                    true →
                                                                  (IntKind.u32 = IntKind.u32 ∧
                                                                      bits BinOp.or IntKind.u32 a b =
                                                                        dX (bits BinOp.and IntKind.i64 m (15 : Int)) a b c) ∧
                                                                    decide
                                                                          (bits BinOp.or IntKind.u32 a b ≥
                                                                            (2147483648 : Int)) =
                                                                        decide
                                                                          ((2147483648 : Int) ≤
                                                                            dX (bits BinOp.and IntKind.i64 m (15 : Int)) a b
                                                                              c) ∧
                                                                      (bits BinOp.or IntKind.u32 a b == (0 : Int)) =
                                                                          decide
                                                                            (dX (bits BinOp.and IntKind.i64 m (15 : Int)) a b
                                                                                c =
                                                                              (0 : Int)) ∧
                                                                        sh =
                                                                            dC (bits BinOp.and IntKind.i64 m (15 : Int)) a b c
                                                                              sh ∧
                                                                          v =
                                                                            dV (bits BinOp.and IntKind.i64 m (15 : Int)) a b c
                                                                              v) ∧
                                                                ((bits BinOp.and IntKind.i64 m (15 : Int) == (12 : Int)) =
                                                                    false →
                                                                  ((bits BinOp.and IntKind.i64 m (15 : Int) == (13 : Int)) =
                                                                        true →
                                                                      (IntKind.u32 = IntKind.u32 ∧
                                                                          b =
                                                                            dX (bits BinOp.and IntKind.i64 m (15 : Int)) a b
                                                                              c) ∧
                                                                        decide (b ≥ (2147483648 : Int)) =
                                                                            decide
                                                                              ((2147483648 : Int) ≤
                                                                                dX (bits BinOp.and IntKind.i64 m (15 : Int)) a
                                                                                  b c) ∧
                                                                          (b == (0 : Int)) =
                                                                              decide
                                                                                (dX (bits BinOp.and IntKind.i64 m (15 : Int))
                                                                                    a b c =
                                                                                  (0 : Int)) ∧
                                                                            sh =
                                                                                dC (bits BinOp.and IntKind.i64 m (15 : Int)) a
                                                                                  b c sh ∧
                                                                              v =
                                                                                dV (bits BinOp.and IntKind.i64 m (15 : Int)) a
                                                                                  b c v) ∧
                                                                    ((bits BinOp.and IntKind.i64 m (15 : Int) == (13 : Int)) =
                                                                        false →
                                                                      ((bits BinOp.and IntKind.i64 m (15 : Int) ==
                                                                              (14 : Int)) =
                                                                            true →
                                                                          (IntKind.u32 = IntKind.u32 ∧
                                                                              bits BinOp.and IntKind.u32 a
                                                                                  (IntKind.u32.wrap
                                                                                    ((4294967295 : Int) - b)) =
                                                                                dX (bits BinOp.and IntKind.i64 m (15 : Int)) a
                                                                                  b c) ∧
                                                                            decide
                                                                                  (bits BinOp.and IntKind.u32 a
                                                                                      (IntKind.u32.wrap
                                                                                        ((4294967295 : Int) - b)) ≥
                                                                                    (2147483648 : Int)) =
                                                                                decide
                                                                                  ((2147483648 : Int) ≤
                                                                                    dX
                                                                                      (bits BinOp.and IntKind.i64 m
                                                                                        (15 : Int))
                                                                                      a b c) ∧
                                                                              (bits BinOp.and IntKind.u32 a
                                                                                      (IntKind.u32.wrap
                                                                                        ((4294967295 : Int) - b)) ==
                                                                                    (0 : Int)) =
                                                                                  decide
                                                                                    (dX
                                                                                        (bits BinOp.and IntKind.i64 m
                                                                                          (15 : Int))
                                                                                        a b c =
                                                                                      (0 : Int)) ∧
                                                                                sh =
                                                                                    dC
                                                                                      (bits BinOp.and IntKind.i64 m
                                                                                        (15 : Int))
                                                                                      a b c sh ∧
                                                                                  v =
                                                                                    dV
                                                                                      (bits BinOp.and IntKind.i64 m
                                                                                        (15 : Int))
                                                                                      a b c v) ∧
                                                                        ((bits BinOp.and IntKind.i64 m (15 : Int) ==
                                                                              (14 : Int)) =
                                                                            false →
                                                                          ((bits BinOp.and IntKind.i64 m (15 : Int) ==
                                                                                  (15 : Int)) =
                                                                                true →
                                                                              (IntKind.u32 = IntKind.u32 ∧
                                                                                  IntKind.u32.wrap ((4294967295 : Int) - b) =
                                                                                    dX
                                                                                      (bits BinOp.and IntKind.i64 m
                                                                                        (15 : Int))
                                                                                      a b c) ∧
                                                                                decide
                                                                                      (IntKind.u32.wrap
                                                                                          ((4294967295 : Int) - b) ≥
                                                                                        (2147483648 : Int)) =
                                                                                    decide
                                                                                      ((2147483648 : Int) ≤
                                                                                        dX
                                                                                          (bits BinOp.and IntKind.i64 m
                                                                                            (15 : Int))
                                                                                          a b c) ∧
                                                                                  (IntKind.u32.wrap
                                                                                          ((4294967295 : Int) - b) ==
                                                                                        (0 : Int)) =
                                                                                      decide
                                                                                        (dX
                                                                                            (bits BinOp.and IntKind.i64 m
                                                                                              (15 : Int))
                                                                                            a b c =
                                                                                          (0 : Int)) ∧
                                                                                    sh =
                                                                                        dC
                                                                                          (bits BinOp.and IntKind.i64 m
                                                                                            (15 : Int))
                                                                                          a b c sh ∧
                                                                                      v =
                                                                                        dV
                                                                                          (bits BinOp.and IntKind.i64 m
                                                                                            (15 : Int))
                                                                                          a b c v) ∧
                                                                            ((bits BinOp.and IntKind.i64 m (15 : Int) ==
                                                                                  (15 : Int)) =
                                                                                false →
                                                                              (IntKind.u32 = IntKind.u32 ∧
                                                                                  (0 : Int) =
                                                                                    dX
                                                                                      (bits BinOp.and IntKind.i64 m
                                                                                        (15 : Int))
                                                                                      a b c) ∧
                                                                                false =
                                                                                    decide
                                                                                      ((2147483648 : Int) ≤
                                                                                        dX
                                                                                          (bits BinOp.and IntKind.i64 m
                                                                                            (15 : Int))
                                                                                          a b c) ∧
                                                                                  true =
                                                                                      decide
                                                                                        (dX
                                                                                            (bits BinOp.and IntKind.i64 m
                                                                                              (15 : Int))
                                                                                            a b c =
                                                                                          (0 : Int)) ∧
                                                                                    sh =
                                                                                        dC
                                                                                          (bits BinOp.and IntKind.i64 m
                                                                                            (15 : Int))
                                                                                          a b c sh ∧
                                                                                      v =
                                                                                        dV
                                                                                          (bits BinOp.and IntKind.i64 m
                                                                                            (15 : Int))
                                                                                          a b c v)))))))))))))))))) := by kernel_rfl
theorem topN (x : Int) (hx : u32 x = true) : (x.fdiv 2147483648 != 0) = decide (2147483648 ≤ x) := by
  rw [u32_iff] at hx
  rw [fdiv_lit _ _ (by decide), Bool.eq_iff_iff]; simp only [bne_iff_ne, ne_eq, decide_eq_true_eq]; omega
theorem bits_u32 (op : BinOp) (a b : Int) : u32 (bits op .u32 a b) = true := by
  rw [u32_iff]; exact bits_bd op .u32 rfl a b
theorem and15 (m : Int) : bits .and .i64 m 15 = m % 16 := and_mask .i64 m 4 (.inl (by decide))
theorem sg_not (x : Int) (hx : u32 x = true) : sg (4294967295 - x) = -1 - sg x := by
  rw [u32_iff] at hx
  unfold sg; split <;> split <;> omega
theorem beq0 (x : Int) : (x == 0) = decide (x = 0) := by rw [Bool.eq_iff_iff]; simp
theorem doi_ok (m a b : Int) (n z c v sh : Bool) (ha : u32 a = true) (hb : u32 b = true) :
    conP (doS (bits .and .i64 m 15) a b c v sh) (fnTree Try.prog orc1 (tabL fns) 1000 Try.f10 [.c (.i false .i64 m), .c (.i false .u32 a), .c (.i false .u32 b), .a [.b false n, .b false z, .b false c, .b false v], .c (.b false sh)] []) := by
  rw [doi_p]
  have ha' := (u32_iff _).1 ha
  have hb' := (u32_iff _).1 hb
  have hna : u32 (4294967295 - a) = true := by rw [u32_iff]; omega
  have hnb : u32 (4294967295 - b) = true := by rw [u32_iff]; omega
  rw [and15, not_u32 a ha'.1 ha'.2, not_u32 b hb'.1 hb'.2, andNot_u32 a b hb'.1 hb'.2, sg_not a ha, sg_not b hb]
  have hk : m % 16 = 0 ∨ m % 16 = 1 ∨ m % 16 = 2 ∨ m % 16 = 3 ∨ m % 16 = 4 ∨ m % 16 = 5 ∨ m % 16 = 6 ∨ m % 16 = 7 ∨ m % 16 = 8 ∨ m % 16 = 9 ∨ m % 16 = 10 ∨ m % 16 = 11 ∨ m % 16 = 12 ∨ m % 16 = 13 ∨ m % 16 = 14 ∨ m % 16 = 15 := by omega
  have ba := bits_u32 .and a b
  have bx := bits_u32 .xor a b
  have bo := bits_u32 .or a b
  have bn := bits_u32 .and a (4294967295 - b)
  rw [topN _ ba, topN _ bx, topN _ bo, topN _ bn, topN _ hb, topN _ hnb]
  simp only [dV]
  generalize sg a = p at *
  generalize sg b = q at *
  generalize m % 16 = k at *
  rcases hk with rfl | rfl | rfl | rfl | rfl | rfl | rfl | rfl | rfl | rfl | rfl | rfl | rfl | rfl | rfl | rfl <;> cases c <;>
    simp only [Int.reduceBEq, Bool.false_eq_true, false_implies, true_implies, forall_const, true_and, and_true, reduceCtorEq, dX, dC, dV, dL, dP, dn, dl, yv, flN, flZ, flC, flV, ha, hb, hna, hnb, beq0, Int.reduceEq, Int.reduceLT, Int.reduceLE, or_false, or_true, false_or, true_or, decide_true, decide_false, if_true, if_false] <;>
    (repeat' apply And.intro) <;> first | rfl | omega | (rw [decide_eq_decide]; omega) | (rw [decide_eq_true_eq]; omega)
theorem dor_ok (m a b : Int) (n z c v sh : Bool) (ha : u32 a = true) (hb : u32 b = true) :
    conP (doS (bits .and .i64 m 15) a b c v sh) (fnTree Try.prog orc1 (tabL fns) 1000 Try.f11 [.c (.i false .i64 m), .c (.i false .u32 a), .c (.i false .u32 b), .a [.b false n, .b false z, .b false c, .b false v], .c (.b false sh)] []) := by
  rw [dor_p]
  have ha' := (u32_iff _).1 ha
  have hb' := (u32_iff _).1 hb
  have hp : -2147483648 ≤ sg a ∧ sg a < 2147483648 := by unfold sg; split <;> omega
  have hq : -2147483648 ≤ sg b ∧ sg b < 2147483648 := by unfold sg; split <;> omega
  simp only [dV]
  generalize sg a = p at *
  generalize sg b = q at *
  have hw : IntKind.u32.wrap (4294967295 - b) = 4294967295 - b := by rw [wu32]; omega
  rw [and15, w64i a (by omega) (by omega), w64i b (by omega) (by omega)]
  simp only [w64i (a - b) (by omega) (by omega), w64i (b - a) (by omega) (by omega), w64i (a + b) (by omega) (by omega), w64i (a + b + 1) (by omega) (by omega), w64i (a - b - 1) (by omega) (by omega), w64i (b - a - 1) (by omega) (by omega), w64i (a - b - 1 + 1) (by omega) (by omega), w64i (b - a - 1 + 1) (by omega) (by omega), w64i (a + b + 0) (by omega) (by omega), w64i (a - b - 1 + 0) (by omega) (by omega), w64i (b - a - 1 + 0) (by omega) (by omega),
    w64i (p - q) (by omega) (by omega), w64i (q - p) (by omega) (by omega), w64i (p + q) (by omega) (by omega), w64i (p + q + 1) (by omega) (by omega), w64i (p - q - 1) (by omega) (by omega), w64i (q - p - 1) (by omega) (by omega), w64i (p - q - 1 + 1) (by omega) (by omega), w64i (q - p - 1 + 1) (by omega) (by omega), w64i (p + q + 0) (by omega) (by omega), w64i (p - q - 1 + 0) (by omega) (by omega), w64i (q - p - 1 + 0) (by omega) (by omega), hw]
  have hk : m % 16 = 0 ∨ m % 16 = 1 ∨ m % 16 = 2 ∨ m % 16 = 3 ∨ m % 16 = 4 ∨ m % 16 = 5 ∨ m % 16 = 6 ∨ m % 16 = 7 ∨ m % 16 = 8 ∨ m % 16 = 9 ∨ m % 16 = 10 ∨ m % 16 = 11 ∨ m % 16 = 12 ∨ m % 16 = 13 ∨ m % 16 = 14 ∨ m % 16 = 15 := by omega
  generalize m % 16 = k at *
  rcases hk with rfl | rfl | rfl | rfl | rfl | rfl | rfl | rfl | rfl | rfl | rfl | rfl | rfl | rfl | rfl | rfl <;> cases c <;>
    simp only [Int.reduceBEq, Bool.false_eq_true, false_implies, true_implies, forall_const, true_and, and_true, reduceCtorEq, dX, dC, dV, dL, dP, dn, dl, yv, flN, flZ, flC, flV, ha, hb, beq0, Int.reduceEq, Int.reduceLT, Int.reduceLE, or_false, or_true, false_or, true_or, decide_true, decide_false, if_true, if_false] <;>
    (repeat' apply And.intro) <;> first | rfl | omega | (rw [decide_eq_decide]; omega) | (rw [decide_eq_true_eq]; omega)
end Go.Proofs.Ytjacbodjkgiohaa

