import Derived.Test.YtdkegheacceecaaS
set_option linter.unusedVariables false
set_option linter.unusedSimpArgs false
namespace Go.Proofs.Ytdkegheacceecaa
open Go Go.Proofs Go.Proofs.Ytdkegheacceecaa.Ev Go.Proofs.Ytdkegheacceecaa.Ev.Ho
set_option maxRecDepth 100000
noncomputable def u9 : List Sp := [.r .u16 0 65535, .r .u16 0 65535, .r .u16 0 65535, .r .u16 0 65535, .r .u16 0 65535, .r .u16 0 65535, .r .u16 0 65535, .r .u16 0 65535, .r .u16 0 65535]
def shF (h0 h1 v0 v1 a o c x l : Int) (d : Bool) : Int :=
  bif decide (c / 8192 % 8 = 0) then 63 else bif decide (c / 8192 % 2 = 1) && (wF v0 l && wF h0 x) then a % 64 else bif decide (c / 16384 % 2 = 1) && (wF v1 l && wF h1 x) then a / 256 % 64 else bif (bif decide (c / 32768 % 2 = 1) then d else false) then o / 256 % 64 else o % 64
noncomputable def shQ (k : Nat) (c x l : Int) (d : Bool) (z y : PX) : Prop := y.n 90000 = shF (z.n (k + 0)) (z.n (k + 1)) (z.n (k + 2)) (z.n (k + 3)) (z.n (k + 4)) (z.n (k + 5)) c x l d
theorem b7x (x : Int) (h0 : 0 ≤ x) (h1 : x < 65536) : bits .and .u16 x 57344 = x / 8192 % 8 * 8192 := and_sh .u16 rfl x h0 h1 13 3 (by decide)
theorem b1x (x : Int) (h0 : 0 ≤ x) (h1 : x < 65536) : bits .and .u16 x 32768 = x / 32768 % 2 * 32768 := and_sh .u16 rfl x h0 h1 15 1 (by decide)
theorem sh_p (E : World) (S : SW) (z : PX) (c x l : Int) (d : Bool) :
    (hoPr false [.o u9 34] S (.c (.i .i64)) (shQ 0 c x l d) z (fnTree (pe E) (orcNone) (tabL fns) 20000 Try.f13 [.c (.p 0 0), .c (.i false .u16 c), .c (.i false .i64 x), .c (.i false .i64 l), .c (.b false d)] (mkM z S [.o u9 34] 0))) =
    (((bits BinOp.and IntKind.u16 c (57344 : Int) == (0 : Int)) = true → True ∧ mkM z S [MB.o u9 (34 : Nat)] (0 : Nat) = mkM z S [MB.o u9 (34 : Nat)] (0 : Nat) ∧ (63 : Int) =
      shF (z.n (0 : Nat)) (z.n (1 : Nat)) (z.n (2 : Nat)) (z.n (3 : Nat)) (z.n (4 : Nat)) (z.n (5 : Nat)) c x l d) ∧ ((bits BinOp.and IntKind.u16 c (57344 : Int) == (0 : Int)) =
      false → ((bits BinOp.and IntKind.u16 (c.fdiv (8192 : Int)) (1 : Int) != (0 : Int)) = true → (decide (IntKind.i64.wrap ((z.n (2 : Nat)).fdiv (256 : Int)) > IntKind.i64.wrap
      (bits BinOp.and IntKind.u16 (z.n (2 : Nat)) (255 : Int))) = true → ((bif decide (l ≥ IntKind.i64.wrap ((z.n (2 : Nat)).fdiv (256 : Int))) then true else decide (l <
      IntKind.i64.wrap (bits BinOp.and IntKind.u16 (z.n (2 : Nat)) (255 : Int)))) = true → (decide (IntKind.i64.wrap ((z.n (0 : Nat)).fdiv (256 : Int)) > IntKind.i64.wrap (bits
      BinOp.and IntKind.u16 (z.n (0 : Nat)) (255 : Int))) = true → ((bif decide (x ≥ IntKind.i64.wrap ((z.n (0 : Nat)).fdiv (256 : Int))) then true else decide (x <
      IntKind.i64.wrap (bits BinOp.and IntKind.u16 (z.n (0 : Nat)) (255 : Int)))) = true → True ∧ mkM z S [MB.o u9 (34 : Nat)] (0 : Nat) = mkM z S [MB.o u9 (34 : Nat)] (0 : Nat)
      ∧ IntKind.i64.wrap (bits BinOp.and IntKind.u16 ((z.n (4 : Nat)).fdiv (1 : Int)) (63 : Int)) = shF (z.n (0 : Nat)) (z.n (1 : Nat)) (z.n (2 : Nat)) (z.n (3 : Nat)) (z.n (4 :
      Nat)) (z.n (5 : Nat)) c x l d) ∧ ((bif decide (x ≥ IntKind.i64.wrap ((z.n (0 : Nat)).fdiv (256 : Int))) then true else decide (x < IntKind.i64.wrap (bits BinOp.and
      IntKind.u16 (z.n (0 : Nat)) (255 : Int)))) = false → ((bits BinOp.and IntKind.u16 (c.fdiv (16384 : Int)) (1 : Int) != (0 : Int)) = true → (decide (IntKind.i64.wrap ((z.n
      (3 : Nat)).fdiv (256 : Int)) > IntKind.i64.wrap (bits BinOp.and IntKind.u16 (z.n (3 : Nat)) (255 : Int))) = true → ((bif decide (l ≥ IntKind.i64.wrap ((z.n (3 : Nat)).fdiv
      (256 : Int))) then true else decide (l < IntKind.i64.wrap (bits BinOp.and IntKind.u16 (z.n (3 : Nat)) (255 : Int)))) = true → (decide (IntKind.i64.wrap ((z.n (1 :
      Nat)).fdiv (256 : Int)) > IntKind.i64.wrap (bits BinOp.and IntKind.u16 (z.n (1 : Nat)) (255 : Int))) = true → ((bif decide (x ≥ IntKind.i64.wrap ((z.n (1 : Nat)).fdiv (256
      : Int))) then true else decide (x < IntKind.i64.wrap (bits BinOp.and IntKind.u16 (z.n (1 : Nat)) (255 : Int)))) = true → True ∧ mkM z S [MB.o u9 (34 : Nat)] (0 : Nat) =
      mkM z S [MB.o u9 (34 : Nat)] (0 : Nat) ∧ IntKind.i64.wrap (bits BinOp.and IntKind.u16 ((z.n (4 : Nat)).fdiv (256 : Int)) (63 : Int)) = shF (z.n (0 : Nat)) (z.n (1 : Nat))
      (z.n (2 : Nat)) (z.n (3 : Nat)) (z.n (4 : Nat)) (z.n (5 : Nat)) c x l d) ∧ ((bif decide (x ≥ IntKind.i64.wrap ((z.n (1 : Nat)).fdiv (256 : Int))) then true else decide (x
      < IntKind.i64.wrap (bits BinOp.and IntKind.u16 (z.n (1 : Nat)) (255 : Int)))) = false → ((bif bits BinOp.and IntKind.u16 c (32768 : Int) != (0 : Int) then d else false) =
      true → True ∧ mkM z S [MB.o u9 (34 : Nat)] (0 : Nat) = mkM z S [MB.o u9 (34 : Nat)] (0 : Nat) ∧ IntKind.i64.wrap (bits BinOp.and IntKind.u16 ((z.n (5 : Nat)).fdiv (256 :
      Int)) (63 : Int)) = shF (z.n (0 : Nat)) (z.n (1 : Nat)) (z.n (2 : Nat)) (z.n (3 : Nat)) (z.n (4 : Nat)) (z.n (5 : Nat)) c x l d) ∧ ((bif bits BinOp.and IntKind.u16 c
      (32768 : Int) != (0 : Int) then d else false) = false → True ∧ mkM z S [MB.o u9 (34 : Nat)] (0 : Nat) = mkM z S [MB.o u9 (34 : Nat)] (0 : Nat) ∧ IntKind.i64.wrap (bits
      BinOp.and IntKind.u16 (z.n (5 : Nat)) (63 : Int)) = shF (z.n (0 : Nat)) (z.n (1 : Nat)) (z.n (2 : Nat)) (z.n (3 : Nat)) (z.n (4 : Nat)) (z.n (5 : Nat)) c x l d))) ∧
      (decide (IntKind.i64.wrap ((z.n (1 : Nat)).fdiv (256 : Int)) > IntKind.i64.wrap (bits BinOp.and IntKind.u16 (z.n (1 : Nat)) (255 : Int))) = false → ((bif decide (x ≥
      IntKind.i64.wrap ((z.n (1 : Nat)).fdiv (256 : Int))) then decide (x < IntKind.i64.wrap (bits BinOp.and IntKind.u16 (z.n (1 : Nat)) (255 : Int))) else false) = true → True
      ∧ mkM z S [MB.o u9 (34 : Nat)] (0 : Nat) = mkM z S [MB.o u9 (34 : Nat)] (0 : Nat) ∧ IntKind.i64.wrap (bits BinOp.and IntKind.u16 ((z.n (4 : Nat)).fdiv (256 : Int)) (63 :
      Int)) = shF (z.n (0 : Nat)) (z.n (1 : Nat)) (z.n (2 : Nat)) (z.n (3 : Nat)) (z.n (4 : Nat)) (z.n (5 : Nat)) c x l d) ∧ ((bif decide (x ≥ IntKind.i64.wrap ((z.n (1 :
      Nat)).fdiv (256 : Int))) then decide (x < IntKind.i64.wrap (bits BinOp.and IntKind.u16 (z.n (1 : Nat)) (255 : Int))) else false) = false → ((bif bits BinOp.and IntKind.u16
      c (32768 : Int) != (0 : Int) then d else false) = true → True ∧ mkM z S [MB.o u9 (34 : Nat)] (0 : Nat) = mkM z S [MB.o u9 (34 : Nat)] (0 : Nat) ∧ IntKind.i64.wrap (bits
      BinOp.and IntKind.u16 ((z.n (5 : Nat)).fdiv (256 : Int)) (63 : Int)) = shF (z.n (0 : Nat)) (z.n (1 : Nat)) (z.n (2 : Nat)) (z.n (3 : Nat)) (z.n (4 : Nat)) (z.n (5 : Nat))
      c x l d) ∧ ((bif bits BinOp.and IntKind.u16 c (32768 : Int) != (0 : Int) then d else false) = false → True ∧ mkM z S [MB.o u9 (34 : Nat)] (0 : Nat) = mkM z S [MB.o u9 (34
      : Nat)] (0 : Nat) ∧ IntKind.i64.wrap (bits BinOp.and IntKind.u16 (z.n (5 : Nat)) (63 : Int)) = shF (z.n (0 : Nat)) (z.n (1 : Nat)) (z.n (2 : Nat)) (z.n (3 : Nat)) (z.n (4
      : Nat)) (z.n (5 : Nat)) c x l d)))) ∧ ((bif decide (l ≥ IntKind.i64.wrap ((z.n (3 : Nat)).fdiv (256 : Int))) then true else decide (l < IntKind.i64.wrap (bits BinOp.and
      IntKind.u16 (z.n (3 : Nat)) (255 : Int)))) = false → ((bif bits BinOp.and IntKind.u16 c (32768 : Int) != (0 : Int) then d else false) = true → True ∧ mkM z S [MB.o u9 (34
      : Nat)] (0 : Nat) = mkM z S [MB.o u9 (34 : Nat)] (0 : Nat) ∧ IntKind.i64.wrap (bits BinOp.and IntKind.u16 ((z.n (5 : Nat)).fdiv (256 : Int)) (63 : Int)) = shF (z.n (0 :
      Nat)) (z.n (1 : Nat)) (z.n (2 : Nat)) (z.n (3 : Nat)) (z.n (4 : Nat)) (z.n (5 : Nat)) c x l d) ∧ ((bif bits BinOp.and IntKind.u16 c (32768 : Int) != (0 : Int) then d else
      false) = false → True ∧ mkM z S [MB.o u9 (34 : Nat)] (0 : Nat) = mkM z S [MB.o u9 (34 : Nat)] (0 : Nat) ∧ IntKind.i64.wrap (bits BinOp.and IntKind.u16 (z.n (5 : Nat)) (63
      : Int)) = shF (z.n (0 : Nat)) (z.n (1 : Nat)) (z.n (2 : Nat)) (z.n (3 : Nat)) (z.n (4 : Nat)) (z.n (5 : Nat)) c x l d))) ∧ (decide (IntKind.i64.wrap ((z.n (3 : Nat)).fdiv
      (256 : Int)) > IntKind.i64.wrap (bits BinOp.and IntKind.u16 (z.n (3 : Nat)) (255 : Int))) = false → ((bif decide (l ≥ IntKind.i64.wrap ((z.n (3 : Nat)).fdiv (256 : Int)))
      then decide (l < IntKind.i64.wrap (bits BinOp.and IntKind.u16 (z.n (3 : Nat)) (255 : Int))) else false) = true → (decide (IntKind.i64.wrap ((z.n (1 : Nat)).fdiv (256 :
      Int)) > IntKind.i64.wrap (bits BinOp.and IntKind.u16 (z.n (1 : Nat)) (255 : Int))) = true → ((bif decide (x ≥ IntKind.i64.wrap ((z.n (1 : Nat)).fdiv (256 : Int))) then
      true else decide (x < IntKind.i64.wrap (bits BinOp.and IntKind.u16 (z.n (1 : Nat)) (255 : Int)))) = true → True ∧ mkM z S [MB.o u9 (34 : Nat)] (0 : Nat) = mkM z S [MB.o u9
      (34 : Nat)] (0 : Nat) ∧ IntKind.i64.wrap (bits BinOp.and IntKind.u16 ((z.n (4 : Nat)).fdiv (256 : Int)) (63 : Int)) = shF (z.n (0 : Nat)) (z.n (1 : Nat)) (z.n (2 : Nat))
      (z.n (3 : Nat)) (z.n (4 : Nat)) (z.n (5 : Nat)) c x l d) ∧ ((bif decide (x ≥ IntKind.i64.wrap ((z.n (1 : Nat)).fdiv (256 : Int))) then true else decide (x <
      IntKind.i64.wrap (bits BinOp.and IntKind.u16 (z.n (1 : Nat)) (255 : Int)))) = false → ((bif bits BinOp.and IntKind.u16 c (32768 : Int) != (0 : Int) then d else false) =
      true → True ∧ mkM z S [MB.o u9 (34 : Nat)] (0 : Nat) = mkM z S [MB.o u9 (34 : Nat)] (0 : Nat) ∧ IntKind.i64.wrap (bits BinOp.and IntKind.u16 ((z.n (5 : Nat)).fdiv (256 :
      Int)) (63 : Int)) = shF (z.n (0 : Nat)) (z.n (1 : Nat)) (z.n (2 : Nat)) (z.n (3 : Nat)) (z.n (4 : Nat)) (z.n (5 : Nat)) c x l d) ∧ ((bif bits BinOp.and IntKind.u16 c
      (32768 : Int) != (0 : Int) then d else false) = false → True ∧ mkM z S [MB.o u9 (34 : Nat)] (0 : Nat) = mkM z S [MB.o u9 (34 : Nat)] (0 : Nat) ∧ IntKind.i64.wrap (bits
      BinOp.and IntKind.u16 (z.n (5 : Nat)) (63 : Int)) = shF (z.n (0 : Nat)) (z.n (1 : Nat)) (z.n (2 : Nat)) (z.n (3 : Nat)) (z.n (4 : Nat)) (z.n (5 : Nat)) c x l d))) ∧
      (decide (IntKind.i64.wrap ((z.n (1 : Nat)).fdiv (256 : Int)) > IntKind.i64.wrap (bits BinOp.and IntKind.u16 (z.n (1 : Nat)) (255 : Int))) = false → ((bif decide (x ≥
      IntKind.i64.wrap ((z.n (1 : Nat)).fdiv (256 : Int))) then decide (x < IntKind.i64.wrap (bits BinOp.and IntKind.u16 (z.n (1 : Nat)) (255 : Int))) else false) = true → True
      ∧ mkM z S [MB.o u9 (34 : Nat)] (0 : Nat) = mkM z S [MB.o u9 (34 : Nat)] (0 : Nat) ∧ IntKind.i64.wrap (bits BinOp.and IntKind.u16 ((z.n (4 : Nat)).fdiv (256 : Int)) (63 :
      Int)) = shF (z.n (0 : Nat)) (z.n (1 : Nat)) (z.n (2 : Nat)) (z.n (3 : Nat)) (z.n (4 : Nat)) (z.n (5 : Nat)) c x l d) ∧ ((bif decide (x ≥ IntKind.i64.wrap ((z.n (1 :
      Nat)).fdiv (256 : Int))) then decide (x < IntKind.i64.wrap (bits BinOp.and IntKind.u16 (z.n (1 : Nat)) (255 : Int))) else false) = false → ((bif bits BinOp.and IntKind.u16
      c (32768 : Int) != (0 : Int) then d else false) = true → True ∧ mkM z S [MB.o u9 (34 : Nat)] (0 : Nat) = mkM z S [MB.o u9 (34 : Nat)] (0 : Nat) ∧ IntKind.i64.wrap (bits
      BinOp.and IntKind.u16 ((z.n (5 : Nat)).fdiv (256 : Int)) (63 : Int)) = shF (z.n (0 : Nat)) (z.n (1 : Nat)) (z.n (2 : Nat)) (z.n (3 : Nat)) (z.n (4 : Nat)) (z.n (5 : Nat))
      c x l d) ∧ ((bif bits BinOp.and IntKind.u16 c (32768 : Int) != (0 : Int) then d else false) = false → True ∧ mkM z S [MB.o u9 (34 : Nat)] (0 : Nat) = mkM z S [MB.o u9 (34
      : Nat)] (0 : Nat) ∧ IntKind.i64.wrap (bits BinOp.and IntKind.u16 (z.n (5 : Nat)) (63 : Int)) = shF (z.n (0 : Nat)) (z.n (1 : Nat)) (z.n (2 : Nat)) (z.n (3 : Nat)) (z.n (4
      : Nat)) (z.n (5 : Nat)) c x l d)))) ∧ ((bif decide (l ≥ IntKind.i64.wrap ((z.n (3 : Nat)).fdiv (256 : Int))) then decide (l < IntKind.i64.wrap (bits BinOp.and IntKind.u16
      (z.n (3 : Nat)) (255 : Int))) else false) = false → ((bif bits BinOp.and IntKind.u16 c (32768 : Int) != (0 : Int) then d else false) = true → True ∧ mkM z S [MB.o u9 (34 :
      Nat)] (0 : Nat) = mkM z S [MB.o u9 (34 : Nat)] (0 : Nat) ∧ IntKind.i64.wrap (bits BinOp.and IntKind.u16 ((z.n (5 : Nat)).fdiv (256 : Int)) (63 : Int)) = shF (z.n (0 :
      Nat)) (z.n (1 : Nat)) (z.n (2 : Nat)) (z.n (3 : Nat)) (z.n (4 : Nat)) (z.n (5 : Nat)) c x l d) ∧ ((bif bits BinOp.and IntKind.u16 c (32768 : Int) != (0 : Int) then d else
      false) = false → True ∧ mkM z S [MB.o u9 (34 : Nat)] (0 : Nat) = mkM z S [MB.o u9 (34 : Nat)] (0 : Nat) ∧ IntKind.i64.wrap (bits BinOp.and IntKind.u16 (z.n (5 : Nat)) (63
      : Int)) = shF (z.n (0 : Nat)) (z.n (1 : Nat)) (z.n (2 : Nat)) (z.n (3 : Nat)) (z.n (4 : Nat)) (z.n (5 : Nat)) c x l d)))) ∧ ((bits BinOp.and IntKind.u16 (c.fdiv (16384 :
      Int)) (1 : Int) != (0 : Int)) = false → ((bif bits BinOp.and IntKind.u16 c (32768 : Int) != (0 : Int) then d else false) = true → True ∧ mkM z S [MB.o u9 (34 : Nat)] (0 :
      Nat) = mkM z S [MB.o u9 (34 : Nat)] (0 : Nat) ∧ IntKind.i64.wrap (bits BinOp.and IntKind.u16 ((z.n (5 : Nat)).fdiv (256 : Int)) (63 : Int)) = shF (z.n (0 : Nat)) (z.n (1 :
      Nat)) (z.n (2 : Nat)) (z.n (3 : Nat)) (z.n (4 : Nat)) (z.n (5 : Nat)) c x l d) ∧ ((bif bits BinOp.and IntKind.u16 c (32768 : Int) != (0 : Int) then d else false) = false →
      True ∧ mkM z S [MB.o u9 (34 : Nat)] (0 : Nat) = mkM z S [MB.o u9 (34 : Nat)] (0 : Nat) ∧ IntKind.i64.wrap (bits BinOp.and IntKind.u16 (z.n (5 : Nat)) (63 : Int)) = shF
      (z.n (0 : Nat)) (z.n (1 : Nat)) (z.n (2 : Nat)) (z.n (3 : Nat)) (z.n (4 : Nat)) (z.n (5 : Nat)) c x l d)))) ∧ (decide (IntKind.i64.wrap ((z.n (0 : Nat)).fdiv (256 : Int))
      > IntKind.i64.wrap (bits BinOp.and IntKind.u16 (z.n (0 : Nat)) (255 : Int))) = false → ((bif decide (x ≥ IntKind.i64.wrap ((z.n (0 : Nat)).fdiv (256 : Int))) then decide
      (x < IntKind.i64.wrap (bits BinOp.and IntKind.u16 (z.n (0 : Nat)) (255 : Int))) else false) = true → True ∧ mkM z S [MB.o u9 (34 : Nat)] (0 : Nat) = mkM z S [MB.o u9 (34 :
      Nat)] (0 : Nat) ∧ IntKind.i64.wrap (bits BinOp.and IntKind.u16 ((z.n (4 : Nat)).fdiv (1 : Int)) (63 : Int)) = shF (z.n (0 : Nat)) (z.n (1 : Nat)) (z.n (2 : Nat)) (z.n (3 :
      Nat)) (z.n (4 : Nat)) (z.n (5 : Nat)) c x l d) ∧ ((bif decide (x ≥ IntKind.i64.wrap ((z.n (0 : Nat)).fdiv (256 : Int))) then decide (x < IntKind.i64.wrap (bits BinOp.and
      IntKind.u16 (z.n (0 : Nat)) (255 : Int))) else false) = false → ((bits BinOp.and IntKind.u16 (c.fdiv (16384 : Int)) (1 : Int) != (0 : Int)) = true → (decide
      (IntKind.i64.wrap ((z.n (3 : Nat)).fdiv (256 : Int)) > IntKind.i64.wrap (bits BinOp.and IntKind.u16 (z.n (3 : Nat)) (255 : Int))) = true → ((bif decide (l ≥
      IntKind.i64.wrap ((z.n (3 : Nat)).fdiv (256 : Int))) then true else decide (l < IntKind.i64.wrap (bits BinOp.and IntKind.u16 (z.n (3 : Nat)) (255 : Int)))) = true →
      (decide (IntKind.i64.wrap ((z.n (1 : Nat)).fdiv (256 : Int)) > IntKind.i64.wrap (bits BinOp.and IntKind.u16 (z.n (1 : Nat)) (255 : Int))) = true → ((bif decide (x ≥
      IntKind.i64.wrap ((z.n (1 : Nat)).fdiv (256 : Int))) then true else decide (x < IntKind.i64.wrap (bits BinOp.and IntKind.u16 (z.n (1 : Nat)) (255 : Int)))) = true → True ∧
      mkM z S [MB.o u9 (34 : Nat)] (0 : Nat) = mkM z S [MB.o u9 (34 : Nat)] (0 : Nat) ∧ IntKind.i64.wrap (bits BinOp.and IntKind.u16 ((z.n (4 : Nat)).fdiv (256 : Int)) (63 :
      Int)) = shF (z.n (0 : Nat)) (z.n (1 : Nat)) (z.n (2 : Nat)) (z.n (3 : Nat)) (z.n (4 : Nat)) (z.n (5 : Nat)) c x l d) ∧ ((bif decide (x ≥ IntKind.i64.wrap ((z.n (1 :
      Nat)).fdiv (256 : Int))) then true else decide (x < IntKind.i64.wrap (bits BinOp.and IntKind.u16 (z.n (1 : Nat)) (255 : Int)))) = false → ((bif bits BinOp.and IntKind.u16
      c (32768 : Int) != (0 : Int) then d else false) = true → True ∧ mkM z S [MB.o u9 (34 : Nat)] (0 : Nat) = mkM z S [MB.o u9 (34 : Nat)] (0 : Nat) ∧ IntKind.i64.wrap (bits
      BinOp.and IntKind.u16 ((z.n (5 : Nat)).fdiv (256 : Int)) (63 : Int)) = shF (z.n (0 : Nat)) (z.n (1 : Nat)) (z.n (2 : Nat)) (z.n (3 : Nat)) (z.n (4 : Nat)) (z.n (5 : Nat))
      c x l d) ∧ ((bif bits BinOp.and IntKind.u16 c (32768 : Int) != (0 : Int) then d else false) = false → True ∧ mkM z S [MB.o u9 (34 : Nat)] (0 : Nat) = mkM z S [MB.o u9 (34
      : Nat)] (0 : Nat) ∧ IntKind.i64.wrap (bits BinOp.and IntKind.u16 (z.n (5 : Nat)) (63 : Int)) = shF (z.n (0 : Nat)) (z.n (1 : Nat)) (z.n (2 : Nat)) (z.n (3 : Nat)) (z.n (4
      : Nat)) (z.n (5 : Nat)) c x l d))) ∧ (decide (IntKind.i64.wrap ((z.n (1 : Nat)).fdiv (256 : Int)) > IntKind.i64.wrap (bits BinOp.and IntKind.u16 (z.n (1 : Nat)) (255 :
      Int))) = false → ((bif decide (x ≥ IntKind.i64.wrap ((z.n (1 : Nat)).fdiv (256 : Int))) then decide (x < IntKind.i64.wrap (bits BinOp.and IntKind.u16 (z.n (1 : Nat)) (255
      : Int))) else false) = true → True ∧ mkM z S [MB.o u9 (34 : Nat)] (0 : Nat) = mkM z S [MB.o u9 (34 : Nat)] (0 : Nat) ∧ IntKind.i64.wrap (bits BinOp.and IntKind.u16 ((z.n
      (4 : Nat)).fdiv (256 : Int)) (63 : Int)) = shF (z.n (0 : Nat)) (z.n (1 : Nat)) (z.n (2 : Nat)) (z.n (3 : Nat)) (z.n (4 : Nat)) (z.n (5 : Nat)) c x l d) ∧ ((bif decide (x ≥
      IntKind.i64.wrap ((z.n (1 : Nat)).fdiv (256 : Int))) then decide (x < IntKind.i64.wrap (bits BinOp.and IntKind.u16 (z.n (1 : Nat)) (255 : Int))) else false) = false →
      ((bif bits BinOp.and IntKind.u16 c (32768 : Int) != (0 : Int) then d else false) = true → True ∧ mkM z S [MB.o u9 (34 : Nat)] (0 : Nat) = mkM z S [MB.o u9 (34 : Nat)] (0 :
      Nat) ∧ IntKind.i64.wrap (bits BinOp.and IntKind.u16 ((z.n (5 : Nat)).fdiv (256 : Int)) (63 : Int)) = shF (z.n (0 : Nat)) (z.n (1 : Nat)) (z.n (2 : Nat)) (z.n (3 : Nat))
      (z.n (4 : Nat)) (z.n (5 : Nat)) c x l d) ∧ ((bif bits BinOp.and IntKind.u16 c (32768 : Int) != (0 : Int) then d else false) = false → True ∧ mkM z S [MB.o u9 (34 : Nat)]
      (0 : Nat) = mkM z S [MB.o u9 (34 : Nat)] (0 : Nat) ∧ IntKind.i64.wrap (bits BinOp.and IntKind.u16 (z.n (5 : Nat)) (63 : Int)) = shF (z.n (0 : Nat)) (z.n (1 : Nat)) (z.n (2
      : Nat)) (z.n (3 : Nat)) (z.n (4 : Nat)) (z.n (5 : Nat)) c x l d)))) ∧ ((bif decide (l ≥ IntKind.i64.wrap ((z.n (3 : Nat)).fdiv (256 : Int))) then true else decide (l <
      IntKind.i64.wrap (bits BinOp.and IntKind.u16 (z.n (3 : Nat)) (255 : Int)))) = false → ((bif bits BinOp.and IntKind.u16 c (32768 : Int) != (0 : Int) then d else false) =
      true → True ∧ mkM z S [MB.o u9 (34 : Nat)] (0 : Nat) = mkM z S [MB.o u9 (34 : Nat)] (0 : Nat) ∧ IntKind.i64.wrap (bits BinOp.and IntKind.u16 ((z.n (5 : Nat)).fdiv (256 :
      Int)) (63 : Int)) = shF (z.n (0 : Nat)) (z.n (1 : Nat)) (z.n (2 : Nat)) (z.n (3 : Nat)) (z.n (4 : Nat)) (z.n (5 : Nat)) c x l d) ∧ ((bif bits BinOp.and IntKind.u16 c
      (32768 : Int) != (0 : Int) then d else false) = false → True ∧ mkM z S [MB.o u9 (34 : Nat)] (0 : Nat) = mkM z S [MB.o u9 (34 : Nat)] (0 : Nat) ∧ IntKind.i64.wrap (bits
      BinOp.and IntKind.u16 (z.n (5 : Nat)) (63 : Int)) = shF (z.n (0 : Nat)) (z.n (1 : Nat)) (z.n (2 : Nat)) (z.n (3 : Nat)) (z.n (4 : Nat)) (z.n (5 : Nat)) c x l d))) ∧
      (decide (IntKind.i64.wrap ((z.n (3 : Nat)).fdiv (256 : Int)) > IntKind.i64.wrap (bits BinOp.and IntKind.u16 (z.n (3 : Nat)) (255 : Int))) = false → ((bif decide (l ≥
      IntKind.i64.wrap ((z.n (3 : Nat)).fdiv (256 : Int))) then decide (l < IntKind.i64.wrap (bits BinOp.and IntKind.u16 (z.n (3 : Nat)) (255 : Int))) else false) = true →
      (decide (IntKind.i64.wrap ((z.n (1 : Nat)).fdiv (256 : Int)) > IntKind.i64.wrap (bits BinOp.and IntKind.u16 (z.n (1 : Nat)) (255 : Int))) = true → ((bif decide (x ≥
      IntKind.i64.wrap ((z.n (1 : Nat)).fdiv (256 : Int))) then true else decide (x < IntKind.i64.wrap (bits BinOp.and IntKind.u16 (z.n (1 : Nat)) (255 : Int)))) = true → True ∧
      mkM z S [MB.o u9 (34 : Nat)] (0 : Nat) = mkM z S [MB.o u9 (34 : Nat)] (0 : Nat) ∧ IntKind.i64.wrap (bits BinOp.and IntKind.u16 ((z.n (4 : Nat)).fdiv (256 : Int)) (63 :
      Int)) = shF (z.n (0 : Nat)) (z.n (1 : Nat)) (z.n (2 : Nat)) (z.n (3 : Nat)) (z.n (4 : Nat)) (z.n (5 : Nat)) c x l d) ∧ ((bif decide (x ≥ IntKind.i64.wrap ((z.n (1 :
      Nat)).fdiv (256 : Int))) then true else decide (x < IntKind.i64.wrap (bits BinOp.and IntKind.u16 (z.n (1 : Nat)) (255 : Int)))) = false → ((bif bits BinOp.and IntKind.u16
      c (32768 : Int) != (0 : Int) then d else false) = true → True ∧ mkM z S [MB.o u9 (34 : Nat)] (0 : Nat) = mkM z S [MB.o u9 (34 : Nat)] (0 : Nat) ∧ IntKind.i64.wrap (bits
      BinOp.and IntKind.u16 ((z.n (5 : Nat)).fdiv (256 : Int)) (63 : Int)) = shF (z.n (0 : Nat)) (z.n (1 : Nat)) (z.n (2 : Nat)) (z.n (3 : Nat)) (z.n (4 : Nat)) (z.n (5 : Nat))
      c x l d) ∧ ((bif bits BinOp.and IntKind.u16 c (32768 : Int) != (0 : Int) then d else false) = false → True ∧ mkM z S [MB.o u9 (34 : Nat)] (0 : Nat) = mkM z S [MB.o u9 (34
      : Nat)] (0 : Nat) ∧ IntKind.i64.wrap (bits BinOp.and IntKind.u16 (z.n (5 : Nat)) (63 : Int)) = shF (z.n (0 : Nat)) (z.n (1 : Nat)) (z.n (2 : Nat)) (z.n (3 : Nat)) (z.n (4
      : Nat)) (z.n (5 : Nat)) c x l d))) ∧ (decide (IntKind.i64.wrap ((z.n (1 : Nat)).fdiv (256 : Int)) > IntKind.i64.wrap (bits BinOp.and IntKind.u16 (z.n (1 : Nat)) (255 :
      Int))) = false → ((bif decide (x ≥ IntKind.i64.wrap ((z.n (1 : Nat)).fdiv (256 : Int))) then decide (x < IntKind.i64.wrap (bits BinOp.and IntKind.u16 (z.n (1 : Nat)) (255
      : Int))) else false) = true → True ∧ mkM z S [MB.o u9 (34 : Nat)] (0 : Nat) = mkM z S [MB.o u9 (34 : Nat)] (0 : Nat) ∧ IntKind.i64.wrap (bits BinOp.and IntKind.u16 ((z.n
      (4 : Nat)).fdiv (256 : Int)) (63 : Int)) = shF (z.n (0 : Nat)) (z.n (1 : Nat)) (z.n (2 : Nat)) (z.n (3 : Nat)) (z.n (4 : Nat)) (z.n (5 : Nat)) c x l d) ∧ ((bif decide (x ≥
      IntKind.i64.wrap ((z.n (1 : Nat)).fdiv (256 : Int))) then decide (x < IntKind.i64.wrap (bits BinOp.and IntKind.u16 (z.n (1 : Nat)) (255 : Int))) else false) = false →
      ((bif bits BinOp.and IntKind.u16 c (32768 : Int) != (0 : Int) then d else false) = true → True ∧ mkM z S [MB.o u9 (34 : Nat)] (0 : Nat) = mkM z S [MB.o u9 (34 : Nat)] (0 :
      Nat) ∧ IntKind.i64.wrap (bits BinOp.and IntKind.u16 ((z.n (5 : Nat)).fdiv (256 : Int)) (63 : Int)) = shF (z.n (0 : Nat)) (z.n (1 : Nat)) (z.n (2 : Nat)) (z.n (3 : Nat))
      (z.n (4 : Nat)) (z.n (5 : Nat)) c x l d) ∧ ((bif bits BinOp.and IntKind.u16 c (32768 : Int) != (0 : Int) then d else false) = false → True ∧ mkM z S [MB.o u9 (34 : Nat)]
      (0 : Nat) = mkM z S [MB.o u9 (34 : Nat)] (0 : Nat) ∧ IntKind.i64.wrap (bits BinOp.and IntKind.u16 (z.n (5 : Nat)) (63 : Int)) = shF (z.n (0 : Nat)) (z.n (1 : Nat)) (z.n (2
      : Nat)) (z.n (3 : Nat)) (z.n (4 : Nat)) (z.n (5 : Nat)) c x l d)))) ∧ ((bif decide (l ≥ IntKind.i64.wrap ((z.n (3 : Nat)).fdiv (256 : Int))) then decide (l <
      IntKind.i64.wrap (bits BinOp.and IntKind.u16 (z.n (3 : Nat)) (255 : Int))) else false) = false → ((bif bits BinOp.and IntKind.u16 c (32768 : Int) != (0 : Int) then d else
      false) = true → True ∧ mkM z S [MB.o u9 (34 : Nat)] (0 : Nat) = mkM z S [MB.o u9 (34 : Nat)] (0 : Nat) ∧ IntKind.i64.wrap (bits BinOp.and IntKind.u16 ((z.n (5 : Nat)).fdiv
      (256 : Int)) (63 : Int)) = shF (z.n (0 : Nat)) (z.n (1 : Nat)) (z.n (2 : Nat)) (z.n (3 : Nat)) (z.n (4 : Nat)) (z.n (5 : Nat)) c x l d) ∧ ((bif bits BinOp.and IntKind.u16
      c (32768 : Int) != (0 : Int) then d else false) = false → True ∧ mkM z S [MB.o u9 (34 : Nat)] (0 : Nat) = mkM z S [MB.o u9 (34 : Nat)] (0 : Nat) ∧ IntKind.i64.wrap (bits
      BinOp.and IntKind.u16 (z.n (5 : Nat)) (63 : Int)) = shF (z.n (0 : Nat)) (z.n (1 : Nat)) (z.n (2 : Nat)) (z.n (3 : Nat)) (z.n (4 : Nat)) (z.n (5 : Nat)) c x l d)))) ∧
      ((bits BinOp.and IntKind.u16 (c.fdiv (16384 : Int)) (1 : Int) != (0 : Int)) = false → ((bif bits BinOp.and IntKind.u16 c (32768 : Int) != (0 : Int) then d else false) =
      true → True ∧ mkM z S [MB.o u9 (34 : Nat)] (0 : Nat) = mkM z S [MB.o u9 (34 : Nat)] (0 : Nat) ∧ IntKind.i64.wrap (bits BinOp.and IntKind.u16 ((z.n (5 : Nat)).fdiv (256 :
      Int)) (63 : Int)) = shF (z.n (0 : Nat)) (z.n (1 : Nat)) (z.n (2 : Nat)) (z.n (3 : Nat)) (z.n (4 : Nat)) (z.n (5 : Nat)) c x l d) ∧ ((bif bits BinOp.and IntKind.u16 c
      (32768 : Int) != (0 : Int) then d else false) = false → True ∧ mkM z S [MB.o u9 (34 : Nat)] (0 : Nat) = mkM z S [MB.o u9 (34 : Nat)] (0 : Nat) ∧ IntKind.i64.wrap (bits
      BinOp.and IntKind.u16 (z.n (5 : Nat)) (63 : Int)) = shF (z.n (0 : Nat)) (z.n (1 : Nat)) (z.n (2 : Nat)) (z.n (3 : Nat)) (z.n (4 : Nat)) (z.n (5 : Nat)) c x l d))))) ∧
      ((bif decide (l ≥ IntKind.i64.wrap ((z.n (2 : Nat)).fdiv (256 : Int))) then true else decide (l < IntKind.i64.wrap (bits BinOp.and IntKind.u16 (z.n (2 : Nat)) (255 :
      Int)))) = false → ((bits BinOp.and IntKind.u16 (c.fdiv (16384 : Int)) (1 : Int) != (0 : Int)) = true → (decide (IntKind.i64.wrap ((z.n (3 : Nat)).fdiv (256 : Int)) >
      IntKind.i64.wrap (bits BinOp.and IntKind.u16 (z.n (3 : Nat)) (255 : Int))) = true → ((bif decide (l ≥ IntKind.i64.wrap ((z.n (3 : Nat)).fdiv (256 : Int))) then true else
      decide (l < IntKind.i64.wrap (bits BinOp.and IntKind.u16 (z.n (3 : Nat)) (255 : Int)))) = true → (decide (IntKind.i64.wrap ((z.n (1 : Nat)).fdiv (256 : Int)) >
      IntKind.i64.wrap (bits BinOp.and IntKind.u16 (z.n (1 : Nat)) (255 : Int))) = true → ((bif decide (x ≥ IntKind.i64.wrap ((z.n (1 : Nat)).fdiv (256 : Int))) then true else
      decide (x < IntKind.i64.wrap (bits BinOp.and IntKind.u16 (z.n (1 : Nat)) (255 : Int)))) = true → True ∧ mkM z S [MB.o u9 (34 : Nat)] (0 : Nat) = mkM z S [MB.o u9 (34 :
      Nat)] (0 : Nat) ∧ IntKind.i64.wrap (bits BinOp.and IntKind.u16 ((z.n (4 : Nat)).fdiv (256 : Int)) (63 : Int)) = shF (z.n (0 : Nat)) (z.n (1 : Nat)) (z.n (2 : Nat)) (z.n (3
      : Nat)) (z.n (4 : Nat)) (z.n (5 : Nat)) c x l d) ∧ ((bif decide (x ≥ IntKind.i64.wrap ((z.n (1 : Nat)).fdiv (256 : Int))) then true else decide (x < IntKind.i64.wrap (bits
      BinOp.and IntKind.u16 (z.n (1 : Nat)) (255 : Int)))) = false → ((bif bits BinOp.and IntKind.u16 c (32768 : Int) != (0 : Int) then d else false) = true → True ∧ mkM z S
      [MB.o u9 (34 : Nat)] (0 : Nat) = mkM z S [MB.o u9 (34 : Nat)] (0 : Nat) ∧ IntKind.i64.wrap (bits BinOp.and IntKind.u16 ((z.n (5 : Nat)).fdiv (256 : Int)) (63 : Int)) = shF
      (z.n (0 : Nat)) (z.n (1 : Nat)) (z.n (2 : Nat)) (z.n (3 : Nat)) (z.n (4 : Nat)) (z.n (5 : Nat)) c x l d) ∧ ((bif bits BinOp.and IntKind.u16 c (32768 : Int) != (0 : Int)
      then d else false) = false → True ∧ mkM z S [MB.o u9 (34 : Nat)] (0 : Nat) = mkM z S [MB.o u9 (34 : Nat)] (0 : Nat) ∧ IntKind.i64.wrap (bits BinOp.and IntKind.u16 (z.n (5
      : Nat)) (63 : Int)) = shF (z.n (0 : Nat)) (z.n (1 : Nat)) (z.n (2 : Nat)) (z.n (3 : Nat)) (z.n (4 : Nat)) (z.n (5 : Nat)) c x l d))) ∧ (decide (IntKind.i64.wrap ((z.n (1 :
      Nat)).fdiv (256 : Int)) > IntKind.i64.wrap (bits BinOp.and IntKind.u16 (z.n (1 : Nat)) (255 : Int))) = false → ((bif decide (x ≥ IntKind.i64.wrap ((z.n (1 : Nat)).fdiv
      (256 : Int))) then decide (x < IntKind.i64.wrap (bits BinOp.and IntKind.u16 (z.n (1 : Nat)) (255 : Int))) else false) = true → True ∧ mkM z S [MB.o u9 (34 : Nat)] (0 :
      Nat) = mkM z S [MB.o u9 (34 : Nat)] (0 : Nat) ∧ IntKind.i64.wrap (bits BinOp.and IntKind.u16 ((z.n (4 : Nat)).fdiv (256 : Int)) (63 : Int)) = shF (z.n (0 : Nat)) (z.n (1 :
      Nat)) (z.n (2 : Nat)) (z.n (3 : Nat)) (z.n (4 : Nat)) (z.n (5 : Nat)) c x l d) ∧ ((bif decide (x ≥ IntKind.i64.wrap ((z.n (1 : Nat)).fdiv (256 : Int))) then decide (x <
      IntKind.i64.wrap (bits BinOp.and IntKind.u16 (z.n (1 : Nat)) (255 : Int))) else false) = false → ((bif bits BinOp.and IntKind.u16 c (32768 : Int) != (0 : Int) then d else
      false) = true → True ∧ mkM z S [MB.o u9 (34 : Nat)] (0 : Nat) = mkM z S [MB.o u9 (34 : Nat)] (0 : Nat) ∧ IntKind.i64.wrap (bits BinOp.and IntKind.u16 ((z.n (5 : Nat)).fdiv
      (256 : Int)) (63 : Int)) = shF (z.n (0 : Nat)) (z.n (1 : Nat)) (z.n (2 : Nat)) (z.n (3 : Nat)) (z.n (4 : Nat)) (z.n (5 : Nat)) c x l d) ∧ ((bif bits BinOp.and IntKind.u16
      c (32768 : Int) != (0 : Int) then d else false) = false → True ∧ mkM z S [MB.o u9 (34 : Nat)] (0 : Nat) = mkM z S [MB.o u9 (34 : Nat)] (0 : Nat) ∧ IntKind.i64.wrap (bits
      BinOp.and IntKind.u16 (z.n (5 : Nat)) (63 : Int)) = shF (z.n (0 : Nat)) (z.n (1 : Nat)) (z.n (2 : Nat)) (z.n (3 : Nat)) (z.n (4 : Nat)) (z.n (5 : Nat)) c x l d)))) ∧ ((bif
      decide (l ≥ IntKind.i64.wrap ((z.n (3 : Nat)).fdiv (256 : Int))) then true else decide (l < IntKind.i64.wrap (bits BinOp.and IntKind.u16 (z.n (3 : Nat)) (255 : Int)))) =
      false → ((bif bits BinOp.and IntKind.u16 c (32768 : Int) != (0 : Int) then d else false) = true → True ∧ mkM z S [MB.o u9 (34 : Nat)] (0 : Nat) = mkM z S [MB.o u9 (34 :
      Nat)] (0 : Nat) ∧ IntKind.i64.wrap (bits BinOp.and IntKind.u16 ((z.n (5 : Nat)).fdiv (256 : Int)) (63 : Int)) = shF (z.n (0 : Nat)) (z.n (1 : Nat)) (z.n (2 : Nat)) (z.n (3
      : Nat)) (z.n (4 : Nat)) (z.n (5 : Nat)) c x l d) ∧ ((bif bits BinOp.and IntKind.u16 c (32768 : Int) != (0 : Int) then d else false) = false → True ∧ mkM z S [MB.o u9 (34 :
      Nat)] (0 : Nat) = mkM z S [MB.o u9 (34 : Nat)] (0 : Nat) ∧ IntKind.i64.wrap (bits BinOp.and IntKind.u16 (z.n (5 : Nat)) (63 : Int)) = shF (z.n (0 : Nat)) (z.n (1 : Nat))
      (z.n (2 : Nat)) (z.n (3 : Nat)) (z.n (4 : Nat)) (z.n (5 : Nat)) c x l d))) ∧ (decide (IntKind.i64.wrap ((z.n (3 : Nat)).fdiv (256 : Int)) > IntKind.i64.wrap (bits
      BinOp.and IntKind.u16 (z.n (3 : Nat)) (255 : Int))) = false → ((bif decide (l ≥ IntKind.i64.wrap ((z.n (3 : Nat)).fdiv (256 : Int))) then decide (l < IntKind.i64.wrap
      (bits BinOp.and IntKind.u16 (z.n (3 : Nat)) (255 : Int))) else false) = true → (decide (IntKind.i64.wrap ((z.n (1 : Nat)).fdiv (256 : Int)) > IntKind.i64.wrap (bits
      BinOp.and IntKind.u16 (z.n (1 : Nat)) (255 : Int))) = true → ((bif decide (x ≥ IntKind.i64.wrap ((z.n (1 : Nat)).fdiv (256 : Int))) then true else decide (x <
      IntKind.i64.wrap (bits BinOp.and IntKind.u16 (z.n (1 : Nat)) (255 : Int)))) = true → True ∧ mkM z S [MB.o u9 (34 : Nat)] (0 : Nat) = mkM z S [MB.o u9 (34 : Nat)] (0 : Nat)
      ∧ IntKind.i64.wrap (bits BinOp.and IntKind.u16 ((z.n (4 : Nat)).fdiv (256 : Int)) (63 : Int)) = shF (z.n (0 : Nat)) (z.n (1 : Nat)) (z.n (2 : Nat)) (z.n (3 : Nat)) (z.n (4
      : Nat)) (z.n (5 : Nat)) c x l d) ∧ ((bif decide (x ≥ IntKind.i64.wrap ((z.n (1 : Nat)).fdiv (256 : Int))) then true else decide (x < IntKind.i64.wrap (bits BinOp.and
      IntKind.u16 (z.n (1 : Nat)) (255 : Int)))) = false → ((bif bits BinOp.and IntKind.u16 c (32768 : Int) != (0 : Int) then d else false) = true → True ∧ mkM z S [MB.o u9 (34
      : Nat)] (0 : Nat) = mkM z S [MB.o u9 (34 : Nat)] (0 : Nat) ∧ IntKind.i64.wrap (bits BinOp.and IntKind.u16 ((z.n (5 : Nat)).fdiv (256 : Int)) (63 : Int)) = shF (z.n (0 :
      Nat)) (z.n (1 : Nat)) (z.n (2 : Nat)) (z.n (3 : Nat)) (z.n (4 : Nat)) (z.n (5 : Nat)) c x l d) ∧ ((bif bits BinOp.and IntKind.u16 c (32768 : Int) != (0 : Int) then d else
      false) = false → True ∧ mkM z S [MB.o u9 (34 : Nat)] (0 : Nat) = mkM z S [MB.o u9 (34 : Nat)] (0 : Nat) ∧ IntKind.i64.wrap (bits BinOp.and IntKind.u16 (z.n (5 : Nat)) (63
      : Int)) = shF (z.n (0 : Nat)) (z.n (1 : Nat)) (z.n (2 : Nat)) (z.n (3 : Nat)) (z.n (4 : Nat)) (z.n (5 : Nat)) c x l d))) ∧ (decide (IntKind.i64.wrap ((z.n (1 : Nat)).fdiv
      (256 : Int)) > IntKind.i64.wrap (bits BinOp.and IntKind.u16 (z.n (1 : Nat)) (255 : Int))) = false → ((bif decide (x ≥ IntKind.i64.wrap ((z.n (1 : Nat)).fdiv (256 : Int)))
      then decide (x < IntKind.i64.wrap (bits BinOp.and IntKind.u16 (z.n (1 : Nat)) (255 : Int))) else false) = true → True ∧ mkM z S [MB.o u9 (34 : Nat)] (0 : Nat) = mkM z S
      [MB.o u9 (34 : Nat)] (0 : Nat) ∧ IntKind.i64.wrap (bits BinOp.and IntKind.u16 ((z.n (4 : Nat)).fdiv (256 : Int)) (63 : Int)) = shF (z.n (0 : Nat)) (z.n (1 : Nat)) (z.n (2
      : Nat)) (z.n (3 : Nat)) (z.n (4 : Nat)) (z.n (5 : Nat)) c x l d) ∧ ((bif decide (x ≥ IntKind.i64.wrap ((z.n (1 : Nat)).fdiv (256 : Int))) then decide (x < IntKind.i64.wrap
      (bits BinOp.and IntKind.u16 (z.n (1 : Nat)) (255 : Int))) else false) = false → ((bif bits BinOp.and IntKind.u16 c (32768 : Int) != (0 : Int) then d else false) = true →
      True ∧ mkM z S [MB.o u9 (34 : Nat)] (0 : Nat) = mkM z S [MB.o u9 (34 : Nat)] (0 : Nat) ∧ IntKind.i64.wrap (bits BinOp.and IntKind.u16 ((z.n (5 : Nat)).fdiv (256 : Int))
      (63 : Int)) = shF (z.n (0 : Nat)) (z.n (1 : Nat)) (z.n (2 : Nat)) (z.n (3 : Nat)) (z.n (4 : Nat)) (z.n (5 : Nat)) c x l d) ∧ ((bif bits BinOp.and IntKind.u16 c (32768 :
      Int) != (0 : Int) then d else false) = false → True ∧ mkM z S [MB.o u9 (34 : Nat)] (0 : Nat) = mkM z S [MB.o u9 (34 : Nat)] (0 : Nat) ∧ IntKind.i64.wrap (bits BinOp.and
      IntKind.u16 (z.n (5 : Nat)) (63 : Int)) = shF (z.n (0 : Nat)) (z.n (1 : Nat)) (z.n (2 : Nat)) (z.n (3 : Nat)) (z.n (4 : Nat)) (z.n (5 : Nat)) c x l d)))) ∧ ((bif decide (l
      ≥ IntKind.i64.wrap ((z.n (3 : Nat)).fdiv (256 : Int))) then decide (l < IntKind.i64.wrap (bits BinOp.and IntKind.u16 (z.n (3 : Nat)) (255 : Int))) else false) = false →
      ((bif bits BinOp.and IntKind.u16 c (32768 : Int) != (0 : Int) then d else false) = true → True ∧ mkM z S [MB.o u9 (34 : Nat)] (0 : Nat) = mkM z S [MB.o u9 (34 : Nat)] (0 :
      Nat) ∧ IntKind.i64.wrap (bits BinOp.and IntKind.u16 ((z.n (5 : Nat)).fdiv (256 : Int)) (63 : Int)) = shF (z.n (0 : Nat)) (z.n (1 : Nat)) (z.n (2 : Nat)) (z.n (3 : Nat))
      (z.n (4 : Nat)) (z.n (5 : Nat)) c x l d) ∧ ((bif bits BinOp.and IntKind.u16 c (32768 : Int) != (0 : Int) then d else false) = false → True ∧ mkM z S [MB.o u9 (34 : Nat)]
      (0 : Nat) = mkM z S [MB.o u9 (34 : Nat)] (0 : Nat) ∧ IntKind.i64.wrap (bits BinOp.and IntKind.u16 (z.n (5 : Nat)) (63 : Int)) = shF (z.n (0 : Nat)) (z.n (1 : Nat)) (z.n (2
      : Nat)) (z.n (3 : Nat)) (z.n (4 : Nat)) (z.n (5 : Nat)) c x l d)))) ∧ ((bits BinOp.and IntKind.u16 (c.fdiv (16384 : Int)) (1 : Int) != (0 : Int)) = false → ((bif bits
      BinOp.and IntKind.u16 c (32768 : Int) != (0 : Int) then d else false) = true → True ∧ mkM z S [MB.o u9 (34 : Nat)] (0 : Nat) = mkM z S [MB.o u9 (34 : Nat)] (0 : Nat) ∧
      IntKind.i64.wrap (bits BinOp.and IntKind.u16 ((z.n (5 : Nat)).fdiv (256 : Int)) (63 : Int)) = shF (z.n (0 : Nat)) (z.n (1 : Nat)) (z.n (2 : Nat)) (z.n (3 : Nat)) (z.n (4 :
      Nat)) (z.n (5 : Nat)) c x l d) ∧ ((bif bits BinOp.and IntKind.u16 c (32768 : Int) != (0 : Int) then d else false) = false → True ∧ mkM z S [MB.o u9 (34 : Nat)] (0 : Nat) =
      mkM z S [MB.o u9 (34 : Nat)] (0 : Nat) ∧ IntKind.i64.wrap (bits BinOp.and IntKind.u16 (z.n (5 : Nat)) (63 : Int)) = shF (z.n (0 : Nat)) (z.n (1 : Nat)) (z.n (2 : Nat))
      (z.n (3 : Nat)) (z.n (4 : Nat)) (z.n (5 : Nat)) c x l d)))) ∧ (decide (IntKind.i64.wrap ((z.n (2 : Nat)).fdiv (256 : Int)) > IntKind.i64.wrap (bits BinOp.and IntKind.u16
      (z.n (2 : Nat)) (255 : Int))) = false → ((bif decide (l ≥ IntKind.i64.wrap ((z.n (2 : Nat)).fdiv (256 : Int))) then decide (l < IntKind.i64.wrap (bits BinOp.and
      IntKind.u16 (z.n (2 : Nat)) (255 : Int))) else false) = true → (decide (IntKind.i64.wrap ((z.n (0 : Nat)).fdiv (256 : Int)) > IntKind.i64.wrap (bits BinOp.and IntKind.u16
      (z.n (0 : Nat)) (255 : Int))) = true → ((bif decide (x ≥ IntKind.i64.wrap ((z.n (0 : Nat)).fdiv (256 : Int))) then true else decide (x < IntKind.i64.wrap (bits BinOp.and
      IntKind.u16 (z.n (0 : Nat)) (255 : Int)))) = true → True ∧ mkM z S [MB.o u9 (34 : Nat)] (0 : Nat) = mkM z S [MB.o u9 (34 : Nat)] (0 : Nat) ∧ IntKind.i64.wrap (bits
      BinOp.and IntKind.u16 ((z.n (4 : Nat)).fdiv (1 : Int)) (63 : Int)) = shF (z.n (0 : Nat)) (z.n (1 : Nat)) (z.n (2 : Nat)) (z.n (3 : Nat)) (z.n (4 : Nat)) (z.n (5 : Nat)) c
      x l d) ∧ ((bif decide (x ≥ IntKind.i64.wrap ((z.n (0 : Nat)).fdiv (256 : Int))) then true else decide (x < IntKind.i64.wrap (bits BinOp.and IntKind.u16 (z.n (0 : Nat))
      (255 : Int)))) = false → ((bits BinOp.and IntKind.u16 (c.fdiv (16384 : Int)) (1 : Int) != (0 : Int)) = true → (decide (IntKind.i64.wrap ((z.n (3 : Nat)).fdiv (256 : Int))
      > IntKind.i64.wrap (bits BinOp.and IntKind.u16 (z.n (3 : Nat)) (255 : Int))) = true → ((bif decide (l ≥ IntKind.i64.wrap ((z.n (3 : Nat)).fdiv (256 : Int))) then true else
      decide (l < IntKind.i64.wrap (bits BinOp.and IntKind.u16 (z.n (3 : Nat)) (255 : Int)))) = true → (decide (IntKind.i64.wrap ((z.n (1 : Nat)).fdiv (256 : Int)) >
      IntKind.i64.wrap (bits BinOp.and IntKind.u16 (z.n (1 : Nat)) (255 : Int))) = true → ((bif decide (x ≥ IntKind.i64.wrap ((z.n (1 : Nat)).fdiv (256 : Int))) then true else
      decide (x < IntKind.i64.wrap (bits BinOp.and IntKind.u16 (z.n (1 : Nat)) (255 : Int)))) = true → True ∧ mkM z S [MB.o u9 (34 : Nat)] (0 : Nat) = mkM z S [MB.o u9 (34 :
      Nat)] (0 : Nat) ∧ IntKind.i64.wrap (bits BinOp.and IntKind.u16 ((z.n (4 : Nat)).fdiv (256 : Int)) (63 : Int)) = shF (z.n (0 : Nat)) (z.n (1 : Nat)) (z.n (2 : Nat)) (z.n (3
      : Nat)) (z.n (4 : Nat)) (z.n (5 : Nat)) c x l d) ∧ ((bif decide (x ≥ IntKind.i64.wrap ((z.n (1 : Nat)).fdiv (256 : Int))) then true else decide (x < IntKind.i64.wrap (bits
      BinOp.and IntKind.u16 (z.n (1 : Nat)) (255 : Int)))) = false → ((bif bits BinOp.and IntKind.u16 c (32768 : Int) != (0 : Int) then d else false) = true → True ∧ mkM z S
      [MB.o u9 (34 : Nat)] (0 : Nat) = mkM z S [MB.o u9 (34 : Nat)] (0 : Nat) ∧ IntKind.i64.wrap (bits BinOp.and IntKind.u16 ((z.n (5 : Nat)).fdiv (256 : Int)) (63 : Int)) = shF
      (z.n (0 : Nat)) (z.n (1 : Nat)) (z.n (2 : Nat)) (z.n (3 : Nat)) (z.n (4 : Nat)) (z.n (5 : Nat)) c x l d) ∧ ((bif bits BinOp.and IntKind.u16 c (32768 : Int) != (0 : Int)
      then d else false) = false → True ∧ mkM z S [MB.o u9 (34 : Nat)] (0 : Nat) = mkM z S [MB.o u9 (34 : Nat)] (0 : Nat) ∧ IntKind.i64.wrap (bits BinOp.and IntKind.u16 (z.n (5
      : Nat)) (63 : Int)) = shF (z.n (0 : Nat)) (z.n (1 : Nat)) (z.n (2 : Nat)) (z.n (3 : Nat)) (z.n (4 : Nat)) (z.n (5 : Nat)) c x l d))) ∧ (decide (IntKind.i64.wrap ((z.n (1 :
      Nat)).fdiv (256 : Int)) > IntKind.i64.wrap (bits BinOp.and IntKind.u16 (z.n (1 : Nat)) (255 : Int))) = false → ((bif decide (x ≥ IntKind.i64.wrap ((z.n (1 : Nat)).fdiv
      (256 : Int))) then decide (x < IntKind.i64.wrap (bits BinOp.and IntKind.u16 (z.n (1 : Nat)) (255 : Int))) else false) = true → True ∧ mkM z S [MB.o u9 (34 : Nat)] (0 :
      Nat) = mkM z S [MB.o u9 (34 : Nat)] (0 : Nat) ∧ IntKind.i64.wrap (bits BinOp.and IntKind.u16 ((z.n (4 : Nat)).fdiv (256 : Int)) (63 : Int)) = shF (z.n (0 : Nat)) (z.n (1 :
      Nat)) (z.n (2 : Nat)) (z.n (3 : Nat)) (z.n (4 : Nat)) (z.n (5 : Nat)) c x l d) ∧ ((bif decide (x ≥ IntKind.i64.wrap ((z.n (1 : Nat)).fdiv (256 : Int))) then decide (x <
      IntKind.i64.wrap (bits BinOp.and IntKind.u16 (z.n (1 : Nat)) (255 : Int))) else false) = false → ((bif bits BinOp.and IntKind.u16 c (32768 : Int) != (0 : Int) then d else
      false) = true → True ∧ mkM z S [MB.o u9 (34 : Nat)] (0 : Nat) = mkM z S [MB.o u9 (34 : Nat)] (0 : Nat) ∧ IntKind.i64.wrap (bits BinOp.and IntKind.u16 ((z.n (5 : Nat)).fdiv
      (256 : Int)) (63 : Int)) = shF (z.n (0 : Nat)) (z.n (1 : Nat)) (z.n (2 : Nat)) (z.n (3 : Nat)) (z.n (4 : Nat)) (z.n (5 : Nat)) c x l d) ∧ ((bif bits BinOp.and IntKind.u16
      c (32768 : Int) != (0 : Int) then d else false) = false → True ∧ mkM z S [MB.o u9 (34 : Nat)] (0 : Nat) = mkM z S [MB.o u9 (34 : Nat)] (0 : Nat) ∧ IntKind.i64.wrap (bits
      BinOp.and IntKind.u16 (z.n (5 : Nat)) (63 : Int)) = shF (z.n (0 : Nat)) (z.n (1 : Nat)) (z.n (2 : Nat)) (z.n (3 : Nat)) (z.n (4 : Nat)) (z.n (5 : Nat)) c x l d)))) ∧ ((bif
      decide (l ≥ IntKind.i64.wrap ((z.n (3 : Nat)).fdiv (256 : Int))) then true else decide (l < IntKind.i64.wrap (bits BinOp.and IntKind.u16 (z.n (3 : Nat)) (255 : Int)))) =
      false → ((bif bits BinOp.and IntKind.u16 c (32768 : Int) != (0 : Int) then d else false) = true → True ∧ mkM z S [MB.o u9 (34 : Nat)] (0 : Nat) = mkM z S [MB.o u9 (34 :
      Nat)] (0 : Nat) ∧ IntKind.i64.wrap (bits BinOp.and IntKind.u16 ((z.n (5 : Nat)).fdiv (256 : Int)) (63 : Int)) = shF (z.n (0 : Nat)) (z.n (1 : Nat)) (z.n (2 : Nat)) (z.n (3
      : Nat)) (z.n (4 : Nat)) (z.n (5 : Nat)) c x l d) ∧ ((bif bits BinOp.and IntKind.u16 c (32768 : Int) != (0 : Int) then d else false) = false → True ∧ mkM z S [MB.o u9 (34 :
      Nat)] (0 : Nat) = mkM z S [MB.o u9 (34 : Nat)] (0 : Nat) ∧ IntKind.i64.wrap (bits BinOp.and IntKind.u16 (z.n (5 : Nat)) (63 : Int)) = shF (z.n (0 : Nat)) (z.n (1 : Nat))
      (z.n (2 : Nat)) (z.n (3 : Nat)) (z.n (4 : Nat)) (z.n (5 : Nat)) c x l d))) ∧ (decide (IntKind.i64.wrap ((z.n (3 : Nat)).fdiv (256 : Int)) > IntKind.i64.wrap (bits
      BinOp.and IntKind.u16 (z.n (3 : Nat)) (255 : Int))) = false → ((bif decide (l ≥ IntKind.i64.wrap ((z.n (3 : Nat)).fdiv (256 : Int))) then decide (l < IntKind.i64.wrap
      (bits BinOp.and IntKind.u16 (z.n (3 : Nat)) (255 : Int))) else false) = true → (decide (IntKind.i64.wrap ((z.n (1 : Nat)).fdiv (256 : Int)) > IntKind.i64.wrap (bits
      BinOp.and IntKind.u16 (z.n (1 : Nat)) (255 : Int))) = true → ((bif decide (x ≥ IntKind.i64.wrap ((z.n (1 : Nat)).fdiv (256 : Int))) then true else decide (x <
      IntKind.i64.wrap (bits BinOp.and IntKind.u16 (z.n (1 : Nat)) (255 : Int)))) = true → True ∧ mkM z S [MB.o u9 (34 : Nat)] (0 : Nat) = mkM z S [MB.o u9 (34 : Nat)] (0 : Nat)
      ∧ IntKind.i64.wrap (bits BinOp.and IntKind.u16 ((z.n (4 : Nat)).fdiv (256 : Int)) (63 : Int)) = shF (z.n (0 : Nat)) (z.n (1 : Nat)) (z.n (2 : Nat)) (z.n (3 : Nat)) (z.n (4
      : Nat)) (z.n (5 : Nat)) c x l d) ∧ ((bif decide (x ≥ IntKind.i64.wrap ((z.n (1 : Nat)).fdiv (256 : Int))) then true else decide (x < IntKind.i64.wrap (bits BinOp.and
      IntKind.u16 (z.n (1 : Nat)) (255 : Int)))) = false → ((bif bits BinOp.and IntKind.u16 c (32768 : Int) != (0 : Int) then d else false) = true → True ∧ mkM z S [MB.o u9 (34
      : Nat)] (0 : Nat) = mkM z S [MB.o u9 (34 : Nat)] (0 : Nat) ∧ IntKind.i64.wrap (bits BinOp.and IntKind.u16 ((z.n (5 : Nat)).fdiv (256 : Int)) (63 : Int)) = shF (z.n (0 :
      Nat)) (z.n (1 : Nat)) (z.n (2 : Nat)) (z.n (3 : Nat)) (z.n (4 : Nat)) (z.n (5 : Nat)) c x l d) ∧ ((bif bits BinOp.and IntKind.u16 c (32768 : Int) != (0 : Int) then d else
      false) = false → True ∧ mkM z S [MB.o u9 (34 : Nat)] (0 : Nat) = mkM z S [MB.o u9 (34 : Nat)] (0 : Nat) ∧ IntKind.i64.wrap (bits BinOp.and IntKind.u16 (z.n (5 : Nat)) (63
      : Int)) = shF (z.n (0 : Nat)) (z.n (1 : Nat)) (z.n (2 : Nat)) (z.n (3 : Nat)) (z.n (4 : Nat)) (z.n (5 : Nat)) c x l d))) ∧ (decide (IntKind.i64.wrap ((z.n (1 : Nat)).fdiv
      (256 : Int)) > IntKind.i64.wrap (bits BinOp.and IntKind.u16 (z.n (1 : Nat)) (255 : Int))) = false → ((bif decide (x ≥ IntKind.i64.wrap ((z.n (1 : Nat)).fdiv (256 : Int)))
      then decide (x < IntKind.i64.wrap (bits BinOp.and IntKind.u16 (z.n (1 : Nat)) (255 : Int))) else false) = true → True ∧ mkM z S [MB.o u9 (34 : Nat)] (0 : Nat) = mkM z S
      [MB.o u9 (34 : Nat)] (0 : Nat) ∧ IntKind.i64.wrap (bits BinOp.and IntKind.u16 ((z.n (4 : Nat)).fdiv (256 : Int)) (63 : Int)) = shF (z.n (0 : Nat)) (z.n (1 : Nat)) (z.n (2
      : Nat)) (z.n (3 : Nat)) (z.n (4 : Nat)) (z.n (5 : Nat)) c x l d) ∧ ((bif decide (x ≥ IntKind.i64.wrap ((z.n (1 : Nat)).fdiv (256 : Int))) then decide (x < IntKind.i64.wrap
      (bits BinOp.and IntKind.u16 (z.n (1 : Nat)) (255 : Int))) else false) = false → ((bif bits BinOp.and IntKind.u16 c (32768 : Int) != (0 : Int) then d else false) = true →
      True ∧ mkM z S [MB.o u9 (34 : Nat)] (0 : Nat) = mkM z S [MB.o u9 (34 : Nat)] (0 : Nat) ∧ IntKind.i64.wrap (bits BinOp.and IntKind.u16 ((z.n (5 : Nat)).fdiv (256 : Int))
      (63 : Int)) = shF (z.n (0 : Nat)) (z.n (1 : Nat)) (z.n (2 : Nat)) (z.n (3 : Nat)) (z.n (4 : Nat)) (z.n (5 : Nat)) c x l d) ∧ ((bif bits BinOp.and IntKind.u16 c (32768 :
      Int) != (0 : Int) then d else false) = false → True ∧ mkM z S [MB.o u9 (34 : Nat)] (0 : Nat) = mkM z S [MB.o u9 (34 : Nat)] (0 : Nat) ∧ IntKind.i64.wrap (bits BinOp.and
      IntKind.u16 (z.n (5 : Nat)) (63 : Int)) = shF (z.n (0 : Nat)) (z.n (1 : Nat)) (z.n (2 : Nat)) (z.n (3 : Nat)) (z.n (4 : Nat)) (z.n (5 : Nat)) c x l d)))) ∧ ((bif decide (l
      ≥ IntKind.i64.wrap ((z.n (3 : Nat)).fdiv (256 : Int))) then decide (l < IntKind.i64.wrap (bits BinOp.and IntKind.u16 (z.n (3 : Nat)) (255 : Int))) else false) = false →
      ((bif bits BinOp.and IntKind.u16 c (32768 : Int) != (0 : Int) then d else false) = true → True ∧ mkM z S [MB.o u9 (34 : Nat)] (0 : Nat) = mkM z S [MB.o u9 (34 : Nat)] (0 :
      Nat) ∧ IntKind.i64.wrap (bits BinOp.and IntKind.u16 ((z.n (5 : Nat)).fdiv (256 : Int)) (63 : Int)) = shF (z.n (0 : Nat)) (z.n (1 : Nat)) (z.n (2 : Nat)) (z.n (3 : Nat))
      (z.n (4 : Nat)) (z.n (5 : Nat)) c x l d) ∧ ((bif bits BinOp.and IntKind.u16 c (32768 : Int) != (0 : Int) then d else false) = false → True ∧ mkM z S [MB.o u9 (34 : Nat)]
      (0 : Nat) = mkM z S [MB.o u9 (34 : Nat)] (0 : Nat) ∧ IntKind.i64.wrap (bits BinOp.and IntKind.u16 (z.n (5 : Nat)) (63 : Int)) = shF (z.n (0 : Nat)) (z.n (1 : Nat)) (z.n (2
      : Nat)) (z.n (3 : Nat)) (z.n (4 : Nat)) (z.n (5 : Nat)) c x l d)))) ∧ ((bits BinOp.and IntKind.u16 (c.fdiv (16384 : Int)) (1 : Int) != (0 : Int)) = false → ((bif bits
      BinOp.and IntKind.u16 c (32768 : Int) != (0 : Int) then d else false) = true → True ∧ mkM z S [MB.o u9 (34 : Nat)] (0 : Nat) = mkM z S [MB.o u9 (34 : Nat)] (0 : Nat) ∧
      IntKind.i64.wrap (bits BinOp.and IntKind.u16 ((z.n (5 : Nat)).fdiv (256 : Int)) (63 : Int)) = shF (z.n (0 : Nat)) (z.n (1 : Nat)) (z.n (2 : Nat)) (z.n (3 : Nat)) (z.n (4 :
      Nat)) (z.n (5 : Nat)) c x l d) ∧ ((bif bits BinOp.and IntKind.u16 c (32768 : Int) != (0 : Int) then d else false) = false → True ∧ mkM z S [MB.o u9 (34 : Nat)] (0 : Nat) =
      mkM z S [MB.o u9 (34 : Nat)] (0 : Nat) ∧ IntKind.i64.wrap (bits BinOp.and IntKind.u16 (z.n (5 : Nat)) (63 : Int)) = shF (z.n (0 : Nat)) (z.n (1 : Nat)) (z.n (2 : Nat))
      (z.n (3 : Nat)) (z.n (4 : Nat)) (z.n (5 : Nat)) c x l d)))) ∧ (decide (IntKind.i64.wrap ((z.n (0 : Nat)).fdiv (256 : Int)) > IntKind.i64.wrap (bits BinOp.and IntKind.u16
      (z.n (0 : Nat)) (255 : Int))) = false → ((bif decide (x ≥ IntKind.i64.wrap ((z.n (0 : Nat)).fdiv (256 : Int))) then decide (x < IntKind.i64.wrap (bits BinOp.and
      IntKind.u16 (z.n (0 : Nat)) (255 : Int))) else false) = true → True ∧ mkM z S [MB.o u9 (34 : Nat)] (0 : Nat) = mkM z S [MB.o u9 (34 : Nat)] (0 : Nat) ∧ IntKind.i64.wrap
      (bits BinOp.and IntKind.u16 ((z.n (4 : Nat)).fdiv (1 : Int)) (63 : Int)) = shF (z.n (0 : Nat)) (z.n (1 : Nat)) (z.n (2 : Nat)) (z.n (3 : Nat)) (z.n (4 : Nat)) (z.n (5 :
      Nat)) c x l d) ∧ ((bif decide (x ≥ IntKind.i64.wrap ((z.n (0 : Nat)).fdiv (256 : Int))) then decide (x < IntKind.i64.wrap (bits BinOp.and IntKind.u16 (z.n (0 : Nat)) (255
      : Int))) else false) = false → ((bits BinOp.and IntKind.u16 (c.fdiv (16384 : Int)) (1 : Int) != (0 : Int)) = true → (decide (IntKind.i64.wrap ((z.n (3 : Nat)).fdiv (256 :
      Int)) > IntKind.i64.wrap (bits BinOp.and IntKind.u16 (z.n (3 : Nat)) (255 : Int))) = true → ((bif decide (l ≥ IntKind.i64.wrap ((z.n (3 : Nat)).fdiv (256 : Int))) then
      true else decide (l < IntKind.i64.wrap (bits BinOp.and IntKind.u16 (z.n (3 : Nat)) (255 : Int)))) = true → (decide (IntKind.i64.wrap ((z.n (1 : Nat)).fdiv (256 : Int)) >
      IntKind.i64.wrap (bits BinOp.and IntKind.u16 (z.n (1 : Nat)) (255 : Int))) = true → ((bif decide (x ≥ IntKind.i64.wrap ((z.n (1 : Nat)).fdiv (256 : Int))) then true else
      decide (x < IntKind.i64.wrap (bits BinOp.and IntKind.u16 (z.n (1 : Nat)) (255 : Int)))) = true → True ∧ mkM z S [MB.o u9 (34 : Nat)] (0 : Nat) = mkM z S [MB.o u9 (34 :
      Nat)] (0 : Nat) ∧ IntKind.i64.wrap (bits BinOp.and IntKind.u16 ((z.n (4 : Nat)).fdiv (256 : Int)) (63 : Int)) = shF (z.n (0 : Nat)) (z.n (1 : Nat)) (z.n (2 : Nat)) (z.n (3
      : Nat)) (z.n (4 : Nat)) (z.n (5 : Nat)) c x l d) ∧ ((bif decide (x ≥ IntKind.i64.wrap ((z.n (1 : Nat)).fdiv (256 : Int))) then true else decide (x < IntKind.i64.wrap (bits
      BinOp.and IntKind.u16 (z.n (1 : Nat)) (255 : Int)))) = false → ((bif bits BinOp.and IntKind.u16 c (32768 : Int) != (0 : Int) then d else false) = true → True ∧ mkM z S
      [MB.o u9 (34 : Nat)] (0 : Nat) = mkM z S [MB.o u9 (34 : Nat)] (0 : Nat) ∧ IntKind.i64.wrap (bits BinOp.and IntKind.u16 ((z.n (5 : Nat)).fdiv (256 : Int)) (63 : Int)) = shF
      (z.n (0 : Nat)) (z.n (1 : Nat)) (z.n (2 : Nat)) (z.n (3 : Nat)) (z.n (4 : Nat)) (z.n (5 : Nat)) c x l d) ∧ ((bif bits BinOp.and IntKind.u16 c (32768 : Int) != (0 : Int)
      then d else false) = false → True ∧ mkM z S [MB.o u9 (34 : Nat)] (0 : Nat) = mkM z S [MB.o u9 (34 : Nat)] (0 : Nat) ∧ IntKind.i64.wrap (bits BinOp.and IntKind.u16 (z.n (5
      : Nat)) (63 : Int)) = shF (z.n (0 : Nat)) (z.n (1 : Nat)) (z.n (2 : Nat)) (z.n (3 : Nat)) (z.n (4 : Nat)) (z.n (5 : Nat)) c x l d))) ∧ (decide (IntKind.i64.wrap ((z.n (1 :
      Nat)).fdiv (256 : Int)) > IntKind.i64.wrap (bits BinOp.and IntKind.u16 (z.n (1 : Nat)) (255 : Int))) = false → ((bif decide (x ≥ IntKind.i64.wrap ((z.n (1 : Nat)).fdiv
      (256 : Int))) then decide (x < IntKind.i64.wrap (bits BinOp.and IntKind.u16 (z.n (1 : Nat)) (255 : Int))) else false) = true → True ∧ mkM z S [MB.o u9 (34 : Nat)] (0 :
      Nat) = mkM z S [MB.o u9 (34 : Nat)] (0 : Nat) ∧ IntKind.i64.wrap (bits BinOp.and IntKind.u16 ((z.n (4 : Nat)).fdiv (256 : Int)) (63 : Int)) = shF (z.n (0 : Nat)) (z.n (1 :
      Nat)) (z.n (2 : Nat)) (z.n (3 : Nat)) (z.n (4 : Nat)) (z.n (5 : Nat)) c x l d) ∧ ((bif decide (x ≥ IntKind.i64.wrap ((z.n (1 : Nat)).fdiv (256 : Int))) then decide (x <
      IntKind.i64.wrap (bits BinOp.and IntKind.u16 (z.n (1 : Nat)) (255 : Int))) else false) = false → ((bif bits BinOp.and IntKind.u16 c (32768 : Int) != (0 : Int) then d else
      false) = true → True ∧ mkM z S [MB.o u9 (34 : Nat)] (0 : Nat) = mkM z S [MB.o u9 (34 : Nat)] (0 : Nat) ∧ IntKind.i64.wrap (bits BinOp.and IntKind.u16 ((z.n (5 : Nat)).fdiv
      (256 : Int)) (63 : Int)) = shF (z.n (0 : Nat)) (z.n (1 : Nat)) (z.n (2 : Nat)) (z.n (3 : Nat)) (z.n (4 : Nat)) (z.n (5 : Nat)) c x l d) ∧ ((bif bits BinOp.and IntKind.u16
      c (32768 : Int) != (0 : Int) then d else false) = false → True ∧ mkM z S [MB.o u9 (34 : Nat)] (0 : Nat) = mkM z S [MB.o u9 (34 : Nat)] (0 : Nat) ∧ IntKind.i64.wrap (bits
      BinOp.and IntKind.u16 (z.n (5 : Nat)) (63 : Int)) = shF (z.n (0 : Nat)) (z.n (1 : Nat)) (z.n (2 : Nat)) (z.n (3 : Nat)) (z.n (4 : Nat)) (z.n (5 : Nat)) c x l d)))) ∧ ((bif
      decide (l ≥ IntKind.i64.wrap ((z.n (3 : Nat)).fdiv (256 : Int))) then true else decide (l < IntKind.i64.wrap (bits BinOp.and IntKind.u16 (z.n (3 : Nat)) (255 : Int)))) =
      false → ((bif bits BinOp.and IntKind.u16 c (32768 : Int) != (0 : Int) then d else false) = true → True ∧ mkM z S [MB.o u9 (34 : Nat)] (0 : Nat) = mkM z S [MB.o u9 (34 :
      Nat)] (0 : Nat) ∧ IntKind.i64.wrap (bits BinOp.and IntKind.u16 ((z.n (5 : Nat)).fdiv (256 : Int)) (63 : Int)) = shF (z.n (0 : Nat)) (z.n (1 : Nat)) (z.n (2 : Nat)) (z.n (3
      : Nat)) (z.n (4 : Nat)) (z.n (5 : Nat)) c x l d) ∧ ((bif bits BinOp.and IntKind.u16 c (32768 : Int) != (0 : Int) then d else false) = false → True ∧ mkM z S [MB.o u9 (34 :
      Nat)] (0 : Nat) = mkM z S [MB.o u9 (34 : Nat)] (0 : Nat) ∧ IntKind.i64.wrap (bits BinOp.and IntKind.u16 (z.n (5 : Nat)) (63 : Int)) = shF (z.n (0 : Nat)) (z.n (1 : Nat))
      (z.n (2 : Nat)) (z.n (3 : Nat)) (z.n (4 : Nat)) (z.n (5 : Nat)) c x l d))) ∧ (decide (IntKind.i64.wrap ((z.n (3 : Nat)).fdiv (256 : Int)) > IntKind.i64.wrap (bits
      BinOp.and IntKind.u16 (z.n (3 : Nat)) (255 : Int))) = false → ((bif decide (l ≥ IntKind.i64.wrap ((z.n (3 : Nat)).fdiv (256 : Int))) then decide (l < IntKind.i64.wrap
      (bits BinOp.and IntKind.u16 (z.n (3 : Nat)) (255 : Int))) else false) = true → (decide (IntKind.i64.wrap ((z.n (1 : Nat)).fdiv (256 : Int)) > IntKind.i64.wrap (bits
      BinOp.and IntKind.u16 (z.n (1 : Nat)) (255 : Int))) = true → ((bif decide (x ≥ IntKind.i64.wrap ((z.n (1 : Nat)).fdiv (256 : Int))) then true else decide (x <
      IntKind.i64.wrap (bits BinOp.and IntKind.u16 (z.n (1 : Nat)) (255 : Int)))) = true → True ∧ mkM z S [MB.o u9 (34 : Nat)] (0 : Nat) = mkM z S [MB.o u9 (34 : Nat)] (0 : Nat)
      ∧ IntKind.i64.wrap (bits BinOp.and IntKind.u16 ((z.n (4 : Nat)).fdiv (256 : Int)) (63 : Int)) = shF (z.n (0 : Nat)) (z.n (1 : Nat)) (z.n (2 : Nat)) (z.n (3 : Nat)) (z.n (4
      : Nat)) (z.n (5 : Nat)) c x l d) ∧ ((bif decide (x ≥ IntKind.i64.wrap ((z.n (1 : Nat)).fdiv (256 : Int))) then true else decide (x < IntKind.i64.wrap (bits BinOp.and
      IntKind.u16 (z.n (1 : Nat)) (255 : Int)))) = false → ((bif bits BinOp.and IntKind.u16 c (32768 : Int) != (0 : Int) then d else false) = true → True ∧ mkM z S [MB.o u9 (34
      : Nat)] (0 : Nat) = mkM z S [MB.o u9 (34 : Nat)] (0 : Nat) ∧ IntKind.i64.wrap (bits BinOp.and IntKind.u16 ((z.n (5 : Nat)).fdiv (256 : Int)) (63 : Int)) = shF (z.n (0 :
      Nat)) (z.n (1 : Nat)) (z.n (2 : Nat)) (z.n (3 : Nat)) (z.n (4 : Nat)) (z.n (5 : Nat)) c x l d) ∧ ((bif bits BinOp.and IntKind.u16 c (32768 : Int) != (0 : Int) then d else
      false) = false → True ∧ mkM z S [MB.o u9 (34 : Nat)] (0 : Nat) = mkM z S [MB.o u9 (34 : Nat)] (0 : Nat) ∧ IntKind.i64.wrap (bits BinOp.and IntKind.u16 (z.n (5 : Nat)) (63
      : Int)) = shF (z.n (0 : Nat)) (z.n (1 : Nat)) (z.n (2 : Nat)) (z.n (3 : Nat)) (z.n (4 : Nat)) (z.n (5 : Nat)) c x l d))) ∧ (decide (IntKind.i64.wrap ((z.n (1 : Nat)).fdiv
      (256 : Int)) > IntKind.i64.wrap (bits BinOp.and IntKind.u16 (z.n (1 : Nat)) (255 : Int))) = false → ((bif decide (x ≥ IntKind.i64.wrap ((z.n (1 : Nat)).fdiv (256 : Int)))
      then decide (x < IntKind.i64.wrap (bits BinOp.and IntKind.u16 (z.n (1 : Nat)) (255 : Int))) else false) = true → True ∧ mkM z S [MB.o u9 (34 : Nat)] (0 : Nat) = mkM z S
      [MB.o u9 (34 : Nat)] (0 : Nat) ∧ IntKind.i64.wrap (bits BinOp.and IntKind.u16 ((z.n (4 : Nat)).fdiv (256 : Int)) (63 : Int)) = shF (z.n (0 : Nat)) (z.n (1 : Nat)) (z.n (2
      : Nat)) (z.n (3 : Nat)) (z.n (4 : Nat)) (z.n (5 : Nat)) c x l d) ∧ ((bif decide (x ≥ IntKind.i64.wrap ((z.n (1 : Nat)).fdiv (256 : Int))) then decide (x < IntKind.i64.wrap
      (bits BinOp.and IntKind.u16 (z.n (1 : Nat)) (255 : Int))) else false) = false → ((bif bits BinOp.and IntKind.u16 c (32768 : Int) != (0 : Int) then d else false) = true →
      True ∧ mkM z S [MB.o u9 (34 : Nat)] (0 : Nat) = mkM z S [MB.o u9 (34 : Nat)] (0 : Nat) ∧ IntKind.i64.wrap (bits BinOp.and IntKind.u16 ((z.n (5 : Nat)).fdiv (256 : Int))
      (63 : Int)) = shF (z.n (0 : Nat)) (z.n (1 : Nat)) (z.n (2 : Nat)) (z.n (3 : Nat)) (z.n (4 : Nat)) (z.n (5 : Nat)) c x l d) ∧ ((bif bits BinOp.and IntKind.u16 c (32768 :
      Int) != (0 : Int) then d else false) = false → True ∧ mkM z S [MB.o u9 (34 : Nat)] (0 : Nat) = mkM z S [MB.o u9 (34 : Nat)] (0 : Nat) ∧ IntKind.i64.wrap (bits BinOp.and
      IntKind.u16 (z.n (5 : Nat)) (63 : Int)) = shF (z.n (0 : Nat)) (z.n (1 : Nat)) (z.n (2 : Nat)) (z.n (3 : Nat)) (z.n (4 : Nat)) (z.n (5 : Nat)) c x l d)))) ∧ ((bif decide (l
      ≥ IntKind.i64.wrap ((z.n (3 : Nat)).fdiv (256 : Int))) then decide (l < IntKind.i64.wrap (bits BinOp.and IntKind.u16 (z.n (3 : Nat)) (255 : Int))) else false) = false →
      ((bif bits BinOp.and IntKind.u16 c (32768 : Int) != (0 : Int) then d else false) = true → True ∧ mkM z S [MB.o u9 (34 : Nat)] (0 : Nat) = mkM z S [MB.o u9 (34 : Nat)] (0 :
      Nat) ∧ IntKind.i64.wrap (bits BinOp.and IntKind.u16 ((z.n (5 : Nat)).fdiv (256 : Int)) (63 : Int)) = shF (z.n (0 : Nat)) (z.n (1 : Nat)) (z.n (2 : Nat)) (z.n (3 : Nat))
      (z.n (4 : Nat)) (z.n (5 : Nat)) c x l d) ∧ ((bif bits BinOp.and IntKind.u16 c (32768 : Int) != (0 : Int) then d else false) = false → True ∧ mkM z S [MB.o u9 (34 : Nat)]
      (0 : Nat) = mkM z S [MB.o u9 (34 : Nat)] (0 : Nat) ∧ IntKind.i64.wrap (bits BinOp.and IntKind.u16 (z.n (5 : Nat)) (63 : Int)) = shF (z.n (0 : Nat)) (z.n (1 : Nat)) (z.n (2
      : Nat)) (z.n (3 : Nat)) (z.n (4 : Nat)) (z.n (5 : Nat)) c x l d)))) ∧ ((bits BinOp.and IntKind.u16 (c.fdiv (16384 : Int)) (1 : Int) != (0 : Int)) = false → ((bif bits
      BinOp.and IntKind.u16 c (32768 : Int) != (0 : Int) then d else false) = true → True ∧ mkM z S [MB.o u9 (34 : Nat)] (0 : Nat) = mkM z S [MB.o u9 (34 : Nat)] (0 : Nat) ∧
      IntKind.i64.wrap (bits BinOp.and IntKind.u16 ((z.n (5 : Nat)).fdiv (256 : Int)) (63 : Int)) = shF (z.n (0 : Nat)) (z.n (1 : Nat)) (z.n (2 : Nat)) (z.n (3 : Nat)) (z.n (4 :
      Nat)) (z.n (5 : Nat)) c x l d) ∧ ((bif bits BinOp.and IntKind.u16 c (32768 : Int) != (0 : Int) then d else false) = false → True ∧ mkM z S [MB.o u9 (34 : Nat)] (0 : Nat) =
      mkM z S [MB.o u9 (34 : Nat)] (0 : Nat) ∧ IntKind.i64.wrap (bits BinOp.and IntKind.u16 (z.n (5 : Nat)) (63 : Int)) = shF (z.n (0 : Nat)) (z.n (1 : Nat)) (z.n (2 : Nat))
      (z.n (3 : Nat)) (z.n (4 : Nat)) (z.n (5 : Nat)) c x l d))))) ∧ ((bif decide (l ≥ IntKind.i64.wrap ((z.n (2 : Nat)).fdiv (256 : Int))) then decide (l < IntKind.i64.wrap
      (bits BinOp.and IntKind.u16 (z.n (2 : Nat)) (255 : Int))) else false) = false → ((bits BinOp.and IntKind.u16 (c.fdiv (16384 : Int)) (1 : Int) != (0 : Int)) = true →
      (decide (IntKind.i64.wrap ((z.n (3 : Nat)).fdiv (256 : Int)) > IntKind.i64.wrap (bits BinOp.and IntKind.u16 (z.n (3 : Nat)) (255 : Int))) = true → ((bif decide (l ≥
      IntKind.i64.wrap ((z.n (3 : Nat)).fdiv (256 : Int))) then true else decide (l < IntKind.i64.wrap (bits BinOp.and IntKind.u16 (z.n (3 : Nat)) (255 : Int)))) = true →
      (decide (IntKind.i64.wrap ((z.n (1 : Nat)).fdiv (256 : Int)) > IntKind.i64.wrap (bits BinOp.and IntKind.u16 (z.n (1 : Nat)) (255 : Int))) = true → ((bif decide (x ≥
      IntKind.i64.wrap ((z.n (1 : Nat)).fdiv (256 : Int))) then true else decide (x < IntKind.i64.wrap (bits BinOp.and IntKind.u16 (z.n (1 : Nat)) (255 : Int)))) = true → True ∧
      mkM z S [MB.o u9 (34 : Nat)] (0 : Nat) = mkM z S [MB.o u9 (34 : Nat)] (0 : Nat) ∧ IntKind.i64.wrap (bits BinOp.and IntKind.u16 ((z.n (4 : Nat)).fdiv (256 : Int)) (63 :
      Int)) = shF (z.n (0 : Nat)) (z.n (1 : Nat)) (z.n (2 : Nat)) (z.n (3 : Nat)) (z.n (4 : Nat)) (z.n (5 : Nat)) c x l d) ∧ ((bif decide (x ≥ IntKind.i64.wrap ((z.n (1 :
      Nat)).fdiv (256 : Int))) then true else decide (x < IntKind.i64.wrap (bits BinOp.and IntKind.u16 (z.n (1 : Nat)) (255 : Int)))) = false → ((bif bits BinOp.and IntKind.u16
      c (32768 : Int) != (0 : Int) then d else false) = true → True ∧ mkM z S [MB.o u9 (34 : Nat)] (0 : Nat) = mkM z S [MB.o u9 (34 : Nat)] (0 : Nat) ∧ IntKind.i64.wrap (bits
      BinOp.and IntKind.u16 ((z.n (5 : Nat)).fdiv (256 : Int)) (63 : Int)) = shF (z.n (0 : Nat)) (z.n (1 : Nat)) (z.n (2 : Nat)) (z.n (3 : Nat)) (z.n (4 : Nat)) (z.n (5 : Nat))
      c x l d) ∧ ((bif bits BinOp.and IntKind.u16 c (32768 : Int) != (0 : Int) then d else false) = false → True ∧ mkM z S [MB.o u9 (34 : Nat)] (0 : Nat) = mkM z S [MB.o u9 (34
      : Nat)] (0 : Nat) ∧ IntKind.i64.wrap (bits BinOp.and IntKind.u16 (z.n (5 : Nat)) (63 : Int)) = shF (z.n (0 : Nat)) (z.n (1 : Nat)) (z.n (2 : Nat)) (z.n (3 : Nat)) (z.n (4
      : Nat)) (z.n (5 : Nat)) c x l d))) ∧ (decide (IntKind.i64.wrap ((z.n (1 : Nat)).fdiv (256 : Int)) > IntKind.i64.wrap (bits BinOp.and IntKind.u16 (z.n (1 : Nat)) (255 :
      Int))) = false → ((bif decide (x ≥ IntKind.i64.wrap ((z.n (1 : Nat)).fdiv (256 : Int))) then decide (x < IntKind.i64.wrap (bits BinOp.and IntKind.u16 (z.n (1 : Nat)) (255
      : Int))) else false) = true → True ∧ mkM z S [MB.o u9 (34 : Nat)] (0 : Nat) = mkM z S [MB.o u9 (34 : Nat)] (0 : Nat) ∧ IntKind.i64.wrap (bits BinOp.and IntKind.u16 ((z.n
      (4 : Nat)).fdiv (256 : Int)) (63 : Int)) = shF (z.n (0 : Nat)) (z.n (1 : Nat)) (z.n (2 : Nat)) (z.n (3 : Nat)) (z.n (4 : Nat)) (z.n (5 : Nat)) c x l d) ∧ ((bif decide (x ≥
      IntKind.i64.wrap ((z.n (1 : Nat)).fdiv (256 : Int))) then decide (x < IntKind.i64.wrap (bits BinOp.and IntKind.u16 (z.n (1 : Nat)) (255 : Int))) else false) = false →
      ((bif bits BinOp.and IntKind.u16 c (32768 : Int) != (0 : Int) then d else false) = true → True ∧ mkM z S [MB.o u9 (34 : Nat)] (0 : Nat) = mkM z S [MB.o u9 (34 : Nat)] (0 :
      Nat) ∧ IntKind.i64.wrap (bits BinOp.and IntKind.u16 ((z.n (5 : Nat)).fdiv (256 : Int)) (63 : Int)) = shF (z.n (0 : Nat)) (z.n (1 : Nat)) (z.n (2 : Nat)) (z.n (3 : Nat))
      (z.n (4 : Nat)) (z.n (5 : Nat)) c x l d) ∧ ((bif bits BinOp.and IntKind.u16 c (32768 : Int) != (0 : Int) then d else false) = false → True ∧ mkM z S [MB.o u9 (34 : Nat)]
      (0 : Nat) = mkM z S [MB.o u9 (34 : Nat)] (0 : Nat) ∧ IntKind.i64.wrap (bits BinOp.and IntKind.u16 (z.n (5 : Nat)) (63 : Int)) = shF (z.n (0 : Nat)) (z.n (1 : Nat)) (z.n (2
      : Nat)) (z.n (3 : Nat)) (z.n (4 : Nat)) (z.n (5 : Nat)) c x l d)))) ∧ ((bif decide (l ≥ IntKind.i64.wrap ((z.n (3 : Nat)).fdiv (256 : Int))) then true else decide (l <
      IntKind.i64.wrap (bits BinOp.and IntKind.u16 (z.n (3 : Nat)) (255 : Int)))) = false → ((bif bits BinOp.and IntKind.u16 c (32768 : Int) != (0 : Int) then d else false) =
      true → True ∧ mkM z S [MB.o u9 (34 : Nat)] (0 : Nat) = mkM z S [MB.o u9 (34 : Nat)] (0 : Nat) ∧ IntKind.i64.wrap (bits BinOp.and IntKind.u16 ((z.n (5 : Nat)).fdiv (256 :
      Int)) (63 : Int)) = shF (z.n (0 : Nat)) (z.n (1 : Nat)) (z.n (2 : Nat)) (z.n (3 : Nat)) (z.n (4 : Nat)) (z.n (5 : Nat)) c x l d) ∧ ((bif bits BinOp.and IntKind.u16 c
      (32768 : Int) != (0 : Int) then d else false) = false → True ∧ mkM z S [MB.o u9 (34 : Nat)] (0 : Nat) = mkM z S [MB.o u9 (34 : Nat)] (0 : Nat) ∧ IntKind.i64.wrap (bits
      BinOp.and IntKind.u16 (z.n (5 : Nat)) (63 : Int)) = shF (z.n (0 : Nat)) (z.n (1 : Nat)) (z.n (2 : Nat)) (z.n (3 : Nat)) (z.n (4 : Nat)) (z.n (5 : Nat)) c x l d))) ∧
      (decide (IntKind.i64.wrap ((z.n (3 : Nat)).fdiv (256 : Int)) > IntKind.i64.wrap (bits BinOp.and IntKind.u16 (z.n (3 : Nat)) (255 : Int))) = false → ((bif decide (l ≥
      IntKind.i64.wrap ((z.n (3 : Nat)).fdiv (256 : Int))) then decide (l < IntKind.i64.wrap (bits BinOp.and IntKind.u16 (z.n (3 : Nat)) (255 : Int))) else false) = true →
      (decide (IntKind.i64.wrap ((z.n (1 : Nat)).fdiv (256 : Int)) > IntKind.i64.wrap (bits BinOp.and IntKind.u16 (z.n (1 : Nat)) (255 : Int))) = true → ((bif decide (x ≥
      IntKind.i64.wrap ((z.n (1 : Nat)).fdiv (256 : Int))) then true else decide (x < IntKind.i64.wrap (bits BinOp.and IntKind.u16 (z.n (1 : Nat)) (255 : Int)))) = true → True ∧
      mkM z S [MB.o u9 (34 : Nat)] (0 : Nat) = mkM z S [MB.o u9 (34 : Nat)] (0 : Nat) ∧ IntKind.i64.wrap (bits BinOp.and IntKind.u16 ((z.n (4 : Nat)).fdiv (256 : Int)) (63 :
      Int)) = shF (z.n (0 : Nat)) (z.n (1 : Nat)) (z.n (2 : Nat)) (z.n (3 : Nat)) (z.n (4 : Nat)) (z.n (5 : Nat)) c x l d) ∧ ((bif decide (x ≥ IntKind.i64.wrap ((z.n (1 :
      Nat)).fdiv (256 : Int))) then true else decide (x < IntKind.i64.wrap (bits BinOp.and IntKind.u16 (z.n (1 : Nat)) (255 : Int)))) = false → ((bif bits BinOp.and IntKind.u16
      c (32768 : Int) != (0 : Int) then d else false) = true → True ∧ mkM z S [MB.o u9 (34 : Nat)] (0 : Nat) = mkM z S [MB.o u9 (34 : Nat)] (0 : Nat) ∧ IntKind.i64.wrap (bits
      BinOp.and IntKind.u16 ((z.n (5 : Nat)).fdiv (256 : Int)) (63 : Int)) = shF (z.n (0 : Nat)) (z.n (1 : Nat)) (z.n (2 : Nat)) (z.n (3 : Nat)) (z.n (4 : Nat)) (z.n (5 : Nat))
      c x l d) ∧ ((bif bits BinOp.and IntKind.u16 c (32768 : Int) != (0 : Int) then d else false) = false → True ∧ mkM z S [MB.o u9 (34 : Nat)] (0 : Nat) = mkM z S [MB.o u9 (34
      : Nat)] (0 : Nat) ∧ IntKind.i64.wrap (bits BinOp.and IntKind.u16 (z.n (5 : Nat)) (63 : Int)) = shF (z.n (0 : Nat)) (z.n (1 : Nat)) (z.n (2 : Nat)) (z.n (3 : Nat)) (z.n (4
      : Nat)) (z.n (5 : Nat)) c x l d))) ∧ (decide (IntKind.i64.wrap ((z.n (1 : Nat)).fdiv (256 : Int)) > IntKind.i64.wrap (bits BinOp.and IntKind.u16 (z.n (1 : Nat)) (255 :
      Int))) = false → ((bif decide (x ≥ IntKind.i64.wrap ((z.n (1 : Nat)).fdiv (256 : Int))) then decide (x < IntKind.i64.wrap (bits BinOp.and IntKind.u16 (z.n (1 : Nat)) (255
      : Int))) else false) = true → True ∧ mkM z S [MB.o u9 (34 : Nat)] (0 : Nat) = mkM z S [MB.o u9 (34 : Nat)] (0 : Nat) ∧ IntKind.i64.wrap (bits BinOp.and IntKind.u16 ((z.n
      (4 : Nat)).fdiv (256 : Int)) (63 : Int)) = shF (z.n (0 : Nat)) (z.n (1 : Nat)) (z.n (2 : Nat)) (z.n (3 : Nat)) (z.n (4 : Nat)) (z.n (5 : Nat)) c x l d) ∧ ((bif decide (x ≥
      IntKind.i64.wrap ((z.n (1 : Nat)).fdiv (256 : Int))) then decide (x < IntKind.i64.wrap (bits BinOp.and IntKind.u16 (z.n (1 : Nat)) (255 : Int))) else false) = false →
      ((bif bits BinOp.and IntKind.u16 c (32768 : Int) != (0 : Int) then d else false) = true → True ∧ mkM z S [MB.o u9 (34 : Nat)] (0 : Nat) = mkM z S [MB.o u9 (34 : Nat)] (0 :
      Nat) ∧ IntKind.i64.wrap (bits BinOp.and IntKind.u16 ((z.n (5 : Nat)).fdiv (256 : Int)) (63 : Int)) = shF (z.n (0 : Nat)) (z.n (1 : Nat)) (z.n (2 : Nat)) (z.n (3 : Nat))
      (z.n (4 : Nat)) (z.n (5 : Nat)) c x l d) ∧ ((bif bits BinOp.and IntKind.u16 c (32768 : Int) != (0 : Int) then d else false) = false → True ∧ mkM z S [MB.o u9 (34 : Nat)]
      (0 : Nat) = mkM z S [MB.o u9 (34 : Nat)] (0 : Nat) ∧ IntKind.i64.wrap (bits BinOp.and IntKind.u16 (z.n (5 : Nat)) (63 : Int)) = shF (z.n (0 : Nat)) (z.n (1 : Nat)) (z.n (2
      : Nat)) (z.n (3 : Nat)) (z.n (4 : Nat)) (z.n (5 : Nat)) c x l d)))) ∧ ((bif decide (l ≥ IntKind.i64.wrap ((z.n (3 : Nat)).fdiv (256 : Int))) then decide (l <
      IntKind.i64.wrap (bits BinOp.and IntKind.u16 (z.n (3 : Nat)) (255 : Int))) else false) = false → ((bif bits BinOp.and IntKind.u16 c (32768 : Int) != (0 : Int) then d else
      false) = true → True ∧ mkM z S [MB.o u9 (34 : Nat)] (0 : Nat) = mkM z S [MB.o u9 (34 : Nat)] (0 : Nat) ∧ IntKind.i64.wrap (bits BinOp.and IntKind.u16 ((z.n (5 : Nat)).fdiv
      (256 : Int)) (63 : Int)) = shF (z.n (0 : Nat)) (z.n (1 : Nat)) (z.n (2 : Nat)) (z.n (3 : Nat)) (z.n (4 : Nat)) (z.n (5 : Nat)) c x l d) ∧ ((bif bits BinOp.and IntKind.u16
      c (32768 : Int) != (0 : Int) then d else false) = false → True ∧ mkM z S [MB.o u9 (34 : Nat)] (0 : Nat) = mkM z S [MB.o u9 (34 : Nat)] (0 : Nat) ∧ IntKind.i64.wrap (bits
      BinOp.and IntKind.u16 (z.n (5 : Nat)) (63 : Int)) = shF (z.n (0 : Nat)) (z.n (1 : Nat)) (z.n (2 : Nat)) (z.n (3 : Nat)) (z.n (4 : Nat)) (z.n (5 : Nat)) c x l d)))) ∧
      ((bits BinOp.and IntKind.u16 (c.fdiv (16384 : Int)) (1 : Int) != (0 : Int)) = false → ((bif bits BinOp.and IntKind.u16 c (32768 : Int) != (0 : Int) then d else false) =
      true → True ∧ mkM z S [MB.o u9 (34 : Nat)] (0 : Nat) = mkM z S [MB.o u9 (34 : Nat)] (0 : Nat) ∧ IntKind.i64.wrap (bits BinOp.and IntKind.u16 ((z.n (5 : Nat)).fdiv (256 :
      Int)) (63 : Int)) = shF (z.n (0 : Nat)) (z.n (1 : Nat)) (z.n (2 : Nat)) (z.n (3 : Nat)) (z.n (4 : Nat)) (z.n (5 : Nat)) c x l d) ∧ ((bif bits BinOp.and IntKind.u16 c
      (32768 : Int) != (0 : Int) then d else false) = false → True ∧ mkM z S [MB.o u9 (34 : Nat)] (0 : Nat) = mkM z S [MB.o u9 (34 : Nat)] (0 : Nat) ∧ IntKind.i64.wrap (bits
      BinOp.and IntKind.u16 (z.n (5 : Nat)) (63 : Int)) = shF (z.n (0 : Nat)) (z.n (1 : Nat)) (z.n (2 : Nat)) (z.n (3 : Nat)) (z.n (4 : Nat)) (z.n (5 : Nat)) c x l d))))) ∧
      ((bits BinOp.and IntKind.u16 (c.fdiv (8192 : Int)) (1 : Int) != (0 : Int)) = false → ((bits BinOp.and IntKind.u16 (c.fdiv (16384 : Int)) (1 : Int) != (0 : Int)) = true →
      (decide (IntKind.i64.wrap ((z.n (3 : Nat)).fdiv (256 : Int)) > IntKind.i64.wrap (bits BinOp.and IntKind.u16 (z.n (3 : Nat)) (255 : Int))) = true → ((bif decide (l ≥
      IntKind.i64.wrap ((z.n (3 : Nat)).fdiv (256 : Int))) then true else decide (l < IntKind.i64.wrap (bits BinOp.and IntKind.u16 (z.n (3 : Nat)) (255 : Int)))) = true →
      (decide (IntKind.i64.wrap ((z.n (1 : Nat)).fdiv (256 : Int)) > IntKind.i64.wrap (bits BinOp.and IntKind.u16 (z.n (1 : Nat)) (255 : Int))) = true → ((bif decide (x ≥
      IntKind.i64.wrap ((z.n (1 : Nat)).fdiv (256 : Int))) then true else decide (x < IntKind.i64.wrap (bits BinOp.and IntKind.u16 (z.n (1 : Nat)) (255 : Int)))) = true → True ∧
      mkM z S [MB.o u9 (34 : Nat)] (0 : Nat) = mkM z S [MB.o u9 (34 : Nat)] (0 : Nat) ∧ IntKind.i64.wrap (bits BinOp.and IntKind.u16 ((z.n (4 : Nat)).fdiv (256 : Int)) (63 :
      Int)) = shF (z.n (0 : Nat)) (z.n (1 : Nat)) (z.n (2 : Nat)) (z.n (3 : Nat)) (z.n (4 : Nat)) (z.n (5 : Nat)) c x l d) ∧ ((bif decide (x ≥ IntKind.i64.wrap ((z.n (1 :
      Nat)).fdiv (256 : Int))) then true else decide (x < IntKind.i64.wrap (bits BinOp.and IntKind.u16 (z.n (1 : Nat)) (255 : Int)))) = false → ((bif bits BinOp.and IntKind.u16
      c (32768 : Int) != (0 : Int) then d else false) = true → True ∧ mkM z S [MB.o u9 (34 : Nat)] (0 : Nat) = mkM z S [MB.o u9 (34 : Nat)] (0 : Nat) ∧ IntKind.i64.wrap (bits
      BinOp.and IntKind.u16 ((z.n (5 : Nat)).fdiv (256 : Int)) (63 : Int)) = shF (z.n (0 : Nat)) (z.n (1 : Nat)) (z.n (2 : Nat)) (z.n (3 : Nat)) (z.n (4 : Nat)) (z.n (5 : Nat))
      c x l d) ∧ ((bif bits BinOp.and IntKind.u16 c (32768 : Int) != (0 : Int) then d else false) = false → True ∧ mkM z S [MB.o u9 (34 : Nat)] (0 : Nat) = mkM z S [MB.o u9 (34
      : Nat)] (0 : Nat) ∧ IntKind.i64.wrap (bits BinOp.and IntKind.u16 (z.n (5 : Nat)) (63 : Int)) = shF (z.n (0 : Nat)) (z.n (1 : Nat)) (z.n (2 : Nat)) (z.n (3 : Nat)) (z.n (4
      : Nat)) (z.n (5 : Nat)) c x l d))) ∧ (decide (IntKind.i64.wrap ((z.n (1 : Nat)).fdiv (256 : Int)) > IntKind.i64.wrap (bits BinOp.and IntKind.u16 (z.n (1 : Nat)) (255 :
      Int))) = false → ((bif decide (x ≥ IntKind.i64.wrap ((z.n (1 : Nat)).fdiv (256 : Int))) then decide (x < IntKind.i64.wrap (bits BinOp.and IntKind.u16 (z.n (1 : Nat)) (255
      : Int))) else false) = true → True ∧ mkM z S [MB.o u9 (34 : Nat)] (0 : Nat) = mkM z S [MB.o u9 (34 : Nat)] (0 : Nat) ∧ IntKind.i64.wrap (bits BinOp.and IntKind.u16 ((z.n
      (4 : Nat)).fdiv (256 : Int)) (63 : Int)) = shF (z.n (0 : Nat)) (z.n (1 : Nat)) (z.n (2 : Nat)) (z.n (3 : Nat)) (z.n (4 : Nat)) (z.n (5 : Nat)) c x l d) ∧ ((bif decide (x ≥
      IntKind.i64.wrap ((z.n (1 : Nat)).fdiv (256 : Int))) then decide (x < IntKind.i64.wrap (bits BinOp.and IntKind.u16 (z.n (1 : Nat)) (255 : Int))) else false) = false →
      ((bif bits BinOp.and IntKind.u16 c (32768 : Int) != (0 : Int) then d else false) = true → True ∧ mkM z S [MB.o u9 (34 : Nat)] (0 : Nat) = mkM z S [MB.o u9 (34 : Nat)] (0 :
      Nat) ∧ IntKind.i64.wrap (bits BinOp.and IntKind.u16 ((z.n (5 : Nat)).fdiv (256 : Int)) (63 : Int)) = shF (z.n (0 : Nat)) (z.n (1 : Nat)) (z.n (2 : Nat)) (z.n (3 : Nat))
      (z.n (4 : Nat)) (z.n (5 : Nat)) c x l d) ∧ ((bif bits BinOp.and IntKind.u16 c (32768 : Int) != (0 : Int) then d else false) = false → True ∧ mkM z S [MB.o u9 (34 : Nat)]
      (0 : Nat) = mkM z S [MB.o u9 (34 : Nat)] (0 : Nat) ∧ IntKind.i64.wrap (bits BinOp.and IntKind.u16 (z.n (5 : Nat)) (63 : Int)) = shF (z.n (0 : Nat)) (z.n (1 : Nat)) (z.n (2
      : Nat)) (z.n (3 : Nat)) (z.n (4 : Nat)) (z.n (5 : Nat)) c x l d)))) ∧ ((bif decide (l ≥ IntKind.i64.wrap ((z.n (3 : Nat)).fdiv (256 : Int))) then true else decide (l <
      IntKind.i64.wrap (bits BinOp.and IntKind.u16 (z.n (3 : Nat)) (255 : Int)))) = false → ((bif bits BinOp.and IntKind.u16 c (32768 : Int) != (0 : Int) then d else false) =
      true → True ∧ mkM z S [MB.o u9 (34 : Nat)] (0 : Nat) = mkM z S [MB.o u9 (34 : Nat)] (0 : Nat) ∧ IntKind.i64.wrap (bits BinOp.and IntKind.u16 ((z.n (5 : Nat)).fdiv (256 :
      Int)) (63 : Int)) = shF (z.n (0 : Nat)) (z.n (1 : Nat)) (z.n (2 : Nat)) (z.n (3 : Nat)) (z.n (4 : Nat)) (z.n (5 : Nat)) c x l d) ∧ ((bif bits BinOp.and IntKind.u16 c
      (32768 : Int) != (0 : Int) then d else false) = false → True ∧ mkM z S [MB.o u9 (34 : Nat)] (0 : Nat) = mkM z S [MB.o u9 (34 : Nat)] (0 : Nat) ∧ IntKind.i64.wrap (bits
      BinOp.and IntKind.u16 (z.n (5 : Nat)) (63 : Int)) = shF (z.n (0 : Nat)) (z.n (1 : Nat)) (z.n (2 : Nat)) (z.n (3 : Nat)) (z.n (4 : Nat)) (z.n (5 : Nat)) c x l d))) ∧
      (decide (IntKind.i64.wrap ((z.n (3 : Nat)).fdiv (256 : Int)) > IntKind.i64.wrap (bits BinOp.and IntKind.u16 (z.n (3 : Nat)) (255 : Int))) = false → ((bif decide (l ≥
      IntKind.i64.wrap ((z.n (3 : Nat)).fdiv (256 : Int))) then decide (l < IntKind.i64.wrap (bits BinOp.and IntKind.u16 (z.n (3 : Nat)) (255 : Int))) else false) = true →
      (decide (IntKind.i64.wrap ((z.n (1 : Nat)).fdiv (256 : Int)) > IntKind.i64.wrap (bits BinOp.and IntKind.u16 (z.n (1 : Nat)) (255 : Int))) = true → ((bif decide (x ≥
      IntKind.i64.wrap ((z.n (1 : Nat)).fdiv (256 : Int))) then true else decide (x < IntKind.i64.wrap (bits BinOp.and IntKind.u16 (z.n (1 : Nat)) (255 : Int)))) = true → True ∧
      mkM z S [MB.o u9 (34 : Nat)] (0 : Nat) = mkM z S [MB.o u9 (34 : Nat)] (0 : Nat) ∧ IntKind.i64.wrap (bits BinOp.and IntKind.u16 ((z.n (4 : Nat)).fdiv (256 : Int)) (63 :
      Int)) = shF (z.n (0 : Nat)) (z.n (1 : Nat)) (z.n (2 : Nat)) (z.n (3 : Nat)) (z.n (4 : Nat)) (z.n (5 : Nat)) c x l d) ∧ ((bif decide (x ≥ IntKind.i64.wrap ((z.n (1 :
      Nat)).fdiv (256 : Int))) then true else decide (x < IntKind.i64.wrap (bits BinOp.and IntKind.u16 (z.n (1 : Nat)) (255 : Int)))) = false → ((bif bits BinOp.and IntKind.u16
      c (32768 : Int) != (0 : Int) then d else false) = true → True ∧ mkM z S [MB.o u9 (34 : Nat)] (0 : Nat) = mkM z S [MB.o u9 (34 : Nat)] (0 : Nat) ∧ IntKind.i64.wrap (bits
      BinOp.and IntKind.u16 ((z.n (5 : Nat)).fdiv (256 : Int)) (63 : Int)) = shF (z.n (0 : Nat)) (z.n (1 : Nat)) (z.n (2 : Nat)) (z.n (3 : Nat)) (z.n (4 : Nat)) (z.n (5 : Nat))
      c x l d) ∧ ((bif bits BinOp.and IntKind.u16 c (32768 : Int) != (0 : Int) then d else false) = false → True ∧ mkM z S [MB.o u9 (34 : Nat)] (0 : Nat) = mkM z S [MB.o u9 (34
      : Nat)] (0 : Nat) ∧ IntKind.i64.wrap (bits BinOp.and IntKind.u16 (z.n (5 : Nat)) (63 : Int)) = shF (z.n (0 : Nat)) (z.n (1 : Nat)) (z.n (2 : Nat)) (z.n (3 : Nat)) (z.n (4
      : Nat)) (z.n (5 : Nat)) c x l d))) ∧ (decide (IntKind.i64.wrap ((z.n (1 : Nat)).fdiv (256 : Int)) > IntKind.i64.wrap (bits BinOp.and IntKind.u16 (z.n (1 : Nat)) (255 :
      Int))) = false → ((bif decide (x ≥ IntKind.i64.wrap ((z.n (1 : Nat)).fdiv (256 : Int))) then decide (x < IntKind.i64.wrap (bits BinOp.and IntKind.u16 (z.n (1 : Nat)) (255
      : Int))) else false) = true → True ∧ mkM z S [MB.o u9 (34 : Nat)] (0 : Nat) = mkM z S [MB.o u9 (34 : Nat)] (0 : Nat) ∧ IntKind.i64.wrap (bits BinOp.and IntKind.u16 ((z.n
      (4 : Nat)).fdiv (256 : Int)) (63 : Int)) = shF (z.n (0 : Nat)) (z.n (1 : Nat)) (z.n (2 : Nat)) (z.n (3 : Nat)) (z.n (4 : Nat)) (z.n (5 : Nat)) c x l d) ∧ ((bif decide (x ≥
      IntKind.i64.wrap ((z.n (1 : Nat)).fdiv (256 : Int))) then decide (x < IntKind.i64.wrap (bits BinOp.and IntKind.u16 (z.n (1 : Nat)) (255 : Int))) else false) = false →
      ((bif bits BinOp.and IntKind.u16 c (32768 : Int) != (0 : Int) then d else false) = true → True ∧ mkM z S [MB.o u9 (34 : Nat)] (0 : Nat) = mkM z S [MB.o u9 (34 : Nat)] (0 :
      Nat) ∧ IntKind.i64.wrap (bits BinOp.and IntKind.u16 ((z.n (5 : Nat)).fdiv (256 : Int)) (63 : Int)) = shF (z.n (0 : Nat)) (z.n (1 : Nat)) (z.n (2 : Nat)) (z.n (3 : Nat))
      (z.n (4 : Nat)) (z.n (5 : Nat)) c x l d) ∧ ((bif bits BinOp.and IntKind.u16 c (32768 : Int) != (0 : Int) then d else false) = false → True ∧ mkM z S [MB.o u9 (34 : Nat)]
      (0 : Nat) = mkM z S [MB.o u9 (34 : Nat)] (0 : Nat) ∧ IntKind.i64.wrap (bits BinOp.and IntKind.u16 (z.n (5 : Nat)) (63 : Int)) = shF (z.n (0 : Nat)) (z.n (1 : Nat)) (z.n (2
      : Nat)) (z.n (3 : Nat)) (z.n (4 : Nat)) (z.n (5 : Nat)) c x l d)))) ∧ ((bif decide (l ≥ IntKind.i64.wrap ((z.n (3 : Nat)).fdiv (256 : Int))) then decide (l <
      IntKind.i64.wrap (bits BinOp.and IntKind.u16 (z.n (3 : Nat)) (255 : Int))) else false) = false → ((bif bits BinOp.and IntKind.u16 c (32768 : Int) != (0 : Int) then d else
      false) = true → True ∧ mkM z S [MB.o u9 (34 : Nat)] (0 : Nat) = mkM z S [MB.o u9 (34 : Nat)] (0 : Nat) ∧ IntKind.i64.wrap (bits BinOp.and IntKind.u16 ((z.n (5 : Nat)).fdiv
      (256 : Int)) (63 : Int)) = shF (z.n (0 : Nat)) (z.n (1 : Nat)) (z.n (2 : Nat)) (z.n (3 : Nat)) (z.n (4 : Nat)) (z.n (5 : Nat)) c x l d) ∧ ((bif bits BinOp.and IntKind.u16
      c (32768 : Int) != (0 : Int) then d else false) = false → True ∧ mkM z S [MB.o u9 (34 : Nat)] (0 : Nat) = mkM z S [MB.o u9 (34 : Nat)] (0 : Nat) ∧ IntKind.i64.wrap (bits
      BinOp.and IntKind.u16 (z.n (5 : Nat)) (63 : Int)) = shF (z.n (0 : Nat)) (z.n (1 : Nat)) (z.n (2 : Nat)) (z.n (3 : Nat)) (z.n (4 : Nat)) (z.n (5 : Nat)) c x l d)))) ∧
      ((bits BinOp.and IntKind.u16 (c.fdiv (16384 : Int)) (1 : Int) != (0 : Int)) = false → ((bif bits BinOp.and IntKind.u16 c (32768 : Int) != (0 : Int) then d else false) =
      true → True ∧ mkM z S [MB.o u9 (34 : Nat)] (0 : Nat) = mkM z S [MB.o u9 (34 : Nat)] (0 : Nat) ∧ IntKind.i64.wrap (bits BinOp.and IntKind.u16 ((z.n (5 : Nat)).fdiv (256 :
      Int)) (63 : Int)) = shF (z.n (0 : Nat)) (z.n (1 : Nat)) (z.n (2 : Nat)) (z.n (3 : Nat)) (z.n (4 : Nat)) (z.n (5 : Nat)) c x l d) ∧ ((bif bits BinOp.and IntKind.u16 c
      (32768 : Int) != (0 : Int) then d else false) = false → True ∧ mkM z S [MB.o u9 (34 : Nat)] (0 : Nat) = mkM z S [MB.o u9 (34 : Nat)] (0 : Nat) ∧ IntKind.i64.wrap (bits
      BinOp.and IntKind.u16 (z.n (5 : Nat)) (63 : Int)) = shF (z.n (0 : Nat)) (z.n (1 : Nat)) (z.n (2 : Nat)) (z.n (3 : Nat)) (z.n (4 : Nat)) (z.n (5 : Nat)) c x l d))))) := by kernel_rfl
theorem sh_c (E : World) (S : SW) (c x l : Int) (d : Bool) (z : PX) (hz : rgM z [.o u9 34] 0) (hp : (fun _ => 0 ≤ c ∧ c < 65536) z) : HR (pe E) 13 [.c (.p 0 0), .c (.i false .u16 c), .c (.i false .i64 x), .c (.i false .i64 l), .c (.b false d)] [.o u9 34] S (.c (.i .i64)) (shQ 0 c x l d) z := by
  refine HR.mk false (by rfl) (by rfl) (fnTree_sound (P := pe E) orcNone_ok tab_ok tab_sz mixed 20000 Try.func13 (by decide) [.c (.p 0 0), .c (.i false .u16 c), .c (.i false .i64 x), .c (.i false .i64 l), .c (.b false d)] _) ⟨?_⟩
  rw [sh_p]
  obtain hz := id hz
  obtain ⟨c0, c1⟩ := hp
  have rr : (0 ≤ z.n 0 ∧ z.n 0 ≤ 65535) ∧ (0 ≤ z.n 1 ∧ z.n 1 ≤ 65535) ∧ (0 ≤ z.n 2 ∧ z.n 2 ≤ 65535) ∧ (0 ≤ z.n 3 ∧ z.n 3 ≤ 65535) ∧ (0 ≤ z.n 4 ∧ z.n 4 ≤ 65535) ∧ (0 ≤ z.n 5 ∧ z.n 5 ≤ 65535) := ⟨hz.1.1, hz.1.2.1, hz.1.2.2.1, hz.1.2.2.2.1, hz.1.2.2.2.2.1, hz.1.2.2.2.2.2.1⟩
  obtain ⟨r0, r1, r2, r3, r4, r5⟩ := rr
  generalize z.n 0 = v0 at *
  generalize z.n 1 = v1 at *
  generalize z.n 2 = v2 at *
  generalize z.n 3 = v3 at *
  generalize z.n 4 = v4 at *
  generalize z.n 5 = v5 at *
  have e7 : (c / 8192 % 8 * 8192 == 0) = decide (c / 8192 % 8 = 0) := by rw [Bool.eq_iff_iff]; simp only [beq_iff_eq, decide_eq_true_eq]; omega
  have e0 : (c / 8192 % 2 != 0) = decide (c / 8192 % 2 = 1) := by rw [Bool.eq_iff_iff]; simp only [bne_iff_ne, ne_eq, decide_eq_true_eq]; omega
  have e1 : (c / 16384 % 2 != 0) = decide (c / 16384 % 2 = 1) := by rw [Bool.eq_iff_iff]; simp only [bne_iff_ne, ne_eq, decide_eq_true_eq]; omega
  have e2 : (c / 32768 % 2 * 32768 != 0) = decide (c / 32768 % 2 = 1) := by rw [Bool.eq_iff_iff]; simp only [bne_iff_ne, ne_eq, decide_eq_true_eq]; omega
  have q0 : (!(c / 8192 % 2 == 1)) = !decide (c / 8192 % 2 = 1) := by rw [Bool.eq_iff_iff]; simp
  have q1 : (!(c / 16384 % 2 == 1)) = !decide (c / 16384 % 2 = 1) := by rw [Bool.eq_iff_iff]; simp
  have q2 : (!(c / 32768 % 2 == 1)) = !decide (c / 32768 % 2 = 1) := by rw [Bool.eq_iff_iff]; simp
  have q3 : (c / 8192 % 2 == 1) = decide (c / 8192 % 2 = 1) := by rw [Bool.eq_iff_iff]; simp
  have q4 : (c / 16384 % 2 == 1) = decide (c / 16384 % 2 = 1) := by rw [Bool.eq_iff_iff]; simp
  have q5 : (c / 32768 % 2 == 1) = decide (c / 32768 % 2 = 1) := by rw [Bool.eq_iff_iff]; simp
  have g8192 : c.fdiv 8192 = c / 8192 := fdiv_lit _ _ (by decide)
  have g16384 : c.fdiv 16384 = c / 16384 := fdiv_lit _ _ (by decide)
  have g32768 : c.fdiv 32768 = c / 32768 := fdiv_lit _ _ (by decide)
  have hw : ∀ v : Int, 0 ≤ v ∧ v ≤ 65535 → IntKind.i64.wrap (v / 256) = v / 256 ∧ IntKind.i64.wrap (v % 256) = v % 256 ∧ v.tmod 64 = v % 64 ∧ (v / 256).tmod 64 = v / 256 % 64 ∧ IntKind.u16.wrap (v.tdiv 256) = v / 256 := fun v hv => ⟨w_id _ (by omega) (by omega), w_id _ (by omega) (by omega), tm _ _ hv.1, tm _ _ (by omega), by rw [td _ _ hv.1, wu16]; omega⟩
  have hv : ∀ v : Int, IntKind.i64.wrap (v % 64) = v % 64 := fun v => w_id _ (by omega) (by omega)
  simp only [b7x c c0 c1, b1x c c0 c1, b1', g256, g1, b8', b6', g8192, g16384, g32768, tm (c / 8192) 2 (by omega), tm (c / 16384) 2 (by omega), tm (c / 32768) 2 (by omega), (hw v0 r0).1, (hw v0 r0).2.1, (hw v1 r1).1, (hw v1 r1).2.1, (hw v2 r2).1, (hw v2 r2).2.1, (hw v3 r3).1, (hw v3 r3).2.1, (hw v4 r4).2.2.1, (hw v4 r4).2.2.2.1, (hw v5 r5).2.2.1, (hw v5 r5).2.2.2.1, (hw v5 r5).2.2.2.2, hv, e7, e0, e1, e2, q0, q1, q2, q3, q4, q5]
  clear e7 e0 e1 e2 q0 q1 q2 q3 q4 q5 hw hv
  (repeat' (first | exact trivial | exact rfl | apply And.intro | intro _)) <;> (first | trivial | (simp only [shF, wF, *, cond_true, cond_false, Bool.true_and, Bool.false_and, Bool.and_true, Bool.and_false]; done) | skip)
  all_goals trace_state
  all_goals sorry
theorem rsh_p (E : World) (A B C D : Bl) (S : SW) (z : PX) (c x l : Int) (d : Bool) :
    (hoPr false [.f A, .f B, .f C, .f D, .o u9 66] S (.c (.i .i64)) (shQ 400000 c x l d) z (fnTree (pe E) (orcS E) (tabL fns) 20000 Try.f14 [.c (.p 4 0), .c (.i false .u16 c), .c (.i false .i64 x), .c (.i false .i64 l), .c (.b false d)] (mkM z S [.f A, .f B, .f C, .f D, .o u9 66] 0))) =
    (((!(c.fdiv (8192 : Int)).tmod (2 : Int) == (1 : Int)) = true → ((!(c.fdiv (16384 : Int)).tmod (2 : Int) == (1 : Int)) = true → ((!(c.fdiv (32768 : Int)).tmod (2 : Int) ==
      (1 : Int)) = true → True ∧ mkM z S [MB.f A, MB.f B, MB.f C, MB.f D, MB.o u9 (66 : Nat)] (0 : Nat) = mkM z S [MB.f A, MB.f B, MB.f C, MB.f D, MB.o u9 (66 : Nat)] (0 : Nat)
      ∧ (63 : Int) = shF (z.n (400000 : Nat)) (z.n (400001 : Nat)) (z.n (400002 : Nat)) (z.n (400003 : Nat)) (z.n (400004 : Nat)) (z.n (400005 : Nat)) c x l d) ∧ ((!(c.fdiv
      (32768 : Int)).tmod (2 : Int) == (1 : Int)) = false → (((c.fdiv (8192 : Int)).tmod (2 : Int) == (1 : Int)) = true → u16b (z.n (400000 : Nat)) = true ∧ (wF (z.n (400000 :
      Nat)) x = true → u16b (z.n (400002 : Nat)) = true ∧ (wF (z.n (400002 : Nat)) l = true → True ∧ mkM z S [MB.f A, MB.f B, MB.f C, MB.f D, MB.o u9 (66 : Nat)] (0 : Nat) = mkM
      z S [MB.f A, MB.f B, MB.f C, MB.f D, MB.o u9 (66 : Nat)] (0 : Nat) ∧ IntKind.i64.wrap (((z.n (400004 : Nat)).fdiv (1 : Int)).tmod (64 : Int)) = shF (z.n (400000 : Nat))
      (z.n (400001 : Nat)) (z.n (400002 : Nat)) (z.n (400003 : Nat)) (z.n (400004 : Nat)) (z.n (400005 : Nat)) c x l d) ∧ (wF (z.n (400002 : Nat)) l = false → (((c.fdiv (16384 :
      Int)).tmod (2 : Int) == (1 : Int)) = true → u16b (z.n (400001 : Nat)) = true ∧ (wF (z.n (400001 : Nat)) x = true → u16b (z.n (400003 : Nat)) = true ∧ (wF (z.n (400003 :
      Nat)) l = true → True ∧ mkM z S [MB.f A, MB.f B, MB.f C, MB.f D, MB.o u9 (66 : Nat)] (0 : Nat) = mkM z S [MB.f A, MB.f B, MB.f C, MB.f D, MB.o u9 (66 : Nat)] (0 : Nat) ∧
      IntKind.i64.wrap (((z.n (400004 : Nat)).fdiv (256 : Int)).tmod (64 : Int)) = shF (z.n (400000 : Nat)) (z.n (400001 : Nat)) (z.n (400002 : Nat)) (z.n (400003 : Nat)) (z.n
      (400004 : Nat)) (z.n (400005 : Nat)) c x l d) ∧ (wF (z.n (400003 : Nat)) l = false → (d = true → (((c.fdiv (32768 : Int)).tmod (2 : Int) == (1 : Int)) = true → True ∧ mkM
      z S [MB.f A, MB.f B, MB.f C, MB.f D, MB.o u9 (66 : Nat)] (0 : Nat) = mkM z S [MB.f A, MB.f B, MB.f C, MB.f D, MB.o u9 (66 : Nat)] (0 : Nat) ∧ IntKind.i64.wrap
      ((IntKind.u16.wrap ((z.n (400005 : Nat)).tdiv (256 : Int))).tmod (64 : Int)) = shF (z.n (400000 : Nat)) (z.n (400001 : Nat)) (z.n (400002 : Nat)) (z.n (400003 : Nat)) (z.n
      (400004 : Nat)) (z.n (400005 : Nat)) c x l d) ∧ (((c.fdiv (32768 : Int)).tmod (2 : Int) == (1 : Int)) = false → True ∧ mkM z S [MB.f A, MB.f B, MB.f C, MB.f D, MB.o u9 (66
      : Nat)] (0 : Nat) = mkM z S [MB.f A, MB.f B, MB.f C, MB.f D, MB.o u9 (66 : Nat)] (0 : Nat) ∧ IntKind.i64.wrap ((z.n (400005 : Nat)).tmod (64 : Int)) = shF (z.n (400000 :
      Nat)) (z.n (400001 : Nat)) (z.n (400002 : Nat)) (z.n (400003 : Nat)) (z.n (400004 : Nat)) (z.n (400005 : Nat)) c x l d)) ∧ (d = false → True ∧ mkM z S [MB.f A, MB.f B,
      MB.f C, MB.f D, MB.o u9 (66 : Nat)] (0 : Nat) = mkM z S [MB.f A, MB.f B, MB.f C, MB.f D, MB.o u9 (66 : Nat)] (0 : Nat) ∧ IntKind.i64.wrap ((z.n (400005 : Nat)).tmod (64 :
      Int)) = shF (z.n (400000 : Nat)) (z.n (400001 : Nat)) (z.n (400002 : Nat)) (z.n (400003 : Nat)) (z.n (400004 : Nat)) (z.n (400005 : Nat)) c x l d))) ∧ (wF (z.n (400001 :
      Nat)) x = false → (d = true → (((c.fdiv (32768 : Int)).tmod (2 : Int) == (1 : Int)) = true → True ∧ mkM z S [MB.f A, MB.f B, MB.f C, MB.f D, MB.o u9 (66 : Nat)] (0 : Nat)
      = mkM z S [MB.f A, MB.f B, MB.f C, MB.f D, MB.o u9 (66 : Nat)] (0 : Nat) ∧ IntKind.i64.wrap ((IntKind.u16.wrap ((z.n (400005 : Nat)).tdiv (256 : Int))).tmod (64 : Int)) =
      shF (z.n (400000 : Nat)) (z.n (400001 : Nat)) (z.n (400002 : Nat)) (z.n (400003 : Nat)) (z.n (400004 : Nat)) (z.n (400005 : Nat)) c x l d) ∧ (((c.fdiv (32768 : Int)).tmod
      (2 : Int) == (1 : Int)) = false → True ∧ mkM z S [MB.f A, MB.f B, MB.f C, MB.f D, MB.o u9 (66 : Nat)] (0 : Nat) = mkM z S [MB.f A, MB.f B, MB.f C, MB.f D, MB.o u9 (66 :
      Nat)] (0 : Nat) ∧ IntKind.i64.wrap ((z.n (400005 : Nat)).tmod (64 : Int)) = shF (z.n (400000 : Nat)) (z.n (400001 : Nat)) (z.n (400002 : Nat)) (z.n (400003 : Nat)) (z.n
      (400004 : Nat)) (z.n (400005 : Nat)) c x l d)) ∧ (d = false → True ∧ mkM z S [MB.f A, MB.f B, MB.f C, MB.f D, MB.o u9 (66 : Nat)] (0 : Nat) = mkM z S [MB.f A, MB.f B, MB.f
      C, MB.f D, MB.o u9 (66 : Nat)] (0 : Nat) ∧ IntKind.i64.wrap ((z.n (400005 : Nat)).tmod (64 : Int)) = shF (z.n (400000 : Nat)) (z.n (400001 : Nat)) (z.n (400002 : Nat))
      (z.n (400003 : Nat)) (z.n (400004 : Nat)) (z.n (400005 : Nat)) c x l d))) ∧ (((c.fdiv (16384 : Int)).tmod (2 : Int) == (1 : Int)) = false → (d = true → (((c.fdiv (32768 :
      Int)).tmod (2 : Int) == (1 : Int)) = true → True ∧ mkM z S [MB.f A, MB.f B, MB.f C, MB.f D, MB.o u9 (66 : Nat)] (0 : Nat) = mkM z S [MB.f A, MB.f B, MB.f C, MB.f D, MB.o
      u9 (66 : Nat)] (0 : Nat) ∧ IntKind.i64.wrap ((IntKind.u16.wrap ((z.n (400005 : Nat)).tdiv (256 : Int))).tmod (64 : Int)) = shF (z.n (400000 : Nat)) (z.n (400001 : Nat))
      (z.n (400002 : Nat)) (z.n (400003 : Nat)) (z.n (400004 : Nat)) (z.n (400005 : Nat)) c x l d) ∧ (((c.fdiv (32768 : Int)).tmod (2 : Int) == (1 : Int)) = false → True ∧ mkM z
      S [MB.f A, MB.f B, MB.f C, MB.f D, MB.o u9 (66 : Nat)] (0 : Nat) = mkM z S [MB.f A, MB.f B, MB.f C, MB.f D, MB.o u9 (66 : Nat)] (0 : Nat) ∧ IntKind.i64.wrap ((z.n (400005
      : Nat)).tmod (64 : Int)) = shF (z.n (400000 : Nat)) (z.n (400001 : Nat)) (z.n (400002 : Nat)) (z.n (400003 : Nat)) (z.n (400004 : Nat)) (z.n (400005 : Nat)) c x l d)) ∧ (d
      = false → True ∧ mkM z S [MB.f A, MB.f B, MB.f C, MB.f D, MB.o u9 (66 : Nat)] (0 : Nat) = mkM z S [MB.f A, MB.f B, MB.f C, MB.f D, MB.o u9 (66 : Nat)] (0 : Nat) ∧
      IntKind.i64.wrap ((z.n (400005 : Nat)).tmod (64 : Int)) = shF (z.n (400000 : Nat)) (z.n (400001 : Nat)) (z.n (400002 : Nat)) (z.n (400003 : Nat)) (z.n (400004 : Nat)) (z.n
      (400005 : Nat)) c x l d)))) ∧ (wF (z.n (400000 : Nat)) x = false → (((c.fdiv (16384 : Int)).tmod (2 : Int) == (1 : Int)) = true → u16b (z.n (400001 : Nat)) = true ∧ (wF
      (z.n (400001 : Nat)) x = true → u16b (z.n (400003 : Nat)) = true ∧ (wF (z.n (400003 : Nat)) l = true → True ∧ mkM z S [MB.f A, MB.f B, MB.f C, MB.f D, MB.o u9 (66 : Nat)]
      (0 : Nat) = mkM z S [MB.f A, MB.f B, MB.f C, MB.f D, MB.o u9 (66 : Nat)] (0 : Nat) ∧ IntKind.i64.wrap (((z.n (400004 : Nat)).fdiv (256 : Int)).tmod (64 : Int)) = shF (z.n
      (400000 : Nat)) (z.n (400001 : Nat)) (z.n (400002 : Nat)) (z.n (400003 : Nat)) (z.n (400004 : Nat)) (z.n (400005 : Nat)) c x l d) ∧ (wF (z.n (400003 : Nat)) l = false → (d
      = true → (((c.fdiv (32768 : Int)).tmod (2 : Int) == (1 : Int)) = true → True ∧ mkM z S [MB.f A, MB.f B, MB.f C, MB.f D, MB.o u9 (66 : Nat)] (0 : Nat) = mkM z S [MB.f A,
      MB.f B, MB.f C, MB.f D, MB.o u9 (66 : Nat)] (0 : Nat) ∧ IntKind.i64.wrap ((IntKind.u16.wrap ((z.n (400005 : Nat)).tdiv (256 : Int))).tmod (64 : Int)) = shF (z.n (400000 :
      Nat)) (z.n (400001 : Nat)) (z.n (400002 : Nat)) (z.n (400003 : Nat)) (z.n (400004 : Nat)) (z.n (400005 : Nat)) c x l d) ∧ (((c.fdiv (32768 : Int)).tmod (2 : Int) == (1 :
      Int)) = false → True ∧ mkM z S [MB.f A, MB.f B, MB.f C, MB.f D, MB.o u9 (66 : Nat)] (0 : Nat) = mkM z S [MB.f A, MB.f B, MB.f C, MB.f D, MB.o u9 (66 : Nat)] (0 : Nat) ∧
      IntKind.i64.wrap ((z.n (400005 : Nat)).tmod (64 : Int)) = shF (z.n (400000 : Nat)) (z.n (400001 : Nat)) (z.n (400002 : Nat)) (z.n (400003 : Nat)) (z.n (400004 : Nat)) (z.n
      (400005 : Nat)) c x l d)) ∧ (d = false → True ∧ mkM z S [MB.f A, MB.f B, MB.f C, MB.f D, MB.o u9 (66 : Nat)] (0 : Nat) = mkM z S [MB.f A, MB.f B, MB.f C, MB.f D, MB.o u9
      (66 : Nat)] (0 : Nat) ∧ IntKind.i64.wrap ((z.n (400005 : Nat)).tmod (64 : Int)) = shF (z.n (400000 : Nat)) (z.n (400001 : Nat)) (z.n (400002 : Nat)) (z.n (400003 : Nat))
      (z.n (400004 : Nat)) (z.n (400005 : Nat)) c x l d))) ∧ (wF (z.n (400001 : Nat)) x = false → (d = true → (((c.fdiv (32768 : Int)).tmod (2 : Int) == (1 : Int)) = true → True
      ∧ mkM z S [MB.f A, MB.f B, MB.f C, MB.f D, MB.o u9 (66 : Nat)] (0 : Nat) = mkM z S [MB.f A, MB.f B, MB.f C, MB.f D, MB.o u9 (66 : Nat)] (0 : Nat) ∧ IntKind.i64.wrap
      ((IntKind.u16.wrap ((z.n (400005 : Nat)).tdiv (256 : Int))).tmod (64 : Int)) = shF (z.n (400000 : Nat)) (z.n (400001 : Nat)) (z.n (400002 : Nat)) (z.n (400003 : Nat)) (z.n
      (400004 : Nat)) (z.n (400005 : Nat)) c x l d) ∧ (((c.fdiv (32768 : Int)).tmod (2 : Int) == (1 : Int)) = false → True ∧ mkM z S [MB.f A, MB.f B, MB.f C, MB.f D, MB.o u9 (66
      : Nat)] (0 : Nat) = mkM z S [MB.f A, MB.f B, MB.f C, MB.f D, MB.o u9 (66 : Nat)] (0 : Nat) ∧ IntKind.i64.wrap ((z.n (400005 : Nat)).tmod (64 : Int)) = shF (z.n (400000 :
      Nat)) (z.n (400001 : Nat)) (z.n (400002 : Nat)) (z.n (400003 : Nat)) (z.n (400004 : Nat)) (z.n (400005 : Nat)) c x l d)) ∧ (d = false → True ∧ mkM z S [MB.f A, MB.f B,
      MB.f C, MB.f D, MB.o u9 (66 : Nat)] (0 : Nat) = mkM z S [MB.f A, MB.f B, MB.f C, MB.f D, MB.o u9 (66 : Nat)] (0 : Nat) ∧ IntKind.i64.wrap ((z.n (400005 : Nat)).tmod (64 :
      Int)) = shF (z.n (400000 : Nat)) (z.n (400001 : Nat)) (z.n (400002 : Nat)) (z.n (400003 : Nat)) (z.n (400004 : Nat)) (z.n (400005 : Nat)) c x l d))) ∧ (((c.fdiv (16384 :
      Int)).tmod (2 : Int) == (1 : Int)) = false → (d = true → (((c.fdiv (32768 : Int)).tmod (2 : Int) == (1 : Int)) = true → True ∧ mkM z S [MB.f A, MB.f B, MB.f C, MB.f D,
      MB.o u9 (66 : Nat)] (0 : Nat) = mkM z S [MB.f A, MB.f B, MB.f C, MB.f D, MB.o u9 (66 : Nat)] (0 : Nat) ∧ IntKind.i64.wrap ((IntKind.u16.wrap ((z.n (400005 : Nat)).tdiv
      (256 : Int))).tmod (64 : Int)) = shF (z.n (400000 : Nat)) (z.n (400001 : Nat)) (z.n (400002 : Nat)) (z.n (400003 : Nat)) (z.n (400004 : Nat)) (z.n (400005 : Nat)) c x l d)
      ∧ (((c.fdiv (32768 : Int)).tmod (2 : Int) == (1 : Int)) = false → True ∧ mkM z S [MB.f A, MB.f B, MB.f C, MB.f D, MB.o u9 (66 : Nat)] (0 : Nat) = mkM z S [MB.f A, MB.f B,
      MB.f C, MB.f D, MB.o u9 (66 : Nat)] (0 : Nat) ∧ IntKind.i64.wrap ((z.n (400005 : Nat)).tmod (64 : Int)) = shF (z.n (400000 : Nat)) (z.n (400001 : Nat)) (z.n (400002 :
      Nat)) (z.n (400003 : Nat)) (z.n (400004 : Nat)) (z.n (400005 : Nat)) c x l d)) ∧ (d = false → True ∧ mkM z S [MB.f A, MB.f B, MB.f C, MB.f D, MB.o u9 (66 : Nat)] (0 : Nat)
      = mkM z S [MB.f A, MB.f B, MB.f C, MB.f D, MB.o u9 (66 : Nat)] (0 : Nat) ∧ IntKind.i64.wrap ((z.n (400005 : Nat)).tmod (64 : Int)) = shF (z.n (400000 : Nat)) (z.n (400001
      : Nat)) (z.n (400002 : Nat)) (z.n (400003 : Nat)) (z.n (400004 : Nat)) (z.n (400005 : Nat)) c x l d)))) ∧ (((c.fdiv (8192 : Int)).tmod (2 : Int) == (1 : Int)) = false →
      (((c.fdiv (16384 : Int)).tmod (2 : Int) == (1 : Int)) = true → u16b (z.n (400001 : Nat)) = true ∧ (wF (z.n (400001 : Nat)) x = true → u16b (z.n (400003 : Nat)) = true ∧
      (wF (z.n (400003 : Nat)) l = true → True ∧ mkM z S [MB.f A, MB.f B, MB.f C, MB.f D, MB.o u9 (66 : Nat)] (0 : Nat) = mkM z S [MB.f A, MB.f B, MB.f C, MB.f D, MB.o u9 (66 :
      Nat)] (0 : Nat) ∧ IntKind.i64.wrap (((z.n (400004 : Nat)).fdiv (256 : Int)).tmod (64 : Int)) = shF (z.n (400000 : Nat)) (z.n (400001 : Nat)) (z.n (400002 : Nat)) (z.n
      (400003 : Nat)) (z.n (400004 : Nat)) (z.n (400005 : Nat)) c x l d) ∧ (wF (z.n (400003 : Nat)) l = false → (d = true → (((c.fdiv (32768 : Int)).tmod (2 : Int) == (1 : Int))
      = true → True ∧ mkM z S [MB.f A, MB.f B, MB.f C, MB.f D, MB.o u9 (66 : Nat)] (0 : Nat) = mkM z S [MB.f A, MB.f B, MB.f C, MB.f D, MB.o u9 (66 : Nat)] (0 : Nat) ∧
      IntKind.i64.wrap ((IntKind.u16.wrap ((z.n (400005 : Nat)).tdiv (256 : Int))).tmod (64 : Int)) = shF (z.n (400000 : Nat)) (z.n (400001 : Nat)) (z.n (400002 : Nat)) (z.n
      (400003 : Nat)) (z.n (400004 : Nat)) (z.n (400005 : Nat)) c x l d) ∧ (((c.fdiv (32768 : Int)).tmod (2 : Int) == (1 : Int)) = false → True ∧ mkM z S [MB.f A, MB.f B, MB.f
      C, MB.f D, MB.o u9 (66 : Nat)] (0 : Nat) = mkM z S [MB.f A, MB.f B, MB.f C, MB.f D, MB.o u9 (66 : Nat)] (0 : Nat) ∧ IntKind.i64.wrap ((z.n (400005 : Nat)).tmod (64 : Int))
      = shF (z.n (400000 : Nat)) (z.n (400001 : Nat)) (z.n (400002 : Nat)) (z.n (400003 : Nat)) (z.n (400004 : Nat)) (z.n (400005 : Nat)) c x l d)) ∧ (d = false → True ∧ mkM z S
      [MB.f A, MB.f B, MB.f C, MB.f D, MB.o u9 (66 : Nat)] (0 : Nat) = mkM z S [MB.f A, MB.f B, MB.f C, MB.f D, MB.o u9 (66 : Nat)] (0 : Nat) ∧ IntKind.i64.wrap ((z.n (400005 :
      Nat)).tmod (64 : Int)) = shF (z.n (400000 : Nat)) (z.n (400001 : Nat)) (z.n (400002 : Nat)) (z.n (400003 : Nat)) (z.n (400004 : Nat)) (z.n (400005 : Nat)) c x l d))) ∧ (wF
      (z.n (400001 : Nat)) x = false → (d = true → (((c.fdiv (32768 : Int)).tmod (2 : Int) == (1 : Int)) = true → True ∧ mkM z S [MB.f A, MB.f B, MB.f C, MB.f D, MB.o u9 (66 :
      Nat)] (0 : Nat) = mkM z S [MB.f A, MB.f B, MB.f C, MB.f D, MB.o u9 (66 : Nat)] (0 : Nat) ∧ IntKind.i64.wrap ((IntKind.u16.wrap ((z.n (400005 : Nat)).tdiv (256 :
      Int))).tmod (64 : Int)) = shF (z.n (400000 : Nat)) (z.n (400001 : Nat)) (z.n (400002 : Nat)) (z.n (400003 : Nat)) (z.n (400004 : Nat)) (z.n (400005 : Nat)) c x l d) ∧
      (((c.fdiv (32768 : Int)).tmod (2 : Int) == (1 : Int)) = false → True ∧ mkM z S [MB.f A, MB.f B, MB.f C, MB.f D, MB.o u9 (66 : Nat)] (0 : Nat) = mkM z S [MB.f A, MB.f B,
      MB.f C, MB.f D, MB.o u9 (66 : Nat)] (0 : Nat) ∧ IntKind.i64.wrap ((z.n (400005 : Nat)).tmod (64 : Int)) = shF (z.n (400000 : Nat)) (z.n (400001 : Nat)) (z.n (400002 :
      Nat)) (z.n (400003 : Nat)) (z.n (400004 : Nat)) (z.n (400005 : Nat)) c x l d)) ∧ (d = false → True ∧ mkM z S [MB.f A, MB.f B, MB.f C, MB.f D, MB.o u9 (66 : Nat)] (0 : Nat)
      = mkM z S [MB.f A, MB.f B, MB.f C, MB.f D, MB.o u9 (66 : Nat)] (0 : Nat) ∧ IntKind.i64.wrap ((z.n (400005 : Nat)).tmod (64 : Int)) = shF (z.n (400000 : Nat)) (z.n (400001
      : Nat)) (z.n (400002 : Nat)) (z.n (400003 : Nat)) (z.n (400004 : Nat)) (z.n (400005 : Nat)) c x l d))) ∧ (((c.fdiv (16384 : Int)).tmod (2 : Int) == (1 : Int)) = false → (d
      = true → (((c.fdiv (32768 : Int)).tmod (2 : Int) == (1 : Int)) = true → True ∧ mkM z S [MB.f A, MB.f B, MB.f C, MB.f D, MB.o u9 (66 : Nat)] (0 : Nat) = mkM z S [MB.f A,
      MB.f B, MB.f C, MB.f D, MB.o u9 (66 : Nat)] (0 : Nat) ∧ IntKind.i64.wrap ((IntKind.u16.wrap ((z.n (400005 : Nat)).tdiv (256 : Int))).tmod (64 : Int)) = shF (z.n (400000 :
      Nat)) (z.n (400001 : Nat)) (z.n (400002 : Nat)) (z.n (400003 : Nat)) (z.n (400004 : Nat)) (z.n (400005 : Nat)) c x l d) ∧ (((c.fdiv (32768 : Int)).tmod (2 : Int) == (1 :
      Int)) = false → True ∧ mkM z S [MB.f A, MB.f B, MB.f C, MB.f D, MB.o u9 (66 : Nat)] (0 : Nat) = mkM z S [MB.f A, MB.f B, MB.f C, MB.f D, MB.o u9 (66 : Nat)] (0 : Nat) ∧
      IntKind.i64.wrap ((z.n (400005 : Nat)).tmod (64 : Int)) = shF (z.n (400000 : Nat)) (z.n (400001 : Nat)) (z.n (400002 : Nat)) (z.n (400003 : Nat)) (z.n (400004 : Nat)) (z.n
      (400005 : Nat)) c x l d)) ∧ (d = false → True ∧ mkM z S [MB.f A, MB.f B, MB.f C, MB.f D, MB.o u9 (66 : Nat)] (0 : Nat) = mkM z S [MB.f A, MB.f B, MB.f C, MB.f D, MB.o u9
      (66 : Nat)] (0 : Nat) ∧ IntKind.i64.wrap ((z.n (400005 : Nat)).tmod (64 : Int)) = shF (z.n (400000 : Nat)) (z.n (400001 : Nat)) (z.n (400002 : Nat)) (z.n (400003 : Nat))
      (z.n (400004 : Nat)) (z.n (400005 : Nat)) c x l d))))) ∧ ((!(c.fdiv (16384 : Int)).tmod (2 : Int) == (1 : Int)) = false → (((c.fdiv (8192 : Int)).tmod (2 : Int) == (1 :
      Int)) = true → u16b (z.n (400000 : Nat)) = true ∧ (wF (z.n (400000 : Nat)) x = true → u16b (z.n (400002 : Nat)) = true ∧ (wF (z.n (400002 : Nat)) l = true → True ∧ mkM z S
      [MB.f A, MB.f B, MB.f C, MB.f D, MB.o u9 (66 : Nat)] (0 : Nat) = mkM z S [MB.f A, MB.f B, MB.f C, MB.f D, MB.o u9 (66 : Nat)] (0 : Nat) ∧ IntKind.i64.wrap (((z.n (400004 :
      Nat)).fdiv (1 : Int)).tmod (64 : Int)) = shF (z.n (400000 : Nat)) (z.n (400001 : Nat)) (z.n (400002 : Nat)) (z.n (400003 : Nat)) (z.n (400004 : Nat)) (z.n (400005 : Nat))
      c x l d) ∧ (wF (z.n (400002 : Nat)) l = false → (((c.fdiv (16384 : Int)).tmod (2 : Int) == (1 : Int)) = true → u16b (z.n (400001 : Nat)) = true ∧ (wF (z.n (400001 : Nat))
      x = true → u16b (z.n (400003 : Nat)) = true ∧ (wF (z.n (400003 : Nat)) l = true → True ∧ mkM z S [MB.f A, MB.f B, MB.f C, MB.f D, MB.o u9 (66 : Nat)] (0 : Nat) = mkM z S
      [MB.f A, MB.f B, MB.f C, MB.f D, MB.o u9 (66 : Nat)] (0 : Nat) ∧ IntKind.i64.wrap (((z.n (400004 : Nat)).fdiv (256 : Int)).tmod (64 : Int)) = shF (z.n (400000 : Nat)) (z.n
      (400001 : Nat)) (z.n (400002 : Nat)) (z.n (400003 : Nat)) (z.n (400004 : Nat)) (z.n (400005 : Nat)) c x l d) ∧ (wF (z.n (400003 : Nat)) l = false → (d = true → (((c.fdiv
      (32768 : Int)).tmod (2 : Int) == (1 : Int)) = true → True ∧ mkM z S [MB.f A, MB.f B, MB.f C, MB.f D, MB.o u9 (66 : Nat)] (0 : Nat) = mkM z S [MB.f A, MB.f B, MB.f C, MB.f
      D, MB.o u9 (66 : Nat)] (0 : Nat) ∧ IntKind.i64.wrap ((IntKind.u16.wrap ((z.n (400005 : Nat)).tdiv (256 : Int))).tmod (64 : Int)) = shF (z.n (400000 : Nat)) (z.n (400001 :
      Nat)) (z.n (400002 : Nat)) (z.n (400003 : Nat)) (z.n (400004 : Nat)) (z.n (400005 : Nat)) c x l d) ∧ (((c.fdiv (32768 : Int)).tmod (2 : Int) == (1 : Int)) = false → True ∧
      mkM z S [MB.f A, MB.f B, MB.f C, MB.f D, MB.o u9 (66 : Nat)] (0 : Nat) = mkM z S [MB.f A, MB.f B, MB.f C, MB.f D, MB.o u9 (66 : Nat)] (0 : Nat) ∧ IntKind.i64.wrap ((z.n
      (400005 : Nat)).tmod (64 : Int)) = shF (z.n (400000 : Nat)) (z.n (400001 : Nat)) (z.n (400002 : Nat)) (z.n (400003 : Nat)) (z.n (400004 : Nat)) (z.n (400005 : Nat)) c x l
      d)) ∧ (d = false → True ∧ mkM z S [MB.f A, MB.f B, MB.f C, MB.f D, MB.o u9 (66 : Nat)] (0 : Nat) = mkM z S [MB.f A, MB.f B, MB.f C, MB.f D, MB.o u9 (66 : Nat)] (0 : Nat) ∧
      IntKind.i64.wrap ((z.n (400005 : Nat)).tmod (64 : Int)) = shF (z.n (400000 : Nat)) (z.n (400001 : Nat)) (z.n (400002 : Nat)) (z.n (400003 : Nat)) (z.n (400004 : Nat)) (z.n
      (400005 : Nat)) c x l d))) ∧ (wF (z.n (400001 : Nat)) x = false → (d = true → (((c.fdiv (32768 : Int)).tmod (2 : Int) == (1 : Int)) = true → True ∧ mkM z S [MB.f A, MB.f
      B, MB.f C, MB.f D, MB.o u9 (66 : Nat)] (0 : Nat) = mkM z S [MB.f A, MB.f B, MB.f C, MB.f D, MB.o u9 (66 : Nat)] (0 : Nat) ∧ IntKind.i64.wrap ((IntKind.u16.wrap ((z.n
      (400005 : Nat)).tdiv (256 : Int))).tmod (64 : Int)) = shF (z.n (400000 : Nat)) (z.n (400001 : Nat)) (z.n (400002 : Nat)) (z.n (400003 : Nat)) (z.n (400004 : Nat)) (z.n
      (400005 : Nat)) c x l d) ∧ (((c.fdiv (32768 : Int)).tmod (2 : Int) == (1 : Int)) = false → True ∧ mkM z S [MB.f A, MB.f B, MB.f C, MB.f D, MB.o u9 (66 : Nat)] (0 : Nat) =
      mkM z S [MB.f A, MB.f B, MB.f C, MB.f D, MB.o u9 (66 : Nat)] (0 : Nat) ∧ IntKind.i64.wrap ((z.n (400005 : Nat)).tmod (64 : Int)) = shF (z.n (400000 : Nat)) (z.n (400001 :
      Nat)) (z.n (400002 : Nat)) (z.n (400003 : Nat)) (z.n (400004 : Nat)) (z.n (400005 : Nat)) c x l d)) ∧ (d = false → True ∧ mkM z S [MB.f A, MB.f B, MB.f C, MB.f D, MB.o u9
      (66 : Nat)] (0 : Nat) = mkM z S [MB.f A, MB.f B, MB.f C, MB.f D, MB.o u9 (66 : Nat)] (0 : Nat) ∧ IntKind.i64.wrap ((z.n (400005 : Nat)).tmod (64 : Int)) = shF (z.n (400000
      : Nat)) (z.n (400001 : Nat)) (z.n (400002 : Nat)) (z.n (400003 : Nat)) (z.n (400004 : Nat)) (z.n (400005 : Nat)) c x l d))) ∧ (((c.fdiv (16384 : Int)).tmod (2 : Int) == (1
      : Int)) = false → (d = true → (((c.fdiv (32768 : Int)).tmod (2 : Int) == (1 : Int)) = true → True ∧ mkM z S [MB.f A, MB.f B, MB.f C, MB.f D, MB.o u9 (66 : Nat)] (0 : Nat)
      = mkM z S [MB.f A, MB.f B, MB.f C, MB.f D, MB.o u9 (66 : Nat)] (0 : Nat) ∧ IntKind.i64.wrap ((IntKind.u16.wrap ((z.n (400005 : Nat)).tdiv (256 : Int))).tmod (64 : Int)) =
      shF (z.n (400000 : Nat)) (z.n (400001 : Nat)) (z.n (400002 : Nat)) (z.n (400003 : Nat)) (z.n (400004 : Nat)) (z.n (400005 : Nat)) c x l d) ∧ (((c.fdiv (32768 : Int)).tmod
      (2 : Int) == (1 : Int)) = false → True ∧ mkM z S [MB.f A, MB.f B, MB.f C, MB.f D, MB.o u9 (66 : Nat)] (0 : Nat) = mkM z S [MB.f A, MB.f B, MB.f C, MB.f D, MB.o u9 (66 :
      Nat)] (0 : Nat) ∧ IntKind.i64.wrap ((z.n (400005 : Nat)).tmod (64 : Int)) = shF (z.n (400000 : Nat)) (z.n (400001 : Nat)) (z.n (400002 : Nat)) (z.n (400003 : Nat)) (z.n
      (400004 : Nat)) (z.n (400005 : Nat)) c x l d)) ∧ (d = false → True ∧ mkM z S [MB.f A, MB.f B, MB.f C, MB.f D, MB.o u9 (66 : Nat)] (0 : Nat) = mkM z S [MB.f A, MB.f B, MB.f
      C, MB.f D, MB.o u9 (66 : Nat)] (0 : Nat) ∧ IntKind.i64.wrap ((z.n (400005 : Nat)).tmod (64 : Int)) = shF (z.n (400000 : Nat)) (z.n (400001 : Nat)) (z.n (400002 : Nat))
      (z.n (400003 : Nat)) (z.n (400004 : Nat)) (z.n (400005 : Nat)) c x l d)))) ∧ (wF (z.n (400000 : Nat)) x = false → (((c.fdiv (16384 : Int)).tmod (2 : Int) == (1 : Int)) =
      true → u16b (z.n (400001 : Nat)) = true ∧ (wF (z.n (400001 : Nat)) x = true → u16b (z.n (400003 : Nat)) = true ∧ (wF (z.n (400003 : Nat)) l = true → True ∧ mkM z S [MB.f
      A, MB.f B, MB.f C, MB.f D, MB.o u9 (66 : Nat)] (0 : Nat) = mkM z S [MB.f A, MB.f B, MB.f C, MB.f D, MB.o u9 (66 : Nat)] (0 : Nat) ∧ IntKind.i64.wrap (((z.n (400004 :
      Nat)).fdiv (256 : Int)).tmod (64 : Int)) = shF (z.n (400000 : Nat)) (z.n (400001 : Nat)) (z.n (400002 : Nat)) (z.n (400003 : Nat)) (z.n (400004 : Nat)) (z.n (400005 :
      Nat)) c x l d) ∧ (wF (z.n (400003 : Nat)) l = false → (d = true → (((c.fdiv (32768 : Int)).tmod (2 : Int) == (1 : Int)) = true → True ∧ mkM z S [MB.f A, MB.f B, MB.f C,
      MB.f D, MB.o u9 (66 : Nat)] (0 : Nat) = mkM z S [MB.f A, MB.f B, MB.f C, MB.f D, MB.o u9 (66 : Nat)] (0 : Nat) ∧ IntKind.i64.wrap ((IntKind.u16.wrap ((z.n (400005 :
      Nat)).tdiv (256 : Int))).tmod (64 : Int)) = shF (z.n (400000 : Nat)) (z.n (400001 : Nat)) (z.n (400002 : Nat)) (z.n (400003 : Nat)) (z.n (400004 : Nat)) (z.n (400005 :
      Nat)) c x l d) ∧ (((c.fdiv (32768 : Int)).tmod (2 : Int) == (1 : Int)) = false → True ∧ mkM z S [MB.f A, MB.f B, MB.f C, MB.f D, MB.o u9 (66 : Nat)] (0 : Nat) = mkM z S
      [MB.f A, MB.f B, MB.f C, MB.f D, MB.o u9 (66 : Nat)] (0 : Nat) ∧ IntKind.i64.wrap ((z.n (400005 : Nat)).tmod (64 : Int)) = shF (z.n (400000 : Nat)) (z.n (400001 : Nat))
      (z.n (400002 : Nat)) (z.n (400003 : Nat)) (z.n (400004 : Nat)) (z.n (400005 : Nat)) c x l d)) ∧ (d = false → True ∧ mkM z S [MB.f A, MB.f B, MB.f C, MB.f D, MB.o u9 (66 :
      Nat)] (0 : Nat) = mkM z S [MB.f A, MB.f B, MB.f C, MB.f D, MB.o u9 (66 : Nat)] (0 : Nat) ∧ IntKind.i64.wrap ((z.n (400005 : Nat)).tmod (64 : Int)) = shF (z.n (400000 :
      Nat)) (z.n (400001 : Nat)) (z.n (400002 : Nat)) (z.n (400003 : Nat)) (z.n (400004 : Nat)) (z.n (400005 : Nat)) c x l d))) ∧ (wF (z.n (400001 : Nat)) x = false → (d = true
      → (((c.fdiv (32768 : Int)).tmod (2 : Int) == (1 : Int)) = true → True ∧ mkM z S [MB.f A, MB.f B, MB.f C, MB.f D, MB.o u9 (66 : Nat)] (0 : Nat) = mkM z S [MB.f A, MB.f B,
      MB.f C, MB.f D, MB.o u9 (66 : Nat)] (0 : Nat) ∧ IntKind.i64.wrap ((IntKind.u16.wrap ((z.n (400005 : Nat)).tdiv (256 : Int))).tmod (64 : Int)) = shF (z.n (400000 : Nat))
      (z.n (400001 : Nat)) (z.n (400002 : Nat)) (z.n (400003 : Nat)) (z.n (400004 : Nat)) (z.n (400005 : Nat)) c x l d) ∧ (((c.fdiv (32768 : Int)).tmod (2 : Int) == (1 : Int)) =
      false → True ∧ mkM z S [MB.f A, MB.f B, MB.f C, MB.f D, MB.o u9 (66 : Nat)] (0 : Nat) = mkM z S [MB.f A, MB.f B, MB.f C, MB.f D, MB.o u9 (66 : Nat)] (0 : Nat) ∧
      IntKind.i64.wrap ((z.n (400005 : Nat)).tmod (64 : Int)) = shF (z.n (400000 : Nat)) (z.n (400001 : Nat)) (z.n (400002 : Nat)) (z.n (400003 : Nat)) (z.n (400004 : Nat)) (z.n
      (400005 : Nat)) c x l d)) ∧ (d = false → True ∧ mkM z S [MB.f A, MB.f B, MB.f C, MB.f D, MB.o u9 (66 : Nat)] (0 : Nat) = mkM z S [MB.f A, MB.f B, MB.f C, MB.f D, MB.o u9
      (66 : Nat)] (0 : Nat) ∧ IntKind.i64.wrap ((z.n (400005 : Nat)).tmod (64 : Int)) = shF (z.n (400000 : Nat)) (z.n (400001 : Nat)) (z.n (400002 : Nat)) (z.n (400003 : Nat))
      (z.n (400004 : Nat)) (z.n (400005 : Nat)) c x l d))) ∧ (((c.fdiv (16384 : Int)).tmod (2 : Int) == (1 : Int)) = false → (d = true → (((c.fdiv (32768 : Int)).tmod (2 : Int)
      == (1 : Int)) = true → True ∧ mkM z S [MB.f A, MB.f B, MB.f C, MB.f D, MB.o u9 (66 : Nat)] (0 : Nat) = mkM z S [MB.f A, MB.f B, MB.f C, MB.f D, MB.o u9 (66 : Nat)] (0 :
      Nat) ∧ IntKind.i64.wrap ((IntKind.u16.wrap ((z.n (400005 : Nat)).tdiv (256 : Int))).tmod (64 : Int)) = shF (z.n (400000 : Nat)) (z.n (400001 : Nat)) (z.n (400002 : Nat))
      (z.n (400003 : Nat)) (z.n (400004 : Nat)) (z.n (400005 : Nat)) c x l d) ∧ (((c.fdiv (32768 : Int)).tmod (2 : Int) == (1 : Int)) = false → True ∧ mkM z S [MB.f A, MB.f B,
      MB.f C, MB.f D, MB.o u9 (66 : Nat)] (0 : Nat) = mkM z S [MB.f A, MB.f B, MB.f C, MB.f D, MB.o u9 (66 : Nat)] (0 : Nat) ∧ IntKind.i64.wrap ((z.n (400005 : Nat)).tmod (64 :
      Int)) = shF (z.n (400000 : Nat)) (z.n (400001 : Nat)) (z.n (400002 : Nat)) (z.n (400003 : Nat)) (z.n (400004 : Nat)) (z.n (400005 : Nat)) c x l d)) ∧ (d = false → True ∧
      mkM z S [MB.f A, MB.f B, MB.f C, MB.f D, MB.o u9 (66 : Nat)] (0 : Nat) = mkM z S [MB.f A, MB.f B, MB.f C, MB.f D, MB.o u9 (66 : Nat)] (0 : Nat) ∧ IntKind.i64.wrap ((z.n
      (400005 : Nat)).tmod (64 : Int)) = shF (z.n (400000 : Nat)) (z.n (400001 : Nat)) (z.n (400002 : Nat)) (z.n (400003 : Nat)) (z.n (400004 : Nat)) (z.n (400005 : Nat)) c x l
      d)))) ∧ (((c.fdiv (8192 : Int)).tmod (2 : Int) == (1 : Int)) = false → (((c.fdiv (16384 : Int)).tmod (2 : Int) == (1 : Int)) = true → u16b (z.n (400001 : Nat)) = true ∧
      (wF (z.n (400001 : Nat)) x = true → u16b (z.n (400003 : Nat)) = true ∧ (wF (z.n (400003 : Nat)) l = true → True ∧ mkM z S [MB.f A, MB.f B, MB.f C, MB.f D, MB.o u9 (66 :
      Nat)] (0 : Nat) = mkM z S [MB.f A, MB.f B, MB.f C, MB.f D, MB.o u9 (66 : Nat)] (0 : Nat) ∧ IntKind.i64.wrap (((z.n (400004 : Nat)).fdiv (256 : Int)).tmod (64 : Int)) = shF
      (z.n (400000 : Nat)) (z.n (400001 : Nat)) (z.n (400002 : Nat)) (z.n (400003 : Nat)) (z.n (400004 : Nat)) (z.n (400005 : Nat)) c x l d) ∧ (wF (z.n (400003 : Nat)) l = false
      → (d = true → (((c.fdiv (32768 : Int)).tmod (2 : Int) == (1 : Int)) = true → True ∧ mkM z S [MB.f A, MB.f B, MB.f C, MB.f D, MB.o u9 (66 : Nat)] (0 : Nat) = mkM z S [MB.f
      A, MB.f B, MB.f C, MB.f D, MB.o u9 (66 : Nat)] (0 : Nat) ∧ IntKind.i64.wrap ((IntKind.u16.wrap ((z.n (400005 : Nat)).tdiv (256 : Int))).tmod (64 : Int)) = shF (z.n (400000
      : Nat)) (z.n (400001 : Nat)) (z.n (400002 : Nat)) (z.n (400003 : Nat)) (z.n (400004 : Nat)) (z.n (400005 : Nat)) c x l d) ∧ (((c.fdiv (32768 : Int)).tmod (2 : Int) == (1 :
      Int)) = false → True ∧ mkM z S [MB.f A, MB.f B, MB.f C, MB.f D, MB.o u9 (66 : Nat)] (0 : Nat) = mkM z S [MB.f A, MB.f B, MB.f C, MB.f D, MB.o u9 (66 : Nat)] (0 : Nat) ∧
      IntKind.i64.wrap ((z.n (400005 : Nat)).tmod (64 : Int)) = shF (z.n (400000 : Nat)) (z.n (400001 : Nat)) (z.n (400002 : Nat)) (z.n (400003 : Nat)) (z.n (400004 : Nat)) (z.n
      (400005 : Nat)) c x l d)) ∧ (d = false → True ∧ mkM z S [MB.f A, MB.f B, MB.f C, MB.f D, MB.o u9 (66 : Nat)] (0 : Nat) = mkM z S [MB.f A, MB.f B, MB.f C, MB.f D, MB.o u9
      (66 : Nat)] (0 : Nat) ∧ IntKind.i64.wrap ((z.n (400005 : Nat)).tmod (64 : Int)) = shF (z.n (400000 : Nat)) (z.n (400001 : Nat)) (z.n (400002 : Nat)) (z.n (400003 : Nat))
      (z.n (400004 : Nat)) (z.n (400005 : Nat)) c x l d))) ∧ (wF (z.n (400001 : Nat)) x = false → (d = true → (((c.fdiv (32768 : Int)).tmod (2 : Int) == (1 : Int)) = true → True
      ∧ mkM z S [MB.f A, MB.f B, MB.f C, MB.f D, MB.o u9 (66 : Nat)] (0 : Nat) = mkM z S [MB.f A, MB.f B, MB.f C, MB.f D, MB.o u9 (66 : Nat)] (0 : Nat) ∧ IntKind.i64.wrap
      ((IntKind.u16.wrap ((z.n (400005 : Nat)).tdiv (256 : Int))).tmod (64 : Int)) = shF (z.n (400000 : Nat)) (z.n (400001 : Nat)) (z.n (400002 : Nat)) (z.n (400003 : Nat)) (z.n
      (400004 : Nat)) (z.n (400005 : Nat)) c x l d) ∧ (((c.fdiv (32768 : Int)).tmod (2 : Int) == (1 : Int)) = false → True ∧ mkM z S [MB.f A, MB.f B, MB.f C, MB.f D, MB.o u9 (66
      : Nat)] (0 : Nat) = mkM z S [MB.f A, MB.f B, MB.f C, MB.f D, MB.o u9 (66 : Nat)] (0 : Nat) ∧ IntKind.i64.wrap ((z.n (400005 : Nat)).tmod (64 : Int)) = shF (z.n (400000 :
      Nat)) (z.n (400001 : Nat)) (z.n (400002 : Nat)) (z.n (400003 : Nat)) (z.n (400004 : Nat)) (z.n (400005 : Nat)) c x l d)) ∧ (d = false → True ∧ mkM z S [MB.f A, MB.f B,
      MB.f C, MB.f D, MB.o u9 (66 : Nat)] (0 : Nat) = mkM z S [MB.f A, MB.f B, MB.f C, MB.f D, MB.o u9 (66 : Nat)] (0 : Nat) ∧ IntKind.i64.wrap ((z.n (400005 : Nat)).tmod (64 :
      Int)) = shF (z.n (400000 : Nat)) (z.n (400001 : Nat)) (z.n (400002 : Nat)) (z.n (400003 : Nat)) (z.n (400004 : Nat)) (z.n (400005 : Nat)) c x l d))) ∧ (((c.fdiv (16384 :
      Int)).tmod (2 : Int) == (1 : Int)) = false → (d = true → (((c.fdiv (32768 : Int)).tmod (2 : Int) == (1 : Int)) = true → True ∧ mkM z S [MB.f A, MB.f B, MB.f C, MB.f D,
      MB.o u9 (66 : Nat)] (0 : Nat) = mkM z S [MB.f A, MB.f B, MB.f C, MB.f D, MB.o u9 (66 : Nat)] (0 : Nat) ∧ IntKind.i64.wrap ((IntKind.u16.wrap ((z.n (400005 : Nat)).tdiv
      (256 : Int))).tmod (64 : Int)) = shF (z.n (400000 : Nat)) (z.n (400001 : Nat)) (z.n (400002 : Nat)) (z.n (400003 : Nat)) (z.n (400004 : Nat)) (z.n (400005 : Nat)) c x l d)
      ∧ (((c.fdiv (32768 : Int)).tmod (2 : Int) == (1 : Int)) = false → True ∧ mkM z S [MB.f A, MB.f B, MB.f C, MB.f D, MB.o u9 (66 : Nat)] (0 : Nat) = mkM z S [MB.f A, MB.f B,
      MB.f C, MB.f D, MB.o u9 (66 : Nat)] (0 : Nat) ∧ IntKind.i64.wrap ((z.n (400005 : Nat)).tmod (64 : Int)) = shF (z.n (400000 : Nat)) (z.n (400001 : Nat)) (z.n (400002 :
      Nat)) (z.n (400003 : Nat)) (z.n (400004 : Nat)) (z.n (400005 : Nat)) c x l d)) ∧ (d = false → True ∧ mkM z S [MB.f A, MB.f B, MB.f C, MB.f D, MB.o u9 (66 : Nat)] (0 : Nat)
      = mkM z S [MB.f A, MB.f B, MB.f C, MB.f D, MB.o u9 (66 : Nat)] (0 : Nat) ∧ IntKind.i64.wrap ((z.n (400005 : Nat)).tmod (64 : Int)) = shF (z.n (400000 : Nat)) (z.n (400001
      : Nat)) (z.n (400002 : Nat)) (z.n (400003 : Nat)) (z.n (400004 : Nat)) (z.n (400005 : Nat)) c x l d))))) ∧ ((!(c.fdiv (8192 : Int)).tmod (2 : Int) == (1 : Int)) = false →
      (((c.fdiv (8192 : Int)).tmod (2 : Int) == (1 : Int)) = true → u16b (z.n (400000 : Nat)) = true ∧ (wF (z.n (400000 : Nat)) x = true → u16b (z.n (400002 : Nat)) = true ∧ (wF
      (z.n (400002 : Nat)) l = true → True ∧ mkM z S [MB.f A, MB.f B, MB.f C, MB.f D, MB.o u9 (66 : Nat)] (0 : Nat) = mkM z S [MB.f A, MB.f B, MB.f C, MB.f D, MB.o u9 (66 :
      Nat)] (0 : Nat) ∧ IntKind.i64.wrap (((z.n (400004 : Nat)).fdiv (1 : Int)).tmod (64 : Int)) = shF (z.n (400000 : Nat)) (z.n (400001 : Nat)) (z.n (400002 : Nat)) (z.n
      (400003 : Nat)) (z.n (400004 : Nat)) (z.n (400005 : Nat)) c x l d) ∧ (wF (z.n (400002 : Nat)) l = false → (((c.fdiv (16384 : Int)).tmod (2 : Int) == (1 : Int)) = true →
      u16b (z.n (400001 : Nat)) = true ∧ (wF (z.n (400001 : Nat)) x = true → u16b (z.n (400003 : Nat)) = true ∧ (wF (z.n (400003 : Nat)) l = true → True ∧ mkM z S [MB.f A, MB.f
      B, MB.f C, MB.f D, MB.o u9 (66 : Nat)] (0 : Nat) = mkM z S [MB.f A, MB.f B, MB.f C, MB.f D, MB.o u9 (66 : Nat)] (0 : Nat) ∧ IntKind.i64.wrap (((z.n (400004 : Nat)).fdiv
      (256 : Int)).tmod (64 : Int)) = shF (z.n (400000 : Nat)) (z.n (400001 : Nat)) (z.n (400002 : Nat)) (z.n (400003 : Nat)) (z.n (400004 : Nat)) (z.n (400005 : Nat)) c x l d)
      ∧ (wF (z.n (400003 : Nat)) l = false → (d = true → (((c.fdiv (32768 : Int)).tmod (2 : Int) == (1 : Int)) = true → True ∧ mkM z S [MB.f A, MB.f B, MB.f C, MB.f D, MB.o u9
      (66 : Nat)] (0 : Nat) = mkM z S [MB.f A, MB.f B, MB.f C, MB.f D, MB.o u9 (66 : Nat)] (0 : Nat) ∧ IntKind.i64.wrap ((IntKind.u16.wrap ((z.n (400005 : Nat)).tdiv (256 :
      Int))).tmod (64 : Int)) = shF (z.n (400000 : Nat)) (z.n (400001 : Nat)) (z.n (400002 : Nat)) (z.n (400003 : Nat)) (z.n (400004 : Nat)) (z.n (400005 : Nat)) c x l d) ∧
      (((c.fdiv (32768 : Int)).tmod (2 : Int) == (1 : Int)) = false → True ∧ mkM z S [MB.f A, MB.f B, MB.f C, MB.f D, MB.o u9 (66 : Nat)] (0 : Nat) = mkM z S [MB.f A, MB.f B,
      MB.f C, MB.f D, MB.o u9 (66 : Nat)] (0 : Nat) ∧ IntKind.i64.wrap ((z.n (400005 : Nat)).tmod (64 : Int)) = shF (z.n (400000 : Nat)) (z.n (400001 : Nat)) (z.n (400002 :
      Nat)) (z.n (400003 : Nat)) (z.n (400004 : Nat)) (z.n (400005 : Nat)) c x l d)) ∧ (d = false → True ∧ mkM z S [MB.f A, MB.f B, MB.f C, MB.f D, MB.o u9 (66 : Nat)] (0 : Nat)
      = mkM z S [MB.f A, MB.f B, MB.f C, MB.f D, MB.o u9 (66 : Nat)] (0 : Nat) ∧ IntKind.i64.wrap ((z.n (400005 : Nat)).tmod (64 : Int)) = shF (z.n (400000 : Nat)) (z.n (400001
      : Nat)) (z.n (400002 : Nat)) (z.n (400003 : Nat)) (z.n (400004 : Nat)) (z.n (400005 : Nat)) c x l d))) ∧ (wF (z.n (400001 : Nat)) x = false → (d = true → (((c.fdiv (32768
      : Int)).tmod (2 : Int) == (1 : Int)) = true → True ∧ mkM z S [MB.f A, MB.f B, MB.f C, MB.f D, MB.o u9 (66 : Nat)] (0 : Nat) = mkM z S [MB.f A, MB.f B, MB.f C, MB.f D, MB.o
      u9 (66 : Nat)] (0 : Nat) ∧ IntKind.i64.wrap ((IntKind.u16.wrap ((z.n (400005 : Nat)).tdiv (256 : Int))).tmod (64 : Int)) = shF (z.n (400000 : Nat)) (z.n (400001 : Nat))
      (z.n (400002 : Nat)) (z.n (400003 : Nat)) (z.n (400004 : Nat)) (z.n (400005 : Nat)) c x l d) ∧ (((c.fdiv (32768 : Int)).tmod (2 : Int) == (1 : Int)) = false → True ∧ mkM z
      S [MB.f A, MB.f B, MB.f C, MB.f D, MB.o u9 (66 : Nat)] (0 : Nat) = mkM z S [MB.f A, MB.f B, MB.f C, MB.f D, MB.o u9 (66 : Nat)] (0 : Nat) ∧ IntKind.i64.wrap ((z.n (400005
      : Nat)).tmod (64 : Int)) = shF (z.n (400000 : Nat)) (z.n (400001 : Nat)) (z.n (400002 : Nat)) (z.n (400003 : Nat)) (z.n (400004 : Nat)) (z.n (400005 : Nat)) c x l d)) ∧ (d
      = false → True ∧ mkM z S [MB.f A, MB.f B, MB.f C, MB.f D, MB.o u9 (66 : Nat)] (0 : Nat) = mkM z S [MB.f A, MB.f B, MB.f C, MB.f D, MB.o u9 (66 : Nat)] (0 : Nat) ∧
      IntKind.i64.wrap ((z.n (400005 : Nat)).tmod (64 : Int)) = shF (z.n (400000 : Nat)) (z.n (400001 : Nat)) (z.n (400002 : Nat)) (z.n (400003 : Nat)) (z.n (400004 : Nat)) (z.n
      (400005 : Nat)) c x l d))) ∧ (((c.fdiv (16384 : Int)).tmod (2 : Int) == (1 : Int)) = false → (d = true → (((c.fdiv (32768 : Int)).tmod (2 : Int) == (1 : Int)) = true →
      True ∧ mkM z S [MB.f A, MB.f B, MB.f C, MB.f D, MB.o u9 (66 : Nat)] (0 : Nat) = mkM z S [MB.f A, MB.f B, MB.f C, MB.f D, MB.o u9 (66 : Nat)] (0 : Nat) ∧ IntKind.i64.wrap
      ((IntKind.u16.wrap ((z.n (400005 : Nat)).tdiv (256 : Int))).tmod (64 : Int)) = shF (z.n (400000 : Nat)) (z.n (400001 : Nat)) (z.n (400002 : Nat)) (z.n (400003 : Nat)) (z.n
      (400004 : Nat)) (z.n (400005 : Nat)) c x l d) ∧ (((c.fdiv (32768 : Int)).tmod (2 : Int) == (1 : Int)) = false → True ∧ mkM z S [MB.f A, MB.f B, MB.f C, MB.f D, MB.o u9 (66
      : Nat)] (0 : Nat) = mkM z S [MB.f A, MB.f B, MB.f C, MB.f D, MB.o u9 (66 : Nat)] (0 : Nat) ∧ IntKind.i64.wrap ((z.n (400005 : Nat)).tmod (64 : Int)) = shF (z.n (400000 :
      Nat)) (z.n (400001 : Nat)) (z.n (400002 : Nat)) (z.n (400003 : Nat)) (z.n (400004 : Nat)) (z.n (400005 : Nat)) c x l d)) ∧ (d = false → True ∧ mkM z S [MB.f A, MB.f B,
      MB.f C, MB.f D, MB.o u9 (66 : Nat)] (0 : Nat) = mkM z S [MB.f A, MB.f B, MB.f C, MB.f D, MB.o u9 (66 : Nat)] (0 : Nat) ∧ IntKind.i64.wrap ((z.n (400005 : Nat)).tmod (64 :
      Int)) = shF (z.n (400000 : Nat)) (z.n (400001 : Nat)) (z.n (400002 : Nat)) (z.n (400003 : Nat)) (z.n (400004 : Nat)) (z.n (400005 : Nat)) c x l d)))) ∧ (wF (z.n (400000 :
      Nat)) x = false → (((c.fdiv (16384 : Int)).tmod (2 : Int) == (1 : Int)) = true → u16b (z.n (400001 : Nat)) = true ∧ (wF (z.n (400001 : Nat)) x = true → u16b (z.n (400003 :
      Nat)) = true ∧ (wF (z.n (400003 : Nat)) l = true → True ∧ mkM z S [MB.f A, MB.f B, MB.f C, MB.f D, MB.o u9 (66 : Nat)] (0 : Nat) = mkM z S [MB.f A, MB.f B, MB.f C, MB.f D,
      MB.o u9 (66 : Nat)] (0 : Nat) ∧ IntKind.i64.wrap (((z.n (400004 : Nat)).fdiv (256 : Int)).tmod (64 : Int)) = shF (z.n (400000 : Nat)) (z.n (400001 : Nat)) (z.n (400002 :
      Nat)) (z.n (400003 : Nat)) (z.n (400004 : Nat)) (z.n (400005 : Nat)) c x l d) ∧ (wF (z.n (400003 : Nat)) l = false → (d = true → (((c.fdiv (32768 : Int)).tmod (2 : Int) ==
      (1 : Int)) = true → True ∧ mkM z S [MB.f A, MB.f B, MB.f C, MB.f D, MB.o u9 (66 : Nat)] (0 : Nat) = mkM z S [MB.f A, MB.f B, MB.f C, MB.f D, MB.o u9 (66 : Nat)] (0 : Nat)
      ∧ IntKind.i64.wrap ((IntKind.u16.wrap ((z.n (400005 : Nat)).tdiv (256 : Int))).tmod (64 : Int)) = shF (z.n (400000 : Nat)) (z.n (400001 : Nat)) (z.n (400002 : Nat)) (z.n
      (400003 : Nat)) (z.n (400004 : Nat)) (z.n (400005 : Nat)) c x l d) ∧ (((c.fdiv (32768 : Int)).tmod (2 : Int) == (1 : Int)) = false → True ∧ mkM z S [MB.f A, MB.f B, MB.f
      C, MB.f D, MB.o u9 (66 : Nat)] (0 : Nat) = mkM z S [MB.f A, MB.f B, MB.f C, MB.f D, MB.o u9 (66 : Nat)] (0 : Nat) ∧ IntKind.i64.wrap ((z.n (400005 : Nat)).tmod (64 : Int))
      = shF (z.n (400000 : Nat)) (z.n (400001 : Nat)) (z.n (400002 : Nat)) (z.n (400003 : Nat)) (z.n (400004 : Nat)) (z.n (400005 : Nat)) c x l d)) ∧ (d = false → True ∧ mkM z S
      [MB.f A, MB.f B, MB.f C, MB.f D, MB.o u9 (66 : Nat)] (0 : Nat) = mkM z S [MB.f A, MB.f B, MB.f C, MB.f D, MB.o u9 (66 : Nat)] (0 : Nat) ∧ IntKind.i64.wrap ((z.n (400005 :
      Nat)).tmod (64 : Int)) = shF (z.n (400000 : Nat)) (z.n (400001 : Nat)) (z.n (400002 : Nat)) (z.n (400003 : Nat)) (z.n (400004 : Nat)) (z.n (400005 : Nat)) c x l d))) ∧ (wF
      (z.n (400001 : Nat)) x = false → (d = true → (((c.fdiv (32768 : Int)).tmod (2 : Int) == (1 : Int)) = true → True ∧ mkM z S [MB.f A, MB.f B, MB.f C, MB.f D, MB.o u9 (66 :
      Nat)] (0 : Nat) = mkM z S [MB.f A, MB.f B, MB.f C, MB.f D, MB.o u9 (66 : Nat)] (0 : Nat) ∧ IntKind.i64.wrap ((IntKind.u16.wrap ((z.n (400005 : Nat)).tdiv (256 :
      Int))).tmod (64 : Int)) = shF (z.n (400000 : Nat)) (z.n (400001 : Nat)) (z.n (400002 : Nat)) (z.n (400003 : Nat)) (z.n (400004 : Nat)) (z.n (400005 : Nat)) c x l d) ∧
      (((c.fdiv (32768 : Int)).tmod (2 : Int) == (1 : Int)) = false → True ∧ mkM z S [MB.f A, MB.f B, MB.f C, MB.f D, MB.o u9 (66 : Nat)] (0 : Nat) = mkM z S [MB.f A, MB.f B,
      MB.f C, MB.f D, MB.o u9 (66 : Nat)] (0 : Nat) ∧ IntKind.i64.wrap ((z.n (400005 : Nat)).tmod (64 : Int)) = shF (z.n (400000 : Nat)) (z.n (400001 : Nat)) (z.n (400002 :
      Nat)) (z.n (400003 : Nat)) (z.n (400004 : Nat)) (z.n (400005 : Nat)) c x l d)) ∧ (d = false → True ∧ mkM z S [MB.f A, MB.f B, MB.f C, MB.f D, MB.o u9 (66 : Nat)] (0 : Nat)
      = mkM z S [MB.f A, MB.f B, MB.f C, MB.f D, MB.o u9 (66 : Nat)] (0 : Nat) ∧ IntKind.i64.wrap ((z.n (400005 : Nat)).tmod (64 : Int)) = shF (z.n (400000 : Nat)) (z.n (400001
      : Nat)) (z.n (400002 : Nat)) (z.n (400003 : Nat)) (z.n (400004 : Nat)) (z.n (400005 : Nat)) c x l d))) ∧ (((c.fdiv (16384 : Int)).tmod (2 : Int) == (1 : Int)) = false → (d
      = true → (((c.fdiv (32768 : Int)).tmod (2 : Int) == (1 : Int)) = true → True ∧ mkM z S [MB.f A, MB.f B, MB.f C, MB.f D, MB.o u9 (66 : Nat)] (0 : Nat) = mkM z S [MB.f A,
      MB.f B, MB.f C, MB.f D, MB.o u9 (66 : Nat)] (0 : Nat) ∧ IntKind.i64.wrap ((IntKind.u16.wrap ((z.n (400005 : Nat)).tdiv (256 : Int))).tmod (64 : Int)) = shF (z.n (400000 :
      Nat)) (z.n (400001 : Nat)) (z.n (400002 : Nat)) (z.n (400003 : Nat)) (z.n (400004 : Nat)) (z.n (400005 : Nat)) c x l d) ∧ (((c.fdiv (32768 : Int)).tmod (2 : Int) == (1 :
      Int)) = false → True ∧ mkM z S [MB.f A, MB.f B, MB.f C, MB.f D, MB.o u9 (66 : Nat)] (0 : Nat) = mkM z S [MB.f A, MB.f B, MB.f C, MB.f D, MB.o u9 (66 : Nat)] (0 : Nat) ∧
      IntKind.i64.wrap ((z.n (400005 : Nat)).tmod (64 : Int)) = shF (z.n (400000 : Nat)) (z.n (400001 : Nat)) (z.n (400002 : Nat)) (z.n (400003 : Nat)) (z.n (400004 : Nat)) (z.n
      (400005 : Nat)) c x l d)) ∧ (d = false → True ∧ mkM z S [MB.f A, MB.f B, MB.f C, MB.f D, MB.o u9 (66 : Nat)] (0 : Nat) = mkM z S [MB.f A, MB.f B, MB.f C, MB.f D, MB.o u9
      (66 : Nat)] (0 : Nat) ∧ IntKind.i64.wrap ((z.n (400005 : Nat)).tmod (64 : Int)) = shF (z.n (400000 : Nat)) (z.n (400001 : Nat)) (z.n (400002 : Nat)) (z.n (400003 : Nat))
      (z.n (400004 : Nat)) (z.n (400005 : Nat)) c x l d)))) ∧ (((c.fdiv (8192 : Int)).tmod (2 : Int) == (1 : Int)) = false → (((c.fdiv (16384 : Int)).tmod (2 : Int) == (1 :
      Int)) = true → u16b (z.n (400001 : Nat)) = true ∧ (wF (z.n (400001 : Nat)) x = true → u16b (z.n (400003 : Nat)) = true ∧ (wF (z.n (400003 : Nat)) l = true → True ∧ mkM z S
      [MB.f A, MB.f B, MB.f C, MB.f D, MB.o u9 (66 : Nat)] (0 : Nat) = mkM z S [MB.f A, MB.f B, MB.f C, MB.f D, MB.o u9 (66 : Nat)] (0 : Nat) ∧ IntKind.i64.wrap (((z.n (400004 :
      Nat)).fdiv (256 : Int)).tmod (64 : Int)) = shF (z.n (400000 : Nat)) (z.n (400001 : Nat)) (z.n (400002 : Nat)) (z.n (400003 : Nat)) (z.n (400004 : Nat)) (z.n (400005 :
      Nat)) c x l d) ∧ (wF (z.n (400003 : Nat)) l = false → (d = true → (((c.fdiv (32768 : Int)).tmod (2 : Int) == (1 : Int)) = true → True ∧ mkM z S [MB.f A, MB.f B, MB.f C,
      MB.f D, MB.o u9 (66 : Nat)] (0 : Nat) = mkM z S [MB.f A, MB.f B, MB.f C, MB.f D, MB.o u9 (66 : Nat)] (0 : Nat) ∧ IntKind.i64.wrap ((IntKind.u16.wrap ((z.n (400005 :
      Nat)).tdiv (256 : Int))).tmod (64 : Int)) = shF (z.n (400000 : Nat)) (z.n (400001 : Nat)) (z.n (400002 : Nat)) (z.n (400003 : Nat)) (z.n (400004 : Nat)) (z.n (400005 :
      Nat)) c x l d) ∧ (((c.fdiv (32768 : Int)).tmod (2 : Int) == (1 : Int)) = false → True ∧ mkM z S [MB.f A, MB.f B, MB.f C, MB.f D, MB.o u9 (66 : Nat)] (0 : Nat) = mkM z S
      [MB.f A, MB.f B, MB.f C, MB.f D, MB.o u9 (66 : Nat)] (0 : Nat) ∧ IntKind.i64.wrap ((z.n (400005 : Nat)).tmod (64 : Int)) = shF (z.n (400000 : Nat)) (z.n (400001 : Nat))
      (z.n (400002 : Nat)) (z.n (400003 : Nat)) (z.n (400004 : Nat)) (z.n (400005 : Nat)) c x l d)) ∧ (d = false → True ∧ mkM z S [MB.f A, MB.f B, MB.f C, MB.f D, MB.o u9 (66 :
      Nat)] (0 : Nat) = mkM z S [MB.f A, MB.f B, MB.f C, MB.f D, MB.o u9 (66 : Nat)] (0 : Nat) ∧ IntKind.i64.wrap ((z.n (400005 : Nat)).tmod (64 : Int)) = shF (z.n (400000 :
      Nat)) (z.n (400001 : Nat)) (z.n (400002 : Nat)) (z.n (400003 : Nat)) (z.n (400004 : Nat)) (z.n (400005 : Nat)) c x l d))) ∧ (wF (z.n (400001 : Nat)) x = false → (d = true
      → (((c.fdiv (32768 : Int)).tmod (2 : Int) == (1 : Int)) = true → True ∧ mkM z S [MB.f A, MB.f B, MB.f C, MB.f D, MB.o u9 (66 : Nat)] (0 : Nat) = mkM z S [MB.f A, MB.f B,
      MB.f C, MB.f D, MB.o u9 (66 : Nat)] (0 : Nat) ∧ IntKind.i64.wrap ((IntKind.u16.wrap ((z.n (400005 : Nat)).tdiv (256 : Int))).tmod (64 : Int)) = shF (z.n (400000 : Nat))
      (z.n (400001 : Nat)) (z.n (400002 : Nat)) (z.n (400003 : Nat)) (z.n (400004 : Nat)) (z.n (400005 : Nat)) c x l d) ∧ (((c.fdiv (32768 : Int)).tmod (2 : Int) == (1 : Int)) =
      false → True ∧ mkM z S [MB.f A, MB.f B, MB.f C, MB.f D, MB.o u9 (66 : Nat)] (0 : Nat) = mkM z S [MB.f A, MB.f B, MB.f C, MB.f D, MB.o u9 (66 : Nat)] (0 : Nat) ∧
      IntKind.i64.wrap ((z.n (400005 : Nat)).tmod (64 : Int)) = shF (z.n (400000 : Nat)) (z.n (400001 : Nat)) (z.n (400002 : Nat)) (z.n (400003 : Nat)) (z.n (400004 : Nat)) (z.n
      (400005 : Nat)) c x l d)) ∧ (d = false → True ∧ mkM z S [MB.f A, MB.f B, MB.f C, MB.f D, MB.o u9 (66 : Nat)] (0 : Nat) = mkM z S [MB.f A, MB.f B, MB.f C, MB.f D, MB.o u9
      (66 : Nat)] (0 : Nat) ∧ IntKind.i64.wrap ((z.n (400005 : Nat)).tmod (64 : Int)) = shF (z.n (400000 : Nat)) (z.n (400001 : Nat)) (z.n (400002 : Nat)) (z.n (400003 : Nat))
      (z.n (400004 : Nat)) (z.n (400005 : Nat)) c x l d))) ∧ (((c.fdiv (16384 : Int)).tmod (2 : Int) == (1 : Int)) = false → (d = true → (((c.fdiv (32768 : Int)).tmod (2 : Int)
      == (1 : Int)) = true → True ∧ mkM z S [MB.f A, MB.f B, MB.f C, MB.f D, MB.o u9 (66 : Nat)] (0 : Nat) = mkM z S [MB.f A, MB.f B, MB.f C, MB.f D, MB.o u9 (66 : Nat)] (0 :
      Nat) ∧ IntKind.i64.wrap ((IntKind.u16.wrap ((z.n (400005 : Nat)).tdiv (256 : Int))).tmod (64 : Int)) = shF (z.n (400000 : Nat)) (z.n (400001 : Nat)) (z.n (400002 : Nat))
      (z.n (400003 : Nat)) (z.n (400004 : Nat)) (z.n (400005 : Nat)) c x l d) ∧ (((c.fdiv (32768 : Int)).tmod (2 : Int) == (1 : Int)) = false → True ∧ mkM z S [MB.f A, MB.f B,
      MB.f C, MB.f D, MB.o u9 (66 : Nat)] (0 : Nat) = mkM z S [MB.f A, MB.f B, MB.f C, MB.f D, MB.o u9 (66 : Nat)] (0 : Nat) ∧ IntKind.i64.wrap ((z.n (400005 : Nat)).tmod (64 :
      Int)) = shF (z.n (400000 : Nat)) (z.n (400001 : Nat)) (z.n (400002 : Nat)) (z.n (400003 : Nat)) (z.n (400004 : Nat)) (z.n (400005 : Nat)) c x l d)) ∧ (d = false → True ∧
      mkM z S [MB.f A, MB.f B, MB.f C, MB.f D, MB.o u9 (66 : Nat)] (0 : Nat) = mkM z S [MB.f A, MB.f B, MB.f C, MB.f D, MB.o u9 (66 : Nat)] (0 : Nat) ∧ IntKind.i64.wrap ((z.n
      (400005 : Nat)).tmod (64 : Int)) = shF (z.n (400000 : Nat)) (z.n (400001 : Nat)) (z.n (400002 : Nat)) (z.n (400003 : Nat)) (z.n (400004 : Nat)) (z.n (400005 : Nat)) c x l
      d))))) := by kernel_rfl
theorem rsh_c (E : World) (A B C D : Bl) (S : SW) (c x l : Int) (d : Bool) (z : PX) (hz : rgM z [.f A, .f B, .f C, .f D, .o u9 66] 0) (hp : (fun _ => 0 ≤ c ∧ c < 65536) z) : HR (pe E) 14 [.c (.p 4 0), .c (.i false .u16 c), .c (.i false .i64 x), .c (.i false .i64 l), .c (.b false d)] [.f A, .f B, .f C, .f D, .o u9 66] S (.c (.i .i64)) (shQ 400000 c x l d) z := by
  refine HR.mk false (by rfl) (by rfl) (fnTree_sound (P := pe E) orcS_ok tab_ok tab_sz mixed 20000 Try.func14 (by decide) [.c (.p 4 0), .c (.i false .u16 c), .c (.i false .i64 x), .c (.i false .i64 l), .c (.b false d)] _) ⟨?_⟩
  rw [rsh_p]
  obtain hz := id hz
  obtain ⟨c0, c1⟩ := hp
  have rr : (0 ≤ z.n 400000 ∧ z.n 400000 ≤ 65535) ∧ (0 ≤ z.n 400001 ∧ z.n 400001 ≤ 65535) ∧ (0 ≤ z.n 400002 ∧ z.n 400002 ≤ 65535) ∧ (0 ≤ z.n 400003 ∧ z.n 400003 ≤ 65535) ∧ (0 ≤ z.n 400004 ∧ z.n 400004 ≤ 65535) ∧ (0 ≤ z.n 400005 ∧ z.n 400005 ≤ 65535) := ⟨hz.1.1, hz.1.2.1, hz.1.2.2.1, hz.1.2.2.2.1, hz.1.2.2.2.2.1, hz.1.2.2.2.2.2.1⟩
  obtain ⟨r0, r1, r2, r3, r4, r5⟩ := rr
  generalize z.n 400000 = v0 at *
  generalize z.n 400001 = v1 at *
  generalize z.n 400002 = v2 at *
  generalize z.n 400003 = v3 at *
  generalize z.n 400004 = v4 at *
  generalize z.n 400005 = v5 at *
  have e7 : (c / 8192 % 8 * 8192 == 0) = decide (c / 8192 % 8 = 0) := by rw [Bool.eq_iff_iff]; simp only [beq_iff_eq, decide_eq_true_eq]; omega
  have e0 : (c / 8192 % 2 != 0) = decide (c / 8192 % 2 = 1) := by rw [Bool.eq_iff_iff]; simp only [bne_iff_ne, ne_eq, decide_eq_true_eq]; omega
  have e1 : (c / 16384 % 2 != 0) = decide (c / 16384 % 2 = 1) := by rw [Bool.eq_iff_iff]; simp only [bne_iff_ne, ne_eq, decide_eq_true_eq]; omega
  have e2 : (c / 32768 % 2 * 32768 != 0) = decide (c / 32768 % 2 = 1) := by rw [Bool.eq_iff_iff]; simp only [bne_iff_ne, ne_eq, decide_eq_true_eq]; omega
  have q0 : (!(c / 8192 % 2 == 1)) = !decide (c / 8192 % 2 = 1) := by rw [Bool.eq_iff_iff]; simp
  have q1 : (!(c / 16384 % 2 == 1)) = !decide (c / 16384 % 2 = 1) := by rw [Bool.eq_iff_iff]; simp
  have q2 : (!(c / 32768 % 2 == 1)) = !decide (c / 32768 % 2 = 1) := by rw [Bool.eq_iff_iff]; simp
  have q3 : (c / 8192 % 2 == 1) = decide (c / 8192 % 2 = 1) := by rw [Bool.eq_iff_iff]; simp
  have q4 : (c / 16384 % 2 == 1) = decide (c / 16384 % 2 = 1) := by rw [Bool.eq_iff_iff]; simp
  have q5 : (c / 32768 % 2 == 1) = decide (c / 32768 % 2 = 1) := by rw [Bool.eq_iff_iff]; simp
  have g8192 : c.fdiv 8192 = c / 8192 := fdiv_lit _ _ (by decide)
  have g16384 : c.fdiv 16384 = c / 16384 := fdiv_lit _ _ (by decide)
  have g32768 : c.fdiv 32768 = c / 32768 := fdiv_lit _ _ (by decide)
  have hw : ∀ v : Int, 0 ≤ v ∧ v ≤ 65535 → IntKind.i64.wrap (v / 256) = v / 256 ∧ IntKind.i64.wrap (v % 256) = v % 256 ∧ v.tmod 64 = v % 64 ∧ (v / 256).tmod 64 = v / 256 % 64 ∧ IntKind.u16.wrap (v.tdiv 256) = v / 256 := fun v hv => ⟨w_id _ (by omega) (by omega), w_id _ (by omega) (by omega), tm _ _ hv.1, tm _ _ (by omega), by rw [td _ _ hv.1, wu16]; omega⟩
  have hv : ∀ v : Int, IntKind.i64.wrap (v % 64) = v % 64 := fun v => w_id _ (by omega) (by omega)
  simp only [b7x c c0 c1, b1x c c0 c1, b1', g256, g1, b8', b6', g8192, g16384, g32768, tm (c / 8192) 2 (by omega), tm (c / 16384) 2 (by omega), tm (c / 32768) 2 (by omega), (hw v0 r0).1, (hw v0 r0).2.1, (hw v1 r1).1, (hw v1 r1).2.1, (hw v2 r2).1, (hw v2 r2).2.1, (hw v3 r3).1, (hw v3 r3).2.1, (hw v4 r4).2.2.1, (hw v4 r4).2.2.2.1, (hw v5 r5).2.2.1, (hw v5 r5).2.2.2.1, (hw v5 r5).2.2.2.2, hv, e7, e0, e1, e2, q0, q1, q2, q3, q4, q5]
  clear e7 e0 e1 e2 q0 q1 q2 q3 q4 q5 hw hv
  have hu0 : u16b v0 = true := by rw [u16b_iff]; omega
  have hu1 : u16b v1 = true := by rw [u16b_iff]; omega
  have hu2 : u16b v2 = true := by rw [u16b_iff]; omega
  have hu3 : u16b v3 = true := by rw [u16b_iff]; omega
  have e8 : decide (c / 8192 % 8 = 0) = (!decide (c / 8192 % 2 = 1) && (!decide (c / 16384 % 2 = 1) && !decide (c / 32768 % 2 = 1))) := by
    rw [Bool.eq_iff_iff]; simp only [decide_eq_true_eq, Bool.and_eq_true, Bool.not_eq_true', decide_eq_false_iff_not]; omega
  simp only [shF, e8, hu0, hu1, hu2, hu3, true_and]
  clear e8 hu0 hu1 hu2 hu3 r0 r1 r2 r3 r4 r5
  generalize decide (c / 8192 % 2 = 1) = b0
  generalize decide (c / 16384 % 2 = 1) = b1
  generalize decide (c / 32768 % 2 = 1) = b2
  generalize wF v0 x = w0
  generalize wF v1 x = w1
  generalize wF v2 l = w2
  generalize wF v3 l = w3
  clear c0 c1
  revert d b0 b1 b2 w0 w1 w2 w3
  intro d b0 b1 b2 w0 w1 w2 w3
  cases d <;> cases b0 <;> cases b1 <;> cases b2 <;> cases w0 <;> cases w1 <;> cases w2 <;> cases w3 <;> simp
noncomputable def orcT1 (E : World) : Orc := fun g vs s => match g, vs, s with
  | 13, [.c (.p 0 0), .c (.i _ .u16 c), .c (.i _ .i64 x), .c (.i _ .i64 l), .c (.b _ d)], R :: S => some (hoTr (pre := fun _ => 0 ≤ c ∧ c < 65536) (fun z => sh_c E S c x l d z) (by rfl) (R :: S))
  | g, vs, s => (orcS E) g vs s
theorem orcT1_ok {E : World} : OrcOK (pe E) (orcT1 E) := by
  intro g vs s t h
  unfold orcT1 at h
  split at h
  · cases h; refine CallTree.args ?_ (hoTr_ok _ _ _ (by first | rfl | (simp only [List.length_cons, List.length_nil, ]; omega)) (by rfl)); simp [simL, SV.sim, C.sim]
  · exact orcS_ok _ _ _ _ h
noncomputable def orcT (E : World) : Orc := fun g vs s => match g, vs, s with
  | 14, [.c (.p 4 0), .c (.i _ .u16 c), .c (.i _ .i64 x), .c (.i _ .i64 l), .c (.b _ d)], A :: B :: C :: D :: R :: S => some (hoTr (pre := fun _ => 0 ≤ c ∧ c < 65536) (fun z => rsh_c E A B C D S c x l d z) (by rfl) (A :: B :: C :: D :: R :: S))
  | g, vs, s => (orcT1 E) g vs s
theorem orcT_ok {E : World} : OrcOK (pe E) (orcT E) := by
  intro g vs s t h
  unfold orcT at h
  split at h
  · cases h; refine CallTree.args ?_ (hoTr_ok _ _ _ (by first | rfl | (simp only [List.length_cons, List.length_nil, ]; omega)) (by rfl)); simp [simL, SV.sim, C.sim]
  · exact orcT1_ok _ _ _ _ h
theorem shows_p (E : World) (x0_0 x0_1 x0_2 x0_3 x0_4 x0_5 x0_6 x0_7 x0_8 c x l : Int) :
    (lawP (fnTree (pe E) (orcT E) (tabL fns) 20000 Try.f4 [.a [.i false .u16 x0_0, .i false .u16 x0_1, .i false .u16 x0_2, .i false .u16 x0_3, .i false .u16 x0_4, .i false .u16 x0_5, .i false .u16 x0_6, .i false .u16 x0_7, .i false .u16 x0_8], .c (.i false .u16 c), .a [.i false .i64 x, .i false .i64 l]] [])) =
    (decide (x0_0 = x0_0) = true ∧ decide (x0_1 = x0_1) = true ∧ decide (x0_2 = x0_2) = true ∧ decide (x0_3 = x0_3) = true ∧ decide (x0_4 = x0_4) = true ∧ decide (x0_5 = x0_5)
      = true ∧ decide (x0_6 = x0_6) = true ∧ decide (x0_7 = x0_7) = true ∧ decide (x0_8 = x0_8) = true ∧ decide (x0_0 = x0_0) = true ∧ decide (x0_1 = x0_1) = true ∧ decide (x0_2
      = x0_2) = true ∧ decide (x0_3 = x0_3) = true ∧ decide (x0_4 = x0_4) = true ∧ decide (x0_5 = x0_5) = true ∧ decide (x0_6 = x0_6) = true ∧ decide (x0_7 = x0_7) = true ∧
      decide (x0_8 = x0_8) = true ∧ decide (x0_0 = x0_0) = true ∧ decide (x0_1 = x0_1) = true ∧ decide (x0_2 = x0_2) = true ∧ decide (x0_3 = x0_3) = true ∧ decide (x0_4 = x0_4)
      = true ∧ decide (x0_5 = x0_5) = true ∧ decide (x0_6 = x0_6) = true ∧ decide (x0_7 = x0_7) = true ∧ decide (x0_8 = x0_8) = true ∧ decide (x0_0 = x0_0) = true ∧ decide (x0_1
      = x0_1) = true ∧ decide (x0_2 = x0_2) = true ∧ decide (x0_3 = x0_3) = true ∧ decide (x0_4 = x0_4) = true ∧ decide (x0_5 = x0_5) = true ∧ decide (x0_6 = x0_6) = true ∧
      decide (x0_7 = x0_7) = true ∧ decide (x0_8 = x0_8) = true ∧ decide (x0_0 = x0_0) = true ∧ decide (x0_1 = x0_1) = true ∧ decide (x0_2 = x0_2) = true ∧ decide (x0_3 = x0_3)
      = true ∧ decide (x0_4 = x0_4) = true ∧ decide (x0_5 = x0_5) = true ∧ decide (x0_6 = x0_6) = true ∧ decide (x0_7 = x0_7) = true ∧ decide (x0_8 = x0_8) = true ∧ decide (x0_0
      = x0_0) = true ∧ decide (x0_1 = x0_1) = true ∧ decide (x0_2 = x0_2) = true ∧ decide (x0_3 = x0_3) = true ∧ decide (x0_4 = x0_4) = true ∧ decide (x0_5 = x0_5) = true ∧
      decide (x0_6 = x0_6) = true ∧ decide (x0_7 = x0_7) = true ∧ decide (x0_8 = x0_8) = true ∧ decide (x0_0 = x0_0) = true ∧ decide (x0_1 = x0_1) = true ∧ decide (x0_2 = x0_2)
      = true ∧ decide (x0_3 = x0_3) = true ∧ decide (x0_4 = x0_4) = true ∧ decide (x0_5 = x0_5) = true ∧ decide (x0_6 = x0_6) = true ∧ decide (x0_7 = x0_7) = true ∧ decide (x0_8
      = x0_8) = true ∧ decide (x0_0 = x0_0) = true ∧ decide (x0_1 = x0_1) = true ∧ decide (x0_2 = x0_2) = true ∧ decide (x0_3 = x0_3) = true ∧ decide (x0_4 = x0_4) = true ∧
      decide (x0_5 = x0_5) = true ∧ decide (x0_6 = x0_6) = true ∧ decide (x0_7 = x0_7) = true ∧ decide (x0_8 = x0_8) = true ∧ decide (x0_0 = x0_0) = true ∧ decide (x0_1 = x0_1)
      = true ∧ decide (x0_2 = x0_2) = true ∧ decide (x0_3 = x0_3) = true ∧ decide (x0_4 = x0_4) = true ∧ decide (x0_5 = x0_5) = true ∧ decide (x0_6 = x0_6) = true ∧ decide (x0_7
      = x0_7) = true ∧ decide (x0_8 = x0_8) = true ∧ (((34 : Nat) = (34 : Nat) ∧ (((0 : Int) ≤ x0_0 ∧ x0_0 ≤ (65535 : Int)) ∧ ((0 : Int) ≤ x0_1 ∧ x0_1 ≤ (65535 : Int)) ∧ ((0 :
      Int) ≤ x0_2 ∧ x0_2 ≤ (65535 : Int)) ∧ ((0 : Int) ≤ x0_3 ∧ x0_3 ≤ (65535 : Int)) ∧ ((0 : Int) ≤ x0_4 ∧ x0_4 ≤ (65535 : Int)) ∧ ((0 : Int) ≤ x0_5 ∧ x0_5 ≤ (65535 : Int)) ∧
      ((0 : Int) ≤ x0_6 ∧ x0_6 ≤ (65535 : Int)) ∧ ((0 : Int) ≤ x0_7 ∧ x0_7 ≤ (65535 : Int)) ∧ ((0 : Int) ≤ x0_8 ∧ x0_8 ≤ (65535 : Int)) ∧ True) ∧ [Bl.mk [C.i false IntKind.i64
      x, C.i false IntKind.i64 l] (48 : Nat), Bl.mk [C.i true IntKind.u16 (0 : Int), C.i true IntKind.u16 (0 : Int), C.i true IntKind.u16 (0 : Int), C.i true IntKind.u16 (0 :
      Int), C.i true IntKind.u16 (0 : Int), C.i true IntKind.u16 (0 : Int), C.i true IntKind.u16 (0 : Int), C.i true IntKind.u16 (0 : Int), C.i true IntKind.u16 (0 : Int), C.i
      true IntKind.u16 (0 : Int), C.i true IntKind.u16 (0 : Int), C.i true IntKind.u16 (0 : Int), C.i true IntKind.u16 (0 : Int), C.i true IntKind.i16 (0 : Int), C.i true
      IntKind.i16 (0 : Int), C.i true IntKind.i16 (0 : Int), C.i true IntKind.i16 (0 : Int), C.i true IntKind.i16 (0 : Int), C.i true IntKind.i16 (0 : Int), C.i true IntKind.i16
      (0 : Int), C.i true IntKind.i16 (0 : Int), C.i true IntKind.i32 (0 : Int), C.i true IntKind.i32 (0 : Int), C.i true IntKind.i32 (0 : Int), C.i true IntKind.i32 (0 : Int),
      C.i true IntKind.u16 (0 : Int), C.x (Value.slice none (0 : Nat) (0 : Nat)), C.x (Value.slice none (0 : Nat) (0 : Nat)), C.x (Value.slice none (0 : Nat) (0 : Nat))] (31 :
      Nat), Bl.mk [C.i true IntKind.u16 (0 : Int), C.i true IntKind.u16 (0 : Int), C.i true IntKind.u16 (0 : Int), C.i true IntKind.u16 (0 : Int), C.i true IntKind.u16 (0 :
      Int), C.i true IntKind.u16 (0 : Int), C.i true IntKind.u16 (0 : Int), C.i true IntKind.u16 (0 : Int), C.i true IntKind.u16 (0 : Int), C.i true IntKind.u16 (0 : Int), C.i
      true IntKind.u16 (0 : Int), C.i true IntKind.u16 (0 : Int), C.i true IntKind.u16 (0 : Int), C.i true IntKind.i16 (0 : Int), C.i true IntKind.i16 (0 : Int), C.i true
      IntKind.i16 (0 : Int), C.i true IntKind.i16 (0 : Int), C.i true IntKind.i16 (0 : Int), C.i true IntKind.i16 (0 : Int), C.i true IntKind.i16 (0 : Int), C.i true IntKind.i16
      (0 : Int), C.i true IntKind.i32 (0 : Int), C.i true IntKind.i32 (0 : Int), C.i true IntKind.i32 (0 : Int), C.i true IntKind.i32 (0 : Int), C.i true IntKind.u16 (0 : Int),
      C.x (Value.slice none (0 : Nat) (0 : Nat)), C.x (Value.slice none (0 : Nat) (0 : Nat)), C.x (Value.slice none (0 : Nat) (0 : Nat))] (65 : Nat), Bl.mk [C.i false
      IntKind.u16 x0_0, C.i false IntKind.u16 x0_1, C.i false IntKind.u16 x0_2, C.i false IntKind.u16 x0_3, C.i false IntKind.u16 x0_4, C.i false IntKind.u16 x0_5, C.i false
      IntKind.u16 x0_6, C.i false IntKind.u16 x0_7, C.i false IntKind.u16 x0_8] (66 : Nat), Bl.mk [ofCell (Value.bool false), ofCell (Value.bool true)] (4 : Nat)] = [Bl.mk [C.i
      false IntKind.i64 x, C.i false IntKind.i64 l] (48 : Nat), Bl.mk [C.i true IntKind.u16 (0 : Int), C.i true IntKind.u16 (0 : Int), C.i true IntKind.u16 (0 : Int), C.i true
      IntKind.u16 (0 : Int), C.i true IntKind.u16 (0 : Int), C.i true IntKind.u16 (0 : Int), C.i true IntKind.u16 (0 : Int), C.i true IntKind.u16 (0 : Int), C.i true IntKind.u16
      (0 : Int), C.i true IntKind.u16 (0 : Int), C.i true IntKind.u16 (0 : Int), C.i true IntKind.u16 (0 : Int), C.i true IntKind.u16 (0 : Int), C.i true IntKind.i16 (0 : Int),
      C.i true IntKind.i16 (0 : Int), C.i true IntKind.i16 (0 : Int), C.i true IntKind.i16 (0 : Int), C.i true IntKind.i16 (0 : Int), C.i true IntKind.i16 (0 : Int), C.i true
      IntKind.i16 (0 : Int), C.i true IntKind.i16 (0 : Int), C.i true IntKind.i32 (0 : Int), C.i true IntKind.i32 (0 : Int), C.i true IntKind.i32 (0 : Int), C.i true IntKind.i32
      (0 : Int), C.i true IntKind.u16 (0 : Int), C.x (Value.slice none (0 : Nat) (0 : Nat)), C.x (Value.slice none (0 : Nat) (0 : Nat)), C.x (Value.slice none (0 : Nat) (0 :
      Nat))] (31 : Nat), Bl.mk [C.i true IntKind.u16 (0 : Int), C.i true IntKind.u16 (0 : Int), C.i true IntKind.u16 (0 : Int), C.i true IntKind.u16 (0 : Int), C.i true
      IntKind.u16 (0 : Int), C.i true IntKind.u16 (0 : Int), C.i true IntKind.u16 (0 : Int), C.i true IntKind.u16 (0 : Int), C.i true IntKind.u16 (0 : Int), C.i true IntKind.u16
      (0 : Int), C.i true IntKind.u16 (0 : Int), C.i true IntKind.u16 (0 : Int), C.i true IntKind.u16 (0 : Int), C.i true IntKind.i16 (0 : Int), C.i true IntKind.i16 (0 : Int),
      C.i true IntKind.i16 (0 : Int), C.i true IntKind.i16 (0 : Int), C.i true IntKind.i16 (0 : Int), C.i true IntKind.i16 (0 : Int), C.i true IntKind.i16 (0 : Int), C.i true
      IntKind.i16 (0 : Int), C.i true IntKind.i32 (0 : Int), C.i true IntKind.i32 (0 : Int), C.i true IntKind.i32 (0 : Int), C.i true IntKind.i32 (0 : Int), C.i true IntKind.u16
      (0 : Int), C.x (Value.slice none (0 : Nat) (0 : Nat)), C.x (Value.slice none (0 : Nat) (0 : Nat)), C.x (Value.slice none (0 : Nat) (0 : Nat))] (65 : Nat), Bl.mk [C.i false
      IntKind.u16 x0_0, C.i false IntKind.u16 x0_1, C.i false IntKind.u16 x0_2, C.i false IntKind.u16 x0_3, C.i false IntKind.u16 x0_4, C.i false IntKind.u16 x0_5, C.i false
      IntKind.u16 x0_6, C.i false IntKind.u16 x0_7, C.i false IntKind.u16 x0_8] (66 : Nat), Bl.mk [ofCell (Value.bool false), ofCell (Value.bool true)] (4 : Nat)]) ∧ (0 : Int) ≤
      c ∧ c < (65536 : Int)) ∧ ∀ (y : PX), True ∧ y.n (90000 : Nat) = shF x0_0 x0_1 x0_2 x0_3 x0_4 x0_5 c x l false → ((Bl.mk [C.i false IntKind.u16 x0_0, C.i false IntKind.u16
      x0_1, C.i false IntKind.u16 x0_2, C.i false IntKind.u16 x0_3, C.i false IntKind.u16 x0_4, C.i false IntKind.u16 x0_5, C.i false IntKind.u16 x0_6, C.i false IntKind.u16
      x0_7, C.i false IntKind.u16 x0_8] (34 : Nat) = Bl.mk [C.i false IntKind.u16 x0_0, C.i false IntKind.u16 x0_1, C.i false IntKind.u16 x0_2, C.i false IntKind.u16 x0_3, C.i
      false IntKind.u16 x0_4, C.i false IntKind.u16 x0_5, C.i false IntKind.u16 x0_6, C.i false IntKind.u16 x0_7, C.i false IntKind.u16 x0_8] (34 : Nat) ∧ Bl.mk [C.i false
      IntKind.i64 x, C.i false IntKind.i64 l] (48 : Nat) = Bl.mk [C.i false IntKind.i64 x, C.i false IntKind.i64 l] (48 : Nat) ∧ Bl.mk [C.i true IntKind.u16 (0 : Int), C.i true
      IntKind.u16 (0 : Int), C.i true IntKind.u16 (0 : Int), C.i true IntKind.u16 (0 : Int), C.i true IntKind.u16 (0 : Int), C.i true IntKind.u16 (0 : Int), C.i true IntKind.u16
      (0 : Int), C.i true IntKind.u16 (0 : Int), C.i true IntKind.u16 (0 : Int), C.i true IntKind.u16 (0 : Int), C.i true IntKind.u16 (0 : Int), C.i true IntKind.u16 (0 : Int),
      C.i true IntKind.u16 (0 : Int), C.i true IntKind.i16 (0 : Int), C.i true IntKind.i16 (0 : Int), C.i true IntKind.i16 (0 : Int), C.i true IntKind.i16 (0 : Int), C.i true
      IntKind.i16 (0 : Int), C.i true IntKind.i16 (0 : Int), C.i true IntKind.i16 (0 : Int), C.i true IntKind.i16 (0 : Int), C.i true IntKind.i32 (0 : Int), C.i true IntKind.i32
      (0 : Int), C.i true IntKind.i32 (0 : Int), C.i true IntKind.i32 (0 : Int), C.i true IntKind.u16 (0 : Int), C.x (Value.slice none (0 : Nat) (0 : Nat)), C.x (Value.slice
      none (0 : Nat) (0 : Nat)), C.x (Value.slice none (0 : Nat) (0 : Nat))] (31 : Nat) = Bl.mk [C.i true IntKind.u16 (0 : Int), C.i true IntKind.u16 (0 : Int), C.i true
      IntKind.u16 (0 : Int), C.i true IntKind.u16 (0 : Int), C.i true IntKind.u16 (0 : Int), C.i true IntKind.u16 (0 : Int), C.i true IntKind.u16 (0 : Int), C.i true IntKind.u16
      (0 : Int), C.i true IntKind.u16 (0 : Int), C.i true IntKind.u16 (0 : Int), C.i true IntKind.u16 (0 : Int), C.i true IntKind.u16 (0 : Int), C.i true IntKind.u16 (0 : Int),
      C.i true IntKind.i16 (0 : Int), C.i true IntKind.i16 (0 : Int), C.i true IntKind.i16 (0 : Int), C.i true IntKind.i16 (0 : Int), C.i true IntKind.i16 (0 : Int), C.i true
      IntKind.i16 (0 : Int), C.i true IntKind.i16 (0 : Int), C.i true IntKind.i16 (0 : Int), C.i true IntKind.i32 (0 : Int), C.i true IntKind.i32 (0 : Int), C.i true IntKind.i32
      (0 : Int), C.i true IntKind.i32 (0 : Int), C.i true IntKind.u16 (0 : Int), C.x (Value.slice none (0 : Nat) (0 : Nat)), C.x (Value.slice none (0 : Nat) (0 : Nat)), C.x
      (Value.slice none (0 : Nat) (0 : Nat))] (31 : Nat) ∧ Bl.mk [C.i true IntKind.u16 (0 : Int), C.i true IntKind.u16 (0 : Int), C.i true IntKind.u16 (0 : Int), C.i true
      IntKind.u16 (0 : Int), C.i true IntKind.u16 (0 : Int), C.i true IntKind.u16 (0 : Int), C.i true IntKind.u16 (0 : Int), C.i true IntKind.u16 (0 : Int), C.i true IntKind.u16
      (0 : Int), C.i true IntKind.u16 (0 : Int), C.i true IntKind.u16 (0 : Int), C.i true IntKind.u16 (0 : Int), C.i true IntKind.u16 (0 : Int), C.i true IntKind.i16 (0 : Int),
      C.i true IntKind.i16 (0 : Int), C.i true IntKind.i16 (0 : Int), C.i true IntKind.i16 (0 : Int), C.i true IntKind.i16 (0 : Int), C.i true IntKind.i16 (0 : Int), C.i true
      IntKind.i16 (0 : Int), C.i true IntKind.i16 (0 : Int), C.i true IntKind.i32 (0 : Int), C.i true IntKind.i32 (0 : Int), C.i true IntKind.i32 (0 : Int), C.i true IntKind.i32
      (0 : Int), C.i true IntKind.u16 (0 : Int), C.x (Value.slice none (0 : Nat) (0 : Nat)), C.x (Value.slice none (0 : Nat) (0 : Nat)), C.x (Value.slice none (0 : Nat) (0 :
      Nat))] (65 : Nat) = Bl.mk [C.i true IntKind.u16 (0 : Int), C.i true IntKind.u16 (0 : Int), C.i true IntKind.u16 (0 : Int), C.i true IntKind.u16 (0 : Int), C.i true
      IntKind.u16 (0 : Int), C.i true IntKind.u16 (0 : Int), C.i true IntKind.u16 (0 : Int), C.i true IntKind.u16 (0 : Int), C.i true IntKind.u16 (0 : Int), C.i true IntKind.u16
      (0 : Int), C.i true IntKind.u16 (0 : Int), C.i true IntKind.u16 (0 : Int), C.i true IntKind.u16 (0 : Int), C.i true IntKind.i16 (0 : Int), C.i true IntKind.i16 (0 : Int),
      C.i true IntKind.i16 (0 : Int), C.i true IntKind.i16 (0 : Int), C.i true IntKind.i16 (0 : Int), C.i true IntKind.i16 (0 : Int), C.i true IntKind.i16 (0 : Int), C.i true
      IntKind.i16 (0 : Int), C.i true IntKind.i32 (0 : Int), C.i true IntKind.i32 (0 : Int), C.i true IntKind.i32 (0 : Int), C.i true IntKind.i32 (0 : Int), C.i true IntKind.u16
      (0 : Int), C.x (Value.slice none (0 : Nat) (0 : Nat)), C.x (Value.slice none (0 : Nat) (0 : Nat)), C.x (Value.slice none (0 : Nat) (0 : Nat))] (65 : Nat) ∧ (66 : Nat) =
      (66 : Nat) ∧ (((0 : Int) ≤ x0_0 ∧ x0_0 ≤ (65535 : Int)) ∧ ((0 : Int) ≤ x0_1 ∧ x0_1 ≤ (65535 : Int)) ∧ ((0 : Int) ≤ x0_2 ∧ x0_2 ≤ (65535 : Int)) ∧ ((0 : Int) ≤ x0_3 ∧ x0_3
      ≤ (65535 : Int)) ∧ ((0 : Int) ≤ x0_4 ∧ x0_4 ≤ (65535 : Int)) ∧ ((0 : Int) ≤ x0_5 ∧ x0_5 ≤ (65535 : Int)) ∧ ((0 : Int) ≤ x0_6 ∧ x0_6 ≤ (65535 : Int)) ∧ ((0 : Int) ≤ x0_7 ∧
      x0_7 ≤ (65535 : Int)) ∧ ((0 : Int) ≤ x0_8 ∧ x0_8 ≤ (65535 : Int)) ∧ True) ∧ [Bl.mk [ofCell (Value.bool false), ofCell (Value.bool true)] (4 : Nat)] = [Bl.mk [ofCell
      (Value.bool false), ofCell (Value.bool true)] (4 : Nat)]) ∧ (0 : Int) ≤ c ∧ c < (65536 : Int)) ∧ ∀ (y_1 : PX), True ∧ y_1.n (90000 : Nat) = shF x0_0 x0_1 x0_2 x0_3 x0_4
      x0_5 c x l false → (y.n (90000 : Nat) != y_1.n (90000 : Nat)) = false ∧ (((34 : Nat) = (34 : Nat) ∧ (((0 : Int) ≤ x0_0 ∧ x0_0 ≤ (65535 : Int)) ∧ ((0 : Int) ≤ x0_1 ∧ x0_1 ≤
      (65535 : Int)) ∧ ((0 : Int) ≤ x0_2 ∧ x0_2 ≤ (65535 : Int)) ∧ ((0 : Int) ≤ x0_3 ∧ x0_3 ≤ (65535 : Int)) ∧ ((0 : Int) ≤ x0_4 ∧ x0_4 ≤ (65535 : Int)) ∧ ((0 : Int) ≤ x0_5 ∧
      x0_5 ≤ (65535 : Int)) ∧ ((0 : Int) ≤ x0_6 ∧ x0_6 ≤ (65535 : Int)) ∧ ((0 : Int) ≤ x0_7 ∧ x0_7 ≤ (65535 : Int)) ∧ ((0 : Int) ≤ x0_8 ∧ x0_8 ≤ (65535 : Int)) ∧ True) ∧ [Bl.mk
      [C.i false IntKind.i64 x, C.i false IntKind.i64 l] (48 : Nat), Bl.mk [C.i true IntKind.u16 (0 : Int), C.i true IntKind.u16 (0 : Int), C.i true IntKind.u16 (0 : Int), C.i
      true IntKind.u16 (0 : Int), C.i true IntKind.u16 (0 : Int), C.i true IntKind.u16 (0 : Int), C.i true IntKind.u16 (0 : Int), C.i true IntKind.u16 (0 : Int), C.i true
      IntKind.u16 (0 : Int), C.i true IntKind.u16 (0 : Int), C.i true IntKind.u16 (0 : Int), C.i true IntKind.u16 (0 : Int), C.i true IntKind.u16 (0 : Int), C.i true IntKind.i16
      (0 : Int), C.i true IntKind.i16 (0 : Int), C.i true IntKind.i16 (0 : Int), C.i true IntKind.i16 (0 : Int), C.i true IntKind.i16 (0 : Int), C.i true IntKind.i16 (0 : Int),
      C.i true IntKind.i16 (0 : Int), C.i true IntKind.i16 (0 : Int), C.i true IntKind.i32 (0 : Int), C.i true IntKind.i32 (0 : Int), C.i true IntKind.i32 (0 : Int), C.i true
      IntKind.i32 (0 : Int), C.i true IntKind.u16 (0 : Int), C.x (Value.slice none (0 : Nat) (0 : Nat)), C.x (Value.slice none (0 : Nat) (0 : Nat)), C.x (Value.slice none (0 :
      Nat) (0 : Nat))] (31 : Nat), Bl.mk [C.i true IntKind.u16 (0 : Int), C.i true IntKind.u16 (0 : Int), C.i true IntKind.u16 (0 : Int), C.i true IntKind.u16 (0 : Int), C.i
      true IntKind.u16 (0 : Int), C.i true IntKind.u16 (0 : Int), C.i true IntKind.u16 (0 : Int), C.i true IntKind.u16 (0 : Int), C.i true IntKind.u16 (0 : Int), C.i true
      IntKind.u16 (0 : Int), C.i true IntKind.u16 (0 : Int), C.i true IntKind.u16 (0 : Int), C.i true IntKind.u16 (0 : Int), C.i true IntKind.i16 (0 : Int), C.i true IntKind.i16
      (0 : Int), C.i true IntKind.i16 (0 : Int), C.i true IntKind.i16 (0 : Int), C.i true IntKind.i16 (0 : Int), C.i true IntKind.i16 (0 : Int), C.i true IntKind.i16 (0 : Int),
      C.i true IntKind.i16 (0 : Int), C.i true IntKind.i32 (0 : Int), C.i true IntKind.i32 (0 : Int), C.i true IntKind.i32 (0 : Int), C.i true IntKind.i32 (0 : Int), C.i true
      IntKind.u16 (0 : Int), C.x (Value.slice none (0 : Nat) (0 : Nat)), C.x (Value.slice none (0 : Nat) (0 : Nat)), C.x (Value.slice none (0 : Nat) (0 : Nat))] (65 : Nat),
      Bl.mk [C.i false IntKind.u16 x0_0, C.i false IntKind.u16 x0_1, C.i false IntKind.u16 x0_2, C.i false IntKind.u16 x0_3, C.i false IntKind.u16 x0_4, C.i false IntKind.u16
      x0_5, C.i false IntKind.u16 x0_6, C.i false IntKind.u16 x0_7, C.i false IntKind.u16 x0_8] (66 : Nat), Bl.mk [ofCell (Value.bool false), ofCell (Value.bool true)] (4 :
      Nat)] = [Bl.mk [C.i false IntKind.i64 x, C.i false IntKind.i64 l] (48 : Nat), Bl.mk [C.i true IntKind.u16 (0 : Int), C.i true IntKind.u16 (0 : Int), C.i true IntKind.u16
      (0 : Int), C.i true IntKind.u16 (0 : Int), C.i true IntKind.u16 (0 : Int), C.i true IntKind.u16 (0 : Int), C.i true IntKind.u16 (0 : Int), C.i true IntKind.u16 (0 : Int),
      C.i true IntKind.u16 (0 : Int), C.i true IntKind.u16 (0 : Int), C.i true IntKind.u16 (0 : Int), C.i true IntKind.u16 (0 : Int), C.i true IntKind.u16 (0 : Int), C.i true
      IntKind.i16 (0 : Int), C.i true IntKind.i16 (0 : Int), C.i true IntKind.i16 (0 : Int), C.i true IntKind.i16 (0 : Int), C.i true IntKind.i16 (0 : Int), C.i true IntKind.i16
      (0 : Int), C.i true IntKind.i16 (0 : Int), C.i true IntKind.i16 (0 : Int), C.i true IntKind.i32 (0 : Int), C.i true IntKind.i32 (0 : Int), C.i true IntKind.i32 (0 : Int),
      C.i true IntKind.i32 (0 : Int), C.i true IntKind.u16 (0 : Int), C.x (Value.slice none (0 : Nat) (0 : Nat)), C.x (Value.slice none (0 : Nat) (0 : Nat)), C.x (Value.slice
      none (0 : Nat) (0 : Nat))] (31 : Nat), Bl.mk [C.i true IntKind.u16 (0 : Int), C.i true IntKind.u16 (0 : Int), C.i true IntKind.u16 (0 : Int), C.i true IntKind.u16 (0 :
      Int), C.i true IntKind.u16 (0 : Int), C.i true IntKind.u16 (0 : Int), C.i true IntKind.u16 (0 : Int), C.i true IntKind.u16 (0 : Int), C.i true IntKind.u16 (0 : Int), C.i
      true IntKind.u16 (0 : Int), C.i true IntKind.u16 (0 : Int), C.i true IntKind.u16 (0 : Int), C.i true IntKind.u16 (0 : Int), C.i true IntKind.i16 (0 : Int), C.i true
      IntKind.i16 (0 : Int), C.i true IntKind.i16 (0 : Int), C.i true IntKind.i16 (0 : Int), C.i true IntKind.i16 (0 : Int), C.i true IntKind.i16 (0 : Int), C.i true IntKind.i16
      (0 : Int), C.i true IntKind.i16 (0 : Int), C.i true IntKind.i32 (0 : Int), C.i true IntKind.i32 (0 : Int), C.i true IntKind.i32 (0 : Int), C.i true IntKind.i32 (0 : Int),
      C.i true IntKind.u16 (0 : Int), C.x (Value.slice none (0 : Nat) (0 : Nat)), C.x (Value.slice none (0 : Nat) (0 : Nat)), C.x (Value.slice none (0 : Nat) (0 : Nat))] (65 :
      Nat), Bl.mk [C.i false IntKind.u16 x0_0, C.i false IntKind.u16 x0_1, C.i false IntKind.u16 x0_2, C.i false IntKind.u16 x0_3, C.i false IntKind.u16 x0_4, C.i false
      IntKind.u16 x0_5, C.i false IntKind.u16 x0_6, C.i false IntKind.u16 x0_7, C.i false IntKind.u16 x0_8] (66 : Nat), Bl.mk [ofCell (Value.bool false), ofCell (Value.bool
      true)] (4 : Nat)]) ∧ (0 : Int) ≤ c ∧ c < (65536 : Int)) ∧ ∀ (y : PX), True ∧ y.n (90000 : Nat) = shF x0_0 x0_1 x0_2 x0_3 x0_4 x0_5 c x l true → ((Bl.mk [C.i false
      IntKind.u16 x0_0, C.i false IntKind.u16 x0_1, C.i false IntKind.u16 x0_2, C.i false IntKind.u16 x0_3, C.i false IntKind.u16 x0_4, C.i false IntKind.u16 x0_5, C.i false
      IntKind.u16 x0_6, C.i false IntKind.u16 x0_7, C.i false IntKind.u16 x0_8] (34 : Nat) = Bl.mk [C.i false IntKind.u16 x0_0, C.i false IntKind.u16 x0_1, C.i false IntKind.u16
      x0_2, C.i false IntKind.u16 x0_3, C.i false IntKind.u16 x0_4, C.i false IntKind.u16 x0_5, C.i false IntKind.u16 x0_6, C.i false IntKind.u16 x0_7, C.i false IntKind.u16
      x0_8] (34 : Nat) ∧ Bl.mk [C.i false IntKind.i64 x, C.i false IntKind.i64 l] (48 : Nat) = Bl.mk [C.i false IntKind.i64 x, C.i false IntKind.i64 l] (48 : Nat) ∧ Bl.mk [C.i
      true IntKind.u16 (0 : Int), C.i true IntKind.u16 (0 : Int), C.i true IntKind.u16 (0 : Int), C.i true IntKind.u16 (0 : Int), C.i true IntKind.u16 (0 : Int), C.i true
      IntKind.u16 (0 : Int), C.i true IntKind.u16 (0 : Int), C.i true IntKind.u16 (0 : Int), C.i true IntKind.u16 (0 : Int), C.i true IntKind.u16 (0 : Int), C.i true IntKind.u16
      (0 : Int), C.i true IntKind.u16 (0 : Int), C.i true IntKind.u16 (0 : Int), C.i true IntKind.i16 (0 : Int), C.i true IntKind.i16 (0 : Int), C.i true IntKind.i16 (0 : Int),
      C.i true IntKind.i16 (0 : Int), C.i true IntKind.i16 (0 : Int), C.i true IntKind.i16 (0 : Int), C.i true IntKind.i16 (0 : Int), C.i true IntKind.i16 (0 : Int), C.i true
      IntKind.i32 (0 : Int), C.i true IntKind.i32 (0 : Int), C.i true IntKind.i32 (0 : Int), C.i true IntKind.i32 (0 : Int), C.i true IntKind.u16 (0 : Int), C.x (Value.slice
      none (0 : Nat) (0 : Nat)), C.x (Value.slice none (0 : Nat) (0 : Nat)), C.x (Value.slice none (0 : Nat) (0 : Nat))] (31 : Nat) = Bl.mk [C.i true IntKind.u16 (0 : Int), C.i
      true IntKind.u16 (0 : Int), C.i true IntKind.u16 (0 : Int), C.i true IntKind.u16 (0 : Int), C.i true IntKind.u16 (0 : Int), C.i true IntKind.u16 (0 : Int), C.i true
      IntKind.u16 (0 : Int), C.i true IntKind.u16 (0 : Int), C.i true IntKind.u16 (0 : Int), C.i true IntKind.u16 (0 : Int), C.i true IntKind.u16 (0 : Int), C.i true IntKind.u16
      (0 : Int), C.i true IntKind.u16 (0 : Int), C.i true IntKind.i16 (0 : Int), C.i true IntKind.i16 (0 : Int), C.i true IntKind.i16 (0 : Int), C.i true IntKind.i16 (0 : Int),
      C.i true IntKind.i16 (0 : Int), C.i true IntKind.i16 (0 : Int), C.i true IntKind.i16 (0 : Int), C.i true IntKind.i16 (0 : Int), C.i true IntKind.i32 (0 : Int), C.i true
      IntKind.i32 (0 : Int), C.i true IntKind.i32 (0 : Int), C.i true IntKind.i32 (0 : Int), C.i true IntKind.u16 (0 : Int), C.x (Value.slice none (0 : Nat) (0 : Nat)), C.x
      (Value.slice none (0 : Nat) (0 : Nat)), C.x (Value.slice none (0 : Nat) (0 : Nat))] (31 : Nat) ∧ Bl.mk [C.i true IntKind.u16 (0 : Int), C.i true IntKind.u16 (0 : Int), C.i
      true IntKind.u16 (0 : Int), C.i true IntKind.u16 (0 : Int), C.i true IntKind.u16 (0 : Int), C.i true IntKind.u16 (0 : Int), C.i true IntKind.u16 (0 : Int), C.i true
      IntKind.u16 (0 : Int), C.i true IntKind.u16 (0 : Int), C.i true IntKind.u16 (0 : Int), C.i true IntKind.u16 (0 : Int), C.i true IntKind.u16 (0 : Int), C.i true IntKind.u16
      (0 : Int), C.i true IntKind.i16 (0 : Int), C.i true IntKind.i16 (0 : Int), C.i true IntKind.i16 (0 : Int), C.i true IntKind.i16 (0 : Int), C.i true IntKind.i16 (0 : Int),
      C.i true IntKind.i16 (0 : Int), C.i true IntKind.i16 (0 : Int), C.i true IntKind.i16 (0 : Int), C.i true IntKind.i32 (0 : Int), C.i true IntKind.i32 (0 : Int), C.i true
      IntKind.i32 (0 : Int), C.i true IntKind.i32 (0 : Int), C.i true IntKind.u16 (0 : Int), C.x (Value.slice none (0 : Nat) (0 : Nat)), C.x (Value.slice none (0 : Nat) (0 :
      Nat)), C.x (Value.slice none (0 : Nat) (0 : Nat))] (65 : Nat) = Bl.mk [C.i true IntKind.u16 (0 : Int), C.i true IntKind.u16 (0 : Int), C.i true IntKind.u16 (0 : Int), C.i
      true IntKind.u16 (0 : Int), C.i true IntKind.u16 (0 : Int), C.i true IntKind.u16 (0 : Int), C.i true IntKind.u16 (0 : Int), C.i true IntKind.u16 (0 : Int), C.i true
      IntKind.u16 (0 : Int), C.i true IntKind.u16 (0 : Int), C.i true IntKind.u16 (0 : Int), C.i true IntKind.u16 (0 : Int), C.i true IntKind.u16 (0 : Int), C.i true IntKind.i16
      (0 : Int), C.i true IntKind.i16 (0 : Int), C.i true IntKind.i16 (0 : Int), C.i true IntKind.i16 (0 : Int), C.i true IntKind.i16 (0 : Int), C.i true IntKind.i16 (0 : Int),
      C.i true IntKind.i16 (0 : Int), C.i true IntKind.i16 (0 : Int), C.i true IntKind.i32 (0 : Int), C.i true IntKind.i32 (0 : Int), C.i true IntKind.i32 (0 : Int), C.i true
      IntKind.i32 (0 : Int), C.i true IntKind.u16 (0 : Int), C.x (Value.slice none (0 : Nat) (0 : Nat)), C.x (Value.slice none (0 : Nat) (0 : Nat)), C.x (Value.slice none (0 :
      Nat) (0 : Nat))] (65 : Nat) ∧ (66 : Nat) = (66 : Nat) ∧ (((0 : Int) ≤ x0_0 ∧ x0_0 ≤ (65535 : Int)) ∧ ((0 : Int) ≤ x0_1 ∧ x0_1 ≤ (65535 : Int)) ∧ ((0 : Int) ≤ x0_2 ∧ x0_2 ≤
      (65535 : Int)) ∧ ((0 : Int) ≤ x0_3 ∧ x0_3 ≤ (65535 : Int)) ∧ ((0 : Int) ≤ x0_4 ∧ x0_4 ≤ (65535 : Int)) ∧ ((0 : Int) ≤ x0_5 ∧ x0_5 ≤ (65535 : Int)) ∧ ((0 : Int) ≤ x0_6 ∧
      x0_6 ≤ (65535 : Int)) ∧ ((0 : Int) ≤ x0_7 ∧ x0_7 ≤ (65535 : Int)) ∧ ((0 : Int) ≤ x0_8 ∧ x0_8 ≤ (65535 : Int)) ∧ True) ∧ [Bl.mk [ofCell (Value.bool false), ofCell
      (Value.bool true)] (4 : Nat)] = [Bl.mk [ofCell (Value.bool false), ofCell (Value.bool true)] (4 : Nat)]) ∧ (0 : Int) ≤ c ∧ c < (65536 : Int)) ∧ ∀ (y_2 : PX), True ∧ y_2.n
      (90000 : Nat) = shF x0_0 x0_1 x0_2 x0_3 x0_4 x0_5 c x l true → (y.n (90000 : Nat) != y_2.n (90000 : Nat)) = false ∧ u16b (bits BinOp.and IntKind.u16 c (32767 : Int)) =
      true ∧ u16b (bits BinOp.and IntKind.u16 x0_4 (32767 : Int)) = true ∧ u16b x0_7 = true ∧ (alF (bits BinOp.and IntKind.u16 c (32767 : Int)) (bits BinOp.and IntKind.u16 x0_4
      (32767 : Int)) x0_7 == alF (bits BinOp.and IntKind.u16 c (32767 : Int)) (bits BinOp.and IntKind.u16 x0_4 (32767 : Int)) x0_7) = true ∧ u16b (bits BinOp.and IntKind.u16 c
      (32767 : Int)) = true ∧ u16b x0_8 = true ∧ (brF (bits BinOp.and IntKind.u16 c (32767 : Int)) x0_8 true == brF (bits BinOp.and IntKind.u16 c (32767 : Int)) x0_8 true) =
      true ∧ u16b (bits BinOp.and IntKind.u16 c (32767 : Int)) = true ∧ u16b x0_8 = true ∧ (brF (bits BinOp.and IntKind.u16 c (32767 : Int)) x0_8 false == brF (bits BinOp.and
      IntKind.u16 c (32767 : Int)) x0_8 false) = true ∧ true = true) := by kernel_rfl
theorem shows_l (E : World) (x0_0 x0_1 x0_2 x0_3 x0_4 x0_5 x0_6 x0_7 x0_8 c x l : Int) (h0 : 0 ≤ x0_0 ∧ x0_0 < 65536) (h1 : 0 ≤ x0_1 ∧ x0_1 < 65536) (h2 : 0 ≤ x0_2 ∧ x0_2 < 65536) (h3 : 0 ≤ x0_3 ∧ x0_3 < 65536) (h4 : 0 ≤ x0_4 ∧ x0_4 < 65536) (h5 : 0 ≤ x0_5 ∧ x0_5 < 65536) (h6 : 0 ≤ x0_6 ∧ x0_6 < 65536) (h7 : 0 ≤ x0_7 ∧ x0_7 < 65536) (h8 : 0 ≤ x0_8 ∧ x0_8 < 65536) (hc : 0 ≤ c ∧ c < 65536) : Holds (lawP (fnTree (pe E) (orcT E) (tabL fns) 20000 Try.f4 [.a [.i false .u16 x0_0, .i false .u16 x0_1, .i false .u16 x0_2, .i false .u16 x0_3, .i false .u16 x0_4, .i false .u16 x0_5, .i false .u16 x0_6, .i false .u16 x0_7, .i false .u16 x0_8], .c (.i false .u16 c), .a [.i false .i64 x, .i false .i64 l]] [])) := ⟨by
  rw [shows_p]
  have hm : ∀ x : Int, 0 ≤ bits .and .u16 x 32767 ∧ bits .and .u16 x 32767 < 65536 := fun x => by rw [b15']; omega
  have hu : ∀ x : Int, u16b (bits .and .u16 x 32767) = true := fun x => by rw [u16b_iff]; exact hm x
  have hv : ∀ x : Int, 0 ≤ x ∧ x < 65536 → u16b x = true := fun x h => by rw [u16b_iff]; exact h
  have hv6 := hv _ h6
  have hv7 := hv _ h7
  have hv8 := hv _ h8
  have hr : ∀ x : Int, 0 ≤ x ∧ x < 65536 → 0 ≤ x ∧ x ≤ 65535 := fun x h => ⟨h.1, by omega⟩
  have hr0 := hr _ h0; have hr1 := hr _ h1; have hr2 := hr _ h2; have hr3 := hr _ h3; have hr4 := hr _ h4; have hr5 := hr _ h5; have hr6 := hr _ h6; have hr7 := hr _ h7; have hr8 := hr _ h8
  simp only [eq_self_iff_true, decide_true, true_and, and_true, hu, hv6, hv7, hv8, hr0, hr1, hr2, hr3, hr4, hr5, hr6, hr7, hr8, hc, forall_const, implies_true]
  intro y hy y1 hy1
  refine ⟨by simp [hy, hy1], ?_⟩
  intro y2 hy2 y3 hy3
  simp [hy2, hy3]
⟩
end Go.Proofs.Ytdkegheacceecaa

