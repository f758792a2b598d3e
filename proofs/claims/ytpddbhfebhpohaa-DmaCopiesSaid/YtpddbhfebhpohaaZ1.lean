import Derived.Test.YtpddbhfebhpohaaE
set_option linter.unusedVariables false
set_option linter.unusedSimpArgs false
namespace Go.Proofs.Ytpddbhfebhpohaa
open Go Go.Proofs Go.Proofs.Ytpddbhfebhpohaa.Ev Go.Proofs.Ytpddbhfebhpohaa.Ev.Ho
set_option maxRecDepth 100000
theorem copy_pro (E : World) (n ch : Int) (wd : Bool) (z : PX) :
    (loopP (pe E) Try.f5 (endR ([] : List MB).length [] (.c .b) (fun _ y => y.b 90000 = true) z) (headR ([] : List MB).length Try.f5.ntmps none (copy_hs E n ch wd z)) (run (pe E) (orcA E) (tabL fns) 20000 (2 ^ 200 - 1) [.code (Try.f5.body.getD .skip)] ⟨Try.f5.ntmps, mkFrGo (Tr.mk 12) 0 [.c (.i false .i64 n), .c (.b false wd), .c (.i false .i64 ch)]⟩ (mkM z [] [] 0))) =
    ((((IntKind.i64.wrap (ch.tmod (4 : Int) + (4 : Int))).tmod (4 : Int) == (0 : Int)) = true → (wd = true → ((bits BinOp.and IntKind.u16 (IntKind.u16.wrap (IntKind.i64.wrap
      ((IntKind.i64.wrap (n.tmod (100 : Int) + (100 : Int))).tmod (100 : Int) + (1 : Int)))) (16383 : Int) == (0 : Int)) = true → td1 E = td1 E ∧ (149 : Nat) = (149 : Nat) ∧
      ((((1 : Int) ≤ IntKind.i64.wrap ((IntKind.i64.wrap (n.tmod (100 : Int) + (100 : Int))).tmod (100 : Int) + (1 : Int)) ∧ IntKind.i64.wrap ((IntKind.i64.wrap (n.tmod (100 :
      Int) + (100 : Int))).tmod (100 : Int) + (1 : Int)) ≤ (100 : Int)) ∧ True) ∧ True ∧ True ∧ True ∧ True ∧ True ∧ True ∧ True ∧ (((0 : Int) ≤ (0 : Int) ∧ (0 : Int) ≤ (100 :
      Int)) ∧ True) ∧ True) ∧ ((62 : Nat) = (62 : Nat) ∧ True ∧ (38 : Nat) = (38 : Nat) ∧ True ∧ ([] : SW) = []) ∧ ((0 : Int) = (0 : Int) ∧ IntKind.i64.wrap ((IntKind.i64.wrap
      (n.tmod (100 : Int) + (100 : Int))).tmod (100 : Int) + (1 : Int)) = IntKind.i64.wrap ((IntKind.i64.wrap (n.tmod (100 : Int) + (100 : Int))).tmod (100 : Int) + (1 : Int)) ∧
      wd = true ∧ (33619968 : Int) = (33619968 : Int) ∧ (50462720 : Int) = (50462720 : Int) ∧ (16384 : Int) = IntKind.i64.wrap ((IntKind.i64.wrap (n.tmod (100 : Int) + (100 :
      Int))).tmod (100 : Int) + (1 : Int))) ∧ True) ∧ ((bits BinOp.and IntKind.u16 (IntKind.u16.wrap (IntKind.i64.wrap ((IntKind.i64.wrap (n.tmod (100 : Int) + (100 :
      Int))).tmod (100 : Int) + (1 : Int)))) (16383 : Int) == (0 : Int)) = false → td1 E = td1 E ∧ (149 : Nat) = (149 : Nat) ∧ ((((1 : Int) ≤ IntKind.i64.wrap ((IntKind.i64.wrap
      (n.tmod (100 : Int) + (100 : Int))).tmod (100 : Int) + (1 : Int)) ∧ IntKind.i64.wrap ((IntKind.i64.wrap (n.tmod (100 : Int) + (100 : Int))).tmod (100 : Int) + (1 : Int)) ≤
      (100 : Int)) ∧ True) ∧ True ∧ True ∧ True ∧ True ∧ True ∧ True ∧ True ∧ (((0 : Int) ≤ (0 : Int) ∧ (0 : Int) ≤ (100 : Int)) ∧ True) ∧ True) ∧ ((62 : Nat) = (62 : Nat) ∧
      True ∧ (38 : Nat) = (38 : Nat) ∧ True ∧ ([] : SW) = []) ∧ ((0 : Int) = (0 : Int) ∧ IntKind.i64.wrap ((IntKind.i64.wrap (n.tmod (100 : Int) + (100 : Int))).tmod (100 : Int)
      + (1 : Int)) = IntKind.i64.wrap ((IntKind.i64.wrap (n.tmod (100 : Int) + (100 : Int))).tmod (100 : Int) + (1 : Int)) ∧ wd = true ∧ (33619968 : Int) = (33619968 : Int) ∧
      (50462720 : Int) = (50462720 : Int) ∧ IntKind.i64.wrap (bits BinOp.and IntKind.u16 (IntKind.u16.wrap (IntKind.i64.wrap ((IntKind.i64.wrap (n.tmod (100 : Int) + (100 :
      Int))).tmod (100 : Int) + (1 : Int)))) (16383 : Int)) = IntKind.i64.wrap ((IntKind.i64.wrap (n.tmod (100 : Int) + (100 : Int))).tmod (100 : Int) + (1 : Int))) ∧ True)) ∧
      (wd = false → ((bits BinOp.and IntKind.u16 (IntKind.u16.wrap (IntKind.i64.wrap ((IntKind.i64.wrap (n.tmod (100 : Int) + (100 : Int))).tmod (100 : Int) + (1 : Int))))
      (16383 : Int) == (0 : Int)) = true → td1 E = td1 E ∧ (149 : Nat) = (149 : Nat) ∧ ((((1 : Int) ≤ IntKind.i64.wrap ((IntKind.i64.wrap (n.tmod (100 : Int) + (100 :
      Int))).tmod (100 : Int) + (1 : Int)) ∧ IntKind.i64.wrap ((IntKind.i64.wrap (n.tmod (100 : Int) + (100 : Int))).tmod (100 : Int) + (1 : Int)) ≤ (100 : Int)) ∧ True) ∧ True
      ∧ True ∧ True ∧ True ∧ True ∧ True ∧ True ∧ (((0 : Int) ≤ (0 : Int) ∧ (0 : Int) ≤ (100 : Int)) ∧ True) ∧ True) ∧ ((62 : Nat) = (62 : Nat) ∧ True ∧ (38 : Nat) = (38 : Nat)
      ∧ True ∧ ([] : SW) = []) ∧ ((0 : Int) = (0 : Int) ∧ IntKind.i64.wrap ((IntKind.i64.wrap (n.tmod (100 : Int) + (100 : Int))).tmod (100 : Int) + (1 : Int)) =
      IntKind.i64.wrap ((IntKind.i64.wrap (n.tmod (100 : Int) + (100 : Int))).tmod (100 : Int) + (1 : Int)) ∧ wd = false ∧ (33619968 : Int) = (33619968 : Int) ∧ (50462720 : Int)
      = (50462720 : Int) ∧ (16384 : Int) = IntKind.i64.wrap ((IntKind.i64.wrap (n.tmod (100 : Int) + (100 : Int))).tmod (100 : Int) + (1 : Int))) ∧ True) ∧ ((bits BinOp.and
      IntKind.u16 (IntKind.u16.wrap (IntKind.i64.wrap ((IntKind.i64.wrap (n.tmod (100 : Int) + (100 : Int))).tmod (100 : Int) + (1 : Int)))) (16383 : Int) == (0 : Int)) = false
      → td1 E = td1 E ∧ (149 : Nat) = (149 : Nat) ∧ ((((1 : Int) ≤ IntKind.i64.wrap ((IntKind.i64.wrap (n.tmod (100 : Int) + (100 : Int))).tmod (100 : Int) + (1 : Int)) ∧
      IntKind.i64.wrap ((IntKind.i64.wrap (n.tmod (100 : Int) + (100 : Int))).tmod (100 : Int) + (1 : Int)) ≤ (100 : Int)) ∧ True) ∧ True ∧ True ∧ True ∧ True ∧ True ∧ True ∧
      True ∧ (((0 : Int) ≤ (0 : Int) ∧ (0 : Int) ≤ (100 : Int)) ∧ True) ∧ True) ∧ ((62 : Nat) = (62 : Nat) ∧ True ∧ (38 : Nat) = (38 : Nat) ∧ True ∧ ([] : SW) = []) ∧ ((0 : Int)
      = (0 : Int) ∧ IntKind.i64.wrap ((IntKind.i64.wrap (n.tmod (100 : Int) + (100 : Int))).tmod (100 : Int) + (1 : Int)) = IntKind.i64.wrap ((IntKind.i64.wrap (n.tmod (100 :
      Int) + (100 : Int))).tmod (100 : Int) + (1 : Int)) ∧ wd = false ∧ (33619968 : Int) = (33619968 : Int) ∧ (50462720 : Int) = (50462720 : Int) ∧ IntKind.i64.wrap (bits
      BinOp.and IntKind.u16 (IntKind.u16.wrap (IntKind.i64.wrap ((IntKind.i64.wrap (n.tmod (100 : Int) + (100 : Int))).tmod (100 : Int) + (1 : Int)))) (16383 : Int)) =
      IntKind.i64.wrap ((IntKind.i64.wrap (n.tmod (100 : Int) + (100 : Int))).tmod (100 : Int) + (1 : Int))) ∧ True))) ∧ (((IntKind.i64.wrap (ch.tmod (4 : Int) + (4 :
      Int))).tmod (4 : Int) == (0 : Int)) = false → (((IntKind.i64.wrap (ch.tmod (4 : Int) + (4 : Int))).tmod (4 : Int) == (1 : Int)) = true → (wd = true → ((bits BinOp.and
      IntKind.u16 (IntKind.u16.wrap (IntKind.i64.wrap ((IntKind.i64.wrap (n.tmod (100 : Int) + (100 : Int))).tmod (100 : Int) + (1 : Int)))) (16383 : Int) == (0 : Int)) = true →
      td1 E = td1 E ∧ (149 : Nat) = (149 : Nat) ∧ ((((1 : Int) ≤ IntKind.i64.wrap ((IntKind.i64.wrap (n.tmod (100 : Int) + (100 : Int))).tmod (100 : Int) + (1 : Int)) ∧
      IntKind.i64.wrap ((IntKind.i64.wrap (n.tmod (100 : Int) + (100 : Int))).tmod (100 : Int) + (1 : Int)) ≤ (100 : Int)) ∧ True) ∧ True ∧ True ∧ True ∧ True ∧ True ∧ True ∧
      True ∧ (((0 : Int) ≤ (0 : Int) ∧ (0 : Int) ≤ (100 : Int)) ∧ True) ∧ True) ∧ ((62 : Nat) = (62 : Nat) ∧ True ∧ (38 : Nat) = (38 : Nat) ∧ True ∧ ([] : SW) = []) ∧ ((0 : Int)
      = (0 : Int) ∧ IntKind.i64.wrap ((IntKind.i64.wrap (n.tmod (100 : Int) + (100 : Int))).tmod (100 : Int) + (1 : Int)) = IntKind.i64.wrap ((IntKind.i64.wrap (n.tmod (100 :
      Int) + (100 : Int))).tmod (100 : Int) + (1 : Int)) ∧ wd = true ∧ (33619968 : Int) = (33619968 : Int) ∧ (50462720 : Int) = (50462720 : Int) ∧ (16384 : Int) =
      IntKind.i64.wrap ((IntKind.i64.wrap (n.tmod (100 : Int) + (100 : Int))).tmod (100 : Int) + (1 : Int))) ∧ True) ∧ ((bits BinOp.and IntKind.u16 (IntKind.u16.wrap
      (IntKind.i64.wrap ((IntKind.i64.wrap (n.tmod (100 : Int) + (100 : Int))).tmod (100 : Int) + (1 : Int)))) (16383 : Int) == (0 : Int)) = false → td1 E = td1 E ∧ (149 : Nat)
      = (149 : Nat) ∧ ((((1 : Int) ≤ IntKind.i64.wrap ((IntKind.i64.wrap (n.tmod (100 : Int) + (100 : Int))).tmod (100 : Int) + (1 : Int)) ∧ IntKind.i64.wrap ((IntKind.i64.wrap
      (n.tmod (100 : Int) + (100 : Int))).tmod (100 : Int) + (1 : Int)) ≤ (100 : Int)) ∧ True) ∧ True ∧ True ∧ True ∧ True ∧ True ∧ True ∧ True ∧ (((0 : Int) ≤ (0 : Int) ∧ (0 :
      Int) ≤ (100 : Int)) ∧ True) ∧ True) ∧ ((62 : Nat) = (62 : Nat) ∧ True ∧ (38 : Nat) = (38 : Nat) ∧ True ∧ ([] : SW) = []) ∧ ((0 : Int) = (0 : Int) ∧ IntKind.i64.wrap
      ((IntKind.i64.wrap (n.tmod (100 : Int) + (100 : Int))).tmod (100 : Int) + (1 : Int)) = IntKind.i64.wrap ((IntKind.i64.wrap (n.tmod (100 : Int) + (100 : Int))).tmod (100 :
      Int) + (1 : Int)) ∧ wd = true ∧ (33619968 : Int) = (33619968 : Int) ∧ (50462720 : Int) = (50462720 : Int) ∧ IntKind.i64.wrap (bits BinOp.and IntKind.u16 (IntKind.u16.wrap
      (IntKind.i64.wrap ((IntKind.i64.wrap (n.tmod (100 : Int) + (100 : Int))).tmod (100 : Int) + (1 : Int)))) (16383 : Int)) = IntKind.i64.wrap ((IntKind.i64.wrap (n.tmod (100
      : Int) + (100 : Int))).tmod (100 : Int) + (1 : Int))) ∧ True)) ∧ (wd = false → ((bits BinOp.and IntKind.u16 (IntKind.u16.wrap (IntKind.i64.wrap ((IntKind.i64.wrap (n.tmod
      (100 : Int) + (100 : Int))).tmod (100 : Int) + (1 : Int)))) (16383 : Int) == (0 : Int)) = true → td1 E = td1 E ∧ (149 : Nat) = (149 : Nat) ∧ ((((1 : Int) ≤
      IntKind.i64.wrap ((IntKind.i64.wrap (n.tmod (100 : Int) + (100 : Int))).tmod (100 : Int) + (1 : Int)) ∧ IntKind.i64.wrap ((IntKind.i64.wrap (n.tmod (100 : Int) + (100 :
      Int))).tmod (100 : Int) + (1 : Int)) ≤ (100 : Int)) ∧ True) ∧ True ∧ True ∧ True ∧ True ∧ True ∧ True ∧ True ∧ (((0 : Int) ≤ (0 : Int) ∧ (0 : Int) ≤ (100 : Int)) ∧ True) ∧
      True) ∧ ((62 : Nat) = (62 : Nat) ∧ True ∧ (38 : Nat) = (38 : Nat) ∧ True ∧ ([] : SW) = []) ∧ ((0 : Int) = (0 : Int) ∧ IntKind.i64.wrap ((IntKind.i64.wrap (n.tmod (100 :
      Int) + (100 : Int))).tmod (100 : Int) + (1 : Int)) = IntKind.i64.wrap ((IntKind.i64.wrap (n.tmod (100 : Int) + (100 : Int))).tmod (100 : Int) + (1 : Int)) ∧ wd = false ∧
      (33619968 : Int) = (33619968 : Int) ∧ (50462720 : Int) = (50462720 : Int) ∧ (16384 : Int) = IntKind.i64.wrap ((IntKind.i64.wrap (n.tmod (100 : Int) + (100 : Int))).tmod
      (100 : Int) + (1 : Int))) ∧ True) ∧ ((bits BinOp.and IntKind.u16 (IntKind.u16.wrap (IntKind.i64.wrap ((IntKind.i64.wrap (n.tmod (100 : Int) + (100 : Int))).tmod (100 :
      Int) + (1 : Int)))) (16383 : Int) == (0 : Int)) = false → td1 E = td1 E ∧ (149 : Nat) = (149 : Nat) ∧ ((((1 : Int) ≤ IntKind.i64.wrap ((IntKind.i64.wrap (n.tmod (100 :
      Int) + (100 : Int))).tmod (100 : Int) + (1 : Int)) ∧ IntKind.i64.wrap ((IntKind.i64.wrap (n.tmod (100 : Int) + (100 : Int))).tmod (100 : Int) + (1 : Int)) ≤ (100 : Int)) ∧
      True) ∧ True ∧ True ∧ True ∧ True ∧ True ∧ True ∧ True ∧ (((0 : Int) ≤ (0 : Int) ∧ (0 : Int) ≤ (100 : Int)) ∧ True) ∧ True) ∧ ((62 : Nat) = (62 : Nat) ∧ True ∧ (38 : Nat)
      = (38 : Nat) ∧ True ∧ ([] : SW) = []) ∧ ((0 : Int) = (0 : Int) ∧ IntKind.i64.wrap ((IntKind.i64.wrap (n.tmod (100 : Int) + (100 : Int))).tmod (100 : Int) + (1 : Int)) =
      IntKind.i64.wrap ((IntKind.i64.wrap (n.tmod (100 : Int) + (100 : Int))).tmod (100 : Int) + (1 : Int)) ∧ wd = false ∧ (33619968 : Int) = (33619968 : Int) ∧ (50462720 : Int)
      = (50462720 : Int) ∧ IntKind.i64.wrap (bits BinOp.and IntKind.u16 (IntKind.u16.wrap (IntKind.i64.wrap ((IntKind.i64.wrap (n.tmod (100 : Int) + (100 : Int))).tmod (100 :
      Int) + (1 : Int)))) (16383 : Int)) = IntKind.i64.wrap ((IntKind.i64.wrap (n.tmod (100 : Int) + (100 : Int))).tmod (100 : Int) + (1 : Int))) ∧ True))) ∧ (((IntKind.i64.wrap
      (ch.tmod (4 : Int) + (4 : Int))).tmod (4 : Int) == (1 : Int)) = false → (((IntKind.i64.wrap (ch.tmod (4 : Int) + (4 : Int))).tmod (4 : Int) == (2 : Int)) = true → (wd =
      true → ((bits BinOp.and IntKind.u16 (IntKind.u16.wrap (IntKind.i64.wrap ((IntKind.i64.wrap (n.tmod (100 : Int) + (100 : Int))).tmod (100 : Int) + (1 : Int)))) (16383 :
      Int) == (0 : Int)) = true → td1 E = td1 E ∧ (149 : Nat) = (149 : Nat) ∧ ((((1 : Int) ≤ IntKind.i64.wrap ((IntKind.i64.wrap (n.tmod (100 : Int) + (100 : Int))).tmod (100 :
      Int) + (1 : Int)) ∧ IntKind.i64.wrap ((IntKind.i64.wrap (n.tmod (100 : Int) + (100 : Int))).tmod (100 : Int) + (1 : Int)) ≤ (100 : Int)) ∧ True) ∧ True ∧ True ∧ True ∧
      True ∧ True ∧ True ∧ True ∧ (((0 : Int) ≤ (0 : Int) ∧ (0 : Int) ≤ (100 : Int)) ∧ True) ∧ True) ∧ ((62 : Nat) = (62 : Nat) ∧ True ∧ (38 : Nat) = (38 : Nat) ∧ True ∧ ([] :
      SW) = []) ∧ ((0 : Int) = (0 : Int) ∧ IntKind.i64.wrap ((IntKind.i64.wrap (n.tmod (100 : Int) + (100 : Int))).tmod (100 : Int) + (1 : Int)) = IntKind.i64.wrap
      ((IntKind.i64.wrap (n.tmod (100 : Int) + (100 : Int))).tmod (100 : Int) + (1 : Int)) ∧ wd = true ∧ (33619968 : Int) = (33619968 : Int) ∧ (50462720 : Int) = (50462720 :
      Int) ∧ (16384 : Int) = IntKind.i64.wrap ((IntKind.i64.wrap (n.tmod (100 : Int) + (100 : Int))).tmod (100 : Int) + (1 : Int))) ∧ True) ∧ ((bits BinOp.and IntKind.u16
      (IntKind.u16.wrap (IntKind.i64.wrap ((IntKind.i64.wrap (n.tmod (100 : Int) + (100 : Int))).tmod (100 : Int) + (1 : Int)))) (16383 : Int) == (0 : Int)) = false → td1 E =
      td1 E ∧ (149 : Nat) = (149 : Nat) ∧ ((((1 : Int) ≤ IntKind.i64.wrap ((IntKind.i64.wrap (n.tmod (100 : Int) + (100 : Int))).tmod (100 : Int) + (1 : Int)) ∧ IntKind.i64.wrap
      ((IntKind.i64.wrap (n.tmod (100 : Int) + (100 : Int))).tmod (100 : Int) + (1 : Int)) ≤ (100 : Int)) ∧ True) ∧ True ∧ True ∧ True ∧ True ∧ True ∧ True ∧ True ∧ (((0 : Int)
      ≤ (0 : Int) ∧ (0 : Int) ≤ (100 : Int)) ∧ True) ∧ True) ∧ ((62 : Nat) = (62 : Nat) ∧ True ∧ (38 : Nat) = (38 : Nat) ∧ True ∧ ([] : SW) = []) ∧ ((0 : Int) = (0 : Int) ∧
      IntKind.i64.wrap ((IntKind.i64.wrap (n.tmod (100 : Int) + (100 : Int))).tmod (100 : Int) + (1 : Int)) = IntKind.i64.wrap ((IntKind.i64.wrap (n.tmod (100 : Int) + (100 :
      Int))).tmod (100 : Int) + (1 : Int)) ∧ wd = true ∧ (33619968 : Int) = (33619968 : Int) ∧ (50462720 : Int) = (50462720 : Int) ∧ IntKind.i64.wrap (bits BinOp.and IntKind.u16
      (IntKind.u16.wrap (IntKind.i64.wrap ((IntKind.i64.wrap (n.tmod (100 : Int) + (100 : Int))).tmod (100 : Int) + (1 : Int)))) (16383 : Int)) = IntKind.i64.wrap
      ((IntKind.i64.wrap (n.tmod (100 : Int) + (100 : Int))).tmod (100 : Int) + (1 : Int))) ∧ True)) ∧ (wd = false → ((bits BinOp.and IntKind.u16 (IntKind.u16.wrap
      (IntKind.i64.wrap ((IntKind.i64.wrap (n.tmod (100 : Int) + (100 : Int))).tmod (100 : Int) + (1 : Int)))) (16383 : Int) == (0 : Int)) = true → td1 E = td1 E ∧ (149 : Nat) =
      (149 : Nat) ∧ ((((1 : Int) ≤ IntKind.i64.wrap ((IntKind.i64.wrap (n.tmod (100 : Int) + (100 : Int))).tmod (100 : Int) + (1 : Int)) ∧ IntKind.i64.wrap ((IntKind.i64.wrap
      (n.tmod (100 : Int) + (100 : Int))).tmod (100 : Int) + (1 : Int)) ≤ (100 : Int)) ∧ True) ∧ True ∧ True ∧ True ∧ True ∧ True ∧ True ∧ True ∧ (((0 : Int) ≤ (0 : Int) ∧ (0 :
      Int) ≤ (100 : Int)) ∧ True) ∧ True) ∧ ((62 : Nat) = (62 : Nat) ∧ True ∧ (38 : Nat) = (38 : Nat) ∧ True ∧ ([] : SW) = []) ∧ ((0 : Int) = (0 : Int) ∧ IntKind.i64.wrap
      ((IntKind.i64.wrap (n.tmod (100 : Int) + (100 : Int))).tmod (100 : Int) + (1 : Int)) = IntKind.i64.wrap ((IntKind.i64.wrap (n.tmod (100 : Int) + (100 : Int))).tmod (100 :
      Int) + (1 : Int)) ∧ wd = false ∧ (33619968 : Int) = (33619968 : Int) ∧ (50462720 : Int) = (50462720 : Int) ∧ (16384 : Int) = IntKind.i64.wrap ((IntKind.i64.wrap (n.tmod
      (100 : Int) + (100 : Int))).tmod (100 : Int) + (1 : Int))) ∧ True) ∧ ((bits BinOp.and IntKind.u16 (IntKind.u16.wrap (IntKind.i64.wrap ((IntKind.i64.wrap (n.tmod (100 :
      Int) + (100 : Int))).tmod (100 : Int) + (1 : Int)))) (16383 : Int) == (0 : Int)) = false → td1 E = td1 E ∧ (149 : Nat) = (149 : Nat) ∧ ((((1 : Int) ≤ IntKind.i64.wrap
      ((IntKind.i64.wrap (n.tmod (100 : Int) + (100 : Int))).tmod (100 : Int) + (1 : Int)) ∧ IntKind.i64.wrap ((IntKind.i64.wrap (n.tmod (100 : Int) + (100 : Int))).tmod (100 :
      Int) + (1 : Int)) ≤ (100 : Int)) ∧ True) ∧ True ∧ True ∧ True ∧ True ∧ True ∧ True ∧ True ∧ (((0 : Int) ≤ (0 : Int) ∧ (0 : Int) ≤ (100 : Int)) ∧ True) ∧ True) ∧ ((62 :
      Nat) = (62 : Nat) ∧ True ∧ (38 : Nat) = (38 : Nat) ∧ True ∧ ([] : SW) = []) ∧ ((0 : Int) = (0 : Int) ∧ IntKind.i64.wrap ((IntKind.i64.wrap (n.tmod (100 : Int) + (100 :
      Int))).tmod (100 : Int) + (1 : Int)) = IntKind.i64.wrap ((IntKind.i64.wrap (n.tmod (100 : Int) + (100 : Int))).tmod (100 : Int) + (1 : Int)) ∧ wd = false ∧ (33619968 :
      Int) = (33619968 : Int) ∧ (50462720 : Int) = (50462720 : Int) ∧ IntKind.i64.wrap (bits BinOp.and IntKind.u16 (IntKind.u16.wrap (IntKind.i64.wrap ((IntKind.i64.wrap (n.tmod
      (100 : Int) + (100 : Int))).tmod (100 : Int) + (1 : Int)))) (16383 : Int)) = IntKind.i64.wrap ((IntKind.i64.wrap (n.tmod (100 : Int) + (100 : Int))).tmod (100 : Int) + (1
      : Int))) ∧ True))) ∧ (((IntKind.i64.wrap (ch.tmod (4 : Int) + (4 : Int))).tmod (4 : Int) == (2 : Int)) = false → (((IntKind.i64.wrap (ch.tmod (4 : Int) + (4 : Int))).tmod
      (4 : Int) == (3 : Int)) = true → (wd = true → ((bif IntKind.u16.wrap (IntKind.i64.wrap ((IntKind.i64.wrap (n.tmod (100 : Int) + (100 : Int))).tmod (100 : Int) + (1 :
      Int))) == (0 : Int) then true else false) = true → td1 E = td1 E ∧ (149 : Nat) = (149 : Nat) ∧ ((((1 : Int) ≤ IntKind.i64.wrap ((IntKind.i64.wrap (n.tmod (100 : Int) +
      (100 : Int))).tmod (100 : Int) + (1 : Int)) ∧ IntKind.i64.wrap ((IntKind.i64.wrap (n.tmod (100 : Int) + (100 : Int))).tmod (100 : Int) + (1 : Int)) ≤ (100 : Int)) ∧ True)
      ∧ True ∧ True ∧ True ∧ True ∧ True ∧ True ∧ True ∧ (((0 : Int) ≤ (0 : Int) ∧ (0 : Int) ≤ (100 : Int)) ∧ True) ∧ True) ∧ ((62 : Nat) = (62 : Nat) ∧ True ∧ (38 : Nat) = (38
      : Nat) ∧ True ∧ ([] : SW) = []) ∧ ((0 : Int) = (0 : Int) ∧ IntKind.i64.wrap ((IntKind.i64.wrap (n.tmod (100 : Int) + (100 : Int))).tmod (100 : Int) + (1 : Int)) =
      IntKind.i64.wrap ((IntKind.i64.wrap (n.tmod (100 : Int) + (100 : Int))).tmod (100 : Int) + (1 : Int)) ∧ wd = true ∧ (33619968 : Int) = (33619968 : Int) ∧ (50462720 : Int)
      = (50462720 : Int) ∧ (65536 : Int) = IntKind.i64.wrap ((IntKind.i64.wrap (n.tmod (100 : Int) + (100 : Int))).tmod (100 : Int) + (1 : Int))) ∧ True) ∧ ((bif
      IntKind.u16.wrap (IntKind.i64.wrap ((IntKind.i64.wrap (n.tmod (100 : Int) + (100 : Int))).tmod (100 : Int) + (1 : Int))) == (0 : Int) then true else false) = false →
      ((IntKind.u16.wrap (IntKind.i64.wrap ((IntKind.i64.wrap (n.tmod (100 : Int) + (100 : Int))).tmod (100 : Int) + (1 : Int))) == (0 : Int)) = true → td1 E = td1 E ∧ (149 :
      Nat) = (149 : Nat) ∧ ((((1 : Int) ≤ IntKind.i64.wrap ((IntKind.i64.wrap (n.tmod (100 : Int) + (100 : Int))).tmod (100 : Int) + (1 : Int)) ∧ IntKind.i64.wrap
      ((IntKind.i64.wrap (n.tmod (100 : Int) + (100 : Int))).tmod (100 : Int) + (1 : Int)) ≤ (100 : Int)) ∧ True) ∧ True ∧ True ∧ True ∧ True ∧ True ∧ True ∧ True ∧ (((0 : Int)
      ≤ (0 : Int) ∧ (0 : Int) ≤ (100 : Int)) ∧ True) ∧ True) ∧ ((62 : Nat) = (62 : Nat) ∧ True ∧ (38 : Nat) = (38 : Nat) ∧ True ∧ ([] : SW) = []) ∧ ((0 : Int) = (0 : Int) ∧
      IntKind.i64.wrap ((IntKind.i64.wrap (n.tmod (100 : Int) + (100 : Int))).tmod (100 : Int) + (1 : Int)) = IntKind.i64.wrap ((IntKind.i64.wrap (n.tmod (100 : Int) + (100 :
      Int))).tmod (100 : Int) + (1 : Int)) ∧ wd = true ∧ (33619968 : Int) = (33619968 : Int) ∧ (50462720 : Int) = (50462720 : Int) ∧ (16384 : Int) = IntKind.i64.wrap
      ((IntKind.i64.wrap (n.tmod (100 : Int) + (100 : Int))).tmod (100 : Int) + (1 : Int))) ∧ True) ∧ ((IntKind.u16.wrap (IntKind.i64.wrap ((IntKind.i64.wrap (n.tmod (100 : Int)
      + (100 : Int))).tmod (100 : Int) + (1 : Int))) == (0 : Int)) = false → td1 E = td1 E ∧ (149 : Nat) = (149 : Nat) ∧ ((((1 : Int) ≤ IntKind.i64.wrap ((IntKind.i64.wrap
      (n.tmod (100 : Int) + (100 : Int))).tmod (100 : Int) + (1 : Int)) ∧ IntKind.i64.wrap ((IntKind.i64.wrap (n.tmod (100 : Int) + (100 : Int))).tmod (100 : Int) + (1 : Int)) ≤
      (100 : Int)) ∧ True) ∧ True ∧ True ∧ True ∧ True ∧ True ∧ True ∧ True ∧ (((0 : Int) ≤ (0 : Int) ∧ (0 : Int) ≤ (100 : Int)) ∧ True) ∧ True) ∧ ((62 : Nat) = (62 : Nat) ∧
      True ∧ (38 : Nat) = (38 : Nat) ∧ True ∧ ([] : SW) = []) ∧ ((0 : Int) = (0 : Int) ∧ IntKind.i64.wrap ((IntKind.i64.wrap (n.tmod (100 : Int) + (100 : Int))).tmod (100 : Int)
      + (1 : Int)) = IntKind.i64.wrap ((IntKind.i64.wrap (n.tmod (100 : Int) + (100 : Int))).tmod (100 : Int) + (1 : Int)) ∧ wd = true ∧ (33619968 : Int) = (33619968 : Int) ∧
      (50462720 : Int) = (50462720 : Int) ∧ IntKind.i64.wrap (IntKind.u16.wrap (IntKind.i64.wrap ((IntKind.i64.wrap (n.tmod (100 : Int) + (100 : Int))).tmod (100 : Int) + (1 :
      Int)))) = IntKind.i64.wrap ((IntKind.i64.wrap (n.tmod (100 : Int) + (100 : Int))).tmod (100 : Int) + (1 : Int))) ∧ True))) ∧ (wd = false → ((bif IntKind.u16.wrap
      (IntKind.i64.wrap ((IntKind.i64.wrap (n.tmod (100 : Int) + (100 : Int))).tmod (100 : Int) + (1 : Int))) == (0 : Int) then true else false) = true → td1 E = td1 E ∧ (149 :
      Nat) = (149 : Nat) ∧ ((((1 : Int) ≤ IntKind.i64.wrap ((IntKind.i64.wrap (n.tmod (100 : Int) + (100 : Int))).tmod (100 : Int) + (1 : Int)) ∧ IntKind.i64.wrap
      ((IntKind.i64.wrap (n.tmod (100 : Int) + (100 : Int))).tmod (100 : Int) + (1 : Int)) ≤ (100 : Int)) ∧ True) ∧ True ∧ True ∧ True ∧ True ∧ True ∧ True ∧ True ∧ (((0 : Int)
      ≤ (0 : Int) ∧ (0 : Int) ≤ (100 : Int)) ∧ True) ∧ True) ∧ ((62 : Nat) = (62 : Nat) ∧ True ∧ (38 : Nat) = (38 : Nat) ∧ True ∧ ([] : SW) = []) ∧ ((0 : Int) = (0 : Int) ∧
      IntKind.i64.wrap ((IntKind.i64.wrap (n.tmod (100 : Int) + (100 : Int))).tmod (100 : Int) + (1 : Int)) = IntKind.i64.wrap ((IntKind.i64.wrap (n.tmod (100 : Int) + (100 :
      Int))).tmod (100 : Int) + (1 : Int)) ∧ wd = false ∧ (33619968 : Int) = (33619968 : Int) ∧ (50462720 : Int) = (50462720 : Int) ∧ (65536 : Int) = IntKind.i64.wrap
      ((IntKind.i64.wrap (n.tmod (100 : Int) + (100 : Int))).tmod (100 : Int) + (1 : Int))) ∧ True) ∧ ((bif IntKind.u16.wrap (IntKind.i64.wrap ((IntKind.i64.wrap (n.tmod (100 :
      Int) + (100 : Int))).tmod (100 : Int) + (1 : Int))) == (0 : Int) then true else false) = false → ((IntKind.u16.wrap (IntKind.i64.wrap ((IntKind.i64.wrap (n.tmod (100 :
      Int) + (100 : Int))).tmod (100 : Int) + (1 : Int))) == (0 : Int)) = true → td1 E = td1 E ∧ (149 : Nat) = (149 : Nat) ∧ ((((1 : Int) ≤ IntKind.i64.wrap ((IntKind.i64.wrap
      (n.tmod (100 : Int) + (100 : Int))).tmod (100 : Int) + (1 : Int)) ∧ IntKind.i64.wrap ((IntKind.i64.wrap (n.tmod (100 : Int) + (100 : Int))).tmod (100 : Int) + (1 : Int)) ≤
      (100 : Int)) ∧ True) ∧ True ∧ True ∧ True ∧ True ∧ True ∧ True ∧ True ∧ (((0 : Int) ≤ (0 : Int) ∧ (0 : Int) ≤ (100 : Int)) ∧ True) ∧ True) ∧ ((62 : Nat) = (62 : Nat) ∧
      True ∧ (38 : Nat) = (38 : Nat) ∧ True ∧ ([] : SW) = []) ∧ ((0 : Int) = (0 : Int) ∧ IntKind.i64.wrap ((IntKind.i64.wrap (n.tmod (100 : Int) + (100 : Int))).tmod (100 : Int)
      + (1 : Int)) = IntKind.i64.wrap ((IntKind.i64.wrap (n.tmod (100 : Int) + (100 : Int))).tmod (100 : Int) + (1 : Int)) ∧ wd = false ∧ (33619968 : Int) = (33619968 : Int) ∧
      (50462720 : Int) = (50462720 : Int) ∧ (16384 : Int) = IntKind.i64.wrap ((IntKind.i64.wrap (n.tmod (100 : Int) + (100 : Int))).tmod (100 : Int) + (1 : Int))) ∧ True) ∧
      ((IntKind.u16.wrap (IntKind.i64.wrap ((IntKind.i64.wrap (n.tmod (100 : Int) + (100 : Int))).tmod (100 : Int) + (1 : Int))) == (0 : Int)) = false → td1 E = td1 E ∧ (149 :
      Nat) = (149 : Nat) ∧ ((((1 : Int) ≤ IntKind.i64.wrap ((IntKind.i64.wrap (n.tmod (100 : Int) + (100 : Int))).tmod (100 : Int) + (1 : Int)) ∧ IntKind.i64.wrap
      ((IntKind.i64.wrap (n.tmod (100 : Int) + (100 : Int))).tmod (100 : Int) + (1 : Int)) ≤ (100 : Int)) ∧ True) ∧ True ∧ True ∧ True ∧ True ∧ True ∧ True ∧ True ∧ (((0 : Int)
      ≤ (0 : Int) ∧ (0 : Int) ≤ (100 : Int)) ∧ True) ∧ True) ∧ ((62 : Nat) = (62 : Nat) ∧ True ∧ (38 : Nat) = (38 : Nat) ∧ True ∧ ([] : SW) = []) ∧ ((0 : Int) = (0 : Int) ∧
      IntKind.i64.wrap ((IntKind.i64.wrap (n.tmod (100 : Int) + (100 : Int))).tmod (100 : Int) + (1 : Int)) = IntKind.i64.wrap ((IntKind.i64.wrap (n.tmod (100 : Int) + (100 :
      Int))).tmod (100 : Int) + (1 : Int)) ∧ wd = false ∧ (33619968 : Int) = (33619968 : Int) ∧ (50462720 : Int) = (50462720 : Int) ∧ IntKind.i64.wrap (IntKind.u16.wrap
      (IntKind.i64.wrap ((IntKind.i64.wrap (n.tmod (100 : Int) + (100 : Int))).tmod (100 : Int) + (1 : Int)))) = IntKind.i64.wrap ((IntKind.i64.wrap (n.tmod (100 : Int) + (100 :
      Int))).tmod (100 : Int) + (1 : Int))) ∧ True)))) ∧ (((IntKind.i64.wrap (ch.tmod (4 : Int) + (4 : Int))).tmod (4 : Int) == (3 : Int)) = false → False))))) := by kernel_rfl
theorem pro_t (E : World) (n ch : Int) (wd : Bool) (z : PX) : (loopP (pe E) Try.f5 (endR ([] : List MB).length [] (.c .b) (fun _ y => y.b 90000 = true) z) (headR ([] : List MB).length Try.f5.ntmps none (copy_hs E n ch wd z)) (run (pe E) (orcA E) (tabL fns) 20000 (2 ^ 200 - 1) [.code (Try.f5.body.getD .skip)] ⟨Try.f5.ntmps, mkFrGo (Tr.mk 12) 0 [.c (.i false .i64 n), .c (.b false wd), .c (.i false .i64 ch)]⟩ (mkM z [] [] 0))) := by
  · rw [copy_pro]
    have hC : 0 ≤ (IntKind.i64.wrap (ch.tmod 4 + 4)).tmod 4 ∧ (IntKind.i64.wrap (ch.tmod 4 + 4)).tmod 4 ≤ 3 := by
      have h1 : -3 ≤ ch.tmod 4 ∧ ch.tmod 4 ≤ 3 := by
        have a1 := Int.lt_tmod_of_pos ch (b := 4) (by decide)
        have a2 := Int.tmod_lt_of_pos ch (b := 4) (by decide)
        omega
      have e1 : IntKind.i64.wrap (ch.tmod 4 + 4) = ch.tmod 4 + 4 := by rw [wi64]; omega
      rw [e1, Int.tmod_eq_emod_of_nonneg (by omega)]; omega
    have hM : 1 ≤ IntKind.i64.wrap ((IntKind.i64.wrap (n.tmod 100 + 100)).tmod 100 + 1) ∧ IntKind.i64.wrap ((IntKind.i64.wrap (n.tmod 100 + 100)).tmod 100 + 1) ≤ 100 := by
      have h1 : -99 ≤ n.tmod 100 ∧ n.tmod 100 ≤ 99 := by
        have a1 := Int.lt_tmod_of_pos n (b := 100) (by decide)
        have a2 := Int.tmod_lt_of_pos n (b := 100) (by decide)
        omega
      have e1 : IntKind.i64.wrap (n.tmod 100 + 100) = n.tmod 100 + 100 := by rw [wi64]; omega
      rw [e1, Int.tmod_eq_emod_of_nonneg (by omega), wi64]; omega
    generalize IntKind.i64.wrap ((IntKind.i64.wrap (n.tmod 100 + 100)).tmod 100 + 1) = M at hM
    generalize (IntKind.i64.wrap (ch.tmod 4 + 4)).tmod 4 = C at hC
    have u1 : IntKind.u16.wrap M = M := by rw [wu16]; omega
    have u2 : bits .and .u16 M 16383 = M := by
      rw [show (16383 : Int) = 2 ^ 14 - 1 by decide, and_mask .u16 M 14 (.inl (by decide))]; omega
    have u3 : IntKind.i64.wrap M = M := by rw [wi64]; omega
    have u4 : (M == 0) = false := by simp; omega
    simp only [u1, u2, u3, u4, Bool.false_eq_true, false_implies, true_implies, true_and, and_true, forall_const]
    (repeat' (first | exact trivial | exact rfl | assumption | apply And.intro | intro _))
    all_goals first | omega | (exfalso; simp_all; done) | (exfalso; simp_all; omega)
end Go.Proofs.Ytpddbhfebhpohaa

