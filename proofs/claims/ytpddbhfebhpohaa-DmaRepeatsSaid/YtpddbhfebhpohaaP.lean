import Derived.Test.YtpddbhfebhpohaaK
set_option linter.unusedVariables false
set_option linter.unusedSimpArgs false
namespace Go.Proofs.Ytpddbhfebhpohaa
open Go Go.Proofs Go.Proofs.Ytpddbhfebhpohaa.Ev Go.Proofs.Ytpddbhfebhpohaa.Ev.Ho
set_option maxRecDepth 100000
theorem rep_pro (E : World) (n times how : Int) (z : PX) :
    (loopP (pe E) Try.f7 (endR ([] : List MB).length [] (.c .b) (fun _ y => y.b 90000 = true) z) (headR ([] : List MB).length Try.f7.ntmps none (rep_hs E n times how z)) (run (pe E) (orcA E) (tabL fns) 20000 (2 ^ 200 - 1) [.code (Try.f7.body.getD .skip)] ⟨Try.f7.ntmps, mkFrGo (Tr.mk 12) 0 [.c (.i false .i64 n), .c (.i false .i64 times), .c (.i false .i64 how)]⟩ (mkM z [] [] 0))) =
    (((bits BinOp.and IntKind.i64 how (2 : Int) != (0 : Int)) = true → ((IntKind.i64.wrap (bits BinOp.and IntKind.i64 how (1 : Int) + (1 : Int)) == (0 : Int)) = true → ((bif
      IntKind.u16.wrap (IntKind.i64.wrap ((IntKind.i64.wrap (n.tmod (20 : Int) + (20 : Int))).tmod (20 : Int) + (1 : Int))) == (0 : Int) then true else false) = true → False) ∧
      ((bif IntKind.u16.wrap (IntKind.i64.wrap ((IntKind.i64.wrap (n.tmod (20 : Int) + (20 : Int))).tmod (20 : Int) + (1 : Int))) == (0 : Int) then true else false) = false →
      ((IntKind.u16.wrap (IntKind.i64.wrap ((IntKind.i64.wrap (n.tmod (20 : Int) + (20 : Int))).tmod (20 : Int) + (1 : Int))) == (0 : Int)) = true → False) ∧ ((IntKind.u16.wrap
      (IntKind.i64.wrap ((IntKind.i64.wrap (n.tmod (20 : Int) + (20 : Int))).tmod (20 : Int) + (1 : Int))) == (0 : Int)) = false → False))) ∧ ((IntKind.i64.wrap (bits BinOp.and
      IntKind.i64 how (1 : Int) + (1 : Int)) == (0 : Int)) = false → ((IntKind.i64.wrap (bits BinOp.and IntKind.i64 how (1 : Int) + (1 : Int)) == (1 : Int)) = true → ((bif
      IntKind.u16.wrap (IntKind.i64.wrap ((IntKind.i64.wrap (n.tmod (20 : Int) + (20 : Int))).tmod (20 : Int) + (1 : Int))) == (0 : Int) then true else false) = true → td1 E =
      td1 E ∧ (147 : Nat) = (147 : Nat) ∧ ((((1 : Int) ≤ IntKind.i64.wrap ((IntKind.i64.wrap (n.tmod (20 : Int) + (20 : Int))).tmod (20 : Int) + (1 : Int)) ∧ IntKind.i64.wrap
      ((IntKind.i64.wrap (n.tmod (20 : Int) + (20 : Int))).tmod (20 : Int) + (1 : Int)) ≤ (20 : Int)) ∧ True) ∧ (((1 : Int) ≤ IntKind.i64.wrap ((IntKind.i64.wrap (times.tmod (5
      : Int) + (5 : Int))).tmod (5 : Int) + (1 : Int)) ∧ IntKind.i64.wrap ((IntKind.i64.wrap (times.tmod (5 : Int) + (5 : Int))).tmod (5 : Int) + (1 : Int)) ≤ (5 : Int)) ∧ True)
      ∧ True ∧ True ∧ True ∧ True ∧ True ∧ (((0 : Int) ≤ (0 : Int) ∧ (0 : Int) ≤ (5 : Int)) ∧ True) ∧ True) ∧ ((62 : Nat) = (62 : Nat) ∧ True ∧ (38 : Nat) = (38 : Nat) ∧ True ∧
      ([] : SW) = []) ∧ ((0 : Int) = (0 : Int) ∧ IntKind.i64.wrap ((IntKind.i64.wrap (times.tmod (5 : Int) + (5 : Int))).tmod (5 : Int) + (1 : Int)) = IntKind.i64.wrap
      ((IntKind.i64.wrap (times.tmod (5 : Int) + (5 : Int))).tmod (5 : Int) + (1 : Int)) ∧ IntKind.u16.wrap (IntKind.i64.wrap ((IntKind.i64.wrap (n.tmod (20 : Int) + (20 :
      Int))).tmod (20 : Int) + (1 : Int))) = IntKind.i64.wrap ((IntKind.i64.wrap (n.tmod (20 : Int) + (20 : Int))).tmod (20 : Int) + (1 : Int)) ∧ (33554432 : Int) = (33554432 :
      Int) ∧ (50331648 : Int) = (50331648 : Int) ∧ (65536 : Int) = IntKind.i64.wrap ((IntKind.i64.wrap (n.tmod (20 : Int) + (20 : Int))).tmod (20 : Int) + (1 : Int))) ∧ True) ∧
      ((bif IntKind.u16.wrap (IntKind.i64.wrap ((IntKind.i64.wrap (n.tmod (20 : Int) + (20 : Int))).tmod (20 : Int) + (1 : Int))) == (0 : Int) then true else false) = false →
      ((IntKind.u16.wrap (IntKind.i64.wrap ((IntKind.i64.wrap (n.tmod (20 : Int) + (20 : Int))).tmod (20 : Int) + (1 : Int))) == (0 : Int)) = true → td1 E = td1 E ∧ (147 : Nat)
      = (147 : Nat) ∧ ((((1 : Int) ≤ IntKind.i64.wrap ((IntKind.i64.wrap (n.tmod (20 : Int) + (20 : Int))).tmod (20 : Int) + (1 : Int)) ∧ IntKind.i64.wrap ((IntKind.i64.wrap
      (n.tmod (20 : Int) + (20 : Int))).tmod (20 : Int) + (1 : Int)) ≤ (20 : Int)) ∧ True) ∧ (((1 : Int) ≤ IntKind.i64.wrap ((IntKind.i64.wrap (times.tmod (5 : Int) + (5 :
      Int))).tmod (5 : Int) + (1 : Int)) ∧ IntKind.i64.wrap ((IntKind.i64.wrap (times.tmod (5 : Int) + (5 : Int))).tmod (5 : Int) + (1 : Int)) ≤ (5 : Int)) ∧ True) ∧ True ∧ True
      ∧ True ∧ True ∧ True ∧ (((0 : Int) ≤ (0 : Int) ∧ (0 : Int) ≤ (5 : Int)) ∧ True) ∧ True) ∧ ((62 : Nat) = (62 : Nat) ∧ True ∧ (38 : Nat) = (38 : Nat) ∧ True ∧ ([] : SW) =
      []) ∧ ((0 : Int) = (0 : Int) ∧ IntKind.i64.wrap ((IntKind.i64.wrap (times.tmod (5 : Int) + (5 : Int))).tmod (5 : Int) + (1 : Int)) = IntKind.i64.wrap ((IntKind.i64.wrap
      (times.tmod (5 : Int) + (5 : Int))).tmod (5 : Int) + (1 : Int)) ∧ IntKind.u16.wrap (IntKind.i64.wrap ((IntKind.i64.wrap (n.tmod (20 : Int) + (20 : Int))).tmod (20 : Int) +
      (1 : Int))) = IntKind.i64.wrap ((IntKind.i64.wrap (n.tmod (20 : Int) + (20 : Int))).tmod (20 : Int) + (1 : Int)) ∧ (33554432 : Int) = (33554432 : Int) ∧ (50331648 : Int) =
      (50331648 : Int) ∧ (16384 : Int) = IntKind.i64.wrap ((IntKind.i64.wrap (n.tmod (20 : Int) + (20 : Int))).tmod (20 : Int) + (1 : Int))) ∧ True) ∧ ((IntKind.u16.wrap
      (IntKind.i64.wrap ((IntKind.i64.wrap (n.tmod (20 : Int) + (20 : Int))).tmod (20 : Int) + (1 : Int))) == (0 : Int)) = false → td1 E = td1 E ∧ (147 : Nat) = (147 : Nat) ∧
      ((((1 : Int) ≤ IntKind.i64.wrap ((IntKind.i64.wrap (n.tmod (20 : Int) + (20 : Int))).tmod (20 : Int) + (1 : Int)) ∧ IntKind.i64.wrap ((IntKind.i64.wrap (n.tmod (20 : Int)
      + (20 : Int))).tmod (20 : Int) + (1 : Int)) ≤ (20 : Int)) ∧ True) ∧ (((1 : Int) ≤ IntKind.i64.wrap ((IntKind.i64.wrap (times.tmod (5 : Int) + (5 : Int))).tmod (5 : Int) +
      (1 : Int)) ∧ IntKind.i64.wrap ((IntKind.i64.wrap (times.tmod (5 : Int) + (5 : Int))).tmod (5 : Int) + (1 : Int)) ≤ (5 : Int)) ∧ True) ∧ True ∧ True ∧ True ∧ True ∧ True ∧
      (((0 : Int) ≤ (0 : Int) ∧ (0 : Int) ≤ (5 : Int)) ∧ True) ∧ True) ∧ ((62 : Nat) = (62 : Nat) ∧ True ∧ (38 : Nat) = (38 : Nat) ∧ True ∧ ([] : SW) = []) ∧ ((0 : Int) = (0 :
      Int) ∧ IntKind.i64.wrap ((IntKind.i64.wrap (times.tmod (5 : Int) + (5 : Int))).tmod (5 : Int) + (1 : Int)) = IntKind.i64.wrap ((IntKind.i64.wrap (times.tmod (5 : Int) + (5
      : Int))).tmod (5 : Int) + (1 : Int)) ∧ IntKind.u16.wrap (IntKind.i64.wrap ((IntKind.i64.wrap (n.tmod (20 : Int) + (20 : Int))).tmod (20 : Int) + (1 : Int))) =
      IntKind.i64.wrap ((IntKind.i64.wrap (n.tmod (20 : Int) + (20 : Int))).tmod (20 : Int) + (1 : Int)) ∧ (33554432 : Int) = (33554432 : Int) ∧ (50331648 : Int) = (50331648 :
      Int) ∧ IntKind.i64.wrap (IntKind.u16.wrap (IntKind.i64.wrap ((IntKind.i64.wrap (n.tmod (20 : Int) + (20 : Int))).tmod (20 : Int) + (1 : Int)))) = IntKind.i64.wrap
      ((IntKind.i64.wrap (n.tmod (20 : Int) + (20 : Int))).tmod (20 : Int) + (1 : Int))) ∧ True))) ∧ ((IntKind.i64.wrap (bits BinOp.and IntKind.i64 how (1 : Int) + (1 : Int)) ==
      (1 : Int)) = false → ((IntKind.i64.wrap (bits BinOp.and IntKind.i64 how (1 : Int) + (1 : Int)) == (2 : Int)) = true → ((bif IntKind.u16.wrap (IntKind.i64.wrap
      ((IntKind.i64.wrap (n.tmod (20 : Int) + (20 : Int))).tmod (20 : Int) + (1 : Int))) == (0 : Int) then true else false) = true → td1 E = td1 E ∧ (147 : Nat) = (147 : Nat) ∧
      ((((1 : Int) ≤ IntKind.i64.wrap ((IntKind.i64.wrap (n.tmod (20 : Int) + (20 : Int))).tmod (20 : Int) + (1 : Int)) ∧ IntKind.i64.wrap ((IntKind.i64.wrap (n.tmod (20 : Int)
      + (20 : Int))).tmod (20 : Int) + (1 : Int)) ≤ (20 : Int)) ∧ True) ∧ (((1 : Int) ≤ IntKind.i64.wrap ((IntKind.i64.wrap (times.tmod (5 : Int) + (5 : Int))).tmod (5 : Int) +
      (1 : Int)) ∧ IntKind.i64.wrap ((IntKind.i64.wrap (times.tmod (5 : Int) + (5 : Int))).tmod (5 : Int) + (1 : Int)) ≤ (5 : Int)) ∧ True) ∧ True ∧ True ∧ True ∧ True ∧ True ∧
      (((0 : Int) ≤ (0 : Int) ∧ (0 : Int) ≤ (5 : Int)) ∧ True) ∧ True) ∧ ((62 : Nat) = (62 : Nat) ∧ True ∧ (38 : Nat) = (38 : Nat) ∧ True ∧ ([] : SW) = []) ∧ ((0 : Int) = (0 :
      Int) ∧ IntKind.i64.wrap ((IntKind.i64.wrap (times.tmod (5 : Int) + (5 : Int))).tmod (5 : Int) + (1 : Int)) = IntKind.i64.wrap ((IntKind.i64.wrap (times.tmod (5 : Int) + (5
      : Int))).tmod (5 : Int) + (1 : Int)) ∧ IntKind.u16.wrap (IntKind.i64.wrap ((IntKind.i64.wrap (n.tmod (20 : Int) + (20 : Int))).tmod (20 : Int) + (1 : Int))) =
      IntKind.i64.wrap ((IntKind.i64.wrap (n.tmod (20 : Int) + (20 : Int))).tmod (20 : Int) + (1 : Int)) ∧ (33554432 : Int) = (33554432 : Int) ∧ (50331648 : Int) = (50331648 :
      Int) ∧ (65536 : Int) = IntKind.i64.wrap ((IntKind.i64.wrap (n.tmod (20 : Int) + (20 : Int))).tmod (20 : Int) + (1 : Int))) ∧ True) ∧ ((bif IntKind.u16.wrap
      (IntKind.i64.wrap ((IntKind.i64.wrap (n.tmod (20 : Int) + (20 : Int))).tmod (20 : Int) + (1 : Int))) == (0 : Int) then true else false) = false → ((IntKind.u16.wrap
      (IntKind.i64.wrap ((IntKind.i64.wrap (n.tmod (20 : Int) + (20 : Int))).tmod (20 : Int) + (1 : Int))) == (0 : Int)) = true → td1 E = td1 E ∧ (147 : Nat) = (147 : Nat) ∧
      ((((1 : Int) ≤ IntKind.i64.wrap ((IntKind.i64.wrap (n.tmod (20 : Int) + (20 : Int))).tmod (20 : Int) + (1 : Int)) ∧ IntKind.i64.wrap ((IntKind.i64.wrap (n.tmod (20 : Int)
      + (20 : Int))).tmod (20 : Int) + (1 : Int)) ≤ (20 : Int)) ∧ True) ∧ (((1 : Int) ≤ IntKind.i64.wrap ((IntKind.i64.wrap (times.tmod (5 : Int) + (5 : Int))).tmod (5 : Int) +
      (1 : Int)) ∧ IntKind.i64.wrap ((IntKind.i64.wrap (times.tmod (5 : Int) + (5 : Int))).tmod (5 : Int) + (1 : Int)) ≤ (5 : Int)) ∧ True) ∧ True ∧ True ∧ True ∧ True ∧ True ∧
      (((0 : Int) ≤ (0 : Int) ∧ (0 : Int) ≤ (5 : Int)) ∧ True) ∧ True) ∧ ((62 : Nat) = (62 : Nat) ∧ True ∧ (38 : Nat) = (38 : Nat) ∧ True ∧ ([] : SW) = []) ∧ ((0 : Int) = (0 :
      Int) ∧ IntKind.i64.wrap ((IntKind.i64.wrap (times.tmod (5 : Int) + (5 : Int))).tmod (5 : Int) + (1 : Int)) = IntKind.i64.wrap ((IntKind.i64.wrap (times.tmod (5 : Int) + (5
      : Int))).tmod (5 : Int) + (1 : Int)) ∧ IntKind.u16.wrap (IntKind.i64.wrap ((IntKind.i64.wrap (n.tmod (20 : Int) + (20 : Int))).tmod (20 : Int) + (1 : Int))) =
      IntKind.i64.wrap ((IntKind.i64.wrap (n.tmod (20 : Int) + (20 : Int))).tmod (20 : Int) + (1 : Int)) ∧ (33554432 : Int) = (33554432 : Int) ∧ (50331648 : Int) = (50331648 :
      Int) ∧ (16384 : Int) = IntKind.i64.wrap ((IntKind.i64.wrap (n.tmod (20 : Int) + (20 : Int))).tmod (20 : Int) + (1 : Int))) ∧ True) ∧ ((IntKind.u16.wrap (IntKind.i64.wrap
      ((IntKind.i64.wrap (n.tmod (20 : Int) + (20 : Int))).tmod (20 : Int) + (1 : Int))) == (0 : Int)) = false → td1 E = td1 E ∧ (147 : Nat) = (147 : Nat) ∧ ((((1 : Int) ≤
      IntKind.i64.wrap ((IntKind.i64.wrap (n.tmod (20 : Int) + (20 : Int))).tmod (20 : Int) + (1 : Int)) ∧ IntKind.i64.wrap ((IntKind.i64.wrap (n.tmod (20 : Int) + (20 :
      Int))).tmod (20 : Int) + (1 : Int)) ≤ (20 : Int)) ∧ True) ∧ (((1 : Int) ≤ IntKind.i64.wrap ((IntKind.i64.wrap (times.tmod (5 : Int) + (5 : Int))).tmod (5 : Int) + (1 :
      Int)) ∧ IntKind.i64.wrap ((IntKind.i64.wrap (times.tmod (5 : Int) + (5 : Int))).tmod (5 : Int) + (1 : Int)) ≤ (5 : Int)) ∧ True) ∧ True ∧ True ∧ True ∧ True ∧ True ∧ (((0
      : Int) ≤ (0 : Int) ∧ (0 : Int) ≤ (5 : Int)) ∧ True) ∧ True) ∧ ((62 : Nat) = (62 : Nat) ∧ True ∧ (38 : Nat) = (38 : Nat) ∧ True ∧ ([] : SW) = []) ∧ ((0 : Int) = (0 : Int) ∧
      IntKind.i64.wrap ((IntKind.i64.wrap (times.tmod (5 : Int) + (5 : Int))).tmod (5 : Int) + (1 : Int)) = IntKind.i64.wrap ((IntKind.i64.wrap (times.tmod (5 : Int) + (5 :
      Int))).tmod (5 : Int) + (1 : Int)) ∧ IntKind.u16.wrap (IntKind.i64.wrap ((IntKind.i64.wrap (n.tmod (20 : Int) + (20 : Int))).tmod (20 : Int) + (1 : Int))) =
      IntKind.i64.wrap ((IntKind.i64.wrap (n.tmod (20 : Int) + (20 : Int))).tmod (20 : Int) + (1 : Int)) ∧ (33554432 : Int) = (33554432 : Int) ∧ (50331648 : Int) = (50331648 :
      Int) ∧ IntKind.i64.wrap (IntKind.u16.wrap (IntKind.i64.wrap ((IntKind.i64.wrap (n.tmod (20 : Int) + (20 : Int))).tmod (20 : Int) + (1 : Int)))) = IntKind.i64.wrap
      ((IntKind.i64.wrap (n.tmod (20 : Int) + (20 : Int))).tmod (20 : Int) + (1 : Int))) ∧ True))) ∧ ((IntKind.i64.wrap (bits BinOp.and IntKind.i64 how (1 : Int) + (1 : Int)) ==
      (2 : Int)) = false → False)))) ∧ ((bits BinOp.and IntKind.i64 how (2 : Int) != (0 : Int)) = false → ((IntKind.i64.wrap (bits BinOp.and IntKind.i64 how (1 : Int) + (1 :
      Int)) == (0 : Int)) = true → ((bif IntKind.u16.wrap (IntKind.i64.wrap ((IntKind.i64.wrap (n.tmod (20 : Int) + (20 : Int))).tmod (20 : Int) + (1 : Int))) == (0 : Int) then
      true else false) = true → False) ∧ ((bif IntKind.u16.wrap (IntKind.i64.wrap ((IntKind.i64.wrap (n.tmod (20 : Int) + (20 : Int))).tmod (20 : Int) + (1 : Int))) == (0 : Int)
      then true else false) = false → ((IntKind.u16.wrap (IntKind.i64.wrap ((IntKind.i64.wrap (n.tmod (20 : Int) + (20 : Int))).tmod (20 : Int) + (1 : Int))) == (0 : Int)) =
      true → False) ∧ ((IntKind.u16.wrap (IntKind.i64.wrap ((IntKind.i64.wrap (n.tmod (20 : Int) + (20 : Int))).tmod (20 : Int) + (1 : Int))) == (0 : Int)) = false → False))) ∧
      ((IntKind.i64.wrap (bits BinOp.and IntKind.i64 how (1 : Int) + (1 : Int)) == (0 : Int)) = false → ((IntKind.i64.wrap (bits BinOp.and IntKind.i64 how (1 : Int) + (1 : Int))
      == (1 : Int)) = true → ((bif IntKind.u16.wrap (IntKind.i64.wrap ((IntKind.i64.wrap (n.tmod (20 : Int) + (20 : Int))).tmod (20 : Int) + (1 : Int))) == (0 : Int) then true
      else false) = true → td1 E = td1 E ∧ (147 : Nat) = (147 : Nat) ∧ ((((1 : Int) ≤ IntKind.i64.wrap ((IntKind.i64.wrap (n.tmod (20 : Int) + (20 : Int))).tmod (20 : Int) + (1
      : Int)) ∧ IntKind.i64.wrap ((IntKind.i64.wrap (n.tmod (20 : Int) + (20 : Int))).tmod (20 : Int) + (1 : Int)) ≤ (20 : Int)) ∧ True) ∧ (((1 : Int) ≤ IntKind.i64.wrap
      ((IntKind.i64.wrap (times.tmod (5 : Int) + (5 : Int))).tmod (5 : Int) + (1 : Int)) ∧ IntKind.i64.wrap ((IntKind.i64.wrap (times.tmod (5 : Int) + (5 : Int))).tmod (5 : Int)
      + (1 : Int)) ≤ (5 : Int)) ∧ True) ∧ True ∧ True ∧ True ∧ True ∧ True ∧ (((0 : Int) ≤ (0 : Int) ∧ (0 : Int) ≤ (5 : Int)) ∧ True) ∧ True) ∧ ((62 : Nat) = (62 : Nat) ∧ True ∧
      (38 : Nat) = (38 : Nat) ∧ True ∧ ([] : SW) = []) ∧ ((0 : Int) = (0 : Int) ∧ IntKind.i64.wrap ((IntKind.i64.wrap (times.tmod (5 : Int) + (5 : Int))).tmod (5 : Int) + (1 :
      Int)) = IntKind.i64.wrap ((IntKind.i64.wrap (times.tmod (5 : Int) + (5 : Int))).tmod (5 : Int) + (1 : Int)) ∧ IntKind.u16.wrap (IntKind.i64.wrap ((IntKind.i64.wrap (n.tmod
      (20 : Int) + (20 : Int))).tmod (20 : Int) + (1 : Int))) = IntKind.i64.wrap ((IntKind.i64.wrap (n.tmod (20 : Int) + (20 : Int))).tmod (20 : Int) + (1 : Int)) ∧ (33554432 :
      Int) = (33554432 : Int) ∧ (50331648 : Int) = (50331648 : Int) ∧ (65536 : Int) = IntKind.i64.wrap ((IntKind.i64.wrap (n.tmod (20 : Int) + (20 : Int))).tmod (20 : Int) + (1
      : Int))) ∧ True) ∧ ((bif IntKind.u16.wrap (IntKind.i64.wrap ((IntKind.i64.wrap (n.tmod (20 : Int) + (20 : Int))).tmod (20 : Int) + (1 : Int))) == (0 : Int) then true else
      false) = false → ((IntKind.u16.wrap (IntKind.i64.wrap ((IntKind.i64.wrap (n.tmod (20 : Int) + (20 : Int))).tmod (20 : Int) + (1 : Int))) == (0 : Int)) = true → td1 E = td1
      E ∧ (147 : Nat) = (147 : Nat) ∧ ((((1 : Int) ≤ IntKind.i64.wrap ((IntKind.i64.wrap (n.tmod (20 : Int) + (20 : Int))).tmod (20 : Int) + (1 : Int)) ∧ IntKind.i64.wrap
      ((IntKind.i64.wrap (n.tmod (20 : Int) + (20 : Int))).tmod (20 : Int) + (1 : Int)) ≤ (20 : Int)) ∧ True) ∧ (((1 : Int) ≤ IntKind.i64.wrap ((IntKind.i64.wrap (times.tmod (5
      : Int) + (5 : Int))).tmod (5 : Int) + (1 : Int)) ∧ IntKind.i64.wrap ((IntKind.i64.wrap (times.tmod (5 : Int) + (5 : Int))).tmod (5 : Int) + (1 : Int)) ≤ (5 : Int)) ∧ True)
      ∧ True ∧ True ∧ True ∧ True ∧ True ∧ (((0 : Int) ≤ (0 : Int) ∧ (0 : Int) ≤ (5 : Int)) ∧ True) ∧ True) ∧ ((62 : Nat) = (62 : Nat) ∧ True ∧ (38 : Nat) = (38 : Nat) ∧ True ∧
      ([] : SW) = []) ∧ ((0 : Int) = (0 : Int) ∧ IntKind.i64.wrap ((IntKind.i64.wrap (times.tmod (5 : Int) + (5 : Int))).tmod (5 : Int) + (1 : Int)) = IntKind.i64.wrap
      ((IntKind.i64.wrap (times.tmod (5 : Int) + (5 : Int))).tmod (5 : Int) + (1 : Int)) ∧ IntKind.u16.wrap (IntKind.i64.wrap ((IntKind.i64.wrap (n.tmod (20 : Int) + (20 :
      Int))).tmod (20 : Int) + (1 : Int))) = IntKind.i64.wrap ((IntKind.i64.wrap (n.tmod (20 : Int) + (20 : Int))).tmod (20 : Int) + (1 : Int)) ∧ (33554432 : Int) = (33554432 :
      Int) ∧ (50331648 : Int) = (50331648 : Int) ∧ (16384 : Int) = IntKind.i64.wrap ((IntKind.i64.wrap (n.tmod (20 : Int) + (20 : Int))).tmod (20 : Int) + (1 : Int))) ∧ True) ∧
      ((IntKind.u16.wrap (IntKind.i64.wrap ((IntKind.i64.wrap (n.tmod (20 : Int) + (20 : Int))).tmod (20 : Int) + (1 : Int))) == (0 : Int)) = false → td1 E = td1 E ∧ (147 : Nat)
      = (147 : Nat) ∧ ((((1 : Int) ≤ IntKind.i64.wrap ((IntKind.i64.wrap (n.tmod (20 : Int) + (20 : Int))).tmod (20 : Int) + (1 : Int)) ∧ IntKind.i64.wrap ((IntKind.i64.wrap
      (n.tmod (20 : Int) + (20 : Int))).tmod (20 : Int) + (1 : Int)) ≤ (20 : Int)) ∧ True) ∧ (((1 : Int) ≤ IntKind.i64.wrap ((IntKind.i64.wrap (times.tmod (5 : Int) + (5 :
      Int))).tmod (5 : Int) + (1 : Int)) ∧ IntKind.i64.wrap ((IntKind.i64.wrap (times.tmod (5 : Int) + (5 : Int))).tmod (5 : Int) + (1 : Int)) ≤ (5 : Int)) ∧ True) ∧ True ∧ True
      ∧ True ∧ True ∧ True ∧ (((0 : Int) ≤ (0 : Int) ∧ (0 : Int) ≤ (5 : Int)) ∧ True) ∧ True) ∧ ((62 : Nat) = (62 : Nat) ∧ True ∧ (38 : Nat) = (38 : Nat) ∧ True ∧ ([] : SW) =
      []) ∧ ((0 : Int) = (0 : Int) ∧ IntKind.i64.wrap ((IntKind.i64.wrap (times.tmod (5 : Int) + (5 : Int))).tmod (5 : Int) + (1 : Int)) = IntKind.i64.wrap ((IntKind.i64.wrap
      (times.tmod (5 : Int) + (5 : Int))).tmod (5 : Int) + (1 : Int)) ∧ IntKind.u16.wrap (IntKind.i64.wrap ((IntKind.i64.wrap (n.tmod (20 : Int) + (20 : Int))).tmod (20 : Int) +
      (1 : Int))) = IntKind.i64.wrap ((IntKind.i64.wrap (n.tmod (20 : Int) + (20 : Int))).tmod (20 : Int) + (1 : Int)) ∧ (33554432 : Int) = (33554432 : Int) ∧ (50331648 : Int) =
      (50331648 : Int) ∧ IntKind.i64.wrap (IntKind.u16.wrap (IntKind.i64.wrap ((IntKind.i64.wrap (n.tmod (20 : Int) + (20 : Int))).tmod (20 : Int) + (1 : Int)))) =
      IntKind.i64.wrap ((IntKind.i64.wrap (n.tmod (20 : Int) + (20 : Int))).tmod (20 : Int) + (1 : Int))) ∧ True))) ∧ ((IntKind.i64.wrap (bits BinOp.and IntKind.i64 how (1 :
      Int) + (1 : Int)) == (1 : Int)) = false → ((IntKind.i64.wrap (bits BinOp.and IntKind.i64 how (1 : Int) + (1 : Int)) == (2 : Int)) = true → ((bif IntKind.u16.wrap
      (IntKind.i64.wrap ((IntKind.i64.wrap (n.tmod (20 : Int) + (20 : Int))).tmod (20 : Int) + (1 : Int))) == (0 : Int) then true else false) = true → td1 E = td1 E ∧ (147 :
      Nat) = (147 : Nat) ∧ ((((1 : Int) ≤ IntKind.i64.wrap ((IntKind.i64.wrap (n.tmod (20 : Int) + (20 : Int))).tmod (20 : Int) + (1 : Int)) ∧ IntKind.i64.wrap
      ((IntKind.i64.wrap (n.tmod (20 : Int) + (20 : Int))).tmod (20 : Int) + (1 : Int)) ≤ (20 : Int)) ∧ True) ∧ (((1 : Int) ≤ IntKind.i64.wrap ((IntKind.i64.wrap (times.tmod (5
      : Int) + (5 : Int))).tmod (5 : Int) + (1 : Int)) ∧ IntKind.i64.wrap ((IntKind.i64.wrap (times.tmod (5 : Int) + (5 : Int))).tmod (5 : Int) + (1 : Int)) ≤ (5 : Int)) ∧ True)
      ∧ True ∧ True ∧ True ∧ True ∧ True ∧ (((0 : Int) ≤ (0 : Int) ∧ (0 : Int) ≤ (5 : Int)) ∧ True) ∧ True) ∧ ((62 : Nat) = (62 : Nat) ∧ True ∧ (38 : Nat) = (38 : Nat) ∧ True ∧
      ([] : SW) = []) ∧ ((0 : Int) = (0 : Int) ∧ IntKind.i64.wrap ((IntKind.i64.wrap (times.tmod (5 : Int) + (5 : Int))).tmod (5 : Int) + (1 : Int)) = IntKind.i64.wrap
      ((IntKind.i64.wrap (times.tmod (5 : Int) + (5 : Int))).tmod (5 : Int) + (1 : Int)) ∧ IntKind.u16.wrap (IntKind.i64.wrap ((IntKind.i64.wrap (n.tmod (20 : Int) + (20 :
      Int))).tmod (20 : Int) + (1 : Int))) = IntKind.i64.wrap ((IntKind.i64.wrap (n.tmod (20 : Int) + (20 : Int))).tmod (20 : Int) + (1 : Int)) ∧ (33554432 : Int) = (33554432 :
      Int) ∧ (50331648 : Int) = (50331648 : Int) ∧ (65536 : Int) = IntKind.i64.wrap ((IntKind.i64.wrap (n.tmod (20 : Int) + (20 : Int))).tmod (20 : Int) + (1 : Int))) ∧ True) ∧
      ((bif IntKind.u16.wrap (IntKind.i64.wrap ((IntKind.i64.wrap (n.tmod (20 : Int) + (20 : Int))).tmod (20 : Int) + (1 : Int))) == (0 : Int) then true else false) = false →
      ((IntKind.u16.wrap (IntKind.i64.wrap ((IntKind.i64.wrap (n.tmod (20 : Int) + (20 : Int))).tmod (20 : Int) + (1 : Int))) == (0 : Int)) = true → td1 E = td1 E ∧ (147 : Nat)
      = (147 : Nat) ∧ ((((1 : Int) ≤ IntKind.i64.wrap ((IntKind.i64.wrap (n.tmod (20 : Int) + (20 : Int))).tmod (20 : Int) + (1 : Int)) ∧ IntKind.i64.wrap ((IntKind.i64.wrap
      (n.tmod (20 : Int) + (20 : Int))).tmod (20 : Int) + (1 : Int)) ≤ (20 : Int)) ∧ True) ∧ (((1 : Int) ≤ IntKind.i64.wrap ((IntKind.i64.wrap (times.tmod (5 : Int) + (5 :
      Int))).tmod (5 : Int) + (1 : Int)) ∧ IntKind.i64.wrap ((IntKind.i64.wrap (times.tmod (5 : Int) + (5 : Int))).tmod (5 : Int) + (1 : Int)) ≤ (5 : Int)) ∧ True) ∧ True ∧ True
      ∧ True ∧ True ∧ True ∧ (((0 : Int) ≤ (0 : Int) ∧ (0 : Int) ≤ (5 : Int)) ∧ True) ∧ True) ∧ ((62 : Nat) = (62 : Nat) ∧ True ∧ (38 : Nat) = (38 : Nat) ∧ True ∧ ([] : SW) =
      []) ∧ ((0 : Int) = (0 : Int) ∧ IntKind.i64.wrap ((IntKind.i64.wrap (times.tmod (5 : Int) + (5 : Int))).tmod (5 : Int) + (1 : Int)) = IntKind.i64.wrap ((IntKind.i64.wrap
      (times.tmod (5 : Int) + (5 : Int))).tmod (5 : Int) + (1 : Int)) ∧ IntKind.u16.wrap (IntKind.i64.wrap ((IntKind.i64.wrap (n.tmod (20 : Int) + (20 : Int))).tmod (20 : Int) +
      (1 : Int))) = IntKind.i64.wrap ((IntKind.i64.wrap (n.tmod (20 : Int) + (20 : Int))).tmod (20 : Int) + (1 : Int)) ∧ (33554432 : Int) = (33554432 : Int) ∧ (50331648 : Int) =
      (50331648 : Int) ∧ (16384 : Int) = IntKind.i64.wrap ((IntKind.i64.wrap (n.tmod (20 : Int) + (20 : Int))).tmod (20 : Int) + (1 : Int))) ∧ True) ∧ ((IntKind.u16.wrap
      (IntKind.i64.wrap ((IntKind.i64.wrap (n.tmod (20 : Int) + (20 : Int))).tmod (20 : Int) + (1 : Int))) == (0 : Int)) = false → td1 E = td1 E ∧ (147 : Nat) = (147 : Nat) ∧
      ((((1 : Int) ≤ IntKind.i64.wrap ((IntKind.i64.wrap (n.tmod (20 : Int) + (20 : Int))).tmod (20 : Int) + (1 : Int)) ∧ IntKind.i64.wrap ((IntKind.i64.wrap (n.tmod (20 : Int)
      + (20 : Int))).tmod (20 : Int) + (1 : Int)) ≤ (20 : Int)) ∧ True) ∧ (((1 : Int) ≤ IntKind.i64.wrap ((IntKind.i64.wrap (times.tmod (5 : Int) + (5 : Int))).tmod (5 : Int) +
      (1 : Int)) ∧ IntKind.i64.wrap ((IntKind.i64.wrap (times.tmod (5 : Int) + (5 : Int))).tmod (5 : Int) + (1 : Int)) ≤ (5 : Int)) ∧ True) ∧ True ∧ True ∧ True ∧ True ∧ True ∧
      (((0 : Int) ≤ (0 : Int) ∧ (0 : Int) ≤ (5 : Int)) ∧ True) ∧ True) ∧ ((62 : Nat) = (62 : Nat) ∧ True ∧ (38 : Nat) = (38 : Nat) ∧ True ∧ ([] : SW) = []) ∧ ((0 : Int) = (0 :
      Int) ∧ IntKind.i64.wrap ((IntKind.i64.wrap (times.tmod (5 : Int) + (5 : Int))).tmod (5 : Int) + (1 : Int)) = IntKind.i64.wrap ((IntKind.i64.wrap (times.tmod (5 : Int) + (5
      : Int))).tmod (5 : Int) + (1 : Int)) ∧ IntKind.u16.wrap (IntKind.i64.wrap ((IntKind.i64.wrap (n.tmod (20 : Int) + (20 : Int))).tmod (20 : Int) + (1 : Int))) =
      IntKind.i64.wrap ((IntKind.i64.wrap (n.tmod (20 : Int) + (20 : Int))).tmod (20 : Int) + (1 : Int)) ∧ (33554432 : Int) = (33554432 : Int) ∧ (50331648 : Int) = (50331648 :
      Int) ∧ IntKind.i64.wrap (IntKind.u16.wrap (IntKind.i64.wrap ((IntKind.i64.wrap (n.tmod (20 : Int) + (20 : Int))).tmod (20 : Int) + (1 : Int)))) = IntKind.i64.wrap
      ((IntKind.i64.wrap (n.tmod (20 : Int) + (20 : Int))).tmod (20 : Int) + (1 : Int))) ∧ True))) ∧ ((IntKind.i64.wrap (bits BinOp.and IntKind.i64 how (1 : Int) + (1 : Int)) ==
      (2 : Int)) = false → False))))) := by kernel_rfl
theorem pro_t (E : World) (n times how : Int) (z : PX) : (loopP (pe E) Try.f7 (endR ([] : List MB).length [] (.c .b) (fun _ y => y.b 90000 = true) z) (headR ([] : List MB).length Try.f7.ntmps none (rep_hs E n times how z)) (run (pe E) (orcA E) (tabL fns) 20000 (2 ^ 200 - 1) [.code (Try.f7.body.getD .skip)] ⟨Try.f7.ntmps, mkFrGo (Tr.mk 12) 0 [.c (.i false .i64 n), .c (.i false .i64 times), .c (.i false .i64 how)]⟩ (mkM z [] [] 0))) := by
  · rw [rep_pro]
    have hM : 1 ≤ IntKind.i64.wrap ((IntKind.i64.wrap (n.tmod 20 + 20)).tmod 20 + 1) ∧ IntKind.i64.wrap ((IntKind.i64.wrap (n.tmod 20 + 20)).tmod 20 + 1) ≤ 20 := by
      have h1 : -19 ≤ n.tmod 20 ∧ n.tmod 20 ≤ 19 := by
        have a1 := Int.lt_tmod_of_pos n (b := 20) (by decide)
        have a2 := Int.tmod_lt_of_pos n (b := 20) (by decide)
        omega
      have e1 : IntKind.i64.wrap (n.tmod 20 + 20) = n.tmod 20 + 20 := by rw [wi64]; omega
      rw [e1, Int.tmod_eq_emod_of_nonneg (by omega), wi64]; omega
    have hT : 1 ≤ IntKind.i64.wrap ((IntKind.i64.wrap (times.tmod 5 + 5)).tmod 5 + 1) ∧ IntKind.i64.wrap ((IntKind.i64.wrap (times.tmod 5 + 5)).tmod 5 + 1) ≤ 5 := by
      have h1 : -4 ≤ times.tmod 5 ∧ times.tmod 5 ≤ 4 := by
        have a1 := Int.lt_tmod_of_pos times (b := 5) (by decide)
        have a2 := Int.tmod_lt_of_pos times (b := 5) (by decide)
        omega
      have e1 : IntKind.i64.wrap (times.tmod 5 + 5) = times.tmod 5 + 5 := by rw [wi64]; omega
      rw [e1, Int.tmod_eq_emod_of_nonneg (by omega), wi64]; omega
    have hC : IntKind.i64.wrap (bits .and .i64 how 1 + 1) = 1 ∨ IntKind.i64.wrap (bits .and .i64 how 1 + 1) = 2 := by
      have e : bits .and .i64 how 1 = how % 2 := and_mask .i64 how 1 (.inl (by decide))
      rw [e, wi64]; omega
    generalize IntKind.i64.wrap ((IntKind.i64.wrap (n.tmod 20 + 20)).tmod 20 + 1) = M at hM
    generalize IntKind.i64.wrap ((IntKind.i64.wrap (times.tmod 5 + 5)).tmod 5 + 1) = T at hT
    generalize IntKind.i64.wrap (bits .and .i64 how 1 + 1) = C at hC
    generalize (bits .and .i64 how 2 != 0) = B
    have u1 : IntKind.u16.wrap M = M := by rw [wu16]; omega
    have u3 : IntKind.i64.wrap M = M := by rw [wi64]; omega
    have u4 : (M == 0) = false := by simp; omega
    simp only [u1, u3, u4, cond_false, Bool.false_eq_true, false_implies, true_implies, true_and, and_true, forall_const]
    (repeat' (first | exact trivial | exact rfl | assumption | apply And.intro | intro _))
    all_goals first | omega | (exfalso; simp_all; done) | (exfalso; simp_all; omega)
end Go.Proofs.Ytpddbhfebhpohaa

