import Derived.Test.YtpddbhfebhpohaaA
set_option linter.unusedVariables false
set_option linter.unusedSimpArgs false
namespace Go.Proofs.Ytpddbhfebhpohaa
open Go Go.Proofs Go.Proofs.Ytpddbhfebhpohaa.Ev Go.Proofs.Ytpddbhfebhpohaa.Ev.Ho
set_option maxRecDepth 100000
noncomputable def plS : List Sp := [.i .i64, .b, .i .u32, .i .u32, .i .i64, .i .i64]
noncomputable def ch0 (k : Int) : List Sp := [.c (.i true .i64 k), .c (.i true .u32 0), .c (.i true .u32 0), .c (.i true .u16 0), .c (.i true .u16 0), .c (.i true .u32 0), .c (.i true .u32 0), .c (.i true .i64 0), .c (.b true false), .c (.b true false), .c (.i true .u32 0)]
noncomputable def ch3 (ctl : Int) (act first : Bool) : List Sp := [.c (.i true .i64 3), .c (.i true .u32 33554432), .c (.i true .u32 50331648), .i .u16, .c (.i true .u16 ctl), .i .u32, .i .u32, .i .i64, .c (.b true act), .c (.b true first), .i .u32]
noncomputable def uM (ctl : Int) (act first : Bool) : MB := .o (ch0 0 ++ (ch0 1 ++ (ch0 2 ++ ch3 ctl act first))) 62
noncomputable def tN : MB := .o [.c (.x (Value.slice none 0 0)), .c (.x (Value.slice none 0 0))] 38
noncomputable def tW : MB := .o [.w 2 6, .w 3 1] 38
noncomputable def pR : MB := .row plS 48
noncomputable def wR : MB := .row [.i .u32] 27
noncomputable def litB (t o : Nat) (v : Bool) : Tr → SW → Bool := fun tr s => match tr.get t with | .c (.p u k) => (match nthC (csAt s u) (k + o) with | .b true v' => (bif v then v' else !v') | _ => false) | _ => false
noncomputable def bT (t : Nat) (v : Bool) : Tr → SW → Bool := fun tr _ => match tr.get t with | .c (.b true v') => (bif v then v' else !v') | _ => false
noncomputable def isW (t : Nat) : Tr → SW → Bool := fun tr _ => match tr.get t with | .c (.rs _ _ _) => true | .c (.sla _ _ _ _) => true | _ => false
noncomputable def noS (t : Nat) : Tr → SW → Bool := fun tr _ => match tr.get t with | .t [] => true | .any => true | _ => false
noncomputable def kO (w : Int) (a n : Bool) : Tr → SW → Bool := fun tr s => noS 121 tr s && (litT 8 w tr s && (bT 7 a tr s && (bif n then nilM 10 0 tr s else !nilM 10 0 tr s)))
noncomputable def kI (w : Int) (a n act : Bool) : Tr → SW → Bool := fun tr s => kO w a n tr s && litB 9 41 act tr s
noncomputable def kJ (w : Int) (a n act first : Bool) : Tr → SW → Bool := fun tr s => kI w a n act tr s && litB 9 42 first tr s
structure MN (m k n i : Int) : Prop where
  e : m = k * n + i
def one (n : Int) (l : List C) (j : Nat) : Prop := rI l (j * 6 + 2) = 33554432 + 2 * (j : Int) ∧ rI l (j * 6 + 3) = 50331648 + 2 * ((j : Int) % n)
structure PLN (n : Int) (k : Nat) (l m : List C) (n0 n1 : Int) : Prop where
  hl : l.length = k * 6
  hm : m.length = k
  h0 : n0 = k
  h1 : n1 = k
  he : ∀ j : Nat, j < k → one n l j
structure PLD (n : Int) (k : Nat) (l : List C) : Prop where
  hl : l.length = k * 6
  he : ∀ j : Nat, j < k → one n l j
noncomputable def headF : Tree Lf → List Item
  | .leaf lf => cond lf.ended [] lf.todo
  | .node _ _ f => headF f
  | .need _ t => headF t
  | .pin _ _ _ k => headF (k default)
  | .fail => []
noncomputable def td1 (E : World) : List Item := headOf (run (pe E) (orcA E) (tabL fns) 20000 (2 ^ 200 - 1) [.code (Try.f7.body.getD .skip)] ⟨Try.f7.ntmps, mkFrGo (Tr.mk 12) 0 [.c (.i true .i64 0), .c (.i true .i64 0), .c (.i true .i64 0)]⟩ [])
noncomputable def zT : PX := ⟨fun _ => 1, fun _ => false, fun _ => .empty, fun _ => []⟩
noncomputable def td2 (E : World) : List Item := headOf (run (pe E) (orcA E) (tabL fns) 20000 (2 ^ 200 - 1) (td1 E) (mkL Try.f7.ntmps (slC zT [(0, .r .i64 (1) (20)), (1, .r .i64 (1) (5)), (7, .c (.b true true)), (8, .c (.i true .i64 1)), (9, .c (.p 0 0)), (10, .c (.p 1 0)), (60, .i .i64), (61, .r .i64 (0) (5))])) (mkM zT [] [uM 37472 false true, tW, pR, wR] 0))
noncomputable def td3 (E : World) : List Item := headF (run (pe E) (orcA E) (tabL fns) 20000 (2 ^ 200 - 1) (td1 E) (mkL Try.f7.ntmps (slC zT [(0, .r .i64 (1) (20)), (1, .r .i64 (1) (5)), (7, .c (.b true true)), (8, .c (.i true .i64 1)), (9, .c (.p 0 0)), (10, .c (.p 1 0)), (60, .i .i64), (61, .r .i64 (0) (5))])) (mkM zT [] [uM 37472 false true, tW, pR, wR] 0))
end Go.Proofs.Ytpddbhfebhpohaa

