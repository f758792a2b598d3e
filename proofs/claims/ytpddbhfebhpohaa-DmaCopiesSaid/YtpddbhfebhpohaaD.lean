import Derived.Test.YtpddbhfebhpohaaA
set_option linter.unusedVariables false
set_option linter.unusedSimpArgs false
namespace Go.Proofs.Ytpddbhfebhpohaa
open Go Go.Proofs Go.Proofs.Ytpddbhfebhpohaa.Ev Go.Proofs.Ytpddbhfebhpohaa.Ev.Ho
set_option maxRecDepth 100000
noncomputable def plS : List Sp := [.i .i64, .b, .i .u32, .i .u32, .i .i64, .i .i64]
noncomputable def ch0 (k : Int) : List Sp := [.c (.i true .i64 k), .c (.i true .u32 0), .c (.i true .u32 0), .c (.i true .u16 0), .c (.i true .u16 0), .c (.i true .u32 0), .c (.i true .u32 0), .c (.i true .i64 0), .c (.b true false), .c (.b true false), .c (.i true .u32 0)]
noncomputable def ch1 (k ctl : Int) (act first : Bool) : List Sp := [.c (.i true .i64 k), .c (.i true .u32 33619968), .c (.i true .u32 50462720), .i .u16, .c (.i true .u16 ctl), .i .u32, .i .u32, .i .i64, .c (.b true act), .c (.b true first), .i .u32]
noncomputable def uM0 (ctl : Int) (act first : Bool) : MB := .o (ch1 0 ctl act first ++ (ch0 1 ++ (ch0 2 ++ ch0 3))) 62
noncomputable def uM1 (ctl : Int) (act first : Bool) : MB := .o (ch0 0 ++ (ch1 1 ctl act first ++ (ch0 2 ++ ch0 3))) 62
noncomputable def uM2 (ctl : Int) (act first : Bool) : MB := .o (ch0 0 ++ (ch0 1 ++ (ch1 2 ctl act first ++ ch0 3))) 62
noncomputable def uM3 (ctl : Int) (act first : Bool) : MB := .o (ch0 0 ++ (ch0 1 ++ (ch0 2 ++ ch1 3 ctl act first))) 62
noncomputable def tN : MB := .o [.c (.x (Value.slice none 0 0)), .c (.x (Value.slice none 0 0))] 38
noncomputable def tW : MB := .o [.w 2 6, .w 3 1] 38
noncomputable def pR : MB := .row plS 48
noncomputable def wR : MB := .row [.i .u32] 27
noncomputable def litB (t o : Nat) (v : Bool) : Tr → SW → Bool := fun tr s => match tr.get t with | .c (.p u k) => (match nthC (csAt s u) (k + o) with | .b true v' => (bif v then v' else !v') | _ => false) | _ => false
noncomputable def isW (t : Nat) : Tr → SW → Bool := fun tr _ => match tr.get t with | .c (.rs _ _ _) => true | .c (.sla _ _ _ _) => true | _ => false
noncomputable def noS (t : Nat) : Tr → SW → Bool := fun tr _ => match tr.get t with | .t [] => true | .any => true | _ => false
noncomputable def kA (c : Int) (ctl : Int) : Tr → SW → Bool := fun tr s => noS 82 tr s && (litT 2 c tr s && (litT 9 ctl tr s && nilM 8 0 tr s))
noncomputable def kB (c : Int) (ctl : Int) (o : Nat) (act : Bool) : Tr → SW → Bool := fun tr s => noS 82 tr s && (litT 2 c tr s && (litT 9 ctl tr s && (!nilM 8 0 tr s && litB 7 o act tr s)))
noncomputable def kD (c : Int) (ctl : Int) : Tr → SW → Bool := fun tr s => isW 82 tr s && (litT 2 c tr s && litT 9 ctl tr s)
def EL (l : List C) (j : Nat) (a : Int) (b : Bool) (c d e f : Int) : Prop := rI l (j * 6) = a ∧ rB l (j * 6 + 1) = b ∧ rI l (j * 6 + 2) = c ∧ rI l (j * 6 + 3) = d ∧ rI l (j * 6 + 4) = e ∧ rI l (j * 6 + 5) = f
def vl (x : Int) : Int := bits .xor .u32 (IntKind.u32.wrap (x * 2654435761)) (x.fdiv 128)
def vw (w x : Int) : Int := if w = 4 then vl x else bits .or .u32 (bits .and .u32 (vl x) 65535) (IntKind.u32.wrap (vl x * 65536))
def one (c w : Int) (l m : List C) (j : Nat) : Prop := EL l j c true (33619968 + j * w) (50462720 + j * w) w (if j = 0 then 0 else 1) ∧ rI m j = vw w (33619968 + j * w)
def PLN (c w : Int) (k : Nat) (l m : List C) (n0 n1 : Int) : Prop := l.length = k * 6 ∧ m.length = k ∧ n0 = k ∧ n1 = k ∧ ∀ j, j < k → one c w l m j
noncomputable def td1 (E : World) : List Item := headOf (run (pe E) (orcA E) (tabL fns) 20000 (2 ^ 200 - 1) [.code (Try.f5.body.getD .skip)] ⟨Try.f5.ntmps, mkFrGo (Tr.mk 12) 0 [.c (.i true .i64 0), .c (.b true true), .c (.i true .i64 0)]⟩ [])
noncomputable def zT : PX := ⟨fun _ => 1, fun _ => false, fun _ => .empty, fun _ => []⟩
noncomputable def td2 (E : World) : List Item := headOf (run (pe E) (orcA E) (tabL fns) 20000 (2 ^ 200 - 1) (td1 E) (mkL Try.f5.ntmps (slC zT [(0, .r .i64 (1) (100)), (1, .b), (2, .c (.i true .i64 0)), (7, .c (.p 0 0)), (8, .c (.p 1 0)), (9, .c (.i true .u16 50176)), (10, .c (.i true .i64 4)), (50, .i .i64), (51, .r .i64 (0) (100))])) (mkM zT [] [uM0 17408 false false, tW, pR, wR] 0))
end Go.Proofs.Ytpddbhfebhpohaa

