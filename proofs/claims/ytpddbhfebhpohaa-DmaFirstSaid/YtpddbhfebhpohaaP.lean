import Derived.Test.YtpddbhfebhpohaaEx
import Derived.Test.YtpddbhfebhpohaaM0
import Derived.Test.YtpddbhfebhpohaaM1
set_option linter.unusedVariables false
set_option linter.unusedSimpArgs false
namespace Go.Proofs.Ytpddbhfebhpohaa
open Go Go.Proofs Go.Proofs.Ytpddbhfebhpohaa.Ev Go.Proofs.Ytpddbhfebhpohaa.Ev.Ho
set_option maxRecDepth 100000
noncomputable def plS : List Sp := [.i .i64, .b, .i .u32, .i .u32, .i .i64, .i .i64]
noncomputable def uB : MB := .o [.c (.i true .i64 0), .r .u32 0 4294967295, .r .u32 0 4294967295, .r .u16 0 65535, .r .u16 0 65535, .r .u32 0 4294967295, .r .u32 0 4294967295, .i .i64, .b, .b, .r .u32 0 4294967295, .c (.i true .i64 1), .r .u32 0 4294967295, .r .u32 0 4294967295, .r .u16 0 65535, .r .u16 0 65535, .r .u32 0 4294967295, .r .u32 0 4294967295, .i .i64, .b, .b, .r .u32 0 4294967295, .c (.i true .i64 2), .r .u32 0 4294967295, .r .u32 0 4294967295, .r .u16 0 65535, .r .u16 0 65535, .r .u32 0 4294967295, .r .u32 0 4294967295, .i .i64, .b, .b, .r .u32 0 4294967295, .c (.i true .i64 3), .r .u32 0 4294967295, .r .u32 0 4294967295, .r .u16 0 65535, .r .u16 0 65535, .r .u32 0 4294967295, .r .u32 0 4294967295, .i .i64, .b, .b, .r .u32 0 4294967295] 62
noncomputable def tN : MB := .o [.c (.x (Value.slice none 0 0)), .c (.x (Value.slice none 0 0))] 38
noncomputable def tW (a b : Nat) : MB := .o [.w a 6, .w b 1] 38
noncomputable def pR : MB := .row plS 48
noncomputable def wR : MB := .row [.i .u32] 27
def EL (l : List C) (j : Nat) (a : Int) (b : Bool) (c d e f : Int) : Prop := rI l (j * 6) = a ∧ rB l (j * 6 + 1) = b ∧ rI l (j * 6 + 2) = c ∧ rI l (j * 6 + 3) = d ∧ rI l (j * 6 + 4) = e ∧ rI l (j * 6 + 5) = f
def vr (w x : Int) : Int := if w = 2 then vl x % 65536 * 65536 + vl x % 65536 else vl x
def al (w x : Int) : Int := x - x % w
def carC (w : Int) (c : Ch) : Ch := ⟨c.src, c.dst, c.count, c.control, c.at_, c.to, c.left, c.act, false, if 33554432 ≤ c.at_ then vr w (al w c.at_) else c.last⟩
/-- What stands behind the tape's end. -/
structure NX (k w : Int) (c : Ch) (n n0 n1 : Int) (l m : List C) : Prop where
  n0 : n0 = n + 1
  n1 : n1 = n + 1
  ll : l.length = (n + 1).toNat * 6
  lm : m.length = (n + 1).toNat
  el : EL l n.toNat k (decide (33554432 ≤ c.at_)) (if 33554432 ≤ c.at_ then al w c.at_ else 0) (al w c.to) w (if c.first = true then 0 else 1)
  wr : rI m n.toNat = (carC w c).last
structure TP (n0 n1 : Int) (l m : List C) : Prop where
  p : 1 ≤ n0
  q : n0 ≤ 100000
  e : n1 = n0
  ll : l.length = n0.toNat * 6
  lm : m.length = n0.toNat
end Go.Proofs.Ytpddbhfebhpohaa

