import Derived.Test.YtpddbhfebhpohaaA
set_option linter.unusedVariables false
set_option linter.unusedSimpArgs false
namespace Go.Proofs.Ytpddbhfebhpohaa
open Go Go.Proofs Go.Proofs.Ytpddbhfebhpohaa.Ev Go.Proofs.Ytpddbhfebhpohaa.Ev.Ho
set_option maxRecDepth 100000
structure Ch where
  src : Int
  dst : Int
  count : Int
  control : Int
  at_ : Int
  to : Int
  left : Int
  act : Bool
  first : Bool
  last : Int
structure U4 where
  c0 : Ch
  c1 : Ch
  c2 : Ch
  c3 : Ch
def on (x : Int) : Bool := decide (x / 32768 % 2 = 1)
def tm (x : Int) : Int := x / 4096 % 4
def fds (i n : Int) : Bool := on n && (decide (tm n = 3) && (decide (i = 1) || decide (i = 2)))
def ld (i n count : Int) : Int := if fds i n = true then 4 else if count = 0 then (if i = 3 then 65536 else 16384) else count
def ctlC (i x n : Int) (c : Ch) : Ch :=
  if on n = true then (if on c.control = true then ⟨c.src, c.dst, c.count, n, c.at_, c.to, c.left, c.act, c.first, c.last⟩
    else ⟨c.src, c.dst, c.count, n, c.src, c.dst, ld i n c.count, (tm n == 0), true, c.last⟩)
  else ⟨c.src, c.dst, c.count, n, c.at_, c.to, c.left, false, c.first, c.last⟩
def chW (i part x : Int) (c : Ch) : Ch :=
  if part = 0 then ⟨c.src / 65536 * 65536 + x, c.dst, c.count, c.control, c.at_, c.to, c.left, c.act, c.first, c.last⟩
  else if part = 1 then ⟨c.src % 65536 + x % (if i = 0 then 2048 else 4096) * 65536, c.dst, c.count, c.control, c.at_, c.to, c.left, c.act, c.first, c.last⟩
  else if part = 2 then ⟨c.src, c.dst / 65536 * 65536 + x, c.count, c.control, c.at_, c.to, c.left, c.act, c.first, c.last⟩
  else if part = 3 then ⟨c.src, c.dst % 65536 + x % (if i = 3 then 4096 else 2048) * 65536, c.count, c.control, c.at_, c.to, c.left, c.act, c.first, c.last⟩
  else if part = 4 then ⟨c.src, c.dst, (if i = 3 then x else x % 16384), c.control, c.at_, c.to, c.left, c.act, c.first, c.last⟩
  else if part = 5 then ctlC i x (bits .and .u16 x 63456) c
  else c
def setC (u : U4) (i : Int) (f : Ch → Ch) : U4 :=
  if i = 0 then ⟨f u.c0, u.c1, u.c2, u.c3⟩ else if i = 1 then ⟨u.c0, f u.c1, u.c2, u.c3⟩ else if i = 2 then ⟨u.c0, u.c1, f u.c2, u.c3⟩ else if i = 3 then ⟨u.c0, u.c1, u.c2, f u.c3⟩ else u
def uW (i part x : Int) (u : U4) : U4 := setC u i (chW i part x)
def q32 (x : Int) : Prop := 0 ≤ x ∧ x ≤ 4294967295
def q16 (x : Int) : Prop := 0 ≤ x ∧ x ≤ 65535
noncomputable def cu0 (y : PX) : Ch := Ch.mk (y.n 1) (y.n 2) (y.n 3) (y.n 4) (y.n 5) (y.n 6) (y.n 7) (y.b 8) (y.b 9) (y.n 10)
noncomputable def cu1 (y : PX) : Ch := Ch.mk (y.n 12) (y.n 13) (y.n 14) (y.n 15) (y.n 16) (y.n 17) (y.n 18) (y.b 19) (y.b 20) (y.n 21)
noncomputable def cu2 (y : PX) : Ch := Ch.mk (y.n 23) (y.n 24) (y.n 25) (y.n 26) (y.n 27) (y.n 28) (y.n 29) (y.b 30) (y.b 31) (y.n 32)
noncomputable def cu3 (y : PX) : Ch := Ch.mk (y.n 34) (y.n 35) (y.n 36) (y.n 37) (y.n 38) (y.n 39) (y.n 40) (y.b 41) (y.b 42) (y.n 43)
noncomputable def cr0 (y : PX) : Ch := Ch.mk (y.n 100000) (y.n 100001) (y.n 100002) (y.n 100003) (y.n 100004) (y.n 100005) (y.n 100006) (y.b 100007) (y.b 100008) (y.n 100009)
noncomputable def cr1 (y : PX) : Ch := Ch.mk (y.n 100010) (y.n 100011) (y.n 100012) (y.n 100013) (y.n 100014) (y.n 100015) (y.n 100016) (y.b 100017) (y.b 100018) (y.n 100019)
noncomputable def cr2 (y : PX) : Ch := Ch.mk (y.n 100020) (y.n 100021) (y.n 100022) (y.n 100023) (y.n 100024) (y.n 100025) (y.n 100026) (y.b 100027) (y.b 100028) (y.n 100029)
noncomputable def cr3 (y : PX) : Ch := Ch.mk (y.n 100030) (y.n 100031) (y.n 100032) (y.n 100033) (y.n 100034) (y.n 100035) (y.n 100036) (y.b 100037) (y.b 100038) (y.n 100039)
noncomputable def TU (y : PX) : U4 := U4.mk (cu0 y) (cu1 y) (cu2 y) (cu3 y)
noncomputable def TR (y : PX) : U4 := U4.mk (cr0 y) (cr1 y) (cr2 y) (cr3 y)
def fw (w x : Int) : Int := bits .andNot .u32 x (IntKind.u32.wrap (IntKind.i64.wrap (w - 1)))
def vl (x : Int) : Int := bits .xor .u32 (IntKind.u32.wrap (x * 2654435761)) (x.fdiv 128)
noncomputable def lw (w v : Int) : Int := bif w == 2 then bits .or .u32 (bits .and .u32 v 65535) (IntKind.u32.wrap (v * 65536)) else v
noncomputable def vsr (c F w : Int) (f : Bool) : List C := [C.i true IntKind.i64 c, ofCell (Value.bool true), C.i false IntKind.u32 F, C.i true IntKind.u32 0, C.i false IntKind.i64 w, C.i false IntKind.i64 (bif f then 0 else 1)]
noncomputable def px (z : PX) : Int := IntKind.i64.wrap (((((z.n 100000).toNat + 1 : Nat)) : Int) - 1)
noncomputable def w3 (x k : Int) : Int := IntKind.i64.wrap (bits .and .u16 (x.fdiv k) 3)
noncomputable def wo (x : Int) : Bool := bits .and .u16 x 32768 != 0
noncomputable def ro (x : Int) : Bool := ((IntKind.i64.wrap x).fdiv 32768).tmod 2 == 1
noncomputable def r3 (x : Int) : Int := ((IntKind.i64.wrap x).fdiv 4096).tmod 4
def tt24 (y : PX) : Prop := q16 (y.n 37) ∧ q32 (y.n 38) ∧ q32 (y.n 39) ∧ q32 (y.n 43) ∧ True
def tt23 (y : PX) : Prop := q16 (y.n 36) ∧ tt24 y
def tt22 (y : PX) : Prop := q32 (y.n 35) ∧ tt23 y
def tt21 (y : PX) : Prop := q32 (y.n 34) ∧ tt22 y
def tt20 (y : PX) : Prop := q32 (y.n 32) ∧ tt21 y
def tt19 (y : PX) : Prop := q32 (y.n 28) ∧ tt20 y
def tt18 (y : PX) : Prop := q32 (y.n 27) ∧ tt19 y
def tt17 (y : PX) : Prop := q16 (y.n 26) ∧ tt18 y
def tt16 (y : PX) : Prop := q16 (y.n 25) ∧ tt17 y
def tt15 (y : PX) : Prop := q32 (y.n 24) ∧ tt16 y
def tt14 (y : PX) : Prop := q32 (y.n 23) ∧ tt15 y
def tt13 (y : PX) : Prop := q32 (y.n 21) ∧ tt14 y
def tt12 (y : PX) : Prop := q32 (y.n 17) ∧ tt13 y
def tt11 (y : PX) : Prop := q32 (y.n 16) ∧ tt12 y
def tt10 (y : PX) : Prop := q16 (y.n 15) ∧ tt11 y
def tt9 (y : PX) : Prop := q16 (y.n 14) ∧ tt10 y
def tt8 (y : PX) : Prop := q32 (y.n 13) ∧ tt9 y
def tt7 (y : PX) : Prop := q32 (y.n 12) ∧ tt8 y
def tt6 (y : PX) : Prop := q32 (y.n 10) ∧ tt7 y
def tt5 (y : PX) : Prop := q32 (y.n 6) ∧ tt6 y
def tt4 (y : PX) : Prop := q32 (y.n 5) ∧ tt5 y
def tt3 (y : PX) : Prop := q16 (y.n 4) ∧ tt4 y
def tt2 (y : PX) : Prop := q16 (y.n 3) ∧ tt3 y
def tt1 (y : PX) : Prop := q32 (y.n 2) ∧ tt2 y
def tp3 (y : PX) (p : Prop) : Prop := q32 (y.n 1) ∧ q32 (y.n 2) ∧ q16 (y.n 3) ∧ p
def tp4 (y : PX) (p : Prop) : Prop := tp3 y (q16 (y.n 4) ∧ p)
def tp5 (y : PX) (p : Prop) : Prop := tp4 y (q32 (y.n 5) ∧ p)
def tp6 (y : PX) (p : Prop) : Prop := tp5 y (q32 (y.n 6) ∧ p)
def tp7 (y : PX) (p : Prop) : Prop := tp6 y (q32 (y.n 10) ∧ p)
def tp8 (y : PX) (p : Prop) : Prop := tp7 y (q32 (y.n 12) ∧ p)
def tp9 (y : PX) (p : Prop) : Prop := tp8 y (q32 (y.n 13) ∧ p)
def tp10 (y : PX) (p : Prop) : Prop := tp9 y (q16 (y.n 14) ∧ p)
def tp11 (y : PX) (p : Prop) : Prop := tp10 y (q16 (y.n 15) ∧ p)
def tp12 (y : PX) (p : Prop) : Prop := tp11 y (q32 (y.n 16) ∧ p)
def tp13 (y : PX) (p : Prop) : Prop := tp12 y (q32 (y.n 17) ∧ p)
def tp14 (y : PX) (p : Prop) : Prop := tp13 y (q32 (y.n 21) ∧ p)
def tp15 (y : PX) (p : Prop) : Prop := tp14 y (q32 (y.n 23) ∧ p)
def tp16 (y : PX) (p : Prop) : Prop := tp15 y (q32 (y.n 24) ∧ p)
def tp17 (y : PX) (p : Prop) : Prop := tp16 y (q16 (y.n 25) ∧ p)
def tp18 (y : PX) (p : Prop) : Prop := tp17 y (q16 (y.n 26) ∧ p)
def tp19 (y : PX) (p : Prop) : Prop := tp18 y (q32 (y.n 27) ∧ p)
def tp20 (y : PX) (p : Prop) : Prop := tp19 y (q32 (y.n 28) ∧ p)
def tp21 (y : PX) (p : Prop) : Prop := tp20 y (q32 (y.n 32) ∧ p)
def tp22 (y : PX) (p : Prop) : Prop := tp21 y (q32 (y.n 34) ∧ p)
def tp23 (y : PX) (p : Prop) : Prop := tp22 y (q32 (y.n 35) ∧ p)
def tp24 (y : PX) (p : Prop) : Prop := tp23 y (q16 (y.n 36) ∧ p)
def tp25 (y : PX) (p : Prop) : Prop := tp24 y (q16 (y.n 37) ∧ p)
def tp26 (y : PX) (p : Prop) : Prop := tp25 y (q32 (y.n 38) ∧ p)
def tp27 (y : PX) (p : Prop) : Prop := tp26 y (q32 (y.n 39) ∧ p)
def st24 (y : PX) : Prop := q16 (y.n 100033) ∧ q32 (y.n 100034) ∧ q32 (y.n 100035) ∧ q32 (y.n 100039) ∧ True
def st23 (y : PX) : Prop := q16 (y.n 100032) ∧ st24 y
def st22 (y : PX) : Prop := q32 (y.n 100031) ∧ st23 y
def st21 (y : PX) : Prop := q32 (y.n 100030) ∧ st22 y
def st20 (y : PX) : Prop := q32 (y.n 100029) ∧ st21 y
def st19 (y : PX) : Prop := q32 (y.n 100025) ∧ st20 y
def st18 (y : PX) : Prop := q32 (y.n 100024) ∧ st19 y
def st17 (y : PX) : Prop := q16 (y.n 100023) ∧ st18 y
def st16 (y : PX) : Prop := q16 (y.n 100022) ∧ st17 y
def st15 (y : PX) : Prop := q32 (y.n 100021) ∧ st16 y
def st14 (y : PX) : Prop := q32 (y.n 100020) ∧ st15 y
def st13 (y : PX) : Prop := q32 (y.n 100019) ∧ st14 y
def st12 (y : PX) : Prop := q32 (y.n 100015) ∧ st13 y
def st11 (y : PX) : Prop := q32 (y.n 100014) ∧ st12 y
def st10 (y : PX) : Prop := q16 (y.n 100013) ∧ st11 y
def st9 (y : PX) : Prop := q16 (y.n 100012) ∧ st10 y
def st8 (y : PX) : Prop := q32 (y.n 100011) ∧ st9 y
def st7 (y : PX) : Prop := q32 (y.n 100010) ∧ st8 y
def st6 (y : PX) : Prop := q32 (y.n 100009) ∧ st7 y
def st5 (y : PX) : Prop := q32 (y.n 100005) ∧ st6 y
def st4 (y : PX) : Prop := q32 (y.n 100004) ∧ st5 y
def st3 (y : PX) : Prop := q16 (y.n 100003) ∧ st4 y
def st2 (y : PX) : Prop := q16 (y.n 100002) ∧ st3 y
def st1 (y : PX) : Prop := q32 (y.n 100001) ∧ st2 y
def sp3 (y : PX) (p : Prop) : Prop := q32 (y.n 100000) ∧ q32 (y.n 100001) ∧ q16 (y.n 100002) ∧ p
def sp4 (y : PX) (p : Prop) : Prop := sp3 y (q16 (y.n 100003) ∧ p)
def sp5 (y : PX) (p : Prop) : Prop := sp4 y (q32 (y.n 100004) ∧ p)
def sp6 (y : PX) (p : Prop) : Prop := sp5 y (q32 (y.n 100005) ∧ p)
def sp7 (y : PX) (p : Prop) : Prop := sp6 y (q32 (y.n 100009) ∧ p)
def sp8 (y : PX) (p : Prop) : Prop := sp7 y (q32 (y.n 100010) ∧ p)
def sp9 (y : PX) (p : Prop) : Prop := sp8 y (q32 (y.n 100011) ∧ p)
def sp10 (y : PX) (p : Prop) : Prop := sp9 y (q16 (y.n 100012) ∧ p)
def sp11 (y : PX) (p : Prop) : Prop := sp10 y (q16 (y.n 100013) ∧ p)
def sp12 (y : PX) (p : Prop) : Prop := sp11 y (q32 (y.n 100014) ∧ p)
def sp13 (y : PX) (p : Prop) : Prop := sp12 y (q32 (y.n 100015) ∧ p)
def sp14 (y : PX) (p : Prop) : Prop := sp13 y (q32 (y.n 100019) ∧ p)
def sp15 (y : PX) (p : Prop) : Prop := sp14 y (q32 (y.n 100020) ∧ p)
def sp16 (y : PX) (p : Prop) : Prop := sp15 y (q32 (y.n 100021) ∧ p)
def sp17 (y : PX) (p : Prop) : Prop := sp16 y (q16 (y.n 100022) ∧ p)
def sp18 (y : PX) (p : Prop) : Prop := sp17 y (q16 (y.n 100023) ∧ p)
def sp19 (y : PX) (p : Prop) : Prop := sp18 y (q32 (y.n 100024) ∧ p)
def sp20 (y : PX) (p : Prop) : Prop := sp19 y (q32 (y.n 100025) ∧ p)
def sp21 (y : PX) (p : Prop) : Prop := sp20 y (q32 (y.n 100029) ∧ p)
def sp22 (y : PX) (p : Prop) : Prop := sp21 y (q32 (y.n 100030) ∧ p)
def sp23 (y : PX) (p : Prop) : Prop := sp22 y (q32 (y.n 100031) ∧ p)
def sp24 (y : PX) (p : Prop) : Prop := sp23 y (q16 (y.n 100032) ∧ p)
def sp25 (y : PX) (p : Prop) : Prop := sp24 y (q16 (y.n 100033) ∧ p)
def sp26 (y : PX) (p : Prop) : Prop := sp25 y (q32 (y.n 100034) ∧ p)
def sp27 (y : PX) (p : Prop) : Prop := sp26 y (q32 (y.n 100035) ∧ p)
def ku (y : PX) (p : Prop) : Prop := decide (y.n 1 = y.n 1) = true ∧ decide (y.n 2 = y.n 2) = true ∧ decide (y.n 3 = y.n 3) = true ∧ decide (y.n 4 = y.n 4) = true ∧ decide (y.n 5 = y.n 5) = true ∧ decide (y.n 6 = y.n 6) = true ∧ decide (y.n 7 = y.n 7) = true ∧ decide (y.b 8 = y.b 8) = true ∧ decide (y.b 9 = y.b 9) = true ∧ decide (y.n 10 = y.n 10) = true ∧ decide (y.n 12 = y.n 12) = true ∧ decide (y.n 13 = y.n 13) = true ∧ decide (y.n 14 = y.n 14) = true ∧ decide (y.n 15 = y.n 15) = true ∧ decide (y.n 16 = y.n 16) = true ∧ decide (y.n 17 = y.n 17) = true ∧ decide (y.n 18 = y.n 18) = true ∧ decide (y.b 19 = y.b 19) = true ∧ decide (y.b 20 = y.b 20) = true ∧ decide (y.n 21 = y.n 21) = true ∧ decide (y.n 23 = y.n 23) = true ∧ decide (y.n 24 = y.n 24) = true ∧ decide (y.n 25 = y.n 25) = true ∧ decide (y.n 26 = y.n 26) = true ∧ decide (y.n 27 = y.n 27) = true ∧ decide (y.n 28 = y.n 28) = true ∧ decide (y.n 29 = y.n 29) = true ∧ decide (y.b 30 = y.b 30) = true ∧ decide (y.b 31 = y.b 31) = true ∧ decide (y.n 32 = y.n 32) = true ∧ decide (y.n 34 = y.n 34) = true ∧ decide (y.n 35 = y.n 35) = true ∧ decide (y.n 36 = y.n 36) = true ∧ decide (y.n 37 = y.n 37) = true ∧ decide (y.n 38 = y.n 38) = true ∧ decide (y.n 39 = y.n 39) = true ∧ decide (y.n 40 = y.n 40) = true ∧ decide (y.b 41 = y.b 41) = true ∧ decide (y.b 42 = y.b 42) = true ∧ decide (y.n 43 = y.n 43) = true ∧ p
theorem ku_eq (y : PX) (p : Prop) : ku y p = p := by simp [ku]
def kr (y : PX) (p : Prop) : Prop := decide (y.n 100000 = y.n 100000) = true ∧ decide (y.n 100001 = y.n 100001) = true ∧ decide (y.n 100002 = y.n 100002) = true ∧ decide (y.n 100003 = y.n 100003) = true ∧ decide (y.n 100004 = y.n 100004) = true ∧ decide (y.n 100005 = y.n 100005) = true ∧ decide (y.n 100006 = y.n 100006) = true ∧ decide (y.b 100007 = y.b 100007) = true ∧ decide (y.b 100008 = y.b 100008) = true ∧ decide (y.n 100009 = y.n 100009) = true ∧ decide (y.n 100010 = y.n 100010) = true ∧ decide (y.n 100011 = y.n 100011) = true ∧ decide (y.n 100012 = y.n 100012) = true ∧ decide (y.n 100013 = y.n 100013) = true ∧ decide (y.n 100014 = y.n 100014) = true ∧ decide (y.n 100015 = y.n 100015) = true ∧ decide (y.n 100016 = y.n 100016) = true ∧ decide (y.b 100017 = y.b 100017) = true ∧ decide (y.b 100018 = y.b 100018) = true ∧ decide (y.n 100019 = y.n 100019) = true ∧ decide (y.n 100020 = y.n 100020) = true ∧ decide (y.n 100021 = y.n 100021) = true ∧ decide (y.n 100022 = y.n 100022) = true ∧ decide (y.n 100023 = y.n 100023) = true ∧ decide (y.n 100024 = y.n 100024) = true ∧ decide (y.n 100025 = y.n 100025) = true ∧ decide (y.n 100026 = y.n 100026) = true ∧ decide (y.b 100027 = y.b 100027) = true ∧ decide (y.b 100028 = y.b 100028) = true ∧ decide (y.n 100029 = y.n 100029) = true ∧ decide (y.n 100030 = y.n 100030) = true ∧ decide (y.n 100031 = y.n 100031) = true ∧ decide (y.n 100032 = y.n 100032) = true ∧ decide (y.n 100033 = y.n 100033) = true ∧ decide (y.n 100034 = y.n 100034) = true ∧ decide (y.n 100035 = y.n 100035) = true ∧ decide (y.n 100036 = y.n 100036) = true ∧ decide (y.b 100037 = y.b 100037) = true ∧ decide (y.b 100038 = y.b 100038) = true ∧ decide (y.n 100039 = y.n 100039) = true ∧ p
theorem kr_eq (y : PX) (p : Prop) : kr y p = p := by simp [kr]
def ke (E : World) (a : Option Addr) (n : Nat) (p : Prop) : Prop := decide (eI E a (n + 0) = eI E a (n + 0)) = true ∧ decide (eI E a (n + 1) = eI E a (n + 1)) = true ∧ decide (eI E a (n + 2) = eI E a (n + 2)) = true ∧ decide (eI E a (n + 3) = eI E a (n + 3)) = true ∧ decide (eI E a (n + 4) = eI E a (n + 4)) = true ∧ decide (eI E a (n + 5) = eI E a (n + 5)) = true ∧ decide (eI E a (n + 0) = eI E a (n + 0)) = true ∧ decide (eI E a (n + 1) = eI E a (n + 1)) = true ∧ decide (eI E a (n + 2) = eI E a (n + 2)) = true ∧ decide (eI E a (n + 3) = eI E a (n + 3)) = true ∧ decide (eI E a (n + 4) = eI E a (n + 4)) = true ∧ decide (eI E a (n + 5) = eI E a (n + 5)) = true ∧ p
theorem ke_eq (E : World) (a : Option Addr) (n : Nat) (p : Prop) : ke E a n p = p := by simp [ke]
noncomputable def uMs : List MB := [.o [.c (.i true .i64 0), .r .u32 0 4294967295, .r .u32 0 4294967295, .r .u16 0 65535, .r .u16 0 65535, .r .u32 0 4294967295, .r .u32 0 4294967295, .i .i64, .b, .b, .r .u32 0 4294967295, .c (.i true .i64 1), .r .u32 0 4294967295, .r .u32 0 4294967295, .r .u16 0 65535, .r .u16 0 65535, .r .u32 0 4294967295, .r .u32 0 4294967295, .i .i64, .b, .b, .r .u32 0 4294967295, .c (.i true .i64 2), .r .u32 0 4294967295, .r .u32 0 4294967295, .r .u16 0 65535, .r .u16 0 65535, .r .u32 0 4294967295, .r .u32 0 4294967295, .i .i64, .b, .b, .r .u32 0 4294967295, .c (.i true .i64 3), .r .u32 0 4294967295, .r .u32 0 4294967295, .r .u16 0 65535, .r .u16 0 65535, .r .u32 0 4294967295, .r .u32 0 4294967295, .i .i64, .b, .b, .r .u32 0 4294967295] 62]
noncomputable def rMs (X : Bl) : List MB := [.f X, .o [.r .u32 0 4294967295, .r .u32 0 4294967295, .r .i64 0 65535, .r .u16 0 65535, .r .u32 0 4294967295, .r .u32 0 4294967295, .i .i64, .b, .b, .r .u32 0 4294967295, .r .u32 0 4294967295, .r .u32 0 4294967295, .r .i64 0 65535, .r .u16 0 65535, .r .u32 0 4294967295, .r .u32 0 4294967295, .i .i64, .b, .b, .r .u32 0 4294967295, .r .u32 0 4294967295, .r .u32 0 4294967295, .r .i64 0 65535, .r .u16 0 65535, .r .u32 0 4294967295, .r .u32 0 4294967295, .i .i64, .b, .b, .r .u32 0 4294967295, .r .u32 0 4294967295, .r .u32 0 4294967295, .r .i64 0 65535, .r .u16 0 65535, .r .u32 0 4294967295, .r .u32 0 4294967295, .i .i64, .b, .b, .r .u32 0 4294967295] 33]
theorem rg_u {z : PX} (h : rgM z uMs 0) : (0 ≤ z.n 1 ∧ z.n 1 ≤ 4294967295) ∧ (0 ≤ z.n 2 ∧ z.n 2 ≤ 4294967295) ∧ (0 ≤ z.n 3 ∧ z.n 3 ≤ 65535) ∧ (0 ≤ z.n 4 ∧ z.n 4 ≤ 65535) ∧ (0 ≤ z.n 5 ∧ z.n 5 ≤ 4294967295) ∧ (0 ≤ z.n 6 ∧ z.n 6 ≤ 4294967295) ∧ (0 ≤ z.n 10 ∧ z.n 10 ≤ 4294967295) ∧ (0 ≤ z.n 12 ∧ z.n 12 ≤ 4294967295) ∧ (0 ≤ z.n 13 ∧ z.n 13 ≤ 4294967295) ∧ (0 ≤ z.n 14 ∧ z.n 14 ≤ 65535) ∧ (0 ≤ z.n 15 ∧ z.n 15 ≤ 65535) ∧ (0 ≤ z.n 16 ∧ z.n 16 ≤ 4294967295) ∧ (0 ≤ z.n 17 ∧ z.n 17 ≤ 4294967295) ∧ (0 ≤ z.n 21 ∧ z.n 21 ≤ 4294967295) ∧ (0 ≤ z.n 23 ∧ z.n 23 ≤ 4294967295) ∧ (0 ≤ z.n 24 ∧ z.n 24 ≤ 4294967295) ∧ (0 ≤ z.n 25 ∧ z.n 25 ≤ 65535) ∧ (0 ≤ z.n 26 ∧ z.n 26 ≤ 65535) ∧ (0 ≤ z.n 27 ∧ z.n 27 ≤ 4294967295) ∧ (0 ≤ z.n 28 ∧ z.n 28 ≤ 4294967295) ∧ (0 ≤ z.n 32 ∧ z.n 32 ≤ 4294967295) ∧ (0 ≤ z.n 34 ∧ z.n 34 ≤ 4294967295) ∧ (0 ≤ z.n 35 ∧ z.n 35 ≤ 4294967295) ∧ (0 ≤ z.n 36 ∧ z.n 36 ≤ 65535) ∧ (0 ≤ z.n 37 ∧ z.n 37 ≤ 65535) ∧ (0 ≤ z.n 38 ∧ z.n 38 ≤ 4294967295) ∧ (0 ≤ z.n 39 ∧ z.n 39 ≤ 4294967295) ∧ (0 ≤ z.n 43 ∧ z.n 43 ≤ 4294967295) ∧ True := h.1
theorem rg_r {X : Bl} {z : PX} (h : rgM z (rMs X) 0) : (0 ≤ z.n 100000 ∧ z.n 100000 ≤ 4294967295) ∧ (0 ≤ z.n 100001 ∧ z.n 100001 ≤ 4294967295) ∧ (0 ≤ z.n 100002 ∧ z.n 100002 ≤ 65535) ∧ (0 ≤ z.n 100003 ∧ z.n 100003 ≤ 65535) ∧ (0 ≤ z.n 100004 ∧ z.n 100004 ≤ 4294967295) ∧ (0 ≤ z.n 100005 ∧ z.n 100005 ≤ 4294967295) ∧ (0 ≤ z.n 100009 ∧ z.n 100009 ≤ 4294967295) ∧ (0 ≤ z.n 100010 ∧ z.n 100010 ≤ 4294967295) ∧ (0 ≤ z.n 100011 ∧ z.n 100011 ≤ 4294967295) ∧ (0 ≤ z.n 100012 ∧ z.n 100012 ≤ 65535) ∧ (0 ≤ z.n 100013 ∧ z.n 100013 ≤ 65535) ∧ (0 ≤ z.n 100014 ∧ z.n 100014 ≤ 4294967295) ∧ (0 ≤ z.n 100015 ∧ z.n 100015 ≤ 4294967295) ∧ (0 ≤ z.n 100019 ∧ z.n 100019 ≤ 4294967295) ∧ (0 ≤ z.n 100020 ∧ z.n 100020 ≤ 4294967295) ∧ (0 ≤ z.n 100021 ∧ z.n 100021 ≤ 4294967295) ∧ (0 ≤ z.n 100022 ∧ z.n 100022 ≤ 65535) ∧ (0 ≤ z.n 100023 ∧ z.n 100023 ≤ 65535) ∧ (0 ≤ z.n 100024 ∧ z.n 100024 ≤ 4294967295) ∧ (0 ≤ z.n 100025 ∧ z.n 100025 ≤ 4294967295) ∧ (0 ≤ z.n 100029 ∧ z.n 100029 ≤ 4294967295) ∧ (0 ≤ z.n 100030 ∧ z.n 100030 ≤ 4294967295) ∧ (0 ≤ z.n 100031 ∧ z.n 100031 ≤ 4294967295) ∧ (0 ≤ z.n 100032 ∧ z.n 100032 ≤ 65535) ∧ (0 ≤ z.n 100033 ∧ z.n 100033 ≤ 65535) ∧ (0 ≤ z.n 100034 ∧ z.n 100034 ≤ 4294967295) ∧ (0 ≤ z.n 100035 ∧ z.n 100035 ≤ 4294967295) ∧ (0 ≤ z.n 100039 ∧ z.n 100039 ≤ 4294967295) ∧ True := h.1
/-- All is in its range. -/
def RGu (y : PX) : Prop := (0 ≤ y.n 1 ∧ y.n 1 ≤ 4294967295) ∧ (0 ≤ y.n 2 ∧ y.n 2 ≤ 4294967295) ∧ (0 ≤ y.n 3 ∧ y.n 3 ≤ 65535) ∧ (0 ≤ y.n 4 ∧ y.n 4 ≤ 65535) ∧ (0 ≤ y.n 5 ∧ y.n 5 ≤ 4294967295) ∧ (0 ≤ y.n 6 ∧ y.n 6 ≤ 4294967295) ∧ (0 ≤ y.n 10 ∧ y.n 10 ≤ 4294967295) ∧ (0 ≤ y.n 12 ∧ y.n 12 ≤ 4294967295) ∧ (0 ≤ y.n 13 ∧ y.n 13 ≤ 4294967295) ∧ (0 ≤ y.n 14 ∧ y.n 14 ≤ 65535) ∧ (0 ≤ y.n 15 ∧ y.n 15 ≤ 65535) ∧ (0 ≤ y.n 16 ∧ y.n 16 ≤ 4294967295) ∧ (0 ≤ y.n 17 ∧ y.n 17 ≤ 4294967295) ∧ (0 ≤ y.n 21 ∧ y.n 21 ≤ 4294967295) ∧ (0 ≤ y.n 23 ∧ y.n 23 ≤ 4294967295) ∧ (0 ≤ y.n 24 ∧ y.n 24 ≤ 4294967295) ∧ (0 ≤ y.n 25 ∧ y.n 25 ≤ 65535) ∧ (0 ≤ y.n 26 ∧ y.n 26 ≤ 65535) ∧ (0 ≤ y.n 27 ∧ y.n 27 ≤ 4294967295) ∧ (0 ≤ y.n 28 ∧ y.n 28 ≤ 4294967295) ∧ (0 ≤ y.n 32 ∧ y.n 32 ≤ 4294967295) ∧ (0 ≤ y.n 34 ∧ y.n 34 ≤ 4294967295) ∧ (0 ≤ y.n 35 ∧ y.n 35 ≤ 4294967295) ∧ (0 ≤ y.n 36 ∧ y.n 36 ≤ 65535) ∧ (0 ≤ y.n 37 ∧ y.n 37 ≤ 65535) ∧ (0 ≤ y.n 38 ∧ y.n 38 ≤ 4294967295) ∧ (0 ≤ y.n 39 ∧ y.n 39 ≤ 4294967295) ∧ (0 ≤ y.n 43 ∧ y.n 43 ≤ 4294967295) ∧ True
def RGr (y : PX) : Prop := (0 ≤ y.n 100000 ∧ y.n 100000 ≤ 4294967295) ∧ (0 ≤ y.n 100001 ∧ y.n 100001 ≤ 4294967295) ∧ (0 ≤ y.n 100002 ∧ y.n 100002 ≤ 65535) ∧ (0 ≤ y.n 100003 ∧ y.n 100003 ≤ 65535) ∧ (0 ≤ y.n 100004 ∧ y.n 100004 ≤ 4294967295) ∧ (0 ≤ y.n 100005 ∧ y.n 100005 ≤ 4294967295) ∧ (0 ≤ y.n 100009 ∧ y.n 100009 ≤ 4294967295) ∧ (0 ≤ y.n 100010 ∧ y.n 100010 ≤ 4294967295) ∧ (0 ≤ y.n 100011 ∧ y.n 100011 ≤ 4294967295) ∧ (0 ≤ y.n 100012 ∧ y.n 100012 ≤ 65535) ∧ (0 ≤ y.n 100013 ∧ y.n 100013 ≤ 65535) ∧ (0 ≤ y.n 100014 ∧ y.n 100014 ≤ 4294967295) ∧ (0 ≤ y.n 100015 ∧ y.n 100015 ≤ 4294967295) ∧ (0 ≤ y.n 100019 ∧ y.n 100019 ≤ 4294967295) ∧ (0 ≤ y.n 100020 ∧ y.n 100020 ≤ 4294967295) ∧ (0 ≤ y.n 100021 ∧ y.n 100021 ≤ 4294967295) ∧ (0 ≤ y.n 100022 ∧ y.n 100022 ≤ 65535) ∧ (0 ≤ y.n 100023 ∧ y.n 100023 ≤ 65535) ∧ (0 ≤ y.n 100024 ∧ y.n 100024 ≤ 4294967295) ∧ (0 ≤ y.n 100025 ∧ y.n 100025 ≤ 4294967295) ∧ (0 ≤ y.n 100029 ∧ y.n 100029 ≤ 4294967295) ∧ (0 ≤ y.n 100030 ∧ y.n 100030 ≤ 4294967295) ∧ (0 ≤ y.n 100031 ∧ y.n 100031 ≤ 4294967295) ∧ (0 ≤ y.n 100032 ∧ y.n 100032 ≤ 65535) ∧ (0 ≤ y.n 100033 ∧ y.n 100033 ≤ 65535) ∧ (0 ≤ y.n 100034 ∧ y.n 100034 ≤ 4294967295) ∧ (0 ≤ y.n 100035 ∧ y.n 100035 ≤ 4294967295) ∧ (0 ≤ y.n 100039 ∧ y.n 100039 ≤ 4294967295) ∧ True
end Go.Proofs.Ytpddbhfebhpohaa

