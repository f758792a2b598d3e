import Derived.Test.YtcegofobcjimlaaP
set_option linter.unusedVariables false
set_option linter.unusedSimpArgs false
namespace Go.Proofs.Ytcegofobcjimlaa
open Go Go.Proofs Go.Proofs.Ytcegofobcjimlaa.Ev Go.Proofs.Ytcegofobcjimlaa.Ev.Ho
set_option maxRecDepth 100000

noncomputable def law_td (E : World) : List Item := headOf (run (pe E) (orcP E) (tabL fns) 20000 4 [.code (Try.f3.body.getD .skip)] ⟨Try.f3.ntmps, mkFrGo (Tr.mk 12) 0 [.c (.es none 0 0)]⟩ [])
def uH : List MB := [.f mpB, .o usp 50]
theorem rg_h {z : PX} (h : rgM z uH 0) : (0 ≤ z.n 100000 ∧ z.n 100000 ≤ 2199023255552) ∧ (0 ≤ z.n 100004 ∧ z.n 100004 ≤ 2047) ∧ (0 ≤ z.n 100005 ∧ z.n 100005 ≤ 63) ∧ (0 ≤ z.n 100006 ∧ z.n 100006 ≤ 16777216) ∧ (0 ≤ z.n 100007 ∧ z.n 100007 ≤ 3) ∧ (0 ≤ z.n 100008 ∧ z.n 100008 ≤ 15) ∧ (0 ≤ z.n 100011 ∧ z.n 100011 ≤ 15) ∧ (0 ≤ z.n 100016 ∧ z.n 100016 ≤ 2047) ∧ (0 ≤ z.n 100017 ∧ z.n 100017 ≤ 63) ∧ (0 ≤ z.n 100018 ∧ z.n 100018 ≤ 16777216) ∧ (0 ≤ z.n 100019 ∧ z.n 100019 ≤ 3) ∧ (0 ≤ z.n 100020 ∧ z.n 100020 ≤ 15) ∧ (0 ≤ z.n 100023 ∧ z.n 100023 ≤ 15) ∧ (0 ≤ z.n 100028 ∧ z.n 100028 ≤ 2047) ∧ (0 ≤ z.n 100029 ∧ z.n 100029 ≤ 63) ∧ (0 ≤ z.n 100030 ∧ z.n 100030 ≤ 16777216) ∧ (0 ≤ z.n 100031 ∧ z.n 100031 ≤ 3) ∧ (0 ≤ z.n 100032 ∧ z.n 100032 ≤ 15) ∧ (0 ≤ z.n 100035 ∧ z.n 100035 ≤ 15) ∧ (0 ≤ z.n 100040 ∧ z.n 100040 ≤ 2047) ∧ (0 ≤ z.n 100041 ∧ z.n 100041 ≤ 63) ∧ (0 ≤ z.n 100042 ∧ z.n 100042 ≤ 16777216) ∧ (0 ≤ z.n 100043 ∧ z.n 100043 ≤ 3) ∧ (0 ≤ z.n 100044 ∧ z.n 100044 ≤ 15) ∧ (0 ≤ z.n 100047 ∧ z.n 100047 ≤ 15) ∧ (0 ≤ z.n 100050 ∧ z.n 100050 ≤ 7) ∧ (0 ≤ z.n 100086 ∧ z.n 100086 ≤ 1) ∧ (0 ≤ z.n 100088 ∧ z.n 100088 ≤ 4) ∧ (0 ≤ z.n 100092 ∧ z.n 100092 ≤ 15) ∧ (0 ≤ z.n 100093 ∧ z.n 100093 ≤ 7) ∧ True := h.1
theorem pb0 {b1 b2 b3 b4 : Bool} {p x : Int} (hb : bits .and .i64 (p.fdiv 1) 1 = 0) (hp : p = cond b1 1 0 + cond b2 2 0 + cond b3 4 0 + cond b4 8 0) (hx : b1 = false → x = 0) (h0 : x > 0) : False := by
  have hk : b1 = true := by cases h : b1 with | true => rfl | false => have := hx h; omega
  subst hk; subst hp
  revert hb
  cases b2 <;> cases b3 <;> cases b4 <;> decide
theorem pb1 {b1 b2 b3 b4 : Bool} {p x : Int} (hb : bits .and .i64 (p.fdiv 2) 1 = 0) (hp : p = cond b1 1 0 + cond b2 2 0 + cond b3 4 0 + cond b4 8 0) (hx : b2 = false → x = 0) (h0 : x > 0) : False := by
  have hk : b2 = true := by cases h : b2 with | true => rfl | false => have := hx h; omega
  subst hk; subst hp
  revert hb
  cases b1 <;> cases b3 <;> cases b4 <;> decide
theorem pb2 {b1 b2 b3 b4 : Bool} {p x : Int} (hb : bits .and .i64 (p.fdiv 4) 1 = 0) (hp : p = cond b1 1 0 + cond b2 2 0 + cond b3 4 0 + cond b4 8 0) (hx : b3 = false → x = 0) (h0 : x > 0) : False := by
  have hk : b3 = true := by cases h : b3 with | true => rfl | false => have := hx h; omega
  subst hk; subst hp
  revert hb
  cases b1 <;> cases b2 <;> cases b4 <;> decide
theorem pb3 {b1 b2 b3 b4 : Bool} {p x : Int} (hb : bits .and .i64 (p.fdiv 8) 1 = 0) (hp : p = cond b1 1 0 + cond b2 2 0 + cond b3 4 0 + cond b4 8 0) (hx : b4 = false → x = 0) (h0 : x > 0) : False := by
  have hk : b4 = true := by cases h : b4 with | true => rfl | false => have := hx h; omega
  subst hk; subst hp
  revert hb
  cases b1 <;> cases b2 <;> cases b3 <;> decide
noncomputable def bounds_hs (E : World)  (z : PX) (a : Option Addr) (n : Nat) (c : Nat) : List Head := [⟨4, anyK, (law_td E), [(3, .c (.p 1 0)), (4, .r .i64 (0) (200000000)), (15, .q (.es a n c)), (16, .q (.i false .i64 n)), (17, .r .i64 (0) (200))], uH, fun y => y.n 91017 ≤ (n : Int) ∧ y.n 91004 ≤ 1000000 * y.n 91017 ∧ n ≤ 200, fun y => ((n : Int) - y.n 91017).toNat⟩]
theorem bounds_pro (E : World)  (z : PX) (a : Option Addr) (n : Nat) (c : Nat) :
    (loopP (pe E) Try.f3 (endP true [] [] (.c .b) (fun _ y => y.b 90000 = true) z) (headP true [] Try.f3.ntmps none (bounds_hs E  z a n c)) (run (pe E) (orcP E) (tabL fns) 20000 4 [.code (Try.f3.body.getD .skip)] ⟨Try.f3.ntmps, mkFrGo (Tr.mk 12) 0 [.c (.es a n c)]⟩ (mkM z [] [] 0))) =
    ((decide ((↑n : Int) > (200 : Int)) = true → True ∧ True ∧ true = true) ∧ (decide ((↑n : Int) > (200 : Int)) = false → law_td E = law_td E ∧ (80 : Nat) = (80 : Nat) ∧ (True
      ∧ (((0 : Int) ≤ (0 : Int) ∧ (0 : Int) ≤ (200000000 : Int)) ∧ True) ∧ (C.es a n c = C.es a n c ∧ True) ∧ (C.i false IntKind.i64 (↑n : Int) = C.i false IntKind.i64 (↑n :
      Int) ∧ True) ∧ (((0 : Int) ≤ (0 : Int) ∧ (0 : Int) ≤ (200 : Int)) ∧ True) ∧ True) ∧ (mpB = mpB ∧ (50 : Nat) = (50 : Nat) ∧ (((0 : Int) ≤ (0 : Int) ∧ (0 : Int) ≤
      (2199023255552 : Int)) ∧ ((0 : Int) ≤ (0 : Int) ∧ (0 : Int) ≤ (2047 : Int)) ∧ ((0 : Int) ≤ (0 : Int) ∧ (0 : Int) ≤ (63 : Int)) ∧ ((0 : Int) ≤ (0 : Int) ∧ (0 : Int) ≤
      (16777216 : Int)) ∧ ((0 : Int) ≤ (0 : Int) ∧ (0 : Int) ≤ (3 : Int)) ∧ ((0 : Int) ≤ (0 : Int) ∧ (0 : Int) ≤ (15 : Int)) ∧ ((0 : Int) ≤ (0 : Int) ∧ (0 : Int) ≤ (15 : Int)) ∧
      ((0 : Int) ≤ (0 : Int) ∧ (0 : Int) ≤ (2047 : Int)) ∧ ((0 : Int) ≤ (0 : Int) ∧ (0 : Int) ≤ (63 : Int)) ∧ ((0 : Int) ≤ (0 : Int) ∧ (0 : Int) ≤ (16777216 : Int)) ∧ ((0 : Int)
      ≤ (0 : Int) ∧ (0 : Int) ≤ (3 : Int)) ∧ ((0 : Int) ≤ (0 : Int) ∧ (0 : Int) ≤ (15 : Int)) ∧ ((0 : Int) ≤ (0 : Int) ∧ (0 : Int) ≤ (15 : Int)) ∧ ((0 : Int) ≤ (0 : Int) ∧ (0 :
      Int) ≤ (2047 : Int)) ∧ ((0 : Int) ≤ (0 : Int) ∧ (0 : Int) ≤ (63 : Int)) ∧ ((0 : Int) ≤ (0 : Int) ∧ (0 : Int) ≤ (16777216 : Int)) ∧ ((0 : Int) ≤ (0 : Int) ∧ (0 : Int) ≤ (3
      : Int)) ∧ ((0 : Int) ≤ (0 : Int) ∧ (0 : Int) ≤ (15 : Int)) ∧ ((0 : Int) ≤ (0 : Int) ∧ (0 : Int) ≤ (15 : Int)) ∧ ((0 : Int) ≤ (0 : Int) ∧ (0 : Int) ≤ (2047 : Int)) ∧ ((0 :
      Int) ≤ (0 : Int) ∧ (0 : Int) ≤ (63 : Int)) ∧ ((0 : Int) ≤ (0 : Int) ∧ (0 : Int) ≤ (16777216 : Int)) ∧ ((0 : Int) ≤ (0 : Int) ∧ (0 : Int) ≤ (3 : Int)) ∧ ((0 : Int) ≤ (0 :
      Int) ∧ (0 : Int) ≤ (15 : Int)) ∧ ((0 : Int) ≤ (0 : Int) ∧ (0 : Int) ≤ (15 : Int)) ∧ ((0 : Int) ≤ (0 : Int) ∧ (0 : Int) ≤ (7 : Int)) ∧ ((0 : Int) ≤ (0 : Int) ∧ (0 : Int) ≤
      (1 : Int)) ∧ ((0 : Int) ≤ (0 : Int) ∧ (0 : Int) ≤ (4 : Int)) ∧ ((0 : Int) ≤ (0 : Int) ∧ (0 : Int) ≤ (15 : Int)) ∧ ((0 : Int) ≤ (0 : Int) ∧ (0 : Int) ≤ (7 : Int)) ∧ True) ∧
      True) ∧ ((0 : Int) ≤ (↑n : Int) ∧ (0 : Int) ≤ (1000000 : Int) * (0 : Int) ∧ n ≤ (200 : Nat)) ∧ True)) := by kernel_rfl
theorem bounds_r0 (E : World)  (z : PX) (a : Option Addr) (n : Nat) (c : Nat) (y : PX) :
    (loopP (pe E) Try.f3 (endP true [] [] (.c .b) (fun _ y => y.b 90000 = true) z) (headP true [] Try.f3.ntmps (some ((fun y => ((n : Int) - y.n 91017).toNat) y)) (bounds_hs E  z a n c))  (run (pe E) (orcP E) (tabL fns) 20000 4 (law_td E) (mkL Try.f3.ntmps (slC y [(3, .c (.p 1 0)), (4, .r .i64 (0) (200000000)), (15, .q (.es a n c)), (16, .q (.i false .i64 n)), (17, .r .i64 (0) (200))])) (mkM y [] uH 0))) =
    ((decide (y.n (91017 : Nat) < (↑n : Int)) = true → inB (y.n (91017 : Nat)) n = true ∧ a.isSome = true ∧ eRow E a ((y.n (91017 : Nat)).toNat * (4 : Nat) + (0 : Nat)) ([EK.i
      IntKind.i64] ++ ([EK.i IntKind.i64] ++ ([EK.i IntKind.i64] ++ ([EK.i IntKind.u16] ++ [])))) = true ∧ (decide (eI E a ((y.n (91017 : Nat)).toNat * (4 : Nat) + (0 : Nat)) <
      (0 : Int)) = true → law_td E = law_td E ∧ (80 : Nat) = (80 : Nat) ∧ (True ∧ (((0 : Int) ≤ y.n (91004 : Nat) ∧ y.n (91004 : Nat) ≤ (200000000 : Int)) ∧ True) ∧ (C.es a n c
      = C.es a n c ∧ True) ∧ (C.i false IntKind.i64 (↑n : Int) = C.i false IntKind.i64 (↑n : Int) ∧ True) ∧ (((0 : Int) ≤ IntKind.i64.wrap (y.n (91017 : Nat) + (1 : Int)) ∧
      IntKind.i64.wrap (y.n (91017 : Nat) + (1 : Int)) ≤ (200 : Int)) ∧ True) ∧ True) ∧ (mpB = mpB ∧ (50 : Nat) = (50 : Nat) ∧ (RG y) ∧ True) ∧ (IntKind.i64.wrap (y.n (91017 :
      Nat) + (1 : Int)) ≤ (↑n : Int) ∧ y.n (91004 : Nat) ≤ (1000000 : Int) * IntKind.i64.wrap (y.n (91017 : Nat) + (1 : Int)) ∧ n ≤ (200 : Nat)) ∧ ((↑n : Int) - IntKind.i64.wrap
      (y.n (91017 : Nat) + (1 : Int))).toNat < ((↑n : Int) - y.n (91017 : Nat)).toNat ∧ True) ∧ (decide (eI E a ((y.n (91017 : Nat)).toNat * (4 : Nat) + (0 : Nat)) < (0 : Int))
      = false → (decide (eI E a ((y.n (91017 : Nat)).toNat * (4 : Nat) + (0 : Nat)) > (1000000 : Int)) = true → law_td E = law_td E ∧ (80 : Nat) = (80 : Nat) ∧ (True ∧ (((0 :
      Int) ≤ y.n (91004 : Nat) ∧ y.n (91004 : Nat) ≤ (200000000 : Int)) ∧ True) ∧ (C.es a n c = C.es a n c ∧ True) ∧ (C.i false IntKind.i64 (↑n : Int) = C.i false IntKind.i64
      (↑n : Int) ∧ True) ∧ (((0 : Int) ≤ IntKind.i64.wrap (y.n (91017 : Nat) + (1 : Int)) ∧ IntKind.i64.wrap (y.n (91017 : Nat) + (1 : Int)) ≤ (200 : Int)) ∧ True) ∧ True) ∧
      (mpB = mpB ∧ (50 : Nat) = (50 : Nat) ∧ (RG y) ∧ True) ∧ (IntKind.i64.wrap (y.n (91017 : Nat) + (1 : Int)) ≤ (↑n : Int) ∧ y.n (91004 : Nat) ≤ (1000000 : Int) *
      IntKind.i64.wrap (y.n (91017 : Nat) + (1 : Int)) ∧ n ≤ (200 : Nat)) ∧ ((↑n : Int) - IntKind.i64.wrap (y.n (91017 : Nat) + (1 : Int))).toNat < ((↑n : Int) - y.n (91017 :
      Nat)).toNat ∧ True) ∧ (decide (eI E a ((y.n (91017 : Nat)).toNat * (4 : Nat) + (0 : Nat)) > (1000000 : Int)) = false → ((eI E a ((y.n (91017 : Nat)).toNat * (4 : Nat) + (1
      : Nat)) == (0 : Int)) = true → ((mpB = mpB ∧ (50 : Nat) = (50 : Nat) ∧ (RG y) ∧ [Bl.mk [eC E a ((y.n (91017 : Nat)).toNat * (4 : Nat) + (0 : Nat)) (EK.i IntKind.i64), eC E
      a ((y.n (91017 : Nat)).toNat * (4 : Nat) + (1 : Nat)) (EK.i IntKind.i64), eC E a ((y.n (91017 : Nat)).toNat * (4 : Nat) + (2 : Nat)) (EK.i IntKind.i64), eC E a ((y.n
      (91017 : Nat)).toNat * (4 : Nat) + (3 : Nat)) (EK.i IntKind.u16)] (Bl.mk [C.i true IntKind.i64 (0 : Int), C.i true IntKind.i64 (0 : Int), C.i true IntKind.i64 (0 : Int),
      C.i true IntKind.u16 (0 : Int)] (28 : Nat)).ty] = [Bl.mk [eC E a ((y.n (91017 : Nat)).toNat * (4 : Nat) + (0 : Nat)) (EK.i IntKind.i64), eC E a ((y.n (91017 : Nat)).toNat
      * (4 : Nat) + (1 : Nat)) (EK.i IntKind.i64), eC E a ((y.n (91017 : Nat)).toNat * (4 : Nat) + (2 : Nat)) (EK.i IntKind.i64), eC E a ((y.n (91017 : Nat)).toNat * (4 : Nat) +
      (3 : Nat)) (EK.i IntKind.u16)] (Bl.mk [C.i true IntKind.i64 (0 : Int), C.i true IntKind.i64 (0 : Int), C.i true IntKind.i64 (0 : Int), C.i true IntKind.u16 (0 : Int)] (28
      : Nat)).ty]) ∧ (0 : Int) ≤ eI E a ((y.n (91017 : Nat)).toNat * (4 : Nat) + (3 : Nat)) ∧ eI E a ((y.n (91017 : Nat)).toNat * (4 : Nat) + (3 : Nat)) ≤ (65535 : Int)) ∧ ∀
      (y_1 : PX), ((RG y_1) ∧ True) ∧ True ∧ True → ((mpB = mpB ∧ (50 : Nat) = (50 : Nat) ∧ (RG y_1) ∧ (28 : Nat) = (28 : Nat) ∧ True ∧ ([] : SW) = []) ∧ True) ∧ ∀ (y_2 : PX),
      (((0 : Int) ≤ y_2.n (90000 : Nat) ∧ y_2.n (90000 : Nat) ≤ (15 : Int)) ∧ ((0 : Int) ≤ y_2.n (90001 : Nat) ∧ y_2.n (90001 : Nat) ≤ (15 : Int)) ∧ ((0 : Int) ≤ y_2.n (90002 :
      Nat) ∧ y_2.n (90002 : Nat) ≤ (15 : Int)) ∧ ((0 : Int) ≤ y_2.n (90003 : Nat) ∧ y_2.n (90003 : Nat) ≤ (15 : Int)) ∧ True) ∧ (y_1.b (100001 : Nat) = false → y_2.n (90000 :
      Nat) = (0 : Int)) ∧ (y_1.b (100013 : Nat) = false → y_2.n (90001 : Nat) = (0 : Int)) ∧ (y_1.b (100025 : Nat) = false → y_2.n (90002 : Nat) = (0 : Int)) ∧ (y_1.b (100037 :
      Nat) = false → y_2.n (90003 : Nat) = (0 : Int)) → (decide (y_2.n (90000 : Nat) < (0 : Int)) = true → True ∧ True ∧ false = true) ∧ (decide (y_2.n (90000 : Nat) < (0 :
      Int)) = false → (decide (y_2.n (90000 : Nat) > (15 : Int)) = true → True ∧ True ∧ false = true) ∧ (decide (y_2.n (90000 : Nat) > (15 : Int)) = false → (decide (y_2.n
      (90000 : Nat) > (0 : Int)) = true → ((mpB = mpB ∧ (50 : Nat) = (50 : Nat) ∧ (RG y_1) ∧ [Bl.mk [eC E a ((y.n (91017 : Nat)).toNat * (4 : Nat) + (0 : Nat)) (EK.i
      IntKind.i64), eC E a ((y.n (91017 : Nat)).toNat * (4 : Nat) + (1 : Nat)) (EK.i IntKind.i64), eC E a ((y.n (91017 : Nat)).toNat * (4 : Nat) + (2 : Nat)) (EK.i IntKind.i64),
      eC E a ((y.n (91017 : Nat)).toNat * (4 : Nat) + (3 : Nat)) (EK.i IntKind.u16)] (Bl.mk [C.i true IntKind.i64 (0 : Int), C.i true IntKind.i64 (0 : Int), C.i true IntKind.i64
      (0 : Int), C.i true IntKind.u16 (0 : Int)] (28 : Nat)).ty] = [Bl.mk [eC E a ((y.n (91017 : Nat)).toNat * (4 : Nat) + (0 : Nat)) (EK.i IntKind.i64), eC E a ((y.n (91017 :
      Nat)).toNat * (4 : Nat) + (1 : Nat)) (EK.i IntKind.i64), eC E a ((y.n (91017 : Nat)).toNat * (4 : Nat) + (2 : Nat)) (EK.i IntKind.i64), eC E a ((y.n (91017 : Nat)).toNat *
      (4 : Nat) + (3 : Nat)) (EK.i IntKind.u16)] (Bl.mk [C.i true IntKind.i64 (0 : Int), C.i true IntKind.i64 (0 : Int), C.i true IntKind.i64 (0 : Int), C.i true IntKind.u16 (0
      : Int)] (28 : Nat)).ty]) ∧ True) ∧ ∀ (y_3 : PX), ((((0 : Int) ≤ y_3.n (90000 : Nat) ∧ y_3.n (90000 : Nat) ≤ (15 : Int)) ∧ True) ∧ y_3.n (90000 : Nat) = (((bif y_1.b
      (100001 : Nat) then (1 : Int) else (0 : Int)) + bif y_1.b (100013 : Nat) then (2 : Int) else (0 : Int)) + bif y_1.b (100025 : Nat) then (4 : Int) else (0 : Int)) + bif
      y_1.b (100037 : Nat) then (8 : Int) else (0 : Int)) → ((bits BinOp.and IntKind.i64 ((y_3.n (90000 : Nat)).fdiv (1 : Int)) (1 : Int) == (0 : Int)) = true → True ∧ True ∧
      false = true) ∧ ((bits BinOp.and IntKind.i64 ((y_3.n (90000 : Nat)).fdiv (1 : Int)) (1 : Int) == (0 : Int)) = false → (decide (y_2.n (90001 : Nat) < (0 : Int)) = true →
      True ∧ True ∧ false = true) ∧ (decide (y_2.n (90001 : Nat) < (0 : Int)) = false → (decide (y_2.n (90001 : Nat) > (15 : Int)) = true → True ∧ True ∧ false = true) ∧ (decide
      (y_2.n (90001 : Nat) > (15 : Int)) = false → (decide (y_2.n (90001 : Nat) > (0 : Int)) = true → ((mpB = mpB ∧ (50 : Nat) = (50 : Nat) ∧ (RG y_1) ∧ [Bl.mk [eC E a ((y.n
      (91017 : Nat)).toNat * (4 : Nat) + (0 : Nat)) (EK.i IntKind.i64), eC E a ((y.n (91017 : Nat)).toNat * (4 : Nat) + (1 : Nat)) (EK.i IntKind.i64), eC E a ((y.n (91017 :
      Nat)).toNat * (4 : Nat) + (2 : Nat)) (EK.i IntKind.i64), eC E a ((y.n (91017 : Nat)).toNat * (4 : Nat) + (3 : Nat)) (EK.i IntKind.u16)] (Bl.mk [C.i true IntKind.i64 (0 :
      Int), C.i true IntKind.i64 (0 : Int), C.i true IntKind.i64 (0 : Int), C.i true IntKind.u16 (0 : Int)] (28 : Nat)).ty] = [Bl.mk [eC E a ((y.n (91017 : Nat)).toNat * (4 :
      Nat) + (0 : Nat)) (EK.i IntKind.i64), eC E a ((y.n (91017 : Nat)).toNat * (4 : Nat) + (1 : Nat)) (EK.i IntKind.i64), eC E a ((y.n (91017 : Nat)).toNat * (4 : Nat) + (2 :
      Nat)) (EK.i IntKind.i64), eC E a ((y.n (91017 : Nat)).toNat * (4 : Nat) + (3 : Nat)) (EK.i IntKind.u16)] (Bl.mk [C.i true IntKind.i64 (0 : Int), C.i true IntKind.i64 (0 :
      Int), C.i true IntKind.i64 (0 : Int), C.i true IntKind.u16 (0 : Int)] (28 : Nat)).ty]) ∧ True) ∧ ∀ (y_4 : PX), ((((0 : Int) ≤ y_4.n (90000 : Nat) ∧ y_4.n (90000 : Nat) ≤
      (15 : Int)) ∧ True) ∧ y_4.n (90000 : Nat) = (((bif y_1.b (100001 : Nat) then (1 : Int) else (0 : Int)) + bif y_1.b (100013 : Nat) then (2 : Int) else (0 : Int)) + bif
      y_1.b (100025 : Nat) then (4 : Int) else (0 : Int)) + bif y_1.b (100037 : Nat) then (8 : Int) else (0 : Int)) → ((bits BinOp.and IntKind.i64 ((y_4.n (90000 : Nat)).fdiv (2
      : Int)) (1 : Int) == (0 : Int)) = true → True ∧ True ∧ false = true) ∧ ((bits BinOp.and IntKind.i64 ((y_4.n (90000 : Nat)).fdiv (2 : Int)) (1 : Int) == (0 : Int)) = false
      → (decide (y_2.n (90002 : Nat) < (0 : Int)) = true → True ∧ True ∧ false = true) ∧ (decide (y_2.n (90002 : Nat) < (0 : Int)) = false → (decide (y_2.n (90002 : Nat) > (15 :
      Int)) = true → True ∧ True ∧ false = true) ∧ (decide (y_2.n (90002 : Nat) > (15 : Int)) = false → (decide (y_2.n (90002 : Nat) > (0 : Int)) = true → ((mpB = mpB ∧ (50 :
      Nat) = (50 : Nat) ∧ (RG y_1) ∧ [Bl.mk [eC E a ((y.n (91017 : Nat)).toNat * (4 : Nat) + (0 : Nat)) (EK.i IntKind.i64), eC E a ((y.n (91017 : Nat)).toNat * (4 : Nat) + (1 :
      Nat)) (EK.i IntKind.i64), eC E a ((y.n (91017 : Nat)).toNat * (4 : Nat) + (2 : Nat)) (EK.i IntKind.i64), eC E a ((y.n (91017 : Nat)).toNat * (4 : Nat) + (3 : Nat)) (EK.i
      IntKind.u16)] (Bl.mk [C.i true IntKind.i64 (0 : Int), C.i true IntKind.i64 (0 : Int), C.i true IntKind.i64 (0 : Int), C.i true IntKind.u16 (0 : Int)] (28 : Nat)).ty] =
      [Bl.mk [eC E a ((y.n (91017 : Nat)).toNat * (4 : Nat) + (0 : Nat)) (EK.i IntKind.i64), eC E a ((y.n (91017 : Nat)).toNat * (4 : Nat) + (1 : Nat)) (EK.i IntKind.i64), eC E
      a ((y.n (91017 : Nat)).toNat * (4 : Nat) + (2 : Nat)) (EK.i IntKind.i64), eC E a ((y.n (91017 : Nat)).toNat * (4 : Nat) + (3 : Nat)) (EK.i IntKind.u16)] (Bl.mk [C.i true
      IntKind.i64 (0 : Int), C.i true IntKind.i64 (0 : Int), C.i true IntKind.i64 (0 : Int), C.i true IntKind.u16 (0 : Int)] (28 : Nat)).ty]) ∧ True) ∧ ∀ (y_5 : PX), ((((0 :
      Int) ≤ y_5.n (90000 : Nat) ∧ y_5.n (90000 : Nat) ≤ (15 : Int)) ∧ True) ∧ y_5.n (90000 : Nat) = (((bif y_1.b (100001 : Nat) then (1 : Int) else (0 : Int)) + bif y_1.b
      (100013 : Nat) then (2 : Int) else (0 : Int)) + bif y_1.b (100025 : Nat) then (4 : Int) else (0 : Int)) + bif y_1.b (100037 : Nat) then (8 : Int) else (0 : Int)) → ((bits
      BinOp.and IntKind.i64 ((y_5.n (90000 : Nat)).fdiv (4 : Int)) (1 : Int) == (0 : Int)) = true → True ∧ True ∧ false = true) ∧ ((bits BinOp.and IntKind.i64 ((y_5.n (90000 :
      Nat)).fdiv (4 : Int)) (1 : Int) == (0 : Int)) = false → (decide (y_2.n (90003 : Nat) < (0 : Int)) = true → True ∧ True ∧ false = true) ∧ (decide (y_2.n (90003 : Nat) < (0
      : Int)) = false → (decide (y_2.n (90003 : Nat) > (15 : Int)) = true → True ∧ True ∧ false = true) ∧ (decide (y_2.n (90003 : Nat) > (15 : Int)) = false → (decide (y_2.n
      (90003 : Nat) > (0 : Int)) = true → ((mpB = mpB ∧ (50 : Nat) = (50 : Nat) ∧ (RG y_1) ∧ [Bl.mk [eC E a ((y.n (91017 : Nat)).toNat * (4 : Nat) + (0 : Nat)) (EK.i
      IntKind.i64), eC E a ((y.n (91017 : Nat)).toNat * (4 : Nat) + (1 : Nat)) (EK.i IntKind.i64), eC E a ((y.n (91017 : Nat)).toNat * (4 : Nat) + (2 : Nat)) (EK.i IntKind.i64),
      eC E a ((y.n (91017 : Nat)).toNat * (4 : Nat) + (3 : Nat)) (EK.i IntKind.u16)] (Bl.mk [C.i true IntKind.i64 (0 : Int), C.i true IntKind.i64 (0 : Int), C.i true IntKind.i64
      (0 : Int), C.i true IntKind.u16 (0 : Int)] (28 : Nat)).ty] = [Bl.mk [eC E a ((y.n (91017 : Nat)).toNat * (4 : Nat) + (0 : Nat)) (EK.i IntKind.i64), eC E a ((y.n (91017 :
      Nat)).toNat * (4 : Nat) + (1 : Nat)) (EK.i IntKind.i64), eC E a ((y.n (91017 : Nat)).toNat * (4 : Nat) + (2 : Nat)) (EK.i IntKind.i64), eC E a ((y.n (91017 : Nat)).toNat *
      (4 : Nat) + (3 : Nat)) (EK.i IntKind.u16)] (Bl.mk [C.i true IntKind.i64 (0 : Int), C.i true IntKind.i64 (0 : Int), C.i true IntKind.i64 (0 : Int), C.i true IntKind.u16 (0
      : Int)] (28 : Nat)).ty]) ∧ True) ∧ ∀ (y_6 : PX), ((((0 : Int) ≤ y_6.n (90000 : Nat) ∧ y_6.n (90000 : Nat) ≤ (15 : Int)) ∧ True) ∧ y_6.n (90000 : Nat) = (((bif y_1.b
      (100001 : Nat) then (1 : Int) else (0 : Int)) + bif y_1.b (100013 : Nat) then (2 : Int) else (0 : Int)) + bif y_1.b (100025 : Nat) then (4 : Int) else (0 : Int)) + bif
      y_1.b (100037 : Nat) then (8 : Int) else (0 : Int)) → ((bits BinOp.and IntKind.i64 ((y_6.n (90000 : Nat)).fdiv (8 : Int)) (1 : Int) == (0 : Int)) = true → True ∧ True ∧
      false = true) ∧ ((bits BinOp.and IntKind.i64 ((y_6.n (90000 : Nat)).fdiv (8 : Int)) (1 : Int) == (0 : Int)) = false → law_td E = law_td E ∧ (80 : Nat) = (80 : Nat) ∧ (True
      ∧ (((0 : Int) ≤ IntKind.i64.wrap (y.n (91004 : Nat) + eI E a ((y.n (91017 : Nat)).toNat * (4 : Nat) + (0 : Nat))) ∧ IntKind.i64.wrap (y.n (91004 : Nat) + eI E a ((y.n
      (91017 : Nat)).toNat * (4 : Nat) + (0 : Nat))) ≤ (200000000 : Int)) ∧ True) ∧ (C.es a n c = C.es a n c ∧ True) ∧ (C.i false IntKind.i64 (↑n : Int) = C.i false IntKind.i64
      (↑n : Int) ∧ True) ∧ (((0 : Int) ≤ IntKind.i64.wrap (y.n (91017 : Nat) + (1 : Int)) ∧ IntKind.i64.wrap (y.n (91017 : Nat) + (1 : Int)) ≤ (200 : Int)) ∧ True) ∧ True) ∧
      (mpB = mpB ∧ (50 : Nat) = (50 : Nat) ∧ (RG y_1) ∧ True) ∧ (IntKind.i64.wrap (y.n (91017 : Nat) + (1 : Int)) ≤ (↑n : Int) ∧ IntKind.i64.wrap (y.n (91004 : Nat) + eI E a
      ((y.n (91017 : Nat)).toNat * (4 : Nat) + (0 : Nat))) ≤ (1000000 : Int) * IntKind.i64.wrap (y.n (91017 : Nat) + (1 : Int)) ∧ n ≤ (200 : Nat)) ∧ ((↑n : Int) -
      IntKind.i64.wrap (y.n (91017 : Nat) + (1 : Int))).toNat < ((↑n : Int) - y.n (91017 : Nat)).toNat ∧ True)) ∧ (decide (y_2.n (90003 : Nat) > (0 : Int)) = false → law_td E =
      law_td E ∧ (80 : Nat) = (80 : Nat) ∧ (True ∧ (((0 : Int) ≤ IntKind.i64.wrap (y.n (91004 : Nat) + eI E a ((y.n (91017 : Nat)).toNat * (4 : Nat) + (0 : Nat))) ∧
      IntKind.i64.wrap (y.n (91004 : Nat) + eI E a ((y.n (91017 : Nat)).toNat * (4 : Nat) + (0 : Nat))) ≤ (200000000 : Int)) ∧ True) ∧ (C.es a n c = C.es a n c ∧ True) ∧ (C.i
      false IntKind.i64 (↑n : Int) = C.i false IntKind.i64 (↑n : Int) ∧ True) ∧ (((0 : Int) ≤ IntKind.i64.wrap (y.n (91017 : Nat) + (1 : Int)) ∧ IntKind.i64.wrap (y.n (91017 :
      Nat) + (1 : Int)) ≤ (200 : Int)) ∧ True) ∧ True) ∧ (mpB = mpB ∧ (50 : Nat) = (50 : Nat) ∧ (RG y_1) ∧ True) ∧ (IntKind.i64.wrap (y.n (91017 : Nat) + (1 : Int)) ≤ (↑n : Int)
      ∧ IntKind.i64.wrap (y.n (91004 : Nat) + eI E a ((y.n (91017 : Nat)).toNat * (4 : Nat) + (0 : Nat))) ≤ (1000000 : Int) * IntKind.i64.wrap (y.n (91017 : Nat) + (1 : Int)) ∧
      n ≤ (200 : Nat)) ∧ ((↑n : Int) - IntKind.i64.wrap (y.n (91017 : Nat) + (1 : Int))).toNat < ((↑n : Int) - y.n (91017 : Nat)).toNat ∧ True))))) ∧ (decide (y_2.n (90002 :
      Nat) > (0 : Int)) = false → (decide (y_2.n (90003 : Nat) < (0 : Int)) = true → True ∧ True ∧ false = true) ∧ (decide (y_2.n (90003 : Nat) < (0 : Int)) = false → (decide
      (y_2.n (90003 : Nat) > (15 : Int)) = true → True ∧ True ∧ false = true) ∧ (decide (y_2.n (90003 : Nat) > (15 : Int)) = false → (decide (y_2.n (90003 : Nat) > (0 : Int)) =
      true → ((mpB = mpB ∧ (50 : Nat) = (50 : Nat) ∧ (RG y_1) ∧ [Bl.mk [eC E a ((y.n (91017 : Nat)).toNat * (4 : Nat) + (0 : Nat)) (EK.i IntKind.i64), eC E a ((y.n (91017 :
      Nat)).toNat * (4 : Nat) + (1 : Nat)) (EK.i IntKind.i64), eC E a ((y.n (91017 : Nat)).toNat * (4 : Nat) + (2 : Nat)) (EK.i IntKind.i64), eC E a ((y.n (91017 : Nat)).toNat *
      (4 : Nat) + (3 : Nat)) (EK.i IntKind.u16)] (Bl.mk [C.i true IntKind.i64 (0 : Int), C.i true IntKind.i64 (0 : Int), C.i true IntKind.i64 (0 : Int), C.i true IntKind.u16 (0
      : Int)] (28 : Nat)).ty] = [Bl.mk [eC E a ((y.n (91017 : Nat)).toNat * (4 : Nat) + (0 : Nat)) (EK.i IntKind.i64), eC E a ((y.n (91017 : Nat)).toNat * (4 : Nat) + (1 : Nat))
      (EK.i IntKind.i64), eC E a ((y.n (91017 : Nat)).toNat * (4 : Nat) + (2 : Nat)) (EK.i IntKind.i64), eC E a ((y.n (91017 : Nat)).toNat * (4 : Nat) + (3 : Nat)) (EK.i
      IntKind.u16)] (Bl.mk [C.i true IntKind.i64 (0 : Int), C.i true IntKind.i64 (0 : Int), C.i true IntKind.i64 (0 : Int), C.i true IntKind.u16 (0 : Int)] (28 : Nat)).ty]) ∧
      True) ∧ ∀ (y_5 : PX), ((((0 : Int) ≤ y_5.n (90000 : Nat) ∧ y_5.n (90000 : Nat) ≤ (15 : Int)) ∧ True) ∧ y_5.n (90000 : Nat) = (((bif y_1.b (100001 : Nat) then (1 : Int)
      else (0 : Int)) + bif y_1.b (100013 : Nat) then (2 : Int) else (0 : Int)) + bif y_1.b (100025 : Nat) then (4 : Int) else (0 : Int)) + bif y_1.b (100037 : Nat) then (8 :
      Int) else (0 : Int)) → ((bits BinOp.and IntKind.i64 ((y_5.n (90000 : Nat)).fdiv (8 : Int)) (1 : Int) == (0 : Int)) = true → True ∧ True ∧ false = true) ∧ ((bits BinOp.and
      IntKind.i64 ((y_5.n (90000 : Nat)).fdiv (8 : Int)) (1 : Int) == (0 : Int)) = false → law_td E = law_td E ∧ (80 : Nat) = (80 : Nat) ∧ (True ∧ (((0 : Int) ≤ IntKind.i64.wrap
      (y.n (91004 : Nat) + eI E a ((y.n (91017 : Nat)).toNat * (4 : Nat) + (0 : Nat))) ∧ IntKind.i64.wrap (y.n (91004 : Nat) + eI E a ((y.n (91017 : Nat)).toNat * (4 : Nat) + (0
      : Nat))) ≤ (200000000 : Int)) ∧ True) ∧ (C.es a n c = C.es a n c ∧ True) ∧ (C.i false IntKind.i64 (↑n : Int) = C.i false IntKind.i64 (↑n : Int) ∧ True) ∧ (((0 : Int) ≤
      IntKind.i64.wrap (y.n (91017 : Nat) + (1 : Int)) ∧ IntKind.i64.wrap (y.n (91017 : Nat) + (1 : Int)) ≤ (200 : Int)) ∧ True) ∧ True) ∧ (mpB = mpB ∧ (50 : Nat) = (50 : Nat) ∧
      (RG y_1) ∧ True) ∧ (IntKind.i64.wrap (y.n (91017 : Nat) + (1 : Int)) ≤ (↑n : Int) ∧ IntKind.i64.wrap (y.n (91004 : Nat) + eI E a ((y.n (91017 : Nat)).toNat * (4 : Nat) +
      (0 : Nat))) ≤ (1000000 : Int) * IntKind.i64.wrap (y.n (91017 : Nat) + (1 : Int)) ∧ n ≤ (200 : Nat)) ∧ ((↑n : Int) - IntKind.i64.wrap (y.n (91017 : Nat) + (1 : Int))).toNat
      < ((↑n : Int) - y.n (91017 : Nat)).toNat ∧ True)) ∧ (decide (y_2.n (90003 : Nat) > (0 : Int)) = false → law_td E = law_td E ∧ (80 : Nat) = (80 : Nat) ∧ (True ∧ (((0 : Int)
      ≤ IntKind.i64.wrap (y.n (91004 : Nat) + eI E a ((y.n (91017 : Nat)).toNat * (4 : Nat) + (0 : Nat))) ∧ IntKind.i64.wrap (y.n (91004 : Nat) + eI E a ((y.n (91017 :
      Nat)).toNat * (4 : Nat) + (0 : Nat))) ≤ (200000000 : Int)) ∧ True) ∧ (C.es a n c = C.es a n c ∧ True) ∧ (C.i false IntKind.i64 (↑n : Int) = C.i false IntKind.i64 (↑n :
      Int) ∧ True) ∧ (((0 : Int) ≤ IntKind.i64.wrap (y.n (91017 : Nat) + (1 : Int)) ∧ IntKind.i64.wrap (y.n (91017 : Nat) + (1 : Int)) ≤ (200 : Int)) ∧ True) ∧ True) ∧ (mpB =
      mpB ∧ (50 : Nat) = (50 : Nat) ∧ (RG y_1) ∧ True) ∧ (IntKind.i64.wrap (y.n (91017 : Nat) + (1 : Int)) ≤ (↑n : Int) ∧ IntKind.i64.wrap (y.n (91004 : Nat) + eI E a ((y.n
      (91017 : Nat)).toNat * (4 : Nat) + (0 : Nat))) ≤ (1000000 : Int) * IntKind.i64.wrap (y.n (91017 : Nat) + (1 : Int)) ∧ n ≤ (200 : Nat)) ∧ ((↑n : Int) - IntKind.i64.wrap
      (y.n (91017 : Nat) + (1 : Int))).toNat < ((↑n : Int) - y.n (91017 : Nat)).toNat ∧ True)))))))) ∧ (decide (y_2.n (90001 : Nat) > (0 : Int)) = false → (decide (y_2.n (90002
      : Nat) < (0 : Int)) = true → True ∧ True ∧ false = true) ∧ (decide (y_2.n (90002 : Nat) < (0 : Int)) = false → (decide (y_2.n (90002 : Nat) > (15 : Int)) = true → True ∧
      True ∧ false = true) ∧ (decide (y_2.n (90002 : Nat) > (15 : Int)) = false → (decide (y_2.n (90002 : Nat) > (0 : Int)) = true → ((mpB = mpB ∧ (50 : Nat) = (50 : Nat) ∧ (RG
      y_1) ∧ [Bl.mk [eC E a ((y.n (91017 : Nat)).toNat * (4 : Nat) + (0 : Nat)) (EK.i IntKind.i64), eC E a ((y.n (91017 : Nat)).toNat * (4 : Nat) + (1 : Nat)) (EK.i
      IntKind.i64), eC E a ((y.n (91017 : Nat)).toNat * (4 : Nat) + (2 : Nat)) (EK.i IntKind.i64), eC E a ((y.n (91017 : Nat)).toNat * (4 : Nat) + (3 : Nat)) (EK.i IntKind.u16)]
      (Bl.mk [C.i true IntKind.i64 (0 : Int), C.i true IntKind.i64 (0 : Int), C.i true IntKind.i64 (0 : Int), C.i true IntKind.u16 (0 : Int)] (28 : Nat)).ty] = [Bl.mk [eC E a
      ((y.n (91017 : Nat)).toNat * (4 : Nat) + (0 : Nat)) (EK.i IntKind.i64), eC E a ((y.n (91017 : Nat)).toNat * (4 : Nat) + (1 : Nat)) (EK.i IntKind.i64), eC E a ((y.n (91017
      : Nat)).toNat * (4 : Nat) + (2 : Nat)) (EK.i IntKind.i64), eC E a ((y.n (91017 : Nat)).toNat * (4 : Nat) + (3 : Nat)) (EK.i IntKind.u16)] (Bl.mk [C.i true IntKind.i64 (0 :
      Int), C.i true IntKind.i64 (0 : Int), C.i true IntKind.i64 (0 : Int), C.i true IntKind.u16 (0 : Int)] (28 : Nat)).ty]) ∧ True) ∧ ∀ (y_4 : PX), ((((0 : Int) ≤ y_4.n (90000
      : Nat) ∧ y_4.n (90000 : Nat) ≤ (15 : Int)) ∧ True) ∧ y_4.n (90000 : Nat) = (((bif y_1.b (100001 : Nat) then (1 : Int) else (0 : Int)) + bif y_1.b (100013 : Nat) then (2 :
      Int) else (0 : Int)) + bif y_1.b (100025 : Nat) then (4 : Int) else (0 : Int)) + bif y_1.b (100037 : Nat) then (8 : Int) else (0 : Int)) → ((bits BinOp.and IntKind.i64
      ((y_4.n (90000 : Nat)).fdiv (4 : Int)) (1 : Int) == (0 : Int)) = true → True ∧ True ∧ false = true) ∧ ((bits BinOp.and IntKind.i64 ((y_4.n (90000 : Nat)).fdiv (4 : Int))
      (1 : Int) == (0 : Int)) = false → (decide (y_2.n (90003 : Nat) < (0 : Int)) = true → True ∧ True ∧ false = true) ∧ (decide (y_2.n (90003 : Nat) < (0 : Int)) = false →
      (decide (y_2.n (90003 : Nat) > (15 : Int)) = true → True ∧ True ∧ false = true) ∧ (decide (y_2.n (90003 : Nat) > (15 : Int)) = false → (decide (y_2.n (90003 : Nat) > (0 :
      Int)) = true → ((mpB = mpB ∧ (50 : Nat) = (50 : Nat) ∧ (RG y_1) ∧ [Bl.mk [eC E a ((y.n (91017 : Nat)).toNat * (4 : Nat) + (0 : Nat)) (EK.i IntKind.i64), eC E a ((y.n
      (91017 : Nat)).toNat * (4 : Nat) + (1 : Nat)) (EK.i IntKind.i64), eC E a ((y.n (91017 : Nat)).toNat * (4 : Nat) + (2 : Nat)) (EK.i IntKind.i64), eC E a ((y.n (91017 :
      Nat)).toNat * (4 : Nat) + (3 : Nat)) (EK.i IntKind.u16)] (Bl.mk [C.i true IntKind.i64 (0 : Int), C.i true IntKind.i64 (0 : Int), C.i true IntKind.i64 (0 : Int), C.i true
      IntKind.u16 (0 : Int)] (28 : Nat)).ty] = [Bl.mk [eC E a ((y.n (91017 : Nat)).toNat * (4 : Nat) + (0 : Nat)) (EK.i IntKind.i64), eC E a ((y.n (91017 : Nat)).toNat * (4 :
      Nat) + (1 : Nat)) (EK.i IntKind.i64), eC E a ((y.n (91017 : Nat)).toNat * (4 : Nat) + (2 : Nat)) (EK.i IntKind.i64), eC E a ((y.n (91017 : Nat)).toNat * (4 : Nat) + (3 :
      Nat)) (EK.i IntKind.u16)] (Bl.mk [C.i true IntKind.i64 (0 : Int), C.i true IntKind.i64 (0 : Int), C.i true IntKind.i64 (0 : Int), C.i true IntKind.u16 (0 : Int)] (28 :
      Nat)).ty]) ∧ True) ∧ ∀ (y_5 : PX), ((((0 : Int) ≤ y_5.n (90000 : Nat) ∧ y_5.n (90000 : Nat) ≤ (15 : Int)) ∧ True) ∧ y_5.n (90000 : Nat) = (((bif y_1.b (100001 : Nat) then
      (1 : Int) else (0 : Int)) + bif y_1.b (100013 : Nat) then (2 : Int) else (0 : Int)) + bif y_1.b (100025 : Nat) then (4 : Int) else (0 : Int)) + bif y_1.b (100037 : Nat)
      then (8 : Int) else (0 : Int)) → ((bits BinOp.and IntKind.i64 ((y_5.n (90000 : Nat)).fdiv (8 : Int)) (1 : Int) == (0 : Int)) = true → True ∧ True ∧ false = true) ∧ ((bits
      BinOp.and IntKind.i64 ((y_5.n (90000 : Nat)).fdiv (8 : Int)) (1 : Int) == (0 : Int)) = false → law_td E = law_td E ∧ (80 : Nat) = (80 : Nat) ∧ (True ∧ (((0 : Int) ≤
      IntKind.i64.wrap (y.n (91004 : Nat) + eI E a ((y.n (91017 : Nat)).toNat * (4 : Nat) + (0 : Nat))) ∧ IntKind.i64.wrap (y.n (91004 : Nat) + eI E a ((y.n (91017 : Nat)).toNat
      * (4 : Nat) + (0 : Nat))) ≤ (200000000 : Int)) ∧ True) ∧ (C.es a n c = C.es a n c ∧ True) ∧ (C.i false IntKind.i64 (↑n : Int) = C.i false IntKind.i64 (↑n : Int) ∧ True) ∧
      (((0 : Int) ≤ IntKind.i64.wrap (y.n (91017 : Nat) + (1 : Int)) ∧ IntKind.i64.wrap (y.n (91017 : Nat) + (1 : Int)) ≤ (200 : Int)) ∧ True) ∧ True) ∧ (mpB = mpB ∧ (50 : Nat)
      = (50 : Nat) ∧ (RG y_1) ∧ True) ∧ (IntKind.i64.wrap (y.n (91017 : Nat) + (1 : Int)) ≤ (↑n : Int) ∧ IntKind.i64.wrap (y.n (91004 : Nat) + eI E a ((y.n (91017 : Nat)).toNat
      * (4 : Nat) + (0 : Nat))) ≤ (1000000 : Int) * IntKind.i64.wrap (y.n (91017 : Nat) + (1 : Int)) ∧ n ≤ (200 : Nat)) ∧ ((↑n : Int) - IntKind.i64.wrap (y.n (91017 : Nat) + (1
      : Int))).toNat < ((↑n : Int) - y.n (91017 : Nat)).toNat ∧ True)) ∧ (decide (y_2.n (90003 : Nat) > (0 : Int)) = false → law_td E = law_td E ∧ (80 : Nat) = (80 : Nat) ∧
      (True ∧ (((0 : Int) ≤ IntKind.i64.wrap (y.n (91004 : Nat) + eI E a ((y.n (91017 : Nat)).toNat * (4 : Nat) + (0 : Nat))) ∧ IntKind.i64.wrap (y.n (91004 : Nat) + eI E a
      ((y.n (91017 : Nat)).toNat * (4 : Nat) + (0 : Nat))) ≤ (200000000 : Int)) ∧ True) ∧ (C.es a n c = C.es a n c ∧ True) ∧ (C.i false IntKind.i64 (↑n : Int) = C.i false
      IntKind.i64 (↑n : Int) ∧ True) ∧ (((0 : Int) ≤ IntKind.i64.wrap (y.n (91017 : Nat) + (1 : Int)) ∧ IntKind.i64.wrap (y.n (91017 : Nat) + (1 : Int)) ≤ (200 : Int)) ∧ True) ∧
      True) ∧ (mpB = mpB ∧ (50 : Nat) = (50 : Nat) ∧ (RG y_1) ∧ True) ∧ (IntKind.i64.wrap (y.n (91017 : Nat) + (1 : Int)) ≤ (↑n : Int) ∧ IntKind.i64.wrap (y.n (91004 : Nat) + eI
      E a ((y.n (91017 : Nat)).toNat * (4 : Nat) + (0 : Nat))) ≤ (1000000 : Int) * IntKind.i64.wrap (y.n (91017 : Nat) + (1 : Int)) ∧ n ≤ (200 : Nat)) ∧ ((↑n : Int) -
      IntKind.i64.wrap (y.n (91017 : Nat) + (1 : Int))).toNat < ((↑n : Int) - y.n (91017 : Nat)).toNat ∧ True))))) ∧ (decide (y_2.n (90002 : Nat) > (0 : Int)) = false → (decide
      (y_2.n (90003 : Nat) < (0 : Int)) = true → True ∧ True ∧ false = true) ∧ (decide (y_2.n (90003 : Nat) < (0 : Int)) = false → (decide (y_2.n (90003 : Nat) > (15 : Int)) =
      true → True ∧ True ∧ false = true) ∧ (decide (y_2.n (90003 : Nat) > (15 : Int)) = false → (decide (y_2.n (90003 : Nat) > (0 : Int)) = true → ((mpB = mpB ∧ (50 : Nat) = (50
      : Nat) ∧ (RG y_1) ∧ [Bl.mk [eC E a ((y.n (91017 : Nat)).toNat * (4 : Nat) + (0 : Nat)) (EK.i IntKind.i64), eC E a ((y.n (91017 : Nat)).toNat * (4 : Nat) + (1 : Nat)) (EK.i
      IntKind.i64), eC E a ((y.n (91017 : Nat)).toNat * (4 : Nat) + (2 : Nat)) (EK.i IntKind.i64), eC E a ((y.n (91017 : Nat)).toNat * (4 : Nat) + (3 : Nat)) (EK.i IntKind.u16)]
      (Bl.mk [C.i true IntKind.i64 (0 : Int), C.i true IntKind.i64 (0 : Int), C.i true IntKind.i64 (0 : Int), C.i true IntKind.u16 (0 : Int)] (28 : Nat)).ty] = [Bl.mk [eC E a
      ((y.n (91017 : Nat)).toNat * (4 : Nat) + (0 : Nat)) (EK.i IntKind.i64), eC E a ((y.n (91017 : Nat)).toNat * (4 : Nat) + (1 : Nat)) (EK.i IntKind.i64), eC E a ((y.n (91017
      : Nat)).toNat * (4 : Nat) + (2 : Nat)) (EK.i IntKind.i64), eC E a ((y.n (91017 : Nat)).toNat * (4 : Nat) + (3 : Nat)) (EK.i IntKind.u16)] (Bl.mk [C.i true IntKind.i64 (0 :
      Int), C.i true IntKind.i64 (0 : Int), C.i true IntKind.i64 (0 : Int), C.i true IntKind.u16 (0 : Int)] (28 : Nat)).ty]) ∧ True) ∧ ∀ (y_4 : PX), ((((0 : Int) ≤ y_4.n (90000
      : Nat) ∧ y_4.n (90000 : Nat) ≤ (15 : Int)) ∧ True) ∧ y_4.n (90000 : Nat) = (((bif y_1.b (100001 : Nat) then (1 : Int) else (0 : Int)) + bif y_1.b (100013 : Nat) then (2 :
      Int) else (0 : Int)) + bif y_1.b (100025 : Nat) then (4 : Int) else (0 : Int)) + bif y_1.b (100037 : Nat) then (8 : Int) else (0 : Int)) → ((bits BinOp.and IntKind.i64
      ((y_4.n (90000 : Nat)).fdiv (8 : Int)) (1 : Int) == (0 : Int)) = true → True ∧ True ∧ false = true) ∧ ((bits BinOp.and IntKind.i64 ((y_4.n (90000 : Nat)).fdiv (8 : Int))
      (1 : Int) == (0 : Int)) = false → law_td E = law_td E ∧ (80 : Nat) = (80 : Nat) ∧ (True ∧ (((0 : Int) ≤ IntKind.i64.wrap (y.n (91004 : Nat) + eI E a ((y.n (91017 :
      Nat)).toNat * (4 : Nat) + (0 : Nat))) ∧ IntKind.i64.wrap (y.n (91004 : Nat) + eI E a ((y.n (91017 : Nat)).toNat * (4 : Nat) + (0 : Nat))) ≤ (200000000 : Int)) ∧ True) ∧
      (C.es a n c = C.es a n c ∧ True) ∧ (C.i false IntKind.i64 (↑n : Int) = C.i false IntKind.i64 (↑n : Int) ∧ True) ∧ (((0 : Int) ≤ IntKind.i64.wrap (y.n (91017 : Nat) + (1 :
      Int)) ∧ IntKind.i64.wrap (y.n (91017 : Nat) + (1 : Int)) ≤ (200 : Int)) ∧ True) ∧ True) ∧ (mpB = mpB ∧ (50 : Nat) = (50 : Nat) ∧ (RG y_1) ∧ True) ∧ (IntKind.i64.wrap (y.n
      (91017 : Nat) + (1 : Int)) ≤ (↑n : Int) ∧ IntKind.i64.wrap (y.n (91004 : Nat) + eI E a ((y.n (91017 : Nat)).toNat * (4 : Nat) + (0 : Nat))) ≤ (1000000 : Int) *
      IntKind.i64.wrap (y.n (91017 : Nat) + (1 : Int)) ∧ n ≤ (200 : Nat)) ∧ ((↑n : Int) - IntKind.i64.wrap (y.n (91017 : Nat) + (1 : Int))).toNat < ((↑n : Int) - y.n (91017 :
      Nat)).toNat ∧ True)) ∧ (decide (y_2.n (90003 : Nat) > (0 : Int)) = false → law_td E = law_td E ∧ (80 : Nat) = (80 : Nat) ∧ (True ∧ (((0 : Int) ≤ IntKind.i64.wrap (y.n
      (91004 : Nat) + eI E a ((y.n (91017 : Nat)).toNat * (4 : Nat) + (0 : Nat))) ∧ IntKind.i64.wrap (y.n (91004 : Nat) + eI E a ((y.n (91017 : Nat)).toNat * (4 : Nat) + (0 :
      Nat))) ≤ (200000000 : Int)) ∧ True) ∧ (C.es a n c = C.es a n c ∧ True) ∧ (C.i false IntKind.i64 (↑n : Int) = C.i false IntKind.i64 (↑n : Int) ∧ True) ∧ (((0 : Int) ≤
      IntKind.i64.wrap (y.n (91017 : Nat) + (1 : Int)) ∧ IntKind.i64.wrap (y.n (91017 : Nat) + (1 : Int)) ≤ (200 : Int)) ∧ True) ∧ True) ∧ (mpB = mpB ∧ (50 : Nat) = (50 : Nat) ∧
      (RG y_1) ∧ True) ∧ (IntKind.i64.wrap (y.n (91017 : Nat) + (1 : Int)) ≤ (↑n : Int) ∧ IntKind.i64.wrap (y.n (91004 : Nat) + eI E a ((y.n (91017 : Nat)).toNat * (4 : Nat) +
      (0 : Nat))) ≤ (1000000 : Int) * IntKind.i64.wrap (y.n (91017 : Nat) + (1 : Int)) ∧ n ≤ (200 : Nat)) ∧ ((↑n : Int) - IntKind.i64.wrap (y.n (91017 : Nat) + (1 : Int))).toNat
      < ((↑n : Int) - y.n (91017 : Nat)).toNat ∧ True))))))))))) ∧ (decide (y_2.n (90000 : Nat) > (0 : Int)) = false → (decide (y_2.n (90001 : Nat) < (0 : Int)) = true → True ∧
      True ∧ false = true) ∧ (decide (y_2.n (90001 : Nat) < (0 : Int)) = false → (decide (y_2.n (90001 : Nat) > (15 : Int)) = true → True ∧ True ∧ false = true) ∧ (decide (y_2.n
      (90001 : Nat) > (15 : Int)) = false → (decide (y_2.n (90001 : Nat) > (0 : Int)) = true → ((mpB = mpB ∧ (50 : Nat) = (50 : Nat) ∧ (RG y_1) ∧ [Bl.mk [eC E a ((y.n (91017 :
      Nat)).toNat * (4 : Nat) + (0 : Nat)) (EK.i IntKind.i64), eC E a ((y.n (91017 : Nat)).toNat * (4 : Nat) + (1 : Nat)) (EK.i IntKind.i64), eC E a ((y.n (91017 : Nat)).toNat *
      (4 : Nat) + (2 : Nat)) (EK.i IntKind.i64), eC E a ((y.n (91017 : Nat)).toNat * (4 : Nat) + (3 : Nat)) (EK.i IntKind.u16)] (Bl.mk [C.i true IntKind.i64 (0 : Int), C.i true
      IntKind.i64 (0 : Int), C.i true IntKind.i64 (0 : Int), C.i true IntKind.u16 (0 : Int)] (28 : Nat)).ty] = [Bl.mk [eC E a ((y.n (91017 : Nat)).toNat * (4 : Nat) + (0 : Nat))
      (EK.i IntKind.i64), eC E a ((y.n (91017 : Nat)).toNat * (4 : Nat) + (1 : Nat)) (EK.i IntKind.i64), eC E a ((y.n (91017 : Nat)).toNat * (4 : Nat) + (2 : Nat)) (EK.i
      IntKind.i64), eC E a ((y.n (91017 : Nat)).toNat * (4 : Nat) + (3 : Nat)) (EK.i IntKind.u16)] (Bl.mk [C.i true IntKind.i64 (0 : Int), C.i true IntKind.i64 (0 : Int), C.i
      true IntKind.i64 (0 : Int), C.i true IntKind.u16 (0 : Int)] (28 : Nat)).ty]) ∧ True) ∧ ∀ (y_3 : PX), ((((0 : Int) ≤ y_3.n (90000 : Nat) ∧ y_3.n (90000 : Nat) ≤ (15 : Int))
      ∧ True) ∧ y_3.n (90000 : Nat) = (((bif y_1.b (100001 : Nat) then (1 : Int) else (0 : Int)) + bif y_1.b (100013 : Nat) then (2 : Int) else (0 : Int)) + bif y_1.b (100025 :
      Nat) then (4 : Int) else (0 : Int)) + bif y_1.b (100037 : Nat) then (8 : Int) else (0 : Int)) → ((bits BinOp.and IntKind.i64 ((y_3.n (90000 : Nat)).fdiv (2 : Int)) (1 :
      Int) == (0 : Int)) = true → True ∧ True ∧ false = true) ∧ ((bits BinOp.and IntKind.i64 ((y_3.n (90000 : Nat)).fdiv (2 : Int)) (1 : Int) == (0 : Int)) = false → (decide
      (y_2.n (90002 : Nat) < (0 : Int)) = true → True ∧ True ∧ false = true) ∧ (decide (y_2.n (90002 : Nat) < (0 : Int)) = false → (decide (y_2.n (90002 : Nat) > (15 : Int)) =
      true → True ∧ True ∧ false = true) ∧ (decide (y_2.n (90002 : Nat) > (15 : Int)) = false → (decide (y_2.n (90002 : Nat) > (0 : Int)) = true → ((mpB = mpB ∧ (50 : Nat) = (50
      : Nat) ∧ (RG y_1) ∧ [Bl.mk [eC E a ((y.n (91017 : Nat)).toNat * (4 : Nat) + (0 : Nat)) (EK.i IntKind.i64), eC E a ((y.n (91017 : Nat)).toNat * (4 : Nat) + (1 : Nat)) (EK.i
      IntKind.i64), eC E a ((y.n (91017 : Nat)).toNat * (4 : Nat) + (2 : Nat)) (EK.i IntKind.i64), eC E a ((y.n (91017 : Nat)).toNat * (4 : Nat) + (3 : Nat)) (EK.i IntKind.u16)]
      (Bl.mk [C.i true IntKind.i64 (0 : Int), C.i true IntKind.i64 (0 : Int), C.i true IntKind.i64 (0 : Int), C.i true IntKind.u16 (0 : Int)] (28 : Nat)).ty] = [Bl.mk [eC E a
      ((y.n (91017 : Nat)).toNat * (4 : Nat) + (0 : Nat)) (EK.i IntKind.i64), eC E a ((y.n (91017 : Nat)).toNat * (4 : Nat) + (1 : Nat)) (EK.i IntKind.i64), eC E a ((y.n (91017
      : Nat)).toNat * (4 : Nat) + (2 : Nat)) (EK.i IntKind.i64), eC E a ((y.n (91017 : Nat)).toNat * (4 : Nat) + (3 : Nat)) (EK.i IntKind.u16)] (Bl.mk [C.i true IntKind.i64 (0 :
      Int), C.i true IntKind.i64 (0 : Int), C.i true IntKind.i64 (0 : Int), C.i true IntKind.u16 (0 : Int)] (28 : Nat)).ty]) ∧ True) ∧ ∀ (y_4 : PX), ((((0 : Int) ≤ y_4.n (90000
      : Nat) ∧ y_4.n (90000 : Nat) ≤ (15 : Int)) ∧ True) ∧ y_4.n (90000 : Nat) = (((bif y_1.b (100001 : Nat) then (1 : Int) else (0 : Int)) + bif y_1.b (100013 : Nat) then (2 :
      Int) else (0 : Int)) + bif y_1.b (100025 : Nat) then (4 : Int) else (0 : Int)) + bif y_1.b (100037 : Nat) then (8 : Int) else (0 : Int)) → ((bits BinOp.and IntKind.i64
      ((y_4.n (90000 : Nat)).fdiv (4 : Int)) (1 : Int) == (0 : Int)) = true → True ∧ True ∧ false = true) ∧ ((bits BinOp.and IntKind.i64 ((y_4.n (90000 : Nat)).fdiv (4 : Int))
      (1 : Int) == (0 : Int)) = false → (decide (y_2.n (90003 : Nat) < (0 : Int)) = true → True ∧ True ∧ false = true) ∧ (decide (y_2.n (90003 : Nat) < (0 : Int)) = false →
      (decide (y_2.n (90003 : Nat) > (15 : Int)) = true → True ∧ True ∧ false = true) ∧ (decide (y_2.n (90003 : Nat) > (15 : Int)) = false → (decide (y_2.n (90003 : Nat) > (0 :
      Int)) = true → ((mpB = mpB ∧ (50 : Nat) = (50 : Nat) ∧ (RG y_1) ∧ [Bl.mk [eC E a ((y.n (91017 : Nat)).toNat * (4 : Nat) + (0 : Nat)) (EK.i IntKind.i64), eC E a ((y.n
      (91017 : Nat)).toNat * (4 : Nat) + (1 : Nat)) (EK.i IntKind.i64), eC E a ((y.n (91017 : Nat)).toNat * (4 : Nat) + (2 : Nat)) (EK.i IntKind.i64), eC E a ((y.n (91017 :
      Nat)).toNat * (4 : Nat) + (3 : Nat)) (EK.i IntKind.u16)] (Bl.mk [C.i true IntKind.i64 (0 : Int), C.i true IntKind.i64 (0 : Int), C.i true IntKind.i64 (0 : Int), C.i true
      IntKind.u16 (0 : Int)] (28 : Nat)).ty] = [Bl.mk [eC E a ((y.n (91017 : Nat)).toNat * (4 : Nat) + (0 : Nat)) (EK.i IntKind.i64), eC E a ((y.n (91017 : Nat)).toNat * (4 :
      Nat) + (1 : Nat)) (EK.i IntKind.i64), eC E a ((y.n (91017 : Nat)).toNat * (4 : Nat) + (2 : Nat)) (EK.i IntKind.i64), eC E a ((y.n (91017 : Nat)).toNat * (4 : Nat) + (3 :
      Nat)) (EK.i IntKind.u16)] (Bl.mk [C.i true IntKind.i64 (0 : Int), C.i true IntKind.i64 (0 : Int), C.i true IntKind.i64 (0 : Int), C.i true IntKind.u16 (0 : Int)] (28 :
      Nat)).ty]) ∧ True) ∧ ∀ (y_5 : PX), ((((0 : Int) ≤ y_5.n (90000 : Nat) ∧ y_5.n (90000 : Nat) ≤ (15 : Int)) ∧ True) ∧ y_5.n (90000 : Nat) = (((bif y_1.b (100001 : Nat) then
      (1 : Int) else (0 : Int)) + bif y_1.b (100013 : Nat) then (2 : Int) else (0 : Int)) + bif y_1.b (100025 : Nat) then (4 : Int) else (0 : Int)) + bif y_1.b (100037 : Nat)
      then (8 : Int) else (0 : Int)) → ((bits BinOp.and IntKind.i64 ((y_5.n (90000 : Nat)).fdiv (8 : Int)) (1 : Int) == (0 : Int)) = true → True ∧ True ∧ false = true) ∧ ((bits
      BinOp.and IntKind.i64 ((y_5.n (90000 : Nat)).fdiv (8 : Int)) (1 : Int) == (0 : Int)) = false → law_td E = law_td E ∧ (80 : Nat) = (80 : Nat) ∧ (True ∧ (((0 : Int) ≤
      IntKind.i64.wrap (y.n (91004 : Nat) + eI E a ((y.n (91017 : Nat)).toNat * (4 : Nat) + (0 : Nat))) ∧ IntKind.i64.wrap (y.n (91004 : Nat) + eI E a ((y.n (91017 : Nat)).toNat
      * (4 : Nat) + (0 : Nat))) ≤ (200000000 : Int)) ∧ True) ∧ (C.es a n c = C.es a n c ∧ True) ∧ (C.i false IntKind.i64 (↑n : Int) = C.i false IntKind.i64 (↑n : Int) ∧ True) ∧
      (((0 : Int) ≤ IntKind.i64.wrap (y.n (91017 : Nat) + (1 : Int)) ∧ IntKind.i64.wrap (y.n (91017 : Nat) + (1 : Int)) ≤ (200 : Int)) ∧ True) ∧ True) ∧ (mpB = mpB ∧ (50 : Nat)
      = (50 : Nat) ∧ (RG y_1) ∧ True) ∧ (IntKind.i64.wrap (y.n (91017 : Nat) + (1 : Int)) ≤ (↑n : Int) ∧ IntKind.i64.wrap (y.n (91004 : Nat) + eI E a ((y.n (91017 : Nat)).toNat
      * (4 : Nat) + (0 : Nat))) ≤ (1000000 : Int) * IntKind.i64.wrap (y.n (91017 : Nat) + (1 : Int)) ∧ n ≤ (200 : Nat)) ∧ ((↑n : Int) - IntKind.i64.wrap (y.n (91017 : Nat) + (1
      : Int))).toNat < ((↑n : Int) - y.n (91017 : Nat)).toNat ∧ True)) ∧ (decide (y_2.n (90003 : Nat) > (0 : Int)) = false → law_td E = law_td E ∧ (80 : Nat) = (80 : Nat) ∧
      (True ∧ (((0 : Int) ≤ IntKind.i64.wrap (y.n (91004 : Nat) + eI E a ((y.n (91017 : Nat)).toNat * (4 : Nat) + (0 : Nat))) ∧ IntKind.i64.wrap (y.n (91004 : Nat) + eI E a
      ((y.n (91017 : Nat)).toNat * (4 : Nat) + (0 : Nat))) ≤ (200000000 : Int)) ∧ True) ∧ (C.es a n c = C.es a n c ∧ True) ∧ (C.i false IntKind.i64 (↑n : Int) = C.i false
      IntKind.i64 (↑n : Int) ∧ True) ∧ (((0 : Int) ≤ IntKind.i64.wrap (y.n (91017 : Nat) + (1 : Int)) ∧ IntKind.i64.wrap (y.n (91017 : Nat) + (1 : Int)) ≤ (200 : Int)) ∧ True) ∧
      True) ∧ (mpB = mpB ∧ (50 : Nat) = (50 : Nat) ∧ (RG y_1) ∧ True) ∧ (IntKind.i64.wrap (y.n (91017 : Nat) + (1 : Int)) ≤ (↑n : Int) ∧ IntKind.i64.wrap (y.n (91004 : Nat) + eI
      E a ((y.n (91017 : Nat)).toNat * (4 : Nat) + (0 : Nat))) ≤ (1000000 : Int) * IntKind.i64.wrap (y.n (91017 : Nat) + (1 : Int)) ∧ n ≤ (200 : Nat)) ∧ ((↑n : Int) -
      IntKind.i64.wrap (y.n (91017 : Nat) + (1 : Int))).toNat < ((↑n : Int) - y.n (91017 : Nat)).toNat ∧ True))))) ∧ (decide (y_2.n (90002 : Nat) > (0 : Int)) = false → (decide
      (y_2.n (90003 : Nat) < (0 : Int)) = true → True ∧ True ∧ false = true) ∧ (decide (y_2.n (90003 : Nat) < (0 : Int)) = false → (decide (y_2.n (90003 : Nat) > (15 : Int)) =
      true → True ∧ True ∧ false = true) ∧ (decide (y_2.n (90003 : Nat) > (15 : Int)) = false → (decide (y_2.n (90003 : Nat) > (0 : Int)) = true → ((mpB = mpB ∧ (50 : Nat) = (50
      : Nat) ∧ (RG y_1) ∧ [Bl.mk [eC E a ((y.n (91017 : Nat)).toNat * (4 : Nat) + (0 : Nat)) (EK.i IntKind.i64), eC E a ((y.n (91017 : Nat)).toNat * (4 : Nat) + (1 : Nat)) (EK.i
      IntKind.i64), eC E a ((y.n (91017 : Nat)).toNat * (4 : Nat) + (2 : Nat)) (EK.i IntKind.i64), eC E a ((y.n (91017 : Nat)).toNat * (4 : Nat) + (3 : Nat)) (EK.i IntKind.u16)]
      (Bl.mk [C.i true IntKind.i64 (0 : Int), C.i true IntKind.i64 (0 : Int), C.i true IntKind.i64 (0 : Int), C.i true IntKind.u16 (0 : Int)] (28 : Nat)).ty] = [Bl.mk [eC E a
      ((y.n (91017 : Nat)).toNat * (4 : Nat) + (0 : Nat)) (EK.i IntKind.i64), eC E a ((y.n (91017 : Nat)).toNat * (4 : Nat) + (1 : Nat)) (EK.i IntKind.i64), eC E a ((y.n (91017
      : Nat)).toNat * (4 : Nat) + (2 : Nat)) (EK.i IntKind.i64), eC E a ((y.n (91017 : Nat)).toNat * (4 : Nat) + (3 : Nat)) (EK.i IntKind.u16)] (Bl.mk [C.i true IntKind.i64 (0 :
      Int), C.i true IntKind.i64 (0 : Int), C.i true IntKind.i64 (0 : Int), C.i true IntKind.u16 (0 : Int)] (28 : Nat)).ty]) ∧ True) ∧ ∀ (y_4 : PX), ((((0 : Int) ≤ y_4.n (90000
      : Nat) ∧ y_4.n (90000 : Nat) ≤ (15 : Int)) ∧ True) ∧ y_4.n (90000 : Nat) = (((bif y_1.b (100001 : Nat) then (1 : Int) else (0 : Int)) + bif y_1.b (100013 : Nat) then (2 :
      Int) else (0 : Int)) + bif y_1.b (100025 : Nat) then (4 : Int) else (0 : Int)) + bif y_1.b (100037 : Nat) then (8 : Int) else (0 : Int)) → ((bits BinOp.and IntKind.i64
      ((y_4.n (90000 : Nat)).fdiv (8 : Int)) (1 : Int) == (0 : Int)) = true → True ∧ True ∧ false = true) ∧ ((bits BinOp.and IntKind.i64 ((y_4.n (90000 : Nat)).fdiv (8 : Int))
      (1 : Int) == (0 : Int)) = false → law_td E = law_td E ∧ (80 : Nat) = (80 : Nat) ∧ (True ∧ (((0 : Int) ≤ IntKind.i64.wrap (y.n (91004 : Nat) + eI E a ((y.n (91017 :
      Nat)).toNat * (4 : Nat) + (0 : Nat))) ∧ IntKind.i64.wrap (y.n (91004 : Nat) + eI E a ((y.n (91017 : Nat)).toNat * (4 : Nat) + (0 : Nat))) ≤ (200000000 : Int)) ∧ True) ∧
      (C.es a n c = C.es a n c ∧ True) ∧ (C.i false IntKind.i64 (↑n : Int) = C.i false IntKind.i64 (↑n : Int) ∧ True) ∧ (((0 : Int) ≤ IntKind.i64.wrap (y.n (91017 : Nat) + (1 :
      Int)) ∧ IntKind.i64.wrap (y.n (91017 : Nat) + (1 : Int)) ≤ (200 : Int)) ∧ True) ∧ True) ∧ (mpB = mpB ∧ (50 : Nat) = (50 : Nat) ∧ (RG y_1) ∧ True) ∧ (IntKind.i64.wrap (y.n
      (91017 : Nat) + (1 : Int)) ≤ (↑n : Int) ∧ IntKind.i64.wrap (y.n (91004 : Nat) + eI E a ((y.n (91017 : Nat)).toNat * (4 : Nat) + (0 : Nat))) ≤ (1000000 : Int) *
      IntKind.i64.wrap (y.n (91017 : Nat) + (1 : Int)) ∧ n ≤ (200 : Nat)) ∧ ((↑n : Int) - IntKind.i64.wrap (y.n (91017 : Nat) + (1 : Int))).toNat < ((↑n : Int) - y.n (91017 :
      Nat)).toNat ∧ True)) ∧ (decide (y_2.n (90003 : Nat) > (0 : Int)) = false → law_td E = law_td E ∧ (80 : Nat) = (80 : Nat) ∧ (True ∧ (((0 : Int) ≤ IntKind.i64.wrap (y.n
      (91004 : Nat) + eI E a ((y.n (91017 : Nat)).toNat * (4 : Nat) + (0 : Nat))) ∧ IntKind.i64.wrap (y.n (91004 : Nat) + eI E a ((y.n (91017 : Nat)).toNat * (4 : Nat) + (0 :
      Nat))) ≤ (200000000 : Int)) ∧ True) ∧ (C.es a n c = C.es a n c ∧ True) ∧ (C.i false IntKind.i64 (↑n : Int) = C.i false IntKind.i64 (↑n : Int) ∧ True) ∧ (((0 : Int) ≤
      IntKind.i64.wrap (y.n (91017 : Nat) + (1 : Int)) ∧ IntKind.i64.wrap (y.n (91017 : Nat) + (1 : Int)) ≤ (200 : Int)) ∧ True) ∧ True) ∧ (mpB = mpB ∧ (50 : Nat) = (50 : Nat) ∧
      (RG y_1) ∧ True) ∧ (IntKind.i64.wrap (y.n (91017 : Nat) + (1 : Int)) ≤ (↑n : Int) ∧ IntKind.i64.wrap (y.n (91004 : Nat) + eI E a ((y.n (91017 : Nat)).toNat * (4 : Nat) +
      (0 : Nat))) ≤ (1000000 : Int) * IntKind.i64.wrap (y.n (91017 : Nat) + (1 : Int)) ∧ n ≤ (200 : Nat)) ∧ ((↑n : Int) - IntKind.i64.wrap (y.n (91017 : Nat) + (1 : Int))).toNat
      < ((↑n : Int) - y.n (91017 : Nat)).toNat ∧ True)))))))) ∧ (decide (y_2.n (90001 : Nat) > (0 : Int)) = false → (decide (y_2.n (90002 : Nat) < (0 : Int)) = true → True ∧
      True ∧ false = true) ∧ (decide (y_2.n (90002 : Nat) < (0 : Int)) = false → (decide (y_2.n (90002 : Nat) > (15 : Int)) = true → True ∧ True ∧ false = true) ∧ (decide (y_2.n
      (90002 : Nat) > (15 : Int)) = false → (decide (y_2.n (90002 : Nat) > (0 : Int)) = true → ((mpB = mpB ∧ (50 : Nat) = (50 : Nat) ∧ (RG y_1) ∧ [Bl.mk [eC E a ((y.n (91017 :
      Nat)).toNat * (4 : Nat) + (0 : Nat)) (EK.i IntKind.i64), eC E a ((y.n (91017 : Nat)).toNat * (4 : Nat) + (1 : Nat)) (EK.i IntKind.i64), eC E a ((y.n (91017 : Nat)).toNat *
      (4 : Nat) + (2 : Nat)) (EK.i IntKind.i64), eC E a ((y.n (91017 : Nat)).toNat * (4 : Nat) + (3 : Nat)) (EK.i IntKind.u16)] (Bl.mk [C.i true IntKind.i64 (0 : Int), C.i true
      IntKind.i64 (0 : Int), C.i true IntKind.i64 (0 : Int), C.i true IntKind.u16 (0 : Int)] (28 : Nat)).ty] = [Bl.mk [eC E a ((y.n (91017 : Nat)).toNat * (4 : Nat) + (0 : Nat))
      (EK.i IntKind.i64), eC E a ((y.n (91017 : Nat)).toNat * (4 : Nat) + (1 : Nat)) (EK.i IntKind.i64), eC E a ((y.n (91017 : Nat)).toNat * (4 : Nat) + (2 : Nat)) (EK.i
      IntKind.i64), eC E a ((y.n (91017 : Nat)).toNat * (4 : Nat) + (3 : Nat)) (EK.i IntKind.u16)] (Bl.mk [C.i true IntKind.i64 (0 : Int), C.i true IntKind.i64 (0 : Int), C.i
      true IntKind.i64 (0 : Int), C.i true IntKind.u16 (0 : Int)] (28 : Nat)).ty]) ∧ True) ∧ ∀ (y_3 : PX), ((((0 : Int) ≤ y_3.n (90000 : Nat) ∧ y_3.n (90000 : Nat) ≤ (15 : Int))
      ∧ True) ∧ y_3.n (90000 : Nat) = (((bif y_1.b (100001 : Nat) then (1 : Int) else (0 : Int)) + bif y_1.b (100013 : Nat) then (2 : Int) else (0 : Int)) + bif y_1.b (100025 :
      Nat) then (4 : Int) else (0 : Int)) + bif y_1.b (100037 : Nat) then (8 : Int) else (0 : Int)) → ((bits BinOp.and IntKind.i64 ((y_3.n (90000 : Nat)).fdiv (4 : Int)) (1 :
      Int) == (0 : Int)) = true → True ∧ True ∧ false = true) ∧ ((bits BinOp.and IntKind.i64 ((y_3.n (90000 : Nat)).fdiv (4 : Int)) (1 : Int) == (0 : Int)) = false → (decide
      (y_2.n (90003 : Nat) < (0 : Int)) = true → True ∧ True ∧ false = true) ∧ (decide (y_2.n (90003 : Nat) < (0 : Int)) = false → (decide (y_2.n (90003 : Nat) > (15 : Int)) =
      true → True ∧ True ∧ false = true) ∧ (decide (y_2.n (90003 : Nat) > (15 : Int)) = false → (decide (y_2.n (90003 : Nat) > (0 : Int)) = true → ((mpB = mpB ∧ (50 : Nat) = (50
      : Nat) ∧ (RG y_1) ∧ [Bl.mk [eC E a ((y.n (91017 : Nat)).toNat * (4 : Nat) + (0 : Nat)) (EK.i IntKind.i64), eC E a ((y.n (91017 : Nat)).toNat * (4 : Nat) + (1 : Nat)) (EK.i
      IntKind.i64), eC E a ((y.n (91017 : Nat)).toNat * (4 : Nat) + (2 : Nat)) (EK.i IntKind.i64), eC E a ((y.n (91017 : Nat)).toNat * (4 : Nat) + (3 : Nat)) (EK.i IntKind.u16)]
      (Bl.mk [C.i true IntKind.i64 (0 : Int), C.i true IntKind.i64 (0 : Int), C.i true IntKind.i64 (0 : Int), C.i true IntKind.u16 (0 : Int)] (28 : Nat)).ty] = [Bl.mk [eC E a
      ((y.n (91017 : Nat)).toNat * (4 : Nat) + (0 : Nat)) (EK.i IntKind.i64), eC E a ((y.n (91017 : Nat)).toNat * (4 : Nat) + (1 : Nat)) (EK.i IntKind.i64), eC E a ((y.n (91017
      : Nat)).toNat * (4 : Nat) + (2 : Nat)) (EK.i IntKind.i64), eC E a ((y.n (91017 : Nat)).toNat * (4 : Nat) + (3 : Nat)) (EK.i IntKind.u16)] (Bl.mk [C.i true IntKind.i64 (0 :
      Int), C.i true IntKind.i64 (0 : Int), C.i true IntKind.i64 (0 : Int), C.i true IntKind.u16 (0 : Int)] (28 : Nat)).ty]) ∧ True) ∧ ∀ (y_4 : PX), ((((0 : Int) ≤ y_4.n (90000
      : Nat) ∧ y_4.n (90000 : Nat) ≤ (15 : Int)) ∧ True) ∧ y_4.n (90000 : Nat) = (((bif y_1.b (100001 : Nat) then (1 : Int) else (0 : Int)) + bif y_1.b (100013 : Nat) then (2 :
      Int) else (0 : Int)) + bif y_1.b (100025 : Nat) then (4 : Int) else (0 : Int)) + bif y_1.b (100037 : Nat) then (8 : Int) else (0 : Int)) → ((bits BinOp.and IntKind.i64
      ((y_4.n (90000 : Nat)).fdiv (8 : Int)) (1 : Int) == (0 : Int)) = true → True ∧ True ∧ false = true) ∧ ((bits BinOp.and IntKind.i64 ((y_4.n (90000 : Nat)).fdiv (8 : Int))
      (1 : Int) == (0 : Int)) = false → law_td E = law_td E ∧ (80 : Nat) = (80 : Nat) ∧ (True ∧ (((0 : Int) ≤ IntKind.i64.wrap (y.n (91004 : Nat) + eI E a ((y.n (91017 :
      Nat)).toNat * (4 : Nat) + (0 : Nat))) ∧ IntKind.i64.wrap (y.n (91004 : Nat) + eI E a ((y.n (91017 : Nat)).toNat * (4 : Nat) + (0 : Nat))) ≤ (200000000 : Int)) ∧ True) ∧
      (C.es a n c = C.es a n c ∧ True) ∧ (C.i false IntKind.i64 (↑n : Int) = C.i false IntKind.i64 (↑n : Int) ∧ True) ∧ (((0 : Int) ≤ IntKind.i64.wrap (y.n (91017 : Nat) + (1 :
      Int)) ∧ IntKind.i64.wrap (y.n (91017 : Nat) + (1 : Int)) ≤ (200 : Int)) ∧ True) ∧ True) ∧ (mpB = mpB ∧ (50 : Nat) = (50 : Nat) ∧ (RG y_1) ∧ True) ∧ (IntKind.i64.wrap (y.n
      (91017 : Nat) + (1 : Int)) ≤ (↑n : Int) ∧ IntKind.i64.wrap (y.n (91004 : Nat) + eI E a ((y.n (91017 : Nat)).toNat * (4 : Nat) + (0 : Nat))) ≤ (1000000 : Int) *
      IntKind.i64.wrap (y.n (91017 : Nat) + (1 : Int)) ∧ n ≤ (200 : Nat)) ∧ ((↑n : Int) - IntKind.i64.wrap (y.n (91017 : Nat) + (1 : Int))).toNat < ((↑n : Int) - y.n (91017 :
      Nat)).toNat ∧ True)) ∧ (decide (y_2.n (90003 : Nat) > (0 : Int)) = false → law_td E = law_td E ∧ (80 : Nat) = (80 : Nat) ∧ (True ∧ (((0 : Int) ≤ IntKind.i64.wrap (y.n
      (91004 : Nat) + eI E a ((y.n (91017 : Nat)).toNat * (4 : Nat) + (0 : Nat))) ∧ IntKind.i64.wrap (y.n (91004 : Nat) + eI E a ((y.n (91017 : Nat)).toNat * (4 : Nat) + (0 :
      Nat))) ≤ (200000000 : Int)) ∧ True) ∧ (C.es a n c = C.es a n c ∧ True) ∧ (C.i false IntKind.i64 (↑n : Int) = C.i false IntKind.i64 (↑n : Int) ∧ True) ∧ (((0 : Int) ≤
      IntKind.i64.wrap (y.n (91017 : Nat) + (1 : Int)) ∧ IntKind.i64.wrap (y.n (91017 : Nat) + (1 : Int)) ≤ (200 : Int)) ∧ True) ∧ True) ∧ (mpB = mpB ∧ (50 : Nat) = (50 : Nat) ∧
      (RG y_1) ∧ True) ∧ (IntKind.i64.wrap (y.n (91017 : Nat) + (1 : Int)) ≤ (↑n : Int) ∧ IntKind.i64.wrap (y.n (91004 : Nat) + eI E a ((y.n (91017 : Nat)).toNat * (4 : Nat) +
      (0 : Nat))) ≤ (1000000 : Int) * IntKind.i64.wrap (y.n (91017 : Nat) + (1 : Int)) ∧ n ≤ (200 : Nat)) ∧ ((↑n : Int) - IntKind.i64.wrap (y.n (91017 : Nat) + (1 : Int))).toNat
      < ((↑n : Int) - y.n (91017 : Nat)).toNat ∧ True))))) ∧ (decide (y_2.n (90002 : Nat) > (0 : Int)) = false → (decide (y_2.n (90003 : Nat) < (0 : Int)) = true → True ∧ True ∧
      false = true) ∧ (decide (y_2.n (90003 : Nat) < (0 : Int)) = false → (decide (y_2.n (90003 : Nat) > (15 : Int)) = true → True ∧ True ∧ false = true) ∧ (decide (y_2.n (90003
      : Nat) > (15 : Int)) = false → (decide (y_2.n (90003 : Nat) > (0 : Int)) = true → ((mpB = mpB ∧ (50 : Nat) = (50 : Nat) ∧ (RG y_1) ∧ [Bl.mk [eC E a ((y.n (91017 :
      Nat)).toNat * (4 : Nat) + (0 : Nat)) (EK.i IntKind.i64), eC E a ((y.n (91017 : Nat)).toNat * (4 : Nat) + (1 : Nat)) (EK.i IntKind.i64), eC E a ((y.n (91017 : Nat)).toNat *
      (4 : Nat) + (2 : Nat)) (EK.i IntKind.i64), eC E a ((y.n (91017 : Nat)).toNat * (4 : Nat) + (3 : Nat)) (EK.i IntKind.u16)] (Bl.mk [C.i true IntKind.i64 (0 : Int), C.i true
      IntKind.i64 (0 : Int), C.i true IntKind.i64 (0 : Int), C.i true IntKind.u16 (0 : Int)] (28 : Nat)).ty] = [Bl.mk [eC E a ((y.n (91017 : Nat)).toNat * (4 : Nat) + (0 : Nat))
      (EK.i IntKind.i64), eC E a ((y.n (91017 : Nat)).toNat * (4 : Nat) + (1 : Nat)) (EK.i IntKind.i64), eC E a ((y.n (91017 : Nat)).toNat * (4 : Nat) + (2 : Nat)) (EK.i
      IntKind.i64), eC E a ((y.n (91017 : Nat)).toNat * (4 : Nat) + (3 : Nat)) (EK.i IntKind.u16)] (Bl.mk [C.i true IntKind.i64 (0 : Int), C.i true IntKind.i64 (0 : Int), C.i
      true IntKind.i64 (0 : Int), C.i true IntKind.u16 (0 : Int)] (28 : Nat)).ty]) ∧ True) ∧ ∀ (y_3 : PX), ((((0 : Int) ≤ y_3.n (90000 : Nat) ∧ y_3.n (90000 : Nat) ≤ (15 : Int))
      ∧ True) ∧ y_3.n (90000 : Nat) = (((bif y_1.b (100001 : Nat) then (1 : Int) else (0 : Int)) + bif y_1.b (100013 : Nat) then (2 : Int) else (0 : Int)) + bif y_1.b (100025 :
      Nat) then (4 : Int) else (0 : Int)) + bif y_1.b (100037 : Nat) then (8 : Int) else (0 : Int)) → ((bits BinOp.and IntKind.i64 ((y_3.n (90000 : Nat)).fdiv (8 : Int)) (1 :
      Int) == (0 : Int)) = true → True ∧ True ∧ false = true) ∧ ((bits BinOp.and IntKind.i64 ((y_3.n (90000 : Nat)).fdiv (8 : Int)) (1 : Int) == (0 : Int)) = false → law_td E =
      law_td E ∧ (80 : Nat) = (80 : Nat) ∧ (True ∧ (((0 : Int) ≤ IntKind.i64.wrap (y.n (91004 : Nat) + eI E a ((y.n (91017 : Nat)).toNat * (4 : Nat) + (0 : Nat))) ∧
      IntKind.i64.wrap (y.n (91004 : Nat) + eI E a ((y.n (91017 : Nat)).toNat * (4 : Nat) + (0 : Nat))) ≤ (200000000 : Int)) ∧ True) ∧ (C.es a n c = C.es a n c ∧ True) ∧ (C.i
      false IntKind.i64 (↑n : Int) = C.i false IntKind.i64 (↑n : Int) ∧ True) ∧ (((0 : Int) ≤ IntKind.i64.wrap (y.n (91017 : Nat) + (1 : Int)) ∧ IntKind.i64.wrap (y.n (91017 :
      Nat) + (1 : Int)) ≤ (200 : Int)) ∧ True) ∧ True) ∧ (mpB = mpB ∧ (50 : Nat) = (50 : Nat) ∧ (RG y_1) ∧ True) ∧ (IntKind.i64.wrap (y.n (91017 : Nat) + (1 : Int)) ≤ (↑n : Int)
      ∧ IntKind.i64.wrap (y.n (91004 : Nat) + eI E a ((y.n (91017 : Nat)).toNat * (4 : Nat) + (0 : Nat))) ≤ (1000000 : Int) * IntKind.i64.wrap (y.n (91017 : Nat) + (1 : Int)) ∧
      n ≤ (200 : Nat)) ∧ ((↑n : Int) - IntKind.i64.wrap (y.n (91017 : Nat) + (1 : Int))).toNat < ((↑n : Int) - y.n (91017 : Nat)).toNat ∧ True)) ∧ (decide (y_2.n (90003 : Nat) >
      (0 : Int)) = false → law_td E = law_td E ∧ (80 : Nat) = (80 : Nat) ∧ (True ∧ (((0 : Int) ≤ IntKind.i64.wrap (y.n (91004 : Nat) + eI E a ((y.n (91017 : Nat)).toNat * (4 :
      Nat) + (0 : Nat))) ∧ IntKind.i64.wrap (y.n (91004 : Nat) + eI E a ((y.n (91017 : Nat)).toNat * (4 : Nat) + (0 : Nat))) ≤ (200000000 : Int)) ∧ True) ∧ (C.es a n c = C.es a
      n c ∧ True) ∧ (C.i false IntKind.i64 (↑n : Int) = C.i false IntKind.i64 (↑n : Int) ∧ True) ∧ (((0 : Int) ≤ IntKind.i64.wrap (y.n (91017 : Nat) + (1 : Int)) ∧
      IntKind.i64.wrap (y.n (91017 : Nat) + (1 : Int)) ≤ (200 : Int)) ∧ True) ∧ True) ∧ (mpB = mpB ∧ (50 : Nat) = (50 : Nat) ∧ (RG y_1) ∧ True) ∧ (IntKind.i64.wrap (y.n (91017 :
      Nat) + (1 : Int)) ≤ (↑n : Int) ∧ IntKind.i64.wrap (y.n (91004 : Nat) + eI E a ((y.n (91017 : Nat)).toNat * (4 : Nat) + (0 : Nat))) ≤ (1000000 : Int) * IntKind.i64.wrap
      (y.n (91017 : Nat) + (1 : Int)) ∧ n ≤ (200 : Nat)) ∧ ((↑n : Int) - IntKind.i64.wrap (y.n (91017 : Nat) + (1 : Int))).toNat < ((↑n : Int) - y.n (91017 : Nat)).toNat ∧
      True))))))))))))) ∧ ((eI E a ((y.n (91017 : Nat)).toNat * (4 : Nat) + (1 : Nat)) == (0 : Int)) = false → ((mpB = mpB ∧ (50 : Nat) = (50 : Nat) ∧ (RG y) ∧ [Bl.mk [eC E a
      ((y.n (91017 : Nat)).toNat * (4 : Nat) + (0 : Nat)) (EK.i IntKind.i64), eC E a ((y.n (91017 : Nat)).toNat * (4 : Nat) + (1 : Nat)) (EK.i IntKind.i64), eC E a ((y.n (91017
      : Nat)).toNat * (4 : Nat) + (2 : Nat)) (EK.i IntKind.i64), eC E a ((y.n (91017 : Nat)).toNat * (4 : Nat) + (3 : Nat)) (EK.i IntKind.u16)] (Bl.mk [C.i true IntKind.i64 (0 :
      Int), C.i true IntKind.i64 (0 : Int), C.i true IntKind.i64 (0 : Int), C.i true IntKind.u16 (0 : Int)] (28 : Nat)).ty] = [Bl.mk [eC E a ((y.n (91017 : Nat)).toNat * (4 :
      Nat) + (0 : Nat)) (EK.i IntKind.i64), eC E a ((y.n (91017 : Nat)).toNat * (4 : Nat) + (1 : Nat)) (EK.i IntKind.i64), eC E a ((y.n (91017 : Nat)).toNat * (4 : Nat) + (2 :
      Nat)) (EK.i IntKind.i64), eC E a ((y.n (91017 : Nat)).toNat * (4 : Nat) + (3 : Nat)) (EK.i IntKind.u16)] (Bl.mk [C.i true IntKind.i64 (0 : Int), C.i true IntKind.i64 (0 :
      Int), C.i true IntKind.i64 (0 : Int), C.i true IntKind.u16 (0 : Int)] (28 : Nat)).ty]) ∧ True) ∧ ∀ (y_1 : PX), ((RG y_1) ∧ True) ∧ True ∧ True → ((mpB = mpB ∧ (50 : Nat) =
      (50 : Nat) ∧ (RG y_1) ∧ (28 : Nat) = (28 : Nat) ∧ True ∧ ([] : SW) = []) ∧ True) ∧ ∀ (y_2 : PX), (((0 : Int) ≤ y_2.n (90000 : Nat) ∧ y_2.n (90000 : Nat) ≤ (15 : Int)) ∧
      ((0 : Int) ≤ y_2.n (90001 : Nat) ∧ y_2.n (90001 : Nat) ≤ (15 : Int)) ∧ ((0 : Int) ≤ y_2.n (90002 : Nat) ∧ y_2.n (90002 : Nat) ≤ (15 : Int)) ∧ ((0 : Int) ≤ y_2.n (90003 :
      Nat) ∧ y_2.n (90003 : Nat) ≤ (15 : Int)) ∧ True) ∧ (y_1.b (100001 : Nat) = false → y_2.n (90000 : Nat) = (0 : Int)) ∧ (y_1.b (100013 : Nat) = false → y_2.n (90001 : Nat) =
      (0 : Int)) ∧ (y_1.b (100025 : Nat) = false → y_2.n (90002 : Nat) = (0 : Int)) ∧ (y_1.b (100037 : Nat) = false → y_2.n (90003 : Nat) = (0 : Int)) → (decide (y_2.n (90000 :
      Nat) < (0 : Int)) = true → True ∧ True ∧ false = true) ∧ (decide (y_2.n (90000 : Nat) < (0 : Int)) = false → (decide (y_2.n (90000 : Nat) > (15 : Int)) = true → True ∧
      True ∧ false = true) ∧ (decide (y_2.n (90000 : Nat) > (15 : Int)) = false → (decide (y_2.n (90000 : Nat) > (0 : Int)) = true → ((mpB = mpB ∧ (50 : Nat) = (50 : Nat) ∧ (RG
      y_1) ∧ [Bl.mk [eC E a ((y.n (91017 : Nat)).toNat * (4 : Nat) + (0 : Nat)) (EK.i IntKind.i64), eC E a ((y.n (91017 : Nat)).toNat * (4 : Nat) + (1 : Nat)) (EK.i
      IntKind.i64), eC E a ((y.n (91017 : Nat)).toNat * (4 : Nat) + (2 : Nat)) (EK.i IntKind.i64), eC E a ((y.n (91017 : Nat)).toNat * (4 : Nat) + (3 : Nat)) (EK.i IntKind.u16)]
      (Bl.mk [C.i true IntKind.i64 (0 : Int), C.i true IntKind.i64 (0 : Int), C.i true IntKind.i64 (0 : Int), C.i true IntKind.u16 (0 : Int)] (28 : Nat)).ty] = [Bl.mk [eC E a
      ((y.n (91017 : Nat)).toNat * (4 : Nat) + (0 : Nat)) (EK.i IntKind.i64), eC E a ((y.n (91017 : Nat)).toNat * (4 : Nat) + (1 : Nat)) (EK.i IntKind.i64), eC E a ((y.n (91017
      : Nat)).toNat * (4 : Nat) + (2 : Nat)) (EK.i IntKind.i64), eC E a ((y.n (91017 : Nat)).toNat * (4 : Nat) + (3 : Nat)) (EK.i IntKind.u16)] (Bl.mk [C.i true IntKind.i64 (0 :
      Int), C.i true IntKind.i64 (0 : Int), C.i true IntKind.i64 (0 : Int), C.i true IntKind.u16 (0 : Int)] (28 : Nat)).ty]) ∧ True) ∧ ∀ (y_3 : PX), ((((0 : Int) ≤ y_3.n (90000
      : Nat) ∧ y_3.n (90000 : Nat) ≤ (15 : Int)) ∧ True) ∧ y_3.n (90000 : Nat) = (((bif y_1.b (100001 : Nat) then (1 : Int) else (0 : Int)) + bif y_1.b (100013 : Nat) then (2 :
      Int) else (0 : Int)) + bif y_1.b (100025 : Nat) then (4 : Int) else (0 : Int)) + bif y_1.b (100037 : Nat) then (8 : Int) else (0 : Int)) → ((bits BinOp.and IntKind.i64
      ((y_3.n (90000 : Nat)).fdiv (1 : Int)) (1 : Int) == (0 : Int)) = true → True ∧ True ∧ false = true) ∧ ((bits BinOp.and IntKind.i64 ((y_3.n (90000 : Nat)).fdiv (1 : Int))
      (1 : Int) == (0 : Int)) = false → (decide (y_2.n (90001 : Nat) < (0 : Int)) = true → True ∧ True ∧ false = true) ∧ (decide (y_2.n (90001 : Nat) < (0 : Int)) = false →
      (decide (y_2.n (90001 : Nat) > (15 : Int)) = true → True ∧ True ∧ false = true) ∧ (decide (y_2.n (90001 : Nat) > (15 : Int)) = false → (decide (y_2.n (90001 : Nat) > (0 :
      Int)) = true → ((mpB = mpB ∧ (50 : Nat) = (50 : Nat) ∧ (RG y_1) ∧ [Bl.mk [eC E a ((y.n (91017 : Nat)).toNat * (4 : Nat) + (0 : Nat)) (EK.i IntKind.i64), eC E a ((y.n
      (91017 : Nat)).toNat * (4 : Nat) + (1 : Nat)) (EK.i IntKind.i64), eC E a ((y.n (91017 : Nat)).toNat * (4 : Nat) + (2 : Nat)) (EK.i IntKind.i64), eC E a ((y.n (91017 :
      Nat)).toNat * (4 : Nat) + (3 : Nat)) (EK.i IntKind.u16)] (Bl.mk [C.i true IntKind.i64 (0 : Int), C.i true IntKind.i64 (0 : Int), C.i true IntKind.i64 (0 : Int), C.i true
      IntKind.u16 (0 : Int)] (28 : Nat)).ty] = [Bl.mk [eC E a ((y.n (91017 : Nat)).toNat * (4 : Nat) + (0 : Nat)) (EK.i IntKind.i64), eC E a ((y.n (91017 : Nat)).toNat * (4 :
      Nat) + (1 : Nat)) (EK.i IntKind.i64), eC E a ((y.n (91017 : Nat)).toNat * (4 : Nat) + (2 : Nat)) (EK.i IntKind.i64), eC E a ((y.n (91017 : Nat)).toNat * (4 : Nat) + (3 :
      Nat)) (EK.i IntKind.u16)] (Bl.mk [C.i true IntKind.i64 (0 : Int), C.i true IntKind.i64 (0 : Int), C.i true IntKind.i64 (0 : Int), C.i true IntKind.u16 (0 : Int)] (28 :
      Nat)).ty]) ∧ True) ∧ ∀ (y_4 : PX), ((((0 : Int) ≤ y_4.n (90000 : Nat) ∧ y_4.n (90000 : Nat) ≤ (15 : Int)) ∧ True) ∧ y_4.n (90000 : Nat) = (((bif y_1.b (100001 : Nat) then
      (1 : Int) else (0 : Int)) + bif y_1.b (100013 : Nat) then (2 : Int) else (0 : Int)) + bif y_1.b (100025 : Nat) then (4 : Int) else (0 : Int)) + bif y_1.b (100037 : Nat)
      then (8 : Int) else (0 : Int)) → ((bits BinOp.and IntKind.i64 ((y_4.n (90000 : Nat)).fdiv (2 : Int)) (1 : Int) == (0 : Int)) = true → True ∧ True ∧ false = true) ∧ ((bits
      BinOp.and IntKind.i64 ((y_4.n (90000 : Nat)).fdiv (2 : Int)) (1 : Int) == (0 : Int)) = false → (decide (y_2.n (90002 : Nat) < (0 : Int)) = true → True ∧ True ∧ false =
      true) ∧ (decide (y_2.n (90002 : Nat) < (0 : Int)) = false → (decide (y_2.n (90002 : Nat) > (15 : Int)) = true → True ∧ True ∧ false = true) ∧ (decide (y_2.n (90002 : Nat)
      > (15 : Int)) = false → (decide (y_2.n (90002 : Nat) > (0 : Int)) = true → ((mpB = mpB ∧ (50 : Nat) = (50 : Nat) ∧ (RG y_1) ∧ [Bl.mk [eC E a ((y.n (91017 : Nat)).toNat *
      (4 : Nat) + (0 : Nat)) (EK.i IntKind.i64), eC E a ((y.n (91017 : Nat)).toNat * (4 : Nat) + (1 : Nat)) (EK.i IntKind.i64), eC E a ((y.n (91017 : Nat)).toNat * (4 : Nat) +
      (2 : Nat)) (EK.i IntKind.i64), eC E a ((y.n (91017 : Nat)).toNat * (4 : Nat) + (3 : Nat)) (EK.i IntKind.u16)] (Bl.mk [C.i true IntKind.i64 (0 : Int), C.i true IntKind.i64
      (0 : Int), C.i true IntKind.i64 (0 : Int), C.i true IntKind.u16 (0 : Int)] (28 : Nat)).ty] = [Bl.mk [eC E a ((y.n (91017 : Nat)).toNat * (4 : Nat) + (0 : Nat)) (EK.i
      IntKind.i64), eC E a ((y.n (91017 : Nat)).toNat * (4 : Nat) + (1 : Nat)) (EK.i IntKind.i64), eC E a ((y.n (91017 : Nat)).toNat * (4 : Nat) + (2 : Nat)) (EK.i IntKind.i64),
      eC E a ((y.n (91017 : Nat)).toNat * (4 : Nat) + (3 : Nat)) (EK.i IntKind.u16)] (Bl.mk [C.i true IntKind.i64 (0 : Int), C.i true IntKind.i64 (0 : Int), C.i true IntKind.i64
      (0 : Int), C.i true IntKind.u16 (0 : Int)] (28 : Nat)).ty]) ∧ True) ∧ ∀ (y_5 : PX), ((((0 : Int) ≤ y_5.n (90000 : Nat) ∧ y_5.n (90000 : Nat) ≤ (15 : Int)) ∧ True) ∧ y_5.n
      (90000 : Nat) = (((bif y_1.b (100001 : Nat) then (1 : Int) else (0 : Int)) + bif y_1.b (100013 : Nat) then (2 : Int) else (0 : Int)) + bif y_1.b (100025 : Nat) then (4 :
      Int) else (0 : Int)) + bif y_1.b (100037 : Nat) then (8 : Int) else (0 : Int)) → ((bits BinOp.and IntKind.i64 ((y_5.n (90000 : Nat)).fdiv (4 : Int)) (1 : Int) == (0 :
      Int)) = true → True ∧ True ∧ false = true) ∧ ((bits BinOp.and IntKind.i64 ((y_5.n (90000 : Nat)).fdiv (4 : Int)) (1 : Int) == (0 : Int)) = false → (decide (y_2.n (90003 :
      Nat) < (0 : Int)) = true → True ∧ True ∧ false = true) ∧ (decide (y_2.n (90003 : Nat) < (0 : Int)) = false → (decide (y_2.n (90003 : Nat) > (15 : Int)) = true → True ∧
      True ∧ false = true) ∧ (decide (y_2.n (90003 : Nat) > (15 : Int)) = false → (decide (y_2.n (90003 : Nat) > (0 : Int)) = true → ((mpB = mpB ∧ (50 : Nat) = (50 : Nat) ∧ (RG
      y_1) ∧ [Bl.mk [eC E a ((y.n (91017 : Nat)).toNat * (4 : Nat) + (0 : Nat)) (EK.i IntKind.i64), eC E a ((y.n (91017 : Nat)).toNat * (4 : Nat) + (1 : Nat)) (EK.i
      IntKind.i64), eC E a ((y.n (91017 : Nat)).toNat * (4 : Nat) + (2 : Nat)) (EK.i IntKind.i64), eC E a ((y.n (91017 : Nat)).toNat * (4 : Nat) + (3 : Nat)) (EK.i IntKind.u16)]
      (Bl.mk [C.i true IntKind.i64 (0 : Int), C.i true IntKind.i64 (0 : Int), C.i true IntKind.i64 (0 : Int), C.i true IntKind.u16 (0 : Int)] (28 : Nat)).ty] = [Bl.mk [eC E a
      ((y.n (91017 : Nat)).toNat * (4 : Nat) + (0 : Nat)) (EK.i IntKind.i64), eC E a ((y.n (91017 : Nat)).toNat * (4 : Nat) + (1 : Nat)) (EK.i IntKind.i64), eC E a ((y.n (91017
      : Nat)).toNat * (4 : Nat) + (2 : Nat)) (EK.i IntKind.i64), eC E a ((y.n (91017 : Nat)).toNat * (4 : Nat) + (3 : Nat)) (EK.i IntKind.u16)] (Bl.mk [C.i true IntKind.i64 (0 :
      Int), C.i true IntKind.i64 (0 : Int), C.i true IntKind.i64 (0 : Int), C.i true IntKind.u16 (0 : Int)] (28 : Nat)).ty]) ∧ True) ∧ ∀ (y_6 : PX), ((((0 : Int) ≤ y_6.n (90000
      : Nat) ∧ y_6.n (90000 : Nat) ≤ (15 : Int)) ∧ True) ∧ y_6.n (90000 : Nat) = (((bif y_1.b (100001 : Nat) then (1 : Int) else (0 : Int)) + bif y_1.b (100013 : Nat) then (2 :
      Int) else (0 : Int)) + bif y_1.b (100025 : Nat) then (4 : Int) else (0 : Int)) + bif y_1.b (100037 : Nat) then (8 : Int) else (0 : Int)) → ((bits BinOp.and IntKind.i64
      ((y_6.n (90000 : Nat)).fdiv (8 : Int)) (1 : Int) == (0 : Int)) = true → True ∧ True ∧ false = true) ∧ ((bits BinOp.and IntKind.i64 ((y_6.n (90000 : Nat)).fdiv (8 : Int))
      (1 : Int) == (0 : Int)) = false → law_td E = law_td E ∧ (80 : Nat) = (80 : Nat) ∧ (True ∧ (((0 : Int) ≤ IntKind.i64.wrap (y.n (91004 : Nat) + eI E a ((y.n (91017 :
      Nat)).toNat * (4 : Nat) + (0 : Nat))) ∧ IntKind.i64.wrap (y.n (91004 : Nat) + eI E a ((y.n (91017 : Nat)).toNat * (4 : Nat) + (0 : Nat))) ≤ (200000000 : Int)) ∧ True) ∧
      (C.es a n c = C.es a n c ∧ True) ∧ (C.i false IntKind.i64 (↑n : Int) = C.i false IntKind.i64 (↑n : Int) ∧ True) ∧ (((0 : Int) ≤ IntKind.i64.wrap (y.n (91017 : Nat) + (1 :
      Int)) ∧ IntKind.i64.wrap (y.n (91017 : Nat) + (1 : Int)) ≤ (200 : Int)) ∧ True) ∧ True) ∧ (mpB = mpB ∧ (50 : Nat) = (50 : Nat) ∧ (RG y_1) ∧ True) ∧ (IntKind.i64.wrap (y.n
      (91017 : Nat) + (1 : Int)) ≤ (↑n : Int) ∧ IntKind.i64.wrap (y.n (91004 : Nat) + eI E a ((y.n (91017 : Nat)).toNat * (4 : Nat) + (0 : Nat))) ≤ (1000000 : Int) *
      IntKind.i64.wrap (y.n (91017 : Nat) + (1 : Int)) ∧ n ≤ (200 : Nat)) ∧ ((↑n : Int) - IntKind.i64.wrap (y.n (91017 : Nat) + (1 : Int))).toNat < ((↑n : Int) - y.n (91017 :
      Nat)).toNat ∧ True)) ∧ (decide (y_2.n (90003 : Nat) > (0 : Int)) = false → law_td E = law_td E ∧ (80 : Nat) = (80 : Nat) ∧ (True ∧ (((0 : Int) ≤ IntKind.i64.wrap (y.n
      (91004 : Nat) + eI E a ((y.n (91017 : Nat)).toNat * (4 : Nat) + (0 : Nat))) ∧ IntKind.i64.wrap (y.n (91004 : Nat) + eI E a ((y.n (91017 : Nat)).toNat * (4 : Nat) + (0 :
      Nat))) ≤ (200000000 : Int)) ∧ True) ∧ (C.es a n c = C.es a n c ∧ True) ∧ (C.i false IntKind.i64 (↑n : Int) = C.i false IntKind.i64 (↑n : Int) ∧ True) ∧ (((0 : Int) ≤
      IntKind.i64.wrap (y.n (91017 : Nat) + (1 : Int)) ∧ IntKind.i64.wrap (y.n (91017 : Nat) + (1 : Int)) ≤ (200 : Int)) ∧ True) ∧ True) ∧ (mpB = mpB ∧ (50 : Nat) = (50 : Nat) ∧
      (RG y_1) ∧ True) ∧ (IntKind.i64.wrap (y.n (91017 : Nat) + (1 : Int)) ≤ (↑n : Int) ∧ IntKind.i64.wrap (y.n (91004 : Nat) + eI E a ((y.n (91017 : Nat)).toNat * (4 : Nat) +
      (0 : Nat))) ≤ (1000000 : Int) * IntKind.i64.wrap (y.n (91017 : Nat) + (1 : Int)) ∧ n ≤ (200 : Nat)) ∧ ((↑n : Int) - IntKind.i64.wrap (y.n (91017 : Nat) + (1 : Int))).toNat
      < ((↑n : Int) - y.n (91017 : Nat)).toNat ∧ True))))) ∧ (decide (y_2.n (90002 : Nat) > (0 : Int)) = false → (decide (y_2.n (90003 : Nat) < (0 : Int)) = true → True ∧ True ∧
      false = true) ∧ (decide (y_2.n (90003 : Nat) < (0 : Int)) = false → (decide (y_2.n (90003 : Nat) > (15 : Int)) = true → True ∧ True ∧ false = true) ∧ (decide (y_2.n (90003
      : Nat) > (15 : Int)) = false → (decide (y_2.n (90003 : Nat) > (0 : Int)) = true → ((mpB = mpB ∧ (50 : Nat) = (50 : Nat) ∧ (RG y_1) ∧ [Bl.mk [eC E a ((y.n (91017 :
      Nat)).toNat * (4 : Nat) + (0 : Nat)) (EK.i IntKind.i64), eC E a ((y.n (91017 : Nat)).toNat * (4 : Nat) + (1 : Nat)) (EK.i IntKind.i64), eC E a ((y.n (91017 : Nat)).toNat *
      (4 : Nat) + (2 : Nat)) (EK.i IntKind.i64), eC E a ((y.n (91017 : Nat)).toNat * (4 : Nat) + (3 : Nat)) (EK.i IntKind.u16)] (Bl.mk [C.i true IntKind.i64 (0 : Int), C.i true
      IntKind.i64 (0 : Int), C.i true IntKind.i64 (0 : Int), C.i true IntKind.u16 (0 : Int)] (28 : Nat)).ty] = [Bl.mk [eC E a ((y.n (91017 : Nat)).toNat * (4 : Nat) + (0 : Nat))
      (EK.i IntKind.i64), eC E a ((y.n (91017 : Nat)).toNat * (4 : Nat) + (1 : Nat)) (EK.i IntKind.i64), eC E a ((y.n (91017 : Nat)).toNat * (4 : Nat) + (2 : Nat)) (EK.i
      IntKind.i64), eC E a ((y.n (91017 : Nat)).toNat * (4 : Nat) + (3 : Nat)) (EK.i IntKind.u16)] (Bl.mk [C.i true IntKind.i64 (0 : Int), C.i true IntKind.i64 (0 : Int), C.i
      true IntKind.i64 (0 : Int), C.i true IntKind.u16 (0 : Int)] (28 : Nat)).ty]) ∧ True) ∧ ∀ (y_5 : PX), ((((0 : Int) ≤ y_5.n (90000 : Nat) ∧ y_5.n (90000 : Nat) ≤ (15 : Int))
      ∧ True) ∧ y_5.n (90000 : Nat) = (((bif y_1.b (100001 : Nat) then (1 : Int) else (0 : Int)) + bif y_1.b (100013 : Nat) then (2 : Int) else (0 : Int)) + bif y_1.b (100025 :
      Nat) then (4 : Int) else (0 : Int)) + bif y_1.b (100037 : Nat) then (8 : Int) else (0 : Int)) → ((bits BinOp.and IntKind.i64 ((y_5.n (90000 : Nat)).fdiv (8 : Int)) (1 :
      Int) == (0 : Int)) = true → True ∧ True ∧ false = true) ∧ ((bits BinOp.and IntKind.i64 ((y_5.n (90000 : Nat)).fdiv (8 : Int)) (1 : Int) == (0 : Int)) = false → law_td E =
      law_td E ∧ (80 : Nat) = (80 : Nat) ∧ (True ∧ (((0 : Int) ≤ IntKind.i64.wrap (y.n (91004 : Nat) + eI E a ((y.n (91017 : Nat)).toNat * (4 : Nat) + (0 : Nat))) ∧
      IntKind.i64.wrap (y.n (91004 : Nat) + eI E a ((y.n (91017 : Nat)).toNat * (4 : Nat) + (0 : Nat))) ≤ (200000000 : Int)) ∧ True) ∧ (C.es a n c = C.es a n c ∧ True) ∧ (C.i
      false IntKind.i64 (↑n : Int) = C.i false IntKind.i64 (↑n : Int) ∧ True) ∧ (((0 : Int) ≤ IntKind.i64.wrap (y.n (91017 : Nat) + (1 : Int)) ∧ IntKind.i64.wrap (y.n (91017 :
      Nat) + (1 : Int)) ≤ (200 : Int)) ∧ True) ∧ True) ∧ (mpB = mpB ∧ (50 : Nat) = (50 : Nat) ∧ (RG y_1) ∧ True) ∧ (IntKind.i64.wrap (y.n (91017 : Nat) + (1 : Int)) ≤ (↑n : Int)
      ∧ IntKind.i64.wrap (y.n (91004 : Nat) + eI E a ((y.n (91017 : Nat)).toNat * (4 : Nat) + (0 : Nat))) ≤ (1000000 : Int) * IntKind.i64.wrap (y.n (91017 : Nat) + (1 : Int)) ∧
      n ≤ (200 : Nat)) ∧ ((↑n : Int) - IntKind.i64.wrap (y.n (91017 : Nat) + (1 : Int))).toNat < ((↑n : Int) - y.n (91017 : Nat)).toNat ∧ True)) ∧ (decide (y_2.n (90003 : Nat) >
      (0 : Int)) = false → law_td E = law_td E ∧ (80 : Nat) = (80 : Nat) ∧ (True ∧ (((0 : Int) ≤ IntKind.i64.wrap (y.n (91004 : Nat) + eI E a ((y.n (91017 : Nat)).toNat * (4 :
      Nat) + (0 : Nat))) ∧ IntKind.i64.wrap (y.n (91004 : Nat) + eI E a ((y.n (91017 : Nat)).toNat * (4 : Nat) + (0 : Nat))) ≤ (200000000 : Int)) ∧ True) ∧ (C.es a n c = C.es a
      n c ∧ True) ∧ (C.i false IntKind.i64 (↑n : Int) = C.i false IntKind.i64 (↑n : Int) ∧ True) ∧ (((0 : Int) ≤ IntKind.i64.wrap (y.n (91017 : Nat) + (1 : Int)) ∧
      IntKind.i64.wrap (y.n (91017 : Nat) + (1 : Int)) ≤ (200 : Int)) ∧ True) ∧ True) ∧ (mpB = mpB ∧ (50 : Nat) = (50 : Nat) ∧ (RG y_1) ∧ True) ∧ (IntKind.i64.wrap (y.n (91017 :
      Nat) + (1 : Int)) ≤ (↑n : Int) ∧ IntKind.i64.wrap (y.n (91004 : Nat) + eI E a ((y.n (91017 : Nat)).toNat * (4 : Nat) + (0 : Nat))) ≤ (1000000 : Int) * IntKind.i64.wrap
      (y.n (91017 : Nat) + (1 : Int)) ∧ n ≤ (200 : Nat)) ∧ ((↑n : Int) - IntKind.i64.wrap (y.n (91017 : Nat) + (1 : Int))).toNat < ((↑n : Int) - y.n (91017 : Nat)).toNat ∧
      True)))))))) ∧ (decide (y_2.n (90001 : Nat) > (0 : Int)) = false → (decide (y_2.n (90002 : Nat) < (0 : Int)) = true → True ∧ True ∧ false = true) ∧ (decide (y_2.n (90002 :
      Nat) < (0 : Int)) = false → (decide (y_2.n (90002 : Nat) > (15 : Int)) = true → True ∧ True ∧ false = true) ∧ (decide (y_2.n (90002 : Nat) > (15 : Int)) = false → (decide
      (y_2.n (90002 : Nat) > (0 : Int)) = true → ((mpB = mpB ∧ (50 : Nat) = (50 : Nat) ∧ (RG y_1) ∧ [Bl.mk [eC E a ((y.n (91017 : Nat)).toNat * (4 : Nat) + (0 : Nat)) (EK.i
      IntKind.i64), eC E a ((y.n (91017 : Nat)).toNat * (4 : Nat) + (1 : Nat)) (EK.i IntKind.i64), eC E a ((y.n (91017 : Nat)).toNat * (4 : Nat) + (2 : Nat)) (EK.i IntKind.i64),
      eC E a ((y.n (91017 : Nat)).toNat * (4 : Nat) + (3 : Nat)) (EK.i IntKind.u16)] (Bl.mk [C.i true IntKind.i64 (0 : Int), C.i true IntKind.i64 (0 : Int), C.i true IntKind.i64
      (0 : Int), C.i true IntKind.u16 (0 : Int)] (28 : Nat)).ty] = [Bl.mk [eC E a ((y.n (91017 : Nat)).toNat * (4 : Nat) + (0 : Nat)) (EK.i IntKind.i64), eC E a ((y.n (91017 :
      Nat)).toNat * (4 : Nat) + (1 : Nat)) (EK.i IntKind.i64), eC E a ((y.n (91017 : Nat)).toNat * (4 : Nat) + (2 : Nat)) (EK.i IntKind.i64), eC E a ((y.n (91017 : Nat)).toNat *
      (4 : Nat) + (3 : Nat)) (EK.i IntKind.u16)] (Bl.mk [C.i true IntKind.i64 (0 : Int), C.i true IntKind.i64 (0 : Int), C.i true IntKind.i64 (0 : Int), C.i true IntKind.u16 (0
      : Int)] (28 : Nat)).ty]) ∧ True) ∧ ∀ (y_4 : PX), ((((0 : Int) ≤ y_4.n (90000 : Nat) ∧ y_4.n (90000 : Nat) ≤ (15 : Int)) ∧ True) ∧ y_4.n (90000 : Nat) = (((bif y_1.b
      (100001 : Nat) then (1 : Int) else (0 : Int)) + bif y_1.b (100013 : Nat) then (2 : Int) else (0 : Int)) + bif y_1.b (100025 : Nat) then (4 : Int) else (0 : Int)) + bif
      y_1.b (100037 : Nat) then (8 : Int) else (0 : Int)) → ((bits BinOp.and IntKind.i64 ((y_4.n (90000 : Nat)).fdiv (4 : Int)) (1 : Int) == (0 : Int)) = true → True ∧ True ∧
      false = true) ∧ ((bits BinOp.and IntKind.i64 ((y_4.n (90000 : Nat)).fdiv (4 : Int)) (1 : Int) == (0 : Int)) = false → (decide (y_2.n (90003 : Nat) < (0 : Int)) = true →
      True ∧ True ∧ false = true) ∧ (decide (y_2.n (90003 : Nat) < (0 : Int)) = false → (decide (y_2.n (90003 : Nat) > (15 : Int)) = true → True ∧ True ∧ false = true) ∧ (decide
      (y_2.n (90003 : Nat) > (15 : Int)) = false → (decide (y_2.n (90003 : Nat) > (0 : Int)) = true → ((mpB = mpB ∧ (50 : Nat) = (50 : Nat) ∧ (RG y_1) ∧ [Bl.mk [eC E a ((y.n
      (91017 : Nat)).toNat * (4 : Nat) + (0 : Nat)) (EK.i IntKind.i64), eC E a ((y.n (91017 : Nat)).toNat * (4 : Nat) + (1 : Nat)) (EK.i IntKind.i64), eC E a ((y.n (91017 :
      Nat)).toNat * (4 : Nat) + (2 : Nat)) (EK.i IntKind.i64), eC E a ((y.n (91017 : Nat)).toNat * (4 : Nat) + (3 : Nat)) (EK.i IntKind.u16)] (Bl.mk [C.i true IntKind.i64 (0 :
      Int), C.i true IntKind.i64 (0 : Int), C.i true IntKind.i64 (0 : Int), C.i true IntKind.u16 (0 : Int)] (28 : Nat)).ty] = [Bl.mk [eC E a ((y.n (91017 : Nat)).toNat * (4 :
      Nat) + (0 : Nat)) (EK.i IntKind.i64), eC E a ((y.n (91017 : Nat)).toNat * (4 : Nat) + (1 : Nat)) (EK.i IntKind.i64), eC E a ((y.n (91017 : Nat)).toNat * (4 : Nat) + (2 :
      Nat)) (EK.i IntKind.i64), eC E a ((y.n (91017 : Nat)).toNat * (4 : Nat) + (3 : Nat)) (EK.i IntKind.u16)] (Bl.mk [C.i true IntKind.i64 (0 : Int), C.i true IntKind.i64 (0 :
      Int), C.i true IntKind.i64 (0 : Int), C.i true IntKind.u16 (0 : Int)] (28 : Nat)).ty]) ∧ True) ∧ ∀ (y_5 : PX), ((((0 : Int) ≤ y_5.n (90000 : Nat) ∧ y_5.n (90000 : Nat) ≤
      (15 : Int)) ∧ True) ∧ y_5.n (90000 : Nat) = (((bif y_1.b (100001 : Nat) then (1 : Int) else (0 : Int)) + bif y_1.b (100013 : Nat) then (2 : Int) else (0 : Int)) + bif
      y_1.b (100025 : Nat) then (4 : Int) else (0 : Int)) + bif y_1.b (100037 : Nat) then (8 : Int) else (0 : Int)) → ((bits BinOp.and IntKind.i64 ((y_5.n (90000 : Nat)).fdiv (8
      : Int)) (1 : Int) == (0 : Int)) = true → True ∧ True ∧ false = true) ∧ ((bits BinOp.and IntKind.i64 ((y_5.n (90000 : Nat)).fdiv (8 : Int)) (1 : Int) == (0 : Int)) = false
      → law_td E = law_td E ∧ (80 : Nat) = (80 : Nat) ∧ (True ∧ (((0 : Int) ≤ IntKind.i64.wrap (y.n (91004 : Nat) + eI E a ((y.n (91017 : Nat)).toNat * (4 : Nat) + (0 : Nat))) ∧
      IntKind.i64.wrap (y.n (91004 : Nat) + eI E a ((y.n (91017 : Nat)).toNat * (4 : Nat) + (0 : Nat))) ≤ (200000000 : Int)) ∧ True) ∧ (C.es a n c = C.es a n c ∧ True) ∧ (C.i
      false IntKind.i64 (↑n : Int) = C.i false IntKind.i64 (↑n : Int) ∧ True) ∧ (((0 : Int) ≤ IntKind.i64.wrap (y.n (91017 : Nat) + (1 : Int)) ∧ IntKind.i64.wrap (y.n (91017 :
      Nat) + (1 : Int)) ≤ (200 : Int)) ∧ True) ∧ True) ∧ (mpB = mpB ∧ (50 : Nat) = (50 : Nat) ∧ (RG y_1) ∧ True) ∧ (IntKind.i64.wrap (y.n (91017 : Nat) + (1 : Int)) ≤ (↑n : Int)
      ∧ IntKind.i64.wrap (y.n (91004 : Nat) + eI E a ((y.n (91017 : Nat)).toNat * (4 : Nat) + (0 : Nat))) ≤ (1000000 : Int) * IntKind.i64.wrap (y.n (91017 : Nat) + (1 : Int)) ∧
      n ≤ (200 : Nat)) ∧ ((↑n : Int) - IntKind.i64.wrap (y.n (91017 : Nat) + (1 : Int))).toNat < ((↑n : Int) - y.n (91017 : Nat)).toNat ∧ True)) ∧ (decide (y_2.n (90003 : Nat) >
      (0 : Int)) = false → law_td E = law_td E ∧ (80 : Nat) = (80 : Nat) ∧ (True ∧ (((0 : Int) ≤ IntKind.i64.wrap (y.n (91004 : Nat) + eI E a ((y.n (91017 : Nat)).toNat * (4 :
      Nat) + (0 : Nat))) ∧ IntKind.i64.wrap (y.n (91004 : Nat) + eI E a ((y.n (91017 : Nat)).toNat * (4 : Nat) + (0 : Nat))) ≤ (200000000 : Int)) ∧ True) ∧ (C.es a n c = C.es a
      n c ∧ True) ∧ (C.i false IntKind.i64 (↑n : Int) = C.i false IntKind.i64 (↑n : Int) ∧ True) ∧ (((0 : Int) ≤ IntKind.i64.wrap (y.n (91017 : Nat) + (1 : Int)) ∧
      IntKind.i64.wrap (y.n (91017 : Nat) + (1 : Int)) ≤ (200 : Int)) ∧ True) ∧ True) ∧ (mpB = mpB ∧ (50 : Nat) = (50 : Nat) ∧ (RG y_1) ∧ True) ∧ (IntKind.i64.wrap (y.n (91017 :
      Nat) + (1 : Int)) ≤ (↑n : Int) ∧ IntKind.i64.wrap (y.n (91004 : Nat) + eI E a ((y.n (91017 : Nat)).toNat * (4 : Nat) + (0 : Nat))) ≤ (1000000 : Int) * IntKind.i64.wrap
      (y.n (91017 : Nat) + (1 : Int)) ∧ n ≤ (200 : Nat)) ∧ ((↑n : Int) - IntKind.i64.wrap (y.n (91017 : Nat) + (1 : Int))).toNat < ((↑n : Int) - y.n (91017 : Nat)).toNat ∧
      True))))) ∧ (decide (y_2.n (90002 : Nat) > (0 : Int)) = false → (decide (y_2.n (90003 : Nat) < (0 : Int)) = true → True ∧ True ∧ false = true) ∧ (decide (y_2.n (90003 :
      Nat) < (0 : Int)) = false → (decide (y_2.n (90003 : Nat) > (15 : Int)) = true → True ∧ True ∧ false = true) ∧ (decide (y_2.n (90003 : Nat) > (15 : Int)) = false → (decide
      (y_2.n (90003 : Nat) > (0 : Int)) = true → ((mpB = mpB ∧ (50 : Nat) = (50 : Nat) ∧ (RG y_1) ∧ [Bl.mk [eC E a ((y.n (91017 : Nat)).toNat * (4 : Nat) + (0 : Nat)) (EK.i
      IntKind.i64), eC E a ((y.n (91017 : Nat)).toNat * (4 : Nat) + (1 : Nat)) (EK.i IntKind.i64), eC E a ((y.n (91017 : Nat)).toNat * (4 : Nat) + (2 : Nat)) (EK.i IntKind.i64),
      eC E a ((y.n (91017 : Nat)).toNat * (4 : Nat) + (3 : Nat)) (EK.i IntKind.u16)] (Bl.mk [C.i true IntKind.i64 (0 : Int), C.i true IntKind.i64 (0 : Int), C.i true IntKind.i64
      (0 : Int), C.i true IntKind.u16 (0 : Int)] (28 : Nat)).ty] = [Bl.mk [eC E a ((y.n (91017 : Nat)).toNat * (4 : Nat) + (0 : Nat)) (EK.i IntKind.i64), eC E a ((y.n (91017 :
      Nat)).toNat * (4 : Nat) + (1 : Nat)) (EK.i IntKind.i64), eC E a ((y.n (91017 : Nat)).toNat * (4 : Nat) + (2 : Nat)) (EK.i IntKind.i64), eC E a ((y.n (91017 : Nat)).toNat *
      (4 : Nat) + (3 : Nat)) (EK.i IntKind.u16)] (Bl.mk [C.i true IntKind.i64 (0 : Int), C.i true IntKind.i64 (0 : Int), C.i true IntKind.i64 (0 : Int), C.i true IntKind.u16 (0
      : Int)] (28 : Nat)).ty]) ∧ True) ∧ ∀ (y_4 : PX), ((((0 : Int) ≤ y_4.n (90000 : Nat) ∧ y_4.n (90000 : Nat) ≤ (15 : Int)) ∧ True) ∧ y_4.n (90000 : Nat) = (((bif y_1.b
      (100001 : Nat) then (1 : Int) else (0 : Int)) + bif y_1.b (100013 : Nat) then (2 : Int) else (0 : Int)) + bif y_1.b (100025 : Nat) then (4 : Int) else (0 : Int)) + bif
      y_1.b (100037 : Nat) then (8 : Int) else (0 : Int)) → ((bits BinOp.and IntKind.i64 ((y_4.n (90000 : Nat)).fdiv (8 : Int)) (1 : Int) == (0 : Int)) = true → True ∧ True ∧
      false = true) ∧ ((bits BinOp.and IntKind.i64 ((y_4.n (90000 : Nat)).fdiv (8 : Int)) (1 : Int) == (0 : Int)) = false → law_td E = law_td E ∧ (80 : Nat) = (80 : Nat) ∧ (True
      ∧ (((0 : Int) ≤ IntKind.i64.wrap (y.n (91004 : Nat) + eI E a ((y.n (91017 : Nat)).toNat * (4 : Nat) + (0 : Nat))) ∧ IntKind.i64.wrap (y.n (91004 : Nat) + eI E a ((y.n
      (91017 : Nat)).toNat * (4 : Nat) + (0 : Nat))) ≤ (200000000 : Int)) ∧ True) ∧ (C.es a n c = C.es a n c ∧ True) ∧ (C.i false IntKind.i64 (↑n : Int) = C.i false IntKind.i64
      (↑n : Int) ∧ True) ∧ (((0 : Int) ≤ IntKind.i64.wrap (y.n (91017 : Nat) + (1 : Int)) ∧ IntKind.i64.wrap (y.n (91017 : Nat) + (1 : Int)) ≤ (200 : Int)) ∧ True) ∧ True) ∧
      (mpB = mpB ∧ (50 : Nat) = (50 : Nat) ∧ (RG y_1) ∧ True) ∧ (IntKind.i64.wrap (y.n (91017 : Nat) + (1 : Int)) ≤ (↑n : Int) ∧ IntKind.i64.wrap (y.n (91004 : Nat) + eI E a
      ((y.n (91017 : Nat)).toNat * (4 : Nat) + (0 : Nat))) ≤ (1000000 : Int) * IntKind.i64.wrap (y.n (91017 : Nat) + (1 : Int)) ∧ n ≤ (200 : Nat)) ∧ ((↑n : Int) -
      IntKind.i64.wrap (y.n (91017 : Nat) + (1 : Int))).toNat < ((↑n : Int) - y.n (91017 : Nat)).toNat ∧ True)) ∧ (decide (y_2.n (90003 : Nat) > (0 : Int)) = false → law_td E =
      law_td E ∧ (80 : Nat) = (80 : Nat) ∧ (True ∧ (((0 : Int) ≤ IntKind.i64.wrap (y.n (91004 : Nat) + eI E a ((y.n (91017 : Nat)).toNat * (4 : Nat) + (0 : Nat))) ∧
      IntKind.i64.wrap (y.n (91004 : Nat) + eI E a ((y.n (91017 : Nat)).toNat * (4 : Nat) + (0 : Nat))) ≤ (200000000 : Int)) ∧ True) ∧ (C.es a n c = C.es a n c ∧ True) ∧ (C.i
      false IntKind.i64 (↑n : Int) = C.i false IntKind.i64 (↑n : Int) ∧ True) ∧ (((0 : Int) ≤ IntKind.i64.wrap (y.n (91017 : Nat) + (1 : Int)) ∧ IntKind.i64.wrap (y.n (91017 :
      Nat) + (1 : Int)) ≤ (200 : Int)) ∧ True) ∧ True) ∧ (mpB = mpB ∧ (50 : Nat) = (50 : Nat) ∧ (RG y_1) ∧ True) ∧ (IntKind.i64.wrap (y.n (91017 : Nat) + (1 : Int)) ≤ (↑n : Int)
      ∧ IntKind.i64.wrap (y.n (91004 : Nat) + eI E a ((y.n (91017 : Nat)).toNat * (4 : Nat) + (0 : Nat))) ≤ (1000000 : Int) * IntKind.i64.wrap (y.n (91017 : Nat) + (1 : Int)) ∧
      n ≤ (200 : Nat)) ∧ ((↑n : Int) - IntKind.i64.wrap (y.n (91017 : Nat) + (1 : Int))).toNat < ((↑n : Int) - y.n (91017 : Nat)).toNat ∧ True))))))))))) ∧ (decide (y_2.n (90000
      : Nat) > (0 : Int)) = false → (decide (y_2.n (90001 : Nat) < (0 : Int)) = true → True ∧ True ∧ false = true) ∧ (decide (y_2.n (90001 : Nat) < (0 : Int)) = false → (decide
      (y_2.n (90001 : Nat) > (15 : Int)) = true → True ∧ True ∧ false = true) ∧ (decide (y_2.n (90001 : Nat) > (15 : Int)) = false → (decide (y_2.n (90001 : Nat) > (0 : Int)) =
      true → ((mpB = mpB ∧ (50 : Nat) = (50 : Nat) ∧ (RG y_1) ∧ [Bl.mk [eC E a ((y.n (91017 : Nat)).toNat * (4 : Nat) + (0 : Nat)) (EK.i IntKind.i64), eC E a ((y.n (91017 :
      Nat)).toNat * (4 : Nat) + (1 : Nat)) (EK.i IntKind.i64), eC E a ((y.n (91017 : Nat)).toNat * (4 : Nat) + (2 : Nat)) (EK.i IntKind.i64), eC E a ((y.n (91017 : Nat)).toNat *
      (4 : Nat) + (3 : Nat)) (EK.i IntKind.u16)] (Bl.mk [C.i true IntKind.i64 (0 : Int), C.i true IntKind.i64 (0 : Int), C.i true IntKind.i64 (0 : Int), C.i true IntKind.u16 (0
      : Int)] (28 : Nat)).ty] = [Bl.mk [eC E a ((y.n (91017 : Nat)).toNat * (4 : Nat) + (0 : Nat)) (EK.i IntKind.i64), eC E a ((y.n (91017 : Nat)).toNat * (4 : Nat) + (1 : Nat))
      (EK.i IntKind.i64), eC E a ((y.n (91017 : Nat)).toNat * (4 : Nat) + (2 : Nat)) (EK.i IntKind.i64), eC E a ((y.n (91017 : Nat)).toNat * (4 : Nat) + (3 : Nat)) (EK.i
      IntKind.u16)] (Bl.mk [C.i true IntKind.i64 (0 : Int), C.i true IntKind.i64 (0 : Int), C.i true IntKind.i64 (0 : Int), C.i true IntKind.u16 (0 : Int)] (28 : Nat)).ty]) ∧
      True) ∧ ∀ (y_3 : PX), ((((0 : Int) ≤ y_3.n (90000 : Nat) ∧ y_3.n (90000 : Nat) ≤ (15 : Int)) ∧ True) ∧ y_3.n (90000 : Nat) = (((bif y_1.b (100001 : Nat) then (1 : Int)
      else (0 : Int)) + bif y_1.b (100013 : Nat) then (2 : Int) else (0 : Int)) + bif y_1.b (100025 : Nat) then (4 : Int) else (0 : Int)) + bif y_1.b (100037 : Nat) then (8 :
      Int) else (0 : Int)) → ((bits BinOp.and IntKind.i64 ((y_3.n (90000 : Nat)).fdiv (2 : Int)) (1 : Int) == (0 : Int)) = true → True ∧ True ∧ false = true) ∧ ((bits BinOp.and
      IntKind.i64 ((y_3.n (90000 : Nat)).fdiv (2 : Int)) (1 : Int) == (0 : Int)) = false → (decide (y_2.n (90002 : Nat) < (0 : Int)) = true → True ∧ True ∧ false = true) ∧
      (decide (y_2.n (90002 : Nat) < (0 : Int)) = false → (decide (y_2.n (90002 : Nat) > (15 : Int)) = true → True ∧ True ∧ false = true) ∧ (decide (y_2.n (90002 : Nat) > (15 :
      Int)) = false → (decide (y_2.n (90002 : Nat) > (0 : Int)) = true → ((mpB = mpB ∧ (50 : Nat) = (50 : Nat) ∧ (RG y_1) ∧ [Bl.mk [eC E a ((y.n (91017 : Nat)).toNat * (4 : Nat)
      + (0 : Nat)) (EK.i IntKind.i64), eC E a ((y.n (91017 : Nat)).toNat * (4 : Nat) + (1 : Nat)) (EK.i IntKind.i64), eC E a ((y.n (91017 : Nat)).toNat * (4 : Nat) + (2 : Nat))
      (EK.i IntKind.i64), eC E a ((y.n (91017 : Nat)).toNat * (4 : Nat) + (3 : Nat)) (EK.i IntKind.u16)] (Bl.mk [C.i true IntKind.i64 (0 : Int), C.i true IntKind.i64 (0 : Int),
      C.i true IntKind.i64 (0 : Int), C.i true IntKind.u16 (0 : Int)] (28 : Nat)).ty] = [Bl.mk [eC E a ((y.n (91017 : Nat)).toNat * (4 : Nat) + (0 : Nat)) (EK.i IntKind.i64), eC
      E a ((y.n (91017 : Nat)).toNat * (4 : Nat) + (1 : Nat)) (EK.i IntKind.i64), eC E a ((y.n (91017 : Nat)).toNat * (4 : Nat) + (2 : Nat)) (EK.i IntKind.i64), eC E a ((y.n
      (91017 : Nat)).toNat * (4 : Nat) + (3 : Nat)) (EK.i IntKind.u16)] (Bl.mk [C.i true IntKind.i64 (0 : Int), C.i true IntKind.i64 (0 : Int), C.i true IntKind.i64 (0 : Int),
      C.i true IntKind.u16 (0 : Int)] (28 : Nat)).ty]) ∧ True) ∧ ∀ (y_4 : PX), ((((0 : Int) ≤ y_4.n (90000 : Nat) ∧ y_4.n (90000 : Nat) ≤ (15 : Int)) ∧ True) ∧ y_4.n (90000 :
      Nat) = (((bif y_1.b (100001 : Nat) then (1 : Int) else (0 : Int)) + bif y_1.b (100013 : Nat) then (2 : Int) else (0 : Int)) + bif y_1.b (100025 : Nat) then (4 : Int) else
      (0 : Int)) + bif y_1.b (100037 : Nat) then (8 : Int) else (0 : Int)) → ((bits BinOp.and IntKind.i64 ((y_4.n (90000 : Nat)).fdiv (4 : Int)) (1 : Int) == (0 : Int)) = true →
      True ∧ True ∧ false = true) ∧ ((bits BinOp.and IntKind.i64 ((y_4.n (90000 : Nat)).fdiv (4 : Int)) (1 : Int) == (0 : Int)) = false → (decide (y_2.n (90003 : Nat) < (0 :
      Int)) = true → True ∧ True ∧ false = true) ∧ (decide (y_2.n (90003 : Nat) < (0 : Int)) = false → (decide (y_2.n (90003 : Nat) > (15 : Int)) = true → True ∧ True ∧ false =
      true) ∧ (decide (y_2.n (90003 : Nat) > (15 : Int)) = false → (decide (y_2.n (90003 : Nat) > (0 : Int)) = true → ((mpB = mpB ∧ (50 : Nat) = (50 : Nat) ∧ (RG y_1) ∧ [Bl.mk
      [eC E a ((y.n (91017 : Nat)).toNat * (4 : Nat) + (0 : Nat)) (EK.i IntKind.i64), eC E a ((y.n (91017 : Nat)).toNat * (4 : Nat) + (1 : Nat)) (EK.i IntKind.i64), eC E a ((y.n
      (91017 : Nat)).toNat * (4 : Nat) + (2 : Nat)) (EK.i IntKind.i64), eC E a ((y.n (91017 : Nat)).toNat * (4 : Nat) + (3 : Nat)) (EK.i IntKind.u16)] (Bl.mk [C.i true
      IntKind.i64 (0 : Int), C.i true IntKind.i64 (0 : Int), C.i true IntKind.i64 (0 : Int), C.i true IntKind.u16 (0 : Int)] (28 : Nat)).ty] = [Bl.mk [eC E a ((y.n (91017 :
      Nat)).toNat * (4 : Nat) + (0 : Nat)) (EK.i IntKind.i64), eC E a ((y.n (91017 : Nat)).toNat * (4 : Nat) + (1 : Nat)) (EK.i IntKind.i64), eC E a ((y.n (91017 : Nat)).toNat *
      (4 : Nat) + (2 : Nat)) (EK.i IntKind.i64), eC E a ((y.n (91017 : Nat)).toNat * (4 : Nat) + (3 : Nat)) (EK.i IntKind.u16)] (Bl.mk [C.i true IntKind.i64 (0 : Int), C.i true
      IntKind.i64 (0 : Int), C.i true IntKind.i64 (0 : Int), C.i true IntKind.u16 (0 : Int)] (28 : Nat)).ty]) ∧ True) ∧ ∀ (y_5 : PX), ((((0 : Int) ≤ y_5.n (90000 : Nat) ∧ y_5.n
      (90000 : Nat) ≤ (15 : Int)) ∧ True) ∧ y_5.n (90000 : Nat) = (((bif y_1.b (100001 : Nat) then (1 : Int) else (0 : Int)) + bif y_1.b (100013 : Nat) then (2 : Int) else (0 :
      Int)) + bif y_1.b (100025 : Nat) then (4 : Int) else (0 : Int)) + bif y_1.b (100037 : Nat) then (8 : Int) else (0 : Int)) → ((bits BinOp.and IntKind.i64 ((y_5.n (90000 :
      Nat)).fdiv (8 : Int)) (1 : Int) == (0 : Int)) = true → True ∧ True ∧ false = true) ∧ ((bits BinOp.and IntKind.i64 ((y_5.n (90000 : Nat)).fdiv (8 : Int)) (1 : Int) == (0 :
      Int)) = false → law_td E = law_td E ∧ (80 : Nat) = (80 : Nat) ∧ (True ∧ (((0 : Int) ≤ IntKind.i64.wrap (y.n (91004 : Nat) + eI E a ((y.n (91017 : Nat)).toNat * (4 : Nat) +
      (0 : Nat))) ∧ IntKind.i64.wrap (y.n (91004 : Nat) + eI E a ((y.n (91017 : Nat)).toNat * (4 : Nat) + (0 : Nat))) ≤ (200000000 : Int)) ∧ True) ∧ (C.es a n c = C.es a n c ∧
      True) ∧ (C.i false IntKind.i64 (↑n : Int) = C.i false IntKind.i64 (↑n : Int) ∧ True) ∧ (((0 : Int) ≤ IntKind.i64.wrap (y.n (91017 : Nat) + (1 : Int)) ∧ IntKind.i64.wrap
      (y.n (91017 : Nat) + (1 : Int)) ≤ (200 : Int)) ∧ True) ∧ True) ∧ (mpB = mpB ∧ (50 : Nat) = (50 : Nat) ∧ (RG y_1) ∧ True) ∧ (IntKind.i64.wrap (y.n (91017 : Nat) + (1 :
      Int)) ≤ (↑n : Int) ∧ IntKind.i64.wrap (y.n (91004 : Nat) + eI E a ((y.n (91017 : Nat)).toNat * (4 : Nat) + (0 : Nat))) ≤ (1000000 : Int) * IntKind.i64.wrap (y.n (91017 :
      Nat) + (1 : Int)) ∧ n ≤ (200 : Nat)) ∧ ((↑n : Int) - IntKind.i64.wrap (y.n (91017 : Nat) + (1 : Int))).toNat < ((↑n : Int) - y.n (91017 : Nat)).toNat ∧ True)) ∧ (decide
      (y_2.n (90003 : Nat) > (0 : Int)) = false → law_td E = law_td E ∧ (80 : Nat) = (80 : Nat) ∧ (True ∧ (((0 : Int) ≤ IntKind.i64.wrap (y.n (91004 : Nat) + eI E a ((y.n (91017
      : Nat)).toNat * (4 : Nat) + (0 : Nat))) ∧ IntKind.i64.wrap (y.n (91004 : Nat) + eI E a ((y.n (91017 : Nat)).toNat * (4 : Nat) + (0 : Nat))) ≤ (200000000 : Int)) ∧ True) ∧
      (C.es a n c = C.es a n c ∧ True) ∧ (C.i false IntKind.i64 (↑n : Int) = C.i false IntKind.i64 (↑n : Int) ∧ True) ∧ (((0 : Int) ≤ IntKind.i64.wrap (y.n (91017 : Nat) + (1 :
      Int)) ∧ IntKind.i64.wrap (y.n (91017 : Nat) + (1 : Int)) ≤ (200 : Int)) ∧ True) ∧ True) ∧ (mpB = mpB ∧ (50 : Nat) = (50 : Nat) ∧ (RG y_1) ∧ True) ∧ (IntKind.i64.wrap (y.n
      (91017 : Nat) + (1 : Int)) ≤ (↑n : Int) ∧ IntKind.i64.wrap (y.n (91004 : Nat) + eI E a ((y.n (91017 : Nat)).toNat * (4 : Nat) + (0 : Nat))) ≤ (1000000 : Int) *
      IntKind.i64.wrap (y.n (91017 : Nat) + (1 : Int)) ∧ n ≤ (200 : Nat)) ∧ ((↑n : Int) - IntKind.i64.wrap (y.n (91017 : Nat) + (1 : Int))).toNat < ((↑n : Int) - y.n (91017 :
      Nat)).toNat ∧ True))))) ∧ (decide (y_2.n (90002 : Nat) > (0 : Int)) = false → (decide (y_2.n (90003 : Nat) < (0 : Int)) = true → True ∧ True ∧ false = true) ∧ (decide
      (y_2.n (90003 : Nat) < (0 : Int)) = false → (decide (y_2.n (90003 : Nat) > (15 : Int)) = true → True ∧ True ∧ false = true) ∧ (decide (y_2.n (90003 : Nat) > (15 : Int)) =
      false → (decide (y_2.n (90003 : Nat) > (0 : Int)) = true → ((mpB = mpB ∧ (50 : Nat) = (50 : Nat) ∧ (RG y_1) ∧ [Bl.mk [eC E a ((y.n (91017 : Nat)).toNat * (4 : Nat) + (0 :
      Nat)) (EK.i IntKind.i64), eC E a ((y.n (91017 : Nat)).toNat * (4 : Nat) + (1 : Nat)) (EK.i IntKind.i64), eC E a ((y.n (91017 : Nat)).toNat * (4 : Nat) + (2 : Nat)) (EK.i
      IntKind.i64), eC E a ((y.n (91017 : Nat)).toNat * (4 : Nat) + (3 : Nat)) (EK.i IntKind.u16)] (Bl.mk [C.i true IntKind.i64 (0 : Int), C.i true IntKind.i64 (0 : Int), C.i
      true IntKind.i64 (0 : Int), C.i true IntKind.u16 (0 : Int)] (28 : Nat)).ty] = [Bl.mk [eC E a ((y.n (91017 : Nat)).toNat * (4 : Nat) + (0 : Nat)) (EK.i IntKind.i64), eC E a
      ((y.n (91017 : Nat)).toNat * (4 : Nat) + (1 : Nat)) (EK.i IntKind.i64), eC E a ((y.n (91017 : Nat)).toNat * (4 : Nat) + (2 : Nat)) (EK.i IntKind.i64), eC E a ((y.n (91017
      : Nat)).toNat * (4 : Nat) + (3 : Nat)) (EK.i IntKind.u16)] (Bl.mk [C.i true IntKind.i64 (0 : Int), C.i true IntKind.i64 (0 : Int), C.i true IntKind.i64 (0 : Int), C.i true
      IntKind.u16 (0 : Int)] (28 : Nat)).ty]) ∧ True) ∧ ∀ (y_4 : PX), ((((0 : Int) ≤ y_4.n (90000 : Nat) ∧ y_4.n (90000 : Nat) ≤ (15 : Int)) ∧ True) ∧ y_4.n (90000 : Nat) =
      (((bif y_1.b (100001 : Nat) then (1 : Int) else (0 : Int)) + bif y_1.b (100013 : Nat) then (2 : Int) else (0 : Int)) + bif y_1.b (100025 : Nat) then (4 : Int) else (0 :
      Int)) + bif y_1.b (100037 : Nat) then (8 : Int) else (0 : Int)) → ((bits BinOp.and IntKind.i64 ((y_4.n (90000 : Nat)).fdiv (8 : Int)) (1 : Int) == (0 : Int)) = true → True
      ∧ True ∧ false = true) ∧ ((bits BinOp.and IntKind.i64 ((y_4.n (90000 : Nat)).fdiv (8 : Int)) (1 : Int) == (0 : Int)) = false → law_td E = law_td E ∧ (80 : Nat) = (80 :
      Nat) ∧ (True ∧ (((0 : Int) ≤ IntKind.i64.wrap (y.n (91004 : Nat) + eI E a ((y.n (91017 : Nat)).toNat * (4 : Nat) + (0 : Nat))) ∧ IntKind.i64.wrap (y.n (91004 : Nat) + eI E
      a ((y.n (91017 : Nat)).toNat * (4 : Nat) + (0 : Nat))) ≤ (200000000 : Int)) ∧ True) ∧ (C.es a n c = C.es a n c ∧ True) ∧ (C.i false IntKind.i64 (↑n : Int) = C.i false
      IntKind.i64 (↑n : Int) ∧ True) ∧ (((0 : Int) ≤ IntKind.i64.wrap (y.n (91017 : Nat) + (1 : Int)) ∧ IntKind.i64.wrap (y.n (91017 : Nat) + (1 : Int)) ≤ (200 : Int)) ∧ True) ∧
      True) ∧ (mpB = mpB ∧ (50 : Nat) = (50 : Nat) ∧ (RG y_1) ∧ True) ∧ (IntKind.i64.wrap (y.n (91017 : Nat) + (1 : Int)) ≤ (↑n : Int) ∧ IntKind.i64.wrap (y.n (91004 : Nat) + eI
      E a ((y.n (91017 : Nat)).toNat * (4 : Nat) + (0 : Nat))) ≤ (1000000 : Int) * IntKind.i64.wrap (y.n (91017 : Nat) + (1 : Int)) ∧ n ≤ (200 : Nat)) ∧ ((↑n : Int) -
      IntKind.i64.wrap (y.n (91017 : Nat) + (1 : Int))).toNat < ((↑n : Int) - y.n (91017 : Nat)).toNat ∧ True)) ∧ (decide (y_2.n (90003 : Nat) > (0 : Int)) = false → law_td E =
      law_td E ∧ (80 : Nat) = (80 : Nat) ∧ (True ∧ (((0 : Int) ≤ IntKind.i64.wrap (y.n (91004 : Nat) + eI E a ((y.n (91017 : Nat)).toNat * (4 : Nat) + (0 : Nat))) ∧
      IntKind.i64.wrap (y.n (91004 : Nat) + eI E a ((y.n (91017 : Nat)).toNat * (4 : Nat) + (0 : Nat))) ≤ (200000000 : Int)) ∧ True) ∧ (C.es a n c = C.es a n c ∧ True) ∧ (C.i
      false IntKind.i64 (↑n : Int) = C.i false IntKind.i64 (↑n : Int) ∧ True) ∧ (((0 : Int) ≤ IntKind.i64.wrap (y.n (91017 : Nat) + (1 : Int)) ∧ IntKind.i64.wrap (y.n (91017 :
      Nat) + (1 : Int)) ≤ (200 : Int)) ∧ True) ∧ True) ∧ (mpB = mpB ∧ (50 : Nat) = (50 : Nat) ∧ (RG y_1) ∧ True) ∧ (IntKind.i64.wrap (y.n (91017 : Nat) + (1 : Int)) ≤ (↑n : Int)
      ∧ IntKind.i64.wrap (y.n (91004 : Nat) + eI E a ((y.n (91017 : Nat)).toNat * (4 : Nat) + (0 : Nat))) ≤ (1000000 : Int) * IntKind.i64.wrap (y.n (91017 : Nat) + (1 : Int)) ∧
      n ≤ (200 : Nat)) ∧ ((↑n : Int) - IntKind.i64.wrap (y.n (91017 : Nat) + (1 : Int))).toNat < ((↑n : Int) - y.n (91017 : Nat)).toNat ∧ True)))))))) ∧ (decide (y_2.n (90001 :
      Nat) > (0 : Int)) = false → (decide (y_2.n (90002 : Nat) < (0 : Int)) = true → True ∧ True ∧ false = true) ∧ (decide (y_2.n (90002 : Nat) < (0 : Int)) = false → (decide
      (y_2.n (90002 : Nat) > (15 : Int)) = true → True ∧ True ∧ false = true) ∧ (decide (y_2.n (90002 : Nat) > (15 : Int)) = false → (decide (y_2.n (90002 : Nat) > (0 : Int)) =
      true → ((mpB = mpB ∧ (50 : Nat) = (50 : Nat) ∧ (RG y_1) ∧ [Bl.mk [eC E a ((y.n (91017 : Nat)).toNat * (4 : Nat) + (0 : Nat)) (EK.i IntKind.i64), eC E a ((y.n (91017 :
      Nat)).toNat * (4 : Nat) + (1 : Nat)) (EK.i IntKind.i64), eC E a ((y.n (91017 : Nat)).toNat * (4 : Nat) + (2 : Nat)) (EK.i IntKind.i64), eC E a ((y.n (91017 : Nat)).toNat *
      (4 : Nat) + (3 : Nat)) (EK.i IntKind.u16)] (Bl.mk [C.i true IntKind.i64 (0 : Int), C.i true IntKind.i64 (0 : Int), C.i true IntKind.i64 (0 : Int), C.i true IntKind.u16 (0
      : Int)] (28 : Nat)).ty] = [Bl.mk [eC E a ((y.n (91017 : Nat)).toNat * (4 : Nat) + (0 : Nat)) (EK.i IntKind.i64), eC E a ((y.n (91017 : Nat)).toNat * (4 : Nat) + (1 : Nat))
      (EK.i IntKind.i64), eC E a ((y.n (91017 : Nat)).toNat * (4 : Nat) + (2 : Nat)) (EK.i IntKind.i64), eC E a ((y.n (91017 : Nat)).toNat * (4 : Nat) + (3 : Nat)) (EK.i
      IntKind.u16)] (Bl.mk [C.i true IntKind.i64 (0 : Int), C.i true IntKind.i64 (0 : Int), C.i true IntKind.i64 (0 : Int), C.i true IntKind.u16 (0 : Int)] (28 : Nat)).ty]) ∧
      True) ∧ ∀ (y_3 : PX), ((((0 : Int) ≤ y_3.n (90000 : Nat) ∧ y_3.n (90000 : Nat) ≤ (15 : Int)) ∧ True) ∧ y_3.n (90000 : Nat) = (((bif y_1.b (100001 : Nat) then (1 : Int)
      else (0 : Int)) + bif y_1.b (100013 : Nat) then (2 : Int) else (0 : Int)) + bif y_1.b (100025 : Nat) then (4 : Int) else (0 : Int)) + bif y_1.b (100037 : Nat) then (8 :
      Int) else (0 : Int)) → ((bits BinOp.and IntKind.i64 ((y_3.n (90000 : Nat)).fdiv (4 : Int)) (1 : Int) == (0 : Int)) = true → True ∧ True ∧ false = true) ∧ ((bits BinOp.and
      IntKind.i64 ((y_3.n (90000 : Nat)).fdiv (4 : Int)) (1 : Int) == (0 : Int)) = false → (decide (y_2.n (90003 : Nat) < (0 : Int)) = true → True ∧ True ∧ false = true) ∧
      (decide (y_2.n (90003 : Nat) < (0 : Int)) = false → (decide (y_2.n (90003 : Nat) > (15 : Int)) = true → True ∧ True ∧ false = true) ∧ (decide (y_2.n (90003 : Nat) > (15 :
      Int)) = false → (decide (y_2.n (90003 : Nat) > (0 : Int)) = true → ((mpB = mpB ∧ (50 : Nat) = (50 : Nat) ∧ (RG y_1) ∧ [Bl.mk [eC E a ((y.n (91017 : Nat)).toNat * (4 : Nat)
      + (0 : Nat)) (EK.i IntKind.i64), eC E a ((y.n (91017 : Nat)).toNat * (4 : Nat) + (1 : Nat)) (EK.i IntKind.i64), eC E a ((y.n (91017 : Nat)).toNat * (4 : Nat) + (2 : Nat))
      (EK.i IntKind.i64), eC E a ((y.n (91017 : Nat)).toNat * (4 : Nat) + (3 : Nat)) (EK.i IntKind.u16)] (Bl.mk [C.i true IntKind.i64 (0 : Int), C.i true IntKind.i64 (0 : Int),
      C.i true IntKind.i64 (0 : Int), C.i true IntKind.u16 (0 : Int)] (28 : Nat)).ty] = [Bl.mk [eC E a ((y.n (91017 : Nat)).toNat * (4 : Nat) + (0 : Nat)) (EK.i IntKind.i64), eC
      E a ((y.n (91017 : Nat)).toNat * (4 : Nat) + (1 : Nat)) (EK.i IntKind.i64), eC E a ((y.n (91017 : Nat)).toNat * (4 : Nat) + (2 : Nat)) (EK.i IntKind.i64), eC E a ((y.n
      (91017 : Nat)).toNat * (4 : Nat) + (3 : Nat)) (EK.i IntKind.u16)] (Bl.mk [C.i true IntKind.i64 (0 : Int), C.i true IntKind.i64 (0 : Int), C.i true IntKind.i64 (0 : Int),
      C.i true IntKind.u16 (0 : Int)] (28 : Nat)).ty]) ∧ True) ∧ ∀ (y_4 : PX), ((((0 : Int) ≤ y_4.n (90000 : Nat) ∧ y_4.n (90000 : Nat) ≤ (15 : Int)) ∧ True) ∧ y_4.n (90000 :
      Nat) = (((bif y_1.b (100001 : Nat) then (1 : Int) else (0 : Int)) + bif y_1.b (100013 : Nat) then (2 : Int) else (0 : Int)) + bif y_1.b (100025 : Nat) then (4 : Int) else
      (0 : Int)) + bif y_1.b (100037 : Nat) then (8 : Int) else (0 : Int)) → ((bits BinOp.and IntKind.i64 ((y_4.n (90000 : Nat)).fdiv (8 : Int)) (1 : Int) == (0 : Int)) = true →
      True ∧ True ∧ false = true) ∧ ((bits BinOp.and IntKind.i64 ((y_4.n (90000 : Nat)).fdiv (8 : Int)) (1 : Int) == (0 : Int)) = false → law_td E = law_td E ∧ (80 : Nat) = (80
      : Nat) ∧ (True ∧ (((0 : Int) ≤ IntKind.i64.wrap (y.n (91004 : Nat) + eI E a ((y.n (91017 : Nat)).toNat * (4 : Nat) + (0 : Nat))) ∧ IntKind.i64.wrap (y.n (91004 : Nat) + eI
      E a ((y.n (91017 : Nat)).toNat * (4 : Nat) + (0 : Nat))) ≤ (200000000 : Int)) ∧ True) ∧ (C.es a n c = C.es a n c ∧ True) ∧ (C.i false IntKind.i64 (↑n : Int) = C.i false
      IntKind.i64 (↑n : Int) ∧ True) ∧ (((0 : Int) ≤ IntKind.i64.wrap (y.n (91017 : Nat) + (1 : Int)) ∧ IntKind.i64.wrap (y.n (91017 : Nat) + (1 : Int)) ≤ (200 : Int)) ∧ True) ∧
      True) ∧ (mpB = mpB ∧ (50 : Nat) = (50 : Nat) ∧ (RG y_1) ∧ True) ∧ (IntKind.i64.wrap (y.n (91017 : Nat) + (1 : Int)) ≤ (↑n : Int) ∧ IntKind.i64.wrap (y.n (91004 : Nat) + eI
      E a ((y.n (91017 : Nat)).toNat * (4 : Nat) + (0 : Nat))) ≤ (1000000 : Int) * IntKind.i64.wrap (y.n (91017 : Nat) + (1 : Int)) ∧ n ≤ (200 : Nat)) ∧ ((↑n : Int) -
      IntKind.i64.wrap (y.n (91017 : Nat) + (1 : Int))).toNat < ((↑n : Int) - y.n (91017 : Nat)).toNat ∧ True)) ∧ (decide (y_2.n (90003 : Nat) > (0 : Int)) = false → law_td E =
      law_td E ∧ (80 : Nat) = (80 : Nat) ∧ (True ∧ (((0 : Int) ≤ IntKind.i64.wrap (y.n (91004 : Nat) + eI E a ((y.n (91017 : Nat)).toNat * (4 : Nat) + (0 : Nat))) ∧
      IntKind.i64.wrap (y.n (91004 : Nat) + eI E a ((y.n (91017 : Nat)).toNat * (4 : Nat) + (0 : Nat))) ≤ (200000000 : Int)) ∧ True) ∧ (C.es a n c = C.es a n c ∧ True) ∧ (C.i
      false IntKind.i64 (↑n : Int) = C.i false IntKind.i64 (↑n : Int) ∧ True) ∧ (((0 : Int) ≤ IntKind.i64.wrap (y.n (91017 : Nat) + (1 : Int)) ∧ IntKind.i64.wrap (y.n (91017 :
      Nat) + (1 : Int)) ≤ (200 : Int)) ∧ True) ∧ True) ∧ (mpB = mpB ∧ (50 : Nat) = (50 : Nat) ∧ (RG y_1) ∧ True) ∧ (IntKind.i64.wrap (y.n (91017 : Nat) + (1 : Int)) ≤ (↑n : Int)
      ∧ IntKind.i64.wrap (y.n (91004 : Nat) + eI E a ((y.n (91017 : Nat)).toNat * (4 : Nat) + (0 : Nat))) ≤ (1000000 : Int) * IntKind.i64.wrap (y.n (91017 : Nat) + (1 : Int)) ∧
      n ≤ (200 : Nat)) ∧ ((↑n : Int) - IntKind.i64.wrap (y.n (91017 : Nat) + (1 : Int))).toNat < ((↑n : Int) - y.n (91017 : Nat)).toNat ∧ True))))) ∧ (decide (y_2.n (90002 :
      Nat) > (0 : Int)) = false → (decide (y_2.n (90003 : Nat) < (0 : Int)) = true → True ∧ True ∧ false = true) ∧ (decide (y_2.n (90003 : Nat) < (0 : Int)) = false → (decide
      (y_2.n (90003 : Nat) > (15 : Int)) = true → True ∧ True ∧ false = true) ∧ (decide (y_2.n (90003 : Nat) > (15 : Int)) = false → (decide (y_2.n (90003 : Nat) > (0 : Int)) =
      true → ((mpB = mpB ∧ (50 : Nat) = (50 : Nat) ∧ (RG y_1) ∧ [Bl.mk [eC E a ((y.n (91017 : Nat)).toNat * (4 : Nat) + (0 : Nat)) (EK.i IntKind.i64), eC E a ((y.n (91017 :
      Nat)).toNat * (4 : Nat) + (1 : Nat)) (EK.i IntKind.i64), eC E a ((y.n (91017 : Nat)).toNat * (4 : Nat) + (2 : Nat)) (EK.i IntKind.i64), eC E a ((y.n (91017 : Nat)).toNat *
      (4 : Nat) + (3 : Nat)) (EK.i IntKind.u16)] (Bl.mk [C.i true IntKind.i64 (0 : Int), C.i true IntKind.i64 (0 : Int), C.i true IntKind.i64 (0 : Int), C.i true IntKind.u16 (0
      : Int)] (28 : Nat)).ty] = [Bl.mk [eC E a ((y.n (91017 : Nat)).toNat * (4 : Nat) + (0 : Nat)) (EK.i IntKind.i64), eC E a ((y.n (91017 : Nat)).toNat * (4 : Nat) + (1 : Nat))
      (EK.i IntKind.i64), eC E a ((y.n (91017 : Nat)).toNat * (4 : Nat) + (2 : Nat)) (EK.i IntKind.i64), eC E a ((y.n (91017 : Nat)).toNat * (4 : Nat) + (3 : Nat)) (EK.i
      IntKind.u16)] (Bl.mk [C.i true IntKind.i64 (0 : Int), C.i true IntKind.i64 (0 : Int), C.i true IntKind.i64 (0 : Int), C.i true IntKind.u16 (0 : Int)] (28 : Nat)).ty]) ∧
      True) ∧ ∀ (y_3 : PX), ((((0 : Int) ≤ y_3.n (90000 : Nat) ∧ y_3.n (90000 : Nat) ≤ (15 : Int)) ∧ True) ∧ y_3.n (90000 : Nat) = (((bif y_1.b (100001 : Nat) then (1 : Int)
      else (0 : Int)) + bif y_1.b (100013 : Nat) then (2 : Int) else (0 : Int)) + bif y_1.b (100025 : Nat) then (4 : Int) else (0 : Int)) + bif y_1.b (100037 : Nat) then (8 :
      Int) else (0 : Int)) → ((bits BinOp.and IntKind.i64 ((y_3.n (90000 : Nat)).fdiv (8 : Int)) (1 : Int) == (0 : Int)) = true → True ∧ True ∧ false = true) ∧ ((bits BinOp.and
      IntKind.i64 ((y_3.n (90000 : Nat)).fdiv (8 : Int)) (1 : Int) == (0 : Int)) = false → law_td E = law_td E ∧ (80 : Nat) = (80 : Nat) ∧ (True ∧ (((0 : Int) ≤ IntKind.i64.wrap
      (y.n (91004 : Nat) + eI E a ((y.n (91017 : Nat)).toNat * (4 : Nat) + (0 : Nat))) ∧ IntKind.i64.wrap (y.n (91004 : Nat) + eI E a ((y.n (91017 : Nat)).toNat * (4 : Nat) + (0
      : Nat))) ≤ (200000000 : Int)) ∧ True) ∧ (C.es a n c = C.es a n c ∧ True) ∧ (C.i false IntKind.i64 (↑n : Int) = C.i false IntKind.i64 (↑n : Int) ∧ True) ∧ (((0 : Int) ≤
      IntKind.i64.wrap (y.n (91017 : Nat) + (1 : Int)) ∧ IntKind.i64.wrap (y.n (91017 : Nat) + (1 : Int)) ≤ (200 : Int)) ∧ True) ∧ True) ∧ (mpB = mpB ∧ (50 : Nat) = (50 : Nat) ∧
      (RG y_1) ∧ True) ∧ (IntKind.i64.wrap (y.n (91017 : Nat) + (1 : Int)) ≤ (↑n : Int) ∧ IntKind.i64.wrap (y.n (91004 : Nat) + eI E a ((y.n (91017 : Nat)).toNat * (4 : Nat) +
      (0 : Nat))) ≤ (1000000 : Int) * IntKind.i64.wrap (y.n (91017 : Nat) + (1 : Int)) ∧ n ≤ (200 : Nat)) ∧ ((↑n : Int) - IntKind.i64.wrap (y.n (91017 : Nat) + (1 : Int))).toNat
      < ((↑n : Int) - y.n (91017 : Nat)).toNat ∧ True)) ∧ (decide (y_2.n (90003 : Nat) > (0 : Int)) = false → law_td E = law_td E ∧ (80 : Nat) = (80 : Nat) ∧ (True ∧ (((0 : Int)
      ≤ IntKind.i64.wrap (y.n (91004 : Nat) + eI E a ((y.n (91017 : Nat)).toNat * (4 : Nat) + (0 : Nat))) ∧ IntKind.i64.wrap (y.n (91004 : Nat) + eI E a ((y.n (91017 :
      Nat)).toNat * (4 : Nat) + (0 : Nat))) ≤ (200000000 : Int)) ∧ True) ∧ (C.es a n c = C.es a n c ∧ True) ∧ (C.i false IntKind.i64 (↑n : Int) = C.i false IntKind.i64 (↑n :
      Int) ∧ True) ∧ (((0 : Int) ≤ IntKind.i64.wrap (y.n (91017 : Nat) + (1 : Int)) ∧ IntKind.i64.wrap (y.n (91017 : Nat) + (1 : Int)) ≤ (200 : Int)) ∧ True) ∧ True) ∧ (mpB =
      mpB ∧ (50 : Nat) = (50 : Nat) ∧ (RG y_1) ∧ True) ∧ (IntKind.i64.wrap (y.n (91017 : Nat) + (1 : Int)) ≤ (↑n : Int) ∧ IntKind.i64.wrap (y.n (91004 : Nat) + eI E a ((y.n
      (91017 : Nat)).toNat * (4 : Nat) + (0 : Nat))) ≤ (1000000 : Int) * IntKind.i64.wrap (y.n (91017 : Nat) + (1 : Int)) ∧ n ≤ (200 : Nat)) ∧ ((↑n : Int) - IntKind.i64.wrap
      (y.n (91017 : Nat) + (1 : Int))).toNat < ((↑n : Int) - y.n (91017 : Nat)).toNat ∧ True)))))))))))))))) ∧ (decide (y.n (91017 : Nat) < (↑n : Int)) = false → ((mpB = mpB ∧
      (50 : Nat) = (50 : Nat) ∧ (RG y) ∧ ([] : SW) = []) ∧ True) ∧ ∀ (y_1 : PX), ((((0 : Int) ≤ y_1.n (90000 : Nat) ∧ y_1.n (90000 : Nat) ≤ (15 : Int)) ∧ True) ∧ y_1.n (90000 :
      Nat) = (((bif y.b (100001 : Nat) then (1 : Int) else (0 : Int)) + bif y.b (100013 : Nat) then (2 : Int) else (0 : Int)) + bif y.b (100025 : Nat) then (4 : Int) else (0 :
      Int)) + bif y.b (100037 : Nat) then (8 : Int) else (0 : Int)) → True ∧ True ∧ decide (y_1.n (90000 : Nat) < (16 : Int)) = true)) := by kernel_rfl
set_option maxHeartbeats 8000000 in
theorem bounds_c (E : World)  (a : Option Addr) (n : Nat) (c : Nat) (z : PX) (hz : rgM z [] 0) (hp : (fun _ => n ≤ maxLen ∧ (a = none → n = 0) ∧ ∀ j, j < n → eRow E a (j * 4) [.i .i64, .i .i64, .i .i64, .i .u16] = true) z) : HC (pe E) 3 [.c (.es a n c)] [] [] (.c .b) (fun _ y => y.b 90000 = true) z := by
  refine HC.loop (P := pe E) orcP_ok tab_ok tab_sz mixed Try.func3 (c := Try.f3.body.getD .skip) rfl (by decide) (Nat.le_of_ble_eq_true rfl) true (by rfl) (by rfl) (by rfl) (by rfl) 20000 4 (bounds_hs E  z a n c) (by rfl) ?_ (loopP_lf ?_) ?_
  · intro h hmem
    simp only [bounds_hs, List.mem_cons, List.not_mem_nil, or_false] at hmem
    rcases hmem with hmem
    all_goals (subst hmem; exact ⟨by rfl, Nat.le_of_ble_eq_true rfl, fun y _ => okSW_mk y (by rfl)⟩)
  · rw [bounds_pro]
    obtain _ :=  hz
    obtain ⟨p1, p2, p3⟩ := hp
    clear p3
    (repeat' (first | assumption | exact trivial | exact rfl | apply And.intro | (rintro y ⟨⟨o0, o1, o2, o3, _⟩, i1, i2, i3, i4⟩) | (rintro y ⟨⟨hR, _⟩, _, _⟩) | (rintro y ⟨⟨hr, _⟩, hq⟩) | (intro hh; replace hh := of_decide_eq_true hh) | (intro hh; replace hh := of_decide_eq_false hh) | intro _)) <;> (first | omega | (rw [wi64]; omega) | (rw [decide_eq_true_eq]; omega) | (exact (pb0 (by with_reducible assumption) (by with_reducible assumption) (by with_reducible assumption) (by with_reducible assumption)).elim) | (exact (pb1 (by with_reducible assumption) (by with_reducible assumption) (by with_reducible assumption) (by with_reducible assumption)).elim) | (exact (pb2 (by with_reducible assumption) (by with_reducible assumption) (by with_reducible assumption) (by with_reducible assumption)).elim) | (exact (pb3 (by with_reducible assumption) (by with_reducible assumption) (by with_reducible assumption) (by with_reducible assumption)).elim) | omega)
  · intro h hmem y hy1 hy2 hy3
    simp only [bounds_hs, List.mem_cons, List.not_mem_nil, or_false] at hmem
    rcases hmem with hmem
    · have e1 : h.td = (law_td E) := by rw [hmem]
      have e2 : h.fs = [(3, .c (.p 1 0)), (4, .r .i64 (0) (200000000)), (15, .q (.es a n c)), (16, .q (.i false .i64 n)), (17, .r .i64 (0) (200))] := by rw [hmem]
      have e3 : h.ms = uH := by rw [hmem]
      have e4 : h.mu = (fun y => ((n : Int) - y.n 91017).toNat) := by rw [hmem]
      have e5 : h.H = (fun y => y.n 91017 ≤ (n : Int) ∧ y.n 91004 ≤ 1000000 * y.n 91017 ∧ n ≤ 200) := by rw [hmem]
      rw [e3] at hy1
      rw [e2] at hy2
      rw [e5] at hy3
      rw [e1, e2, e3, e4]
      refine loopP_lf ?_
      rw [bounds_r0]
      clear e1 e2 e3 e4 e5 hmem
      have hf : True ∧ (((0) ≤ y.n 91004 ∧ y.n 91004 ≤ (200000000)) ∧ True) ∧ True ∧ True ∧ (((0) ≤ y.n 91017 ∧ y.n 91017 ≤ (200)) ∧ True) ∧ True := hy2
      obtain ⟨_, ⟨g4, _⟩, _, _, ⟨g17, _⟩, _⟩ := hf
      have hR := rg_h hy1
      obtain ⟨p1, p2, p3⟩ := hp
      obtain ⟨q1, q2, q3⟩ := hy3
      refine ⟨fun hlt => ?_, fun _ => ?_⟩
      · replace hlt := of_decide_eq_true hlt
        have hj : (y.n 91017).toNat < n := by omega
        have hrow := p3 _ hj
        have hs := some_of_lt p2 hj
        have hx := bounds_u16 (eOk_int (eRow_get _ _ 3 (.i .u16) hrow rfl))
        have w1 : IntKind.i64.wrap (y.n 91017 + 1) = y.n 91017 + 1 := by rw [wi64]; omega
        rw [w1]
        have hin : inB (y.n 91017) n = true := by simp only [inB, Bool.and_eq_true, decide_eq_true_eq]; omega
        clear p3
        (repeat' (first | assumption | exact trivial | exact rfl | apply And.intro | (rintro y ⟨⟨o0, o1, o2, o3, _⟩, i1, i2, i3, i4⟩) | (rintro y ⟨⟨hR, _⟩, _, _⟩) | (rintro y ⟨⟨hr, _⟩, hq⟩) | (intro hh; replace hh := of_decide_eq_true hh) | (intro hh; replace hh := of_decide_eq_false hh) | intro _)) <;> (first | omega | (rw [wi64]; omega) | (rw [decide_eq_true_eq]; omega) | (exact (pb0 (by with_reducible assumption) (by with_reducible assumption) (by with_reducible assumption) (by with_reducible assumption)).elim) | (exact (pb1 (by with_reducible assumption) (by with_reducible assumption) (by with_reducible assumption) (by with_reducible assumption)).elim) | (exact (pb2 (by with_reducible assumption) (by with_reducible assumption) (by with_reducible assumption) (by with_reducible assumption)).elim) | (exact (pb3 (by with_reducible assumption) (by with_reducible assumption) (by with_reducible assumption) (by with_reducible assumption)).elim) | omega)
      · (repeat' (first | assumption | exact trivial | exact rfl | apply And.intro | (rintro y ⟨⟨o0, o1, o2, o3, _⟩, i1, i2, i3, i4⟩) | (rintro y ⟨⟨hR, _⟩, _, _⟩) | (rintro y ⟨⟨hr, _⟩, hq⟩) | (intro hh; replace hh := of_decide_eq_true hh) | (intro hh; replace hh := of_decide_eq_false hh) | intro _)) <;> (first | omega | (rw [wi64]; omega) | (rw [decide_eq_true_eq]; omega) | (exact (pb0 (by with_reducible assumption) (by with_reducible assumption) (by with_reducible assumption) (by with_reducible assumption)).elim) | (exact (pb1 (by with_reducible assumption) (by with_reducible assumption) (by with_reducible assumption) (by with_reducible assumption)).elim) | (exact (pb2 (by with_reducible assumption) (by with_reducible assumption) (by with_reducible assumption) (by with_reducible assumption)).elim) | (exact (pb3 (by with_reducible assumption) (by with_reducible assumption) (by with_reducible assumption) (by with_reducible assumption)).elim) | omega)
theorem bounds_calls (W : World) (a : Option Addr) (n : Nat) (c : Nat) (hmx : n ≤ maxLen) (hz : a = none → n = 0) (he : ∀ j, j < n → eRow W a (j * 4) [.i .i64, .i .i64, .i .i64, .i .u16] = true) :
    Calls Try.prog 3 #[.slice a n c] W fun e w' => e = .returned (.bool true) ∧ Grew W w' :=
  HC.law (P := pe W) (bounds_c W a n c default trivial ⟨hmx, hz, he⟩) (by simp [SV.ok, C.ok]) _ rfl W rfl
end Go.Proofs.Ytcegofobcjimlaa

