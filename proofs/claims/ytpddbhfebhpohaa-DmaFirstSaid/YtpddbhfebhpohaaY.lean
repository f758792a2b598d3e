import Derived.Test.YtpddbhfebhpohaaX
set_option linter.unusedVariables false
set_option linter.unusedSimpArgs false
namespace Go.Proofs.Ytpddbhfebhpohaa
open Go Go.Proofs Go.Proofs.Ytpddbhfebhpohaa.Ev Go.Proofs.Ytpddbhfebhpohaa.Ev.Ho
set_option maxRecDepth 100000
theorem first_r0 (E : World) (a : Option Addr) (n c : Nat) (low high : Int) (z : PX) (y : PX) :
    (loopP (pe E) Try.f4 (endR ([] : List MB).length [] (.c .b) (fun _ y => y.b 90000 = true) z) (headR ([] : List MB).length Try.f4.ntmps (some ((fun y => (10 + ((n : Int) - y.n 91050)).toNat) y)) (first_hs E a n c low high z))  (run (pe E) (orcL E) (tabL fns) 20000 (2 ^ 200 - 1) (law_td E) (mkL Try.f4.ntmps (slC y [(1, .r .i64 (0) (3)), (2, .r .i64 (0) (3)), (7, .c (.p 0 0)), (8, .c (.p 1 0)), (9, .c (.p 2 0)), (48, .q (.es a n c)), (49, .q (.i false .i64 n)), (50, .r .i64 (0) (100))])) (mkM y [] [uB, rB, tN] 0))) =
    ((decide (y.n 91050 < (↑n : Int)) = true → inB (y.n 91050) n = true ∧ a.isSome = true ∧ eRow E a ((y.n 91050).toNat * (6 : Nat) + (0 : Nat)) ([EK.i IntKind.i64] ++ ([EK.i
      IntKind.i64] ++ ([EK.i IntKind.i64] ++ ([EK.i IntKind.u16] ++ ([EK.i IntKind.i64] ++ ([EK.i IntKind.u32] ++ [])))))) = true ∧ ((eI E a ((y.n 91050).toNat * (6 : Nat) + (0
      : Nat)) != (3 : Int)) = true → ((eI E a ((y.n 91050).toNat * (6 : Nat) + (0 : Nat)) == (0 : Int)) = true → (((62 : Nat) = (62 : Nat) ∧ (RGu y) ∧ ([] : SW) = []) ∧ (0 :
      Int) ≤ eI E a ((y.n 91050).toNat * (6 : Nat) + (3 : Nat)) ∧ eI E a ((y.n 91050).toNat * (6 : Nat) + (3 : Nat)) ≤ (65535 : Int)) ∧ ∀ (y_1 : PX), ((RGu y_1) ∧ True) ∧ True ∧
      TU y_1 = uW (eI E a ((y.n 91050).toNat * (6 : Nat) + (1 : Nat))) (eI E a ((y.n 91050).toNat * (6 : Nat) + (2 : Nat))) (eI E a ((y.n 91050).toNat * (6 : Nat) + (3 : Nat)))
      (TU y) → (((33 : Nat) = (33 : Nat) ∧ (RGr y) ∧ ([] : SW) = []) ∧ (0 : Int) ≤ eI E a ((y.n 91050).toNat * (6 : Nat) + (3 : Nat)) ∧ eI E a ((y.n 91050).toNat * (6 : Nat) +
      (3 : Nat)) ≤ (65535 : Int)) ∧ ∀ (y_2 : PX), ((RGr y_2) ∧ True) ∧ True ∧ TR y_2 = uW (eI E a ((y.n 91050).toNat * (6 : Nat) + (1 : Nat))) (eI E a ((y.n 91050).toNat * (6 :
      Nat) + (2 : Nat))) (eI E a ((y.n 91050).toNat * (6 : Nat) + (3 : Nat))) (TR y) → (((62 : Nat) = (62 : Nat) ∧ (RGu y_1) ∧ ([] : SW) = []) ∧ True) ∧ ∀ (y_3 : PX), (((-1 :
      Int) ≤ y_3.n 90000 ∧ y_3.n 90000 ≤ (3 : Int)) ∧ True) ∧ y_3.n 90000 = rdy (TU y_1) → (((33 : Nat) = (33 : Nat) ∧ (RGr y_2) ∧ ([] : SW) = []) ∧ True) ∧ ∀ (y_4 : PX), (((-1
      : Int) ≤ y_4.n 90000 ∧ y_4.n 90000 ≤ (3 : Int)) ∧ True) ∧ y_4.n 90000 = rdy (TR y_2) → ((y_3.n 90000 != y_4.n 90000) = true → ([] : SW) = [] ∧ True ∧ false = true) ∧
      ((y_3.n 90000 != y_4.n 90000) = false → ku y_1 (kr y_2 (ke E a ((y.n 91050).toNat * (6 : Nat)) (((y_1.n 4 != y_2.n 100003) = true → ([] : SW) = [] ∧ True ∧ false = true) ∧
      ((y_1.n 4 != y_2.n 100003) = false → ku y_1 (kr y_2 (ke E a ((y.n 91050).toNat * (6 : Nat)) (((y_1.n 15 != y_2.n 100013) = true → ([] : SW) = [] ∧ True ∧ false = true) ∧
      ((y_1.n 15 != y_2.n 100013) = false → ku y_1 (kr y_2 (ke E a ((y.n 91050).toNat * (6 : Nat)) (((y_1.n 26 != y_2.n 100023) = true → ([] : SW) = [] ∧ True ∧ false = true) ∧
      ((y_1.n 26 != y_2.n 100023) = false → ku y_1 (kr y_2 (ke E a ((y.n 91050).toNat * (6 : Nat)) (((y_1.n 37 != y_2.n 100033) = true → ([] : SW) = [] ∧ True ∧ false = true) ∧
      ((y_1.n 37 != y_2.n 100033) = false → law_td E = law_td E ∧ (144 : Nat) = (144 : Nat) ∧ ((((0 : Int) ≤ y.n 91001 ∧ y.n 91001 ≤ (3 : Int)) ∧ True) ∧ (((0 : Int) ≤ y.n 91002
      ∧ y.n 91002 ≤ (3 : Int)) ∧ True) ∧ True ∧ True ∧ True ∧ (renC (posN [(0 : Nat), (1 : Nat), (2 : Nat)]) (C.es a n c) = C.es a n c ∧ True) ∧ (renC (posN [(0 : Nat), (1 :
      Nat), (2 : Nat)]) (C.i false IntKind.i64 (↑n : Int)) = C.i false IntKind.i64 (↑n : Int) ∧ True) ∧ (((0 : Int) ≤ IntKind.i64.wrap (y.n 91050 + (1 : Int)) ∧ IntKind.i64.wrap
      (y.n 91050 + (1 : Int)) ≤ (100 : Int)) ∧ True) ∧ True) ∧ ((62 : Nat) = (62 : Nat) ∧ (RGu y_1) ∧ (33 : Nat) = (33 : Nat) ∧ (RGr y_2) ∧ (38 : Nat) = (38 : Nat) ∧ True ∧ ([]
      : SW) = []) ∧ (EQ (TU y_1) (TR y_2) ∧ y.n 91001 < y.n 91002 ∧ IntKind.i64.wrap (y.n 91050 + (1 : Int)) ≤ (↑n : Int) ∧ n ≤ (100 : Nat)) ∧ ((10 : Int) + ((↑n : Int) -
      IntKind.i64.wrap (y.n 91050 + (1 : Int)))).toNat < ((10 : Int) + ((↑n : Int) - y.n 91050)).toNat ∧ True)))))))))))))))))) ∧ ((eI E a ((y.n 91050).toNat * (6 : Nat) + (0 :
      Nat)) == (0 : Int)) = false → ((eI E a ((y.n 91050).toNat * (6 : Nat) + (0 : Nat)) == (1 : Int)) = true → (((62 : Nat) = (62 : Nat) ∧ (RGu y) ∧ ([] : SW) = []) ∧ True) ∧ ∀
      (y_1 : PX), ((RGu y_1) ∧ True) ∧ True ∧ TU y_1 = up4 (moC (eI E a ((y.n 91050).toNat * (6 : Nat) + (1 : Nat)))) (TU y) → (((33 : Nat) = (33 : Nat) ∧ (RGr y) ∧ ([] : SW) =
      []) ∧ True) ∧ ∀ (y_2 : PX), ((RGr y_2) ∧ True) ∧ True ∧ TR y_2 = up4 (moC (eI E a ((y.n 91050).toNat * (6 : Nat) + (1 : Nat)))) (TR y) → (((62 : Nat) = (62 : Nat) ∧ (RGu
      y_1) ∧ ([] : SW) = []) ∧ True) ∧ ∀ (y_3 : PX), (((-1 : Int) ≤ y_3.n 90000 ∧ y_3.n 90000 ≤ (3 : Int)) ∧ True) ∧ y_3.n 90000 = rdy (TU y_1) → (((33 : Nat) = (33 : Nat) ∧
      (RGr y_2) ∧ ([] : SW) = []) ∧ True) ∧ ∀ (y_4 : PX), (((-1 : Int) ≤ y_4.n 90000 ∧ y_4.n 90000 ≤ (3 : Int)) ∧ True) ∧ y_4.n 90000 = rdy (TR y_2) → ((y_3.n 90000 != y_4.n
      90000) = true → ([] : SW) = [] ∧ True ∧ false = true) ∧ ((y_3.n 90000 != y_4.n 90000) = false → ku y_1 (kr y_2 (ke E a ((y.n 91050).toNat * (6 : Nat)) (((y_1.n 4 != y_2.n
      100003) = true → ([] : SW) = [] ∧ True ∧ false = true) ∧ ((y_1.n 4 != y_2.n 100003) = false → ku y_1 (kr y_2 (ke E a ((y.n 91050).toNat * (6 : Nat)) (((y_1.n 15 != y_2.n
      100013) = true → ([] : SW) = [] ∧ True ∧ false = true) ∧ ((y_1.n 15 != y_2.n 100013) = false → ku y_1 (kr y_2 (ke E a ((y.n 91050).toNat * (6 : Nat)) (((y_1.n 26 != y_2.n
      100023) = true → ([] : SW) = [] ∧ True ∧ false = true) ∧ ((y_1.n 26 != y_2.n 100023) = false → ku y_1 (kr y_2 (ke E a ((y.n 91050).toNat * (6 : Nat)) (((y_1.n 37 != y_2.n
      100033) = true → ([] : SW) = [] ∧ True ∧ false = true) ∧ ((y_1.n 37 != y_2.n 100033) = false → law_td E = law_td E ∧ (144 : Nat) = (144 : Nat) ∧ ((((0 : Int) ≤ y.n 91001 ∧
      y.n 91001 ≤ (3 : Int)) ∧ True) ∧ (((0 : Int) ≤ y.n 91002 ∧ y.n 91002 ≤ (3 : Int)) ∧ True) ∧ True ∧ True ∧ True ∧ (renC (posN [(0 : Nat), (1 : Nat), (2 : Nat)]) (C.es a n
      c) = C.es a n c ∧ True) ∧ (renC (posN [(0 : Nat), (1 : Nat), (2 : Nat)]) (C.i false IntKind.i64 (↑n : Int)) = C.i false IntKind.i64 (↑n : Int) ∧ True) ∧ (((0 : Int) ≤
      IntKind.i64.wrap (y.n 91050 + (1 : Int)) ∧ IntKind.i64.wrap (y.n 91050 + (1 : Int)) ≤ (100 : Int)) ∧ True) ∧ True) ∧ ((62 : Nat) = (62 : Nat) ∧ (RGu y_1) ∧ (33 : Nat) =
      (33 : Nat) ∧ (RGr y_2) ∧ (38 : Nat) = (38 : Nat) ∧ True ∧ ([] : SW) = []) ∧ (EQ (TU y_1) (TR y_2) ∧ y.n 91001 < y.n 91002 ∧ IntKind.i64.wrap (y.n 91050 + (1 : Int)) ≤ (↑n
      : Int) ∧ n ≤ (100 : Nat)) ∧ ((10 : Int) + ((↑n : Int) - IntKind.i64.wrap (y.n 91050 + (1 : Int)))).toNat < ((10 : Int) + ((↑n : Int) - y.n 91050)).toNat ∧
      True)))))))))))))))))) ∧ ((eI E a ((y.n 91050).toNat * (6 : Nat) + (0 : Nat)) == (1 : Int)) = false → ((eI E a ((y.n 91050).toNat * (6 : Nat) + (0 : Nat)) == (2 : Int)) =
      true → (((62 : Nat) = (62 : Nat) ∧ (RGu y) ∧ ([] : SW) = []) ∧ True) ∧ ∀ (y_1 : PX), ((RGu y_1) ∧ True) ∧ True ∧ TU y_1 = up4 (huC (eI E a ((y.n 91050).toNat * (6 : Nat) +
      (5 : Nat)))) (TU y) → (((33 : Nat) = (33 : Nat) ∧ (RGr y) ∧ ([] : SW) = []) ∧ True) ∧ ∀ (y_2 : PX), ((RGr y_2) ∧ True) ∧ True ∧ TR y_2 = up4 (huC (eI E a ((y.n
      91050).toNat * (6 : Nat) + (5 : Nat)))) (TR y) → (((62 : Nat) = (62 : Nat) ∧ (RGu y_1) ∧ ([] : SW) = []) ∧ True) ∧ ∀ (y_3 : PX), (((-1 : Int) ≤ y_3.n 90000 ∧ y_3.n 90000 ≤
      (3 : Int)) ∧ True) ∧ y_3.n 90000 = rdy (TU y_1) → (((33 : Nat) = (33 : Nat) ∧ (RGr y_2) ∧ ([] : SW) = []) ∧ True) ∧ ∀ (y_4 : PX), (((-1 : Int) ≤ y_4.n 90000 ∧ y_4.n 90000
      ≤ (3 : Int)) ∧ True) ∧ y_4.n 90000 = rdy (TR y_2) → ((y_3.n 90000 != y_4.n 90000) = true → ([] : SW) = [] ∧ True ∧ false = true) ∧ ((y_3.n 90000 != y_4.n 90000) = false →
      ku y_1 (kr y_2 (ke E a ((y.n 91050).toNat * (6 : Nat)) (((y_1.n 4 != y_2.n 100003) = true → ([] : SW) = [] ∧ True ∧ false = true) ∧ ((y_1.n 4 != y_2.n 100003) = false → ku
      y_1 (kr y_2 (ke E a ((y.n 91050).toNat * (6 : Nat)) (((y_1.n 15 != y_2.n 100013) = true → ([] : SW) = [] ∧ True ∧ false = true) ∧ ((y_1.n 15 != y_2.n 100013) = false → ku
      y_1 (kr y_2 (ke E a ((y.n 91050).toNat * (6 : Nat)) (((y_1.n 26 != y_2.n 100023) = true → ([] : SW) = [] ∧ True ∧ false = true) ∧ ((y_1.n 26 != y_2.n 100023) = false → ku
      y_1 (kr y_2 (ke E a ((y.n 91050).toNat * (6 : Nat)) (((y_1.n 37 != y_2.n 100033) = true → ([] : SW) = [] ∧ True ∧ false = true) ∧ ((y_1.n 37 != y_2.n 100033) = false →
      law_td E = law_td E ∧ (144 : Nat) = (144 : Nat) ∧ ((((0 : Int) ≤ y.n 91001 ∧ y.n 91001 ≤ (3 : Int)) ∧ True) ∧ (((0 : Int) ≤ y.n 91002 ∧ y.n 91002 ≤ (3 : Int)) ∧ True) ∧
      True ∧ True ∧ True ∧ (renC (posN [(0 : Nat), (1 : Nat), (2 : Nat)]) (C.es a n c) = C.es a n c ∧ True) ∧ (renC (posN [(0 : Nat), (1 : Nat), (2 : Nat)]) (C.i false
      IntKind.i64 (↑n : Int)) = C.i false IntKind.i64 (↑n : Int) ∧ True) ∧ (((0 : Int) ≤ IntKind.i64.wrap (y.n 91050 + (1 : Int)) ∧ IntKind.i64.wrap (y.n 91050 + (1 : Int)) ≤
      (100 : Int)) ∧ True) ∧ True) ∧ ((62 : Nat) = (62 : Nat) ∧ (RGu y_1) ∧ (33 : Nat) = (33 : Nat) ∧ (RGr y_2) ∧ (38 : Nat) = (38 : Nat) ∧ True ∧ ([] : SW) = []) ∧ (EQ (TU y_1)
      (TR y_2) ∧ y.n 91001 < y.n 91002 ∧ IntKind.i64.wrap (y.n 91050 + (1 : Int)) ≤ (↑n : Int) ∧ n ≤ (100 : Nat)) ∧ ((10 : Int) + ((↑n : Int) - IntKind.i64.wrap (y.n 91050 + (1
      : Int)))).toNat < ((10 : Int) + ((↑n : Int) - y.n 91050)).toNat ∧ True)))))))))))))))))) ∧ ((eI E a ((y.n 91050).toNat * (6 : Nat) + (0 : Nat)) == (2 : Int)) = false →
      ((eI E a ((y.n 91050).toNat * (6 : Nat) + (0 : Nat)) == (3 : Int)) = true → ((bif decide ((0 : Int) < eI E a ((y.n 91050).toNat * (6 : Nat) + (4 : Nat))) then true else
      false) = true → (((33 : Nat) = (33 : Nat) ∧ (RGr y) ∧ ([] : SW) = []) ∧ True) ∧ ∀ (y_1 : PX), (((-1 : Int) ≤ y_1.n 90000 ∧ y_1.n 90000 ≤ (3 : Int)) ∧ True) ∧ y_1.n 90000 =
      rdy (TR y) → (decide (y_1.n 90000 < (0 : Int)) = true → (((62 : Nat) = (62 : Nat) ∧ (RGu y) ∧ ([] : SW) = []) ∧ True) ∧ ∀ (y_2 : PX), (((-1 : Int) ≤ y_2.n 90000 ∧ y_2.n
      90000 ≤ (3 : Int)) ∧ True) ∧ y_2.n 90000 = rdy (TU y) → (((33 : Nat) = (33 : Nat) ∧ (RGr y) ∧ ([] : SW) = []) ∧ True) ∧ ∀ (y_3 : PX), (((-1 : Int) ≤ y_3.n 90000 ∧ y_3.n
      90000 ≤ (3 : Int)) ∧ True) ∧ y_3.n 90000 = rdy (TR y) → ((y_2.n 90000 != y_3.n 90000) = true → ([] : SW) = [] ∧ True ∧ false = true) ∧ ((y_2.n 90000 != y_3.n 90000) =
      false → ku y (kr y (ke E a ((y.n 91050).toNat * (6 : Nat)) (((y.n 4 != y.n 100003) = true → ([] : SW) = [] ∧ True ∧ false = true) ∧ ((y.n 4 != y.n 100003) = false → ku y
      (kr y (ke E a ((y.n 91050).toNat * (6 : Nat)) (((y.n 15 != y.n 100013) = true → ([] : SW) = [] ∧ True ∧ false = true) ∧ ((y.n 15 != y.n 100013) = false → ku y (kr y (ke E
      a ((y.n 91050).toNat * (6 : Nat)) (((y.n 26 != y.n 100023) = true → ([] : SW) = [] ∧ True ∧ false = true) ∧ ((y.n 26 != y.n 100023) = false → ku y (kr y (ke E a ((y.n
      91050).toNat * (6 : Nat)) (((y.n 37 != y.n 100033) = true → ([] : SW) = [] ∧ True ∧ false = true) ∧ ((y.n 37 != y.n 100033) = false → law_td E = law_td E ∧ (144 : Nat) =
      (144 : Nat) ∧ ((((0 : Int) ≤ y.n 91001 ∧ y.n 91001 ≤ (3 : Int)) ∧ True) ∧ (((0 : Int) ≤ y.n 91002 ∧ y.n 91002 ≤ (3 : Int)) ∧ True) ∧ True ∧ True ∧ True ∧ (renC (posN [(0 :
      Nat), (1 : Nat), (2 : Nat)]) (C.es a n c) = C.es a n c ∧ True) ∧ (renC (posN [(0 : Nat), (1 : Nat), (2 : Nat)]) (C.i false IntKind.i64 (↑n : Int)) = C.i false IntKind.i64
      (↑n : Int) ∧ True) ∧ (((0 : Int) ≤ IntKind.i64.wrap (y.n 91050 + (1 : Int)) ∧ IntKind.i64.wrap (y.n 91050 + (1 : Int)) ≤ (100 : Int)) ∧ True) ∧ True) ∧ ((62 : Nat) = (62 :
      Nat) ∧ (RGu y) ∧ (33 : Nat) = (33 : Nat) ∧ (RGr y) ∧ (38 : Nat) = (38 : Nat) ∧ True ∧ ([] : SW) = []) ∧ (EQ (TU y) (TR y) ∧ y.n 91001 < y.n 91002 ∧ IntKind.i64.wrap (y.n
      91050 + (1 : Int)) ≤ (↑n : Int) ∧ n ≤ (100 : Nat)) ∧ ((10 : Int) + ((↑n : Int) - IntKind.i64.wrap (y.n 91050 + (1 : Int)))).toNat < ((10 : Int) + ((↑n : Int) - y.n
      91050)).toNat ∧ True)))))))))))))))))) ∧ (decide (y_1.n 90000 < (0 : Int)) = false → False)) ∧ ((bif decide ((0 : Int) < eI E a ((y.n 91050).toNat * (6 : Nat) + (4 :
      Nat))) then true else false) = false → (((62 : Nat) = (62 : Nat) ∧ (RGu y) ∧ ([] : SW) = []) ∧ True) ∧ ∀ (y_1 : PX), (((-1 : Int) ≤ y_1.n 90000 ∧ y_1.n 90000 ≤ (3 : Int))
      ∧ True) ∧ y_1.n 90000 = rdy (TU y) → (((33 : Nat) = (33 : Nat) ∧ (RGr y) ∧ ([] : SW) = []) ∧ True) ∧ ∀ (y_2 : PX), (((-1 : Int) ≤ y_2.n 90000 ∧ y_2.n 90000 ≤ (3 : Int)) ∧
      True) ∧ y_2.n 90000 = rdy (TR y) → ((y_1.n 90000 != y_2.n 90000) = true → ([] : SW) = [] ∧ True ∧ false = true) ∧ ((y_1.n 90000 != y_2.n 90000) = false → ku y (kr y (ke E
      a ((y.n 91050).toNat * (6 : Nat)) (((y.n 4 != y.n 100003) = true → ([] : SW) = [] ∧ True ∧ false = true) ∧ ((y.n 4 != y.n 100003) = false → ku y (kr y (ke E a ((y.n
      91050).toNat * (6 : Nat)) (((y.n 15 != y.n 100013) = true → ([] : SW) = [] ∧ True ∧ false = true) ∧ ((y.n 15 != y.n 100013) = false → ku y (kr y (ke E a ((y.n 91050).toNat
      * (6 : Nat)) (((y.n 26 != y.n 100023) = true → ([] : SW) = [] ∧ True ∧ false = true) ∧ ((y.n 26 != y.n 100023) = false → ku y (kr y (ke E a ((y.n 91050).toNat * (6 : Nat))
      (((y.n 37 != y.n 100033) = true → ([] : SW) = [] ∧ True ∧ false = true) ∧ ((y.n 37 != y.n 100033) = false → law_td E = law_td E ∧ (144 : Nat) = (144 : Nat) ∧ ((((0 : Int)
      ≤ y.n 91001 ∧ y.n 91001 ≤ (3 : Int)) ∧ True) ∧ (((0 : Int) ≤ y.n 91002 ∧ y.n 91002 ≤ (3 : Int)) ∧ True) ∧ True ∧ True ∧ True ∧ (renC (posN [(0 : Nat), (1 : Nat), (2 :
      Nat)]) (C.es a n c) = C.es a n c ∧ True) ∧ (renC (posN [(0 : Nat), (1 : Nat), (2 : Nat)]) (C.i false IntKind.i64 (↑n : Int)) = C.i false IntKind.i64 (↑n : Int) ∧ True) ∧
      (((0 : Int) ≤ IntKind.i64.wrap (y.n 91050 + (1 : Int)) ∧ IntKind.i64.wrap (y.n 91050 + (1 : Int)) ≤ (100 : Int)) ∧ True) ∧ True) ∧ ((62 : Nat) = (62 : Nat) ∧ (RGu y) ∧ (33
      : Nat) = (33 : Nat) ∧ (RGr y) ∧ (38 : Nat) = (38 : Nat) ∧ True ∧ ([] : SW) = []) ∧ (EQ (TU y) (TR y) ∧ y.n 91001 < y.n 91002 ∧ IntKind.i64.wrap (y.n 91050 + (1 : Int)) ≤
      (↑n : Int) ∧ n ≤ (100 : Nat)) ∧ ((10 : Int) + ((↑n : Int) - IntKind.i64.wrap (y.n 91050 + (1 : Int)))).toNat < ((10 : Int) + ((↑n : Int) - y.n 91050)).toNat ∧
      True))))))))))))))))))) ∧ ((eI E a ((y.n 91050).toNat * (6 : Nat) + (0 : Nat)) == (3 : Int)) = false → (((62 : Nat) = (62 : Nat) ∧ (RGu y) ∧ ([] : SW) = []) ∧ True) ∧ ∀
      (y_1 : PX), (((-1 : Int) ≤ y_1.n 90000 ∧ y_1.n 90000 ≤ (3 : Int)) ∧ True) ∧ y_1.n 90000 = rdy (TU y) → (((33 : Nat) = (33 : Nat) ∧ (RGr y) ∧ ([] : SW) = []) ∧ True) ∧ ∀
      (y_2 : PX), (((-1 : Int) ≤ y_2.n 90000 ∧ y_2.n 90000 ≤ (3 : Int)) ∧ True) ∧ y_2.n 90000 = rdy (TR y) → ((y_1.n 90000 != y_2.n 90000) = true → ([] : SW) = [] ∧ True ∧ false
      = true) ∧ ((y_1.n 90000 != y_2.n 90000) = false → ku y (kr y (ke E a ((y.n 91050).toNat * (6 : Nat)) (((y.n 4 != y.n 100003) = true → ([] : SW) = [] ∧ True ∧ false = true)
      ∧ ((y.n 4 != y.n 100003) = false → ku y (kr y (ke E a ((y.n 91050).toNat * (6 : Nat)) (((y.n 15 != y.n 100013) = true → ([] : SW) = [] ∧ True ∧ false = true) ∧ ((y.n 15 !=
      y.n 100013) = false → ku y (kr y (ke E a ((y.n 91050).toNat * (6 : Nat)) (((y.n 26 != y.n 100023) = true → ([] : SW) = [] ∧ True ∧ false = true) ∧ ((y.n 26 != y.n 100023)
      = false → ku y (kr y (ke E a ((y.n 91050).toNat * (6 : Nat)) (((y.n 37 != y.n 100033) = true → ([] : SW) = [] ∧ True ∧ false = true) ∧ ((y.n 37 != y.n 100033) = false →
      law_td E = law_td E ∧ (144 : Nat) = (144 : Nat) ∧ ((((0 : Int) ≤ y.n 91001 ∧ y.n 91001 ≤ (3 : Int)) ∧ True) ∧ (((0 : Int) ≤ y.n 91002 ∧ y.n 91002 ≤ (3 : Int)) ∧ True) ∧
      True ∧ True ∧ True ∧ (renC (posN [(0 : Nat), (1 : Nat), (2 : Nat)]) (C.es a n c) = C.es a n c ∧ True) ∧ (renC (posN [(0 : Nat), (1 : Nat), (2 : Nat)]) (C.i false
      IntKind.i64 (↑n : Int)) = C.i false IntKind.i64 (↑n : Int) ∧ True) ∧ (((0 : Int) ≤ IntKind.i64.wrap (y.n 91050 + (1 : Int)) ∧ IntKind.i64.wrap (y.n 91050 + (1 : Int)) ≤
      (100 : Int)) ∧ True) ∧ True) ∧ ((62 : Nat) = (62 : Nat) ∧ (RGu y) ∧ (33 : Nat) = (33 : Nat) ∧ (RGr y) ∧ (38 : Nat) = (38 : Nat) ∧ True ∧ ([] : SW) = []) ∧ (EQ (TU y) (TR
      y) ∧ y.n 91001 < y.n 91002 ∧ IntKind.i64.wrap (y.n 91050 + (1 : Int)) ≤ (↑n : Int) ∧ n ≤ (100 : Nat)) ∧ ((10 : Int) + ((↑n : Int) - IntKind.i64.wrap (y.n 91050 + (1 :
      Int)))).toNat < ((10 : Int) + ((↑n : Int) - y.n 91050)).toNat ∧ True)))))))))))))))))))))) ∧ ((eI E a ((y.n 91050).toNat * (6 : Nat) + (0 : Nat)) != (3 : Int)) = false →
      law_td E = law_td E ∧ (144 : Nat) = (144 : Nat) ∧ ((((0 : Int) ≤ y.n 91001 ∧ y.n 91001 ≤ (3 : Int)) ∧ True) ∧ (((0 : Int) ≤ y.n 91002 ∧ y.n 91002 ≤ (3 : Int)) ∧ True) ∧
      True ∧ True ∧ True ∧ (renC (posN [(0 : Nat), (1 : Nat), (2 : Nat)]) (C.es a n c) = C.es a n c ∧ True) ∧ (renC (posN [(0 : Nat), (1 : Nat), (2 : Nat)]) (C.i false
      IntKind.i64 (↑n : Int)) = C.i false IntKind.i64 (↑n : Int) ∧ True) ∧ (((0 : Int) ≤ IntKind.i64.wrap (y.n 91050 + (1 : Int)) ∧ IntKind.i64.wrap (y.n 91050 + (1 : Int)) ≤
      (100 : Int)) ∧ True) ∧ True) ∧ ((62 : Nat) = (62 : Nat) ∧ (RGu y) ∧ (33 : Nat) = (33 : Nat) ∧ (RGr y) ∧ (38 : Nat) = (38 : Nat) ∧ True ∧ ([] : SW) = []) ∧ (EQ (TU y) (TR
      y) ∧ y.n 91001 < y.n 91002 ∧ IntKind.i64.wrap (y.n 91050 + (1 : Int)) ≤ (↑n : Int) ∧ n ≤ (100 : Nat)) ∧ ((10 : Int) + ((↑n : Int) - IntKind.i64.wrap (y.n 91050 + (1 :
      Int)))).toNat < ((10 : Int) + ((↑n : Int) - y.n 91050)).toNat ∧ True)) ∧ (decide (y.n 91050 < (↑n : Int)) = false → law2_td E = law2_td E ∧ (144 : Nat) = (144 : Nat) ∧
      ((((0 : Int) ≤ y.n 91001 ∧ y.n 91001 ≤ (3 : Int)) ∧ True) ∧ (((0 : Int) ≤ y.n 91002 ∧ y.n 91002 ≤ (3 : Int)) ∧ True) ∧ True ∧ True ∧ True ∧ True) ∧ ((62 : Nat) = (62 :
      Nat) ∧ (RGu y) ∧ (38 : Nat) = (38 : Nat) ∧ True ∧ ([] : SW) = []) ∧ (y.n 91001 < y.n 91002 ∧ of0 (TU y)) ∧ (5 : Nat) < ((10 : Int) + ((↑n : Int) - y.n 91050)).toNat ∧
      True)) := by kernel_rfl
set_option maxHeartbeats 8000000 in
theorem first_q0 (E : World) (a : Option Addr) (n c : Nat) (low high : Int) (z : PX) (hp : (fun _ => n ≤ maxLen ∧ (a = none → n = 0) ∧ ∀ j, j < n → eRow E a (j * 6) [.i .i64, .i .i64, .i .i64, .i .u16, .i .i64, .i .u32] = true) z) (y : PX) (hy1 : rgM y [uB, rB, tN] 0) (hy2 : rgF y [(1, .r .i64 (0) (3)), (2, .r .i64 (0) (3)), (7, .c (.p 0 0)), (8, .c (.p 1 0)), (9, .c (.p 2 0)), (48, .q (.es a n c)), (49, .q (.i false .i64 n)), (50, .r .i64 (0) (100))]) (hy3 : (fun y => EQ (U4.mk (Ch.mk (y.n 1) (y.n 2) (y.n 3) (y.n 4) (y.n 5) (y.n 6) (y.n 7) (y.b 8) (y.b 9) (y.n 10)) (Ch.mk (y.n 12) (y.n 13) (y.n 14) (y.n 15) (y.n 16) (y.n 17) (y.n 18) (y.b 19) (y.b 20) (y.n 21)) (Ch.mk (y.n 23) (y.n 24) (y.n 25) (y.n 26) (y.n 27) (y.n 28) (y.n 29) (y.b 30) (y.b 31) (y.n 32)) (Ch.mk (y.n 34) (y.n 35) (y.n 36) (y.n 37) (y.n 38) (y.n 39) (y.n 40) (y.b 41) (y.b 42) (y.n 43))) (U4.mk (Ch.mk (y.n 100000) (y.n 100001) (y.n 100002) (y.n 100003) (y.n 100004) (y.n 100005) (y.n 100006) (y.b 100007) (y.b 100008) (y.n 100009)) (Ch.mk (y.n 100010) (y.n 100011) (y.n 100012) (y.n 100013) (y.n 100014) (y.n 100015) (y.n 100016) (y.b 100017) (y.b 100018) (y.n 100019)) (Ch.mk (y.n 100020) (y.n 100021) (y.n 100022) (y.n 100023) (y.n 100024) (y.n 100025) (y.n 100026) (y.b 100027) (y.b 100028) (y.n 100029)) (Ch.mk (y.n 100030) (y.n 100031) (y.n 100032) (y.n 100033) (y.n 100034) (y.n 100035) (y.n 100036) (y.b 100037) (y.b 100038) (y.n 100039))) ∧ y.n 91001 < y.n 91002 ∧ y.n 91050 ≤ (n : Int) ∧ n ≤ 100) y) : Holds ((run (pe E) (orcL E) (tabL fns) 20000 (2 ^ 200 - 1) (law_td E) (mkL Try.f4.ntmps (slC y [(1, .r .i64 (0) (3)), (2, .r .i64 (0) (3)), (7, .c (.p 0 0)), (8, .c (.p 1 0)), (9, .c (.p 2 0)), (48, .q (.es a n c)), (49, .q (.i false .i64 n)), (50, .r .i64 (0) (100))])) (mkM y [] [uB, rB, tN] 0)).OK (lfP (pe E) Try.f4 (endR ([] : List MB).length [] (.c .b) (fun _ y => y.b 90000 = true) z) (headR ([] : List MB).length Try.f4.ntmps (some ((fun y => (10 + ((n : Int) - y.n 91050)).toNat) y)) (first_hs E a n c low high z)))) := by
  refine loopP_lfH ⟨?_⟩
  rw [first_r0]
  have hf : (((0) ≤ y.n 91001 ∧ y.n 91001 ≤ (3)) ∧ True) ∧ (((0) ≤ y.n 91002 ∧ y.n 91002 ≤ (3)) ∧ True) ∧ True ∧ True ∧ True ∧ True ∧ True ∧ (((0) ≤ y.n 91050 ∧ y.n 91050 ≤ (100)) ∧ True) ∧ True := hy2
  obtain ⟨⟨g1, _⟩, ⟨g2, _⟩, _, _, _, _, _, ⟨g50, _⟩, _⟩ := hf
  obtain ⟨⟨hE⟩, hlt, hle, hn⟩ := hy3
  replace hE : (TU y) = (TR y) := hE
  obtain ⟨p1, p2, p3⟩ := hp
  have hRu : RGu y := rg_u (show rgM y uMs 0 from ⟨hy1.1, trivial⟩)
  have hRr : RGr y := rg_r (X := ⟨[], 0⟩) (show rgM y (rMs ⟨[], 0⟩) 0 from ⟨hy1.2.1, trivial⟩)
  have w1 : IntKind.i64.wrap (y.n 91050 + 1) = y.n 91050 + 1 := by rw [wi64]; omega
  rw [w1]
  simp only [ku_eq, kr_eq, ke_eq]
  refine ⟨fun hl => ?_, fun hl => ?_⟩
  · replace hl := of_decide_eq_true hl
    have hj : (y.n 91050).toNat < n := by omega
    have hrow := p3 _ hj
    have hs := some_of_lt p2 hj
    have hx := bounds_u16 (eOk_int (eRow_get _ _ 3 (.i .u16) hrow rfl))
    have hin : inB (y.n 91050) n = true := by simp only [inB, Bool.and_eq_true, decide_eq_true_eq]; omega
    clear p3
    refine ⟨hin, hs, hrow, ?_⟩
    generalize eI E a ((y.n 91050).toNat * 6 + 0) = kd
    generalize eI E a ((y.n 91050).toNat * 6 + 1) = i1
    generalize eI E a ((y.n 91050).toNat * 6 + 2) = i2
    generalize eI E a ((y.n 91050).toNat * 6 + 3) = i3 at hx
    generalize eI E a ((y.n 91050).toNat * 6 + 4) = i4
    generalize eI E a ((y.n 91050).toNat * 6 + 5) = i5
    obtain ⟨hx0, hx1⟩ := hx
    have hx2 : i3 ≤ 65535 := by omega
    have hQ0 : EQ (TU y) (TR y) := ⟨hE⟩
    refine ⟨fun hk3 => ⟨fun _ => ?_, fun _ => ⟨fun _ => ?_, fun _ => ⟨fun _ => ?_, fun _ => ⟨fun h3 => ?_, fun _ => ?_⟩⟩⟩⟩, fun _ => ?_⟩
    · refine ⟨by ((repeat' (first | exact trivial | with_reducible rfl | assumption | exact rfl | apply And.intro)) <;> omega), ?_⟩
      rintro y1 ⟨⟨hR1, _⟩, _, hq1⟩
      refine ⟨by ((repeat' (first | exact trivial | with_reducible rfl | assumption | exact rfl | apply And.intro)) <;> omega), ?_⟩
      rintro y2 ⟨⟨hR2, _⟩, _, hq2⟩
      have hT : (TU y1) = (TR y2) := by rw [hq1, hq2, hE]
      refine ⟨by ((repeat' (first | exact trivial | with_reducible rfl | assumption | exact rfl | apply And.intro)) <;> omega), ?_⟩
      rintro x3 ⟨_, e3⟩
      refine ⟨by ((repeat' (first | exact trivial | with_reducible rfl | assumption | exact rfl | apply And.intro)) <;> omega), ?_⟩
      rintro x4 ⟨_, e4⟩
      have e34 : (x3.n 90000 != x4.n 90000) = false := by rw [e3, e4, hT]; exact bne_self_eq_false _
      have b0 : (y1.n 4 != y2.n 100003) = false := by rw [show y1.n 4 = y2.n 100003 from congrArg (fun u => (getC u 0).control) hT]; exact bne_self_eq_false _
      have b1 : (y1.n 15 != y2.n 100013) = false := by rw [show y1.n 15 = y2.n 100013 from congrArg (fun u => (getC u 1).control) hT]; exact bne_self_eq_false _
      have b2 : (y1.n 26 != y2.n 100023) = false := by rw [show y1.n 26 = y2.n 100023 from congrArg (fun u => (getC u 2).control) hT]; exact bne_self_eq_false _
      have b3 : (y1.n 37 != y2.n 100033) = false := by rw [show y1.n 37 = y2.n 100033 from congrArg (fun u => (getC u 3).control) hT]; exact bne_self_eq_false _
      simp only [e34, b0, b1, b2, b3, Bool.false_eq_true, Bool.true_eq_false, false_implies, true_implies, forall_const, and_true, true_and, decide_true]
      have hQ : EQ (TU y1) (TR y2) := ⟨hT⟩
      ((repeat' (first | exact trivial | with_reducible rfl | assumption | exact rfl | apply And.intro)) <;> omega)
    · refine ⟨by ((repeat' (first | exact trivial | with_reducible rfl | assumption | exact rfl | apply And.intro)) <;> omega), ?_⟩
      rintro y1 ⟨⟨hR1, _⟩, _, hq1⟩
      refine ⟨by ((repeat' (first | exact trivial | with_reducible rfl | assumption | exact rfl | apply And.intro)) <;> omega), ?_⟩
      rintro y2 ⟨⟨hR2, _⟩, _, hq2⟩
      have hT : (TU y1) = (TR y2) := by rw [hq1, hq2, hE]
      refine ⟨by ((repeat' (first | exact trivial | with_reducible rfl | assumption | exact rfl | apply And.intro)) <;> omega), ?_⟩
      rintro x3 ⟨_, e3⟩
      refine ⟨by ((repeat' (first | exact trivial | with_reducible rfl | assumption | exact rfl | apply And.intro)) <;> omega), ?_⟩
      rintro x4 ⟨_, e4⟩
      have e34 : (x3.n 90000 != x4.n 90000) = false := by rw [e3, e4, hT]; exact bne_self_eq_false _
      have b0 : (y1.n 4 != y2.n 100003) = false := by rw [show y1.n 4 = y2.n 100003 from congrArg (fun u => (getC u 0).control) hT]; exact bne_self_eq_false _
      have b1 : (y1.n 15 != y2.n 100013) = false := by rw [show y1.n 15 = y2.n 100013 from congrArg (fun u => (getC u 1).control) hT]; exact bne_self_eq_false _
      have b2 : (y1.n 26 != y2.n 100023) = false := by rw [show y1.n 26 = y2.n 100023 from congrArg (fun u => (getC u 2).control) hT]; exact bne_self_eq_false _
      have b3 : (y1.n 37 != y2.n 100033) = false := by rw [show y1.n 37 = y2.n 100033 from congrArg (fun u => (getC u 3).control) hT]; exact bne_self_eq_false _
      simp only [e34, b0, b1, b2, b3, Bool.false_eq_true, Bool.true_eq_false, false_implies, true_implies, forall_const, and_true, true_and, decide_true]
      have hQ : EQ (TU y1) (TR y2) := ⟨hT⟩
      ((repeat' (first | exact trivial | with_reducible rfl | assumption | exact rfl | apply And.intro)) <;> omega)
    · refine ⟨by ((repeat' (first | exact trivial | with_reducible rfl | assumption | exact rfl | apply And.intro)) <;> omega), ?_⟩
      rintro y1 ⟨⟨hR1, _⟩, _, hq1⟩
      refine ⟨by ((repeat' (first | exact trivial | with_reducible rfl | assumption | exact rfl | apply And.intro)) <;> omega), ?_⟩
      rintro y2 ⟨⟨hR2, _⟩, _, hq2⟩
      have hT : (TU y1) = (TR y2) := by rw [hq1, hq2, hE]
      refine ⟨by ((repeat' (first | exact trivial | with_reducible rfl | assumption | exact rfl | apply And.intro)) <;> omega), ?_⟩
      rintro x3 ⟨_, e3⟩
      refine ⟨by ((repeat' (first | exact trivial | with_reducible rfl | assumption | exact rfl | apply And.intro)) <;> omega), ?_⟩
      rintro x4 ⟨_, e4⟩
      have e34 : (x3.n 90000 != x4.n 90000) = false := by rw [e3, e4, hT]; exact bne_self_eq_false _
      have b0 : (y1.n 4 != y2.n 100003) = false := by rw [show y1.n 4 = y2.n 100003 from congrArg (fun u => (getC u 0).control) hT]; exact bne_self_eq_false _
      have b1 : (y1.n 15 != y2.n 100013) = false := by rw [show y1.n 15 = y2.n 100013 from congrArg (fun u => (getC u 1).control) hT]; exact bne_self_eq_false _
      have b2 : (y1.n 26 != y2.n 100023) = false := by rw [show y1.n 26 = y2.n 100023 from congrArg (fun u => (getC u 2).control) hT]; exact bne_self_eq_false _
      have b3 : (y1.n 37 != y2.n 100033) = false := by rw [show y1.n 37 = y2.n 100033 from congrArg (fun u => (getC u 3).control) hT]; exact bne_self_eq_false _
      simp only [e34, b0, b1, b2, b3, Bool.false_eq_true, Bool.true_eq_false, false_implies, true_implies, forall_const, and_true, true_and, decide_true]
      have hQ : EQ (TU y1) (TR y2) := ⟨hT⟩
      ((repeat' (first | exact trivial | with_reducible rfl | assumption | exact rfl | apply And.intro)) <;> omega)
    · exfalso
      simp only [beq_iff_eq, bne_iff_ne, ne_eq] at h3 hk3
      exact hk3 h3
    · have hT := hE
      refine ⟨by ((repeat' (first | exact trivial | with_reducible rfl | assumption | exact rfl | apply And.intro)) <;> omega), ?_⟩
      rintro x3 ⟨_, e3⟩
      refine ⟨by ((repeat' (first | exact trivial | with_reducible rfl | assumption | exact rfl | apply And.intro)) <;> omega), ?_⟩
      rintro x4 ⟨_, e4⟩
      have e34 : (x3.n 90000 != x4.n 90000) = false := by rw [e3, e4, hT]; exact bne_self_eq_false _
      have b0 : (y.n 4 != y.n 100003) = false := by rw [show y.n 4 = y.n 100003 from congrArg (fun u => (getC u 0).control) hT]; exact bne_self_eq_false _
      have b1 : (y.n 15 != y.n 100013) = false := by rw [show y.n 15 = y.n 100013 from congrArg (fun u => (getC u 1).control) hT]; exact bne_self_eq_false _
      have b2 : (y.n 26 != y.n 100023) = false := by rw [show y.n 26 = y.n 100023 from congrArg (fun u => (getC u 2).control) hT]; exact bne_self_eq_false _
      have b3 : (y.n 37 != y.n 100033) = false := by rw [show y.n 37 = y.n 100033 from congrArg (fun u => (getC u 3).control) hT]; exact bne_self_eq_false _
      simp only [e34, b0, b1, b2, b3, Bool.false_eq_true, Bool.true_eq_false, false_implies, true_implies, forall_const, and_true, true_and, decide_true]
      have hQ : EQ (TU y) (TR y) := ⟨hT⟩
      ((repeat' (first | exact trivial | with_reducible rfl | assumption | exact rfl | apply And.intro)) <;> omega)
    · ((repeat' (first | exact trivial | with_reducible rfl | assumption | exact rfl | apply And.intro)) <;> omega)
  · have ho : of0 (TU y) := trivial
    ((repeat' (first | exact trivial | with_reducible rfl | assumption | exact rfl | apply And.intro)) <;> omega)
end Go.Proofs.Ytpddbhfebhpohaa

