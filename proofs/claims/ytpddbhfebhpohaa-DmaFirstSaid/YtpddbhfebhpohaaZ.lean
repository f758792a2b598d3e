import Derived.Test.YtpddbhfebhpohaaX
set_option linter.unusedVariables false
set_option linter.unusedSimpArgs false
namespace Go.Proofs.Ytpddbhfebhpohaa
open Go Go.Proofs Go.Proofs.Ytpddbhfebhpohaa.Ev Go.Proofs.Ytpddbhfebhpohaa.Ev.Ho
set_option maxRecDepth 100000
theorem first_r1 (E : World) (a : Option Addr) (n c : Nat) (low high : Int) (z : PX) (y : PX) :
    (loopP (pe E) Try.f4 (endR ([] : List MB).length [] (.c .b) (fun _ y => y.b 90000 = true) z) (headR ([] : List MB).length Try.f4.ntmps (some ((fun _ => 5) y)) (first_hs E a n c low high z))  (run (pe E) (orcL E) (tabL fns) 20000 (2 ^ 200 - 1) (law2_td E) (mkL Try.f4.ntmps (slC y [(1, .r .i64 (0) (3)), (2, .r .i64 (0) (3)), (7, .c (.p 0 0)), (9, .c (.p 1 0)), (66, .c (.i true .i64 0))])) (mkM y [] [uB, tN] 0))) =
    ((((62 : Nat) = (62 : Nat) ∧ (RGu y) ∧ ([] : SW) = []) ∧ (0 : Int) ≤ (0 : Int) ∧ (0 : Int) ≤ (65535 : Int)) ∧ ∀ (y_1 : PX), ((RGu y_1) ∧ True) ∧ True ∧ TU y_1 = uW (0 :
      Int) (5 : Int) (0 : Int) (TU y) → law2_td E = law2_td E ∧ (144 : Nat) = (144 : Nat) ∧ ((((0 : Int) ≤ y.n 91001 ∧ y.n 91001 ≤ (3 : Int)) ∧ True) ∧ (((0 : Int) ≤ y.n 91002 ∧
      y.n 91002 ≤ (3 : Int)) ∧ True) ∧ True ∧ True ∧ True ∧ True) ∧ ((62 : Nat) = (62 : Nat) ∧ (RGu y_1) ∧ (38 : Nat) = (38 : Nat) ∧ True ∧ ([] : SW) = []) ∧ (y.n 91001 < y.n
      91002 ∧ of1 (TU y_1)) ∧ (4 : Nat) < (5 : Nat) ∧ True) := by kernel_rfl
set_option maxHeartbeats 8000000 in
theorem first_q1 (E : World) (a : Option Addr) (n c : Nat) (low high : Int) (z : PX) (hp : (fun _ => n ≤ maxLen ∧ (a = none → n = 0) ∧ ∀ j, j < n → eRow E a (j * 6) [.i .i64, .i .i64, .i .i64, .i .u16, .i .i64, .i .u32] = true) z) (y : PX) (hy1 : rgM y [uB, tN] 0) (hy2 : rgF y [(1, .r .i64 (0) (3)), (2, .r .i64 (0) (3)), (7, .c (.p 0 0)), (9, .c (.p 1 0)), (66, .c (.i true .i64 0))]) (hy3 : (fun y => y.n 91001 < y.n 91002 ∧ of0 (U4.mk (Ch.mk (y.n 1) (y.n 2) (y.n 3) (y.n 4) (y.n 5) (y.n 6) (y.n 7) (y.b 8) (y.b 9) (y.n 10)) (Ch.mk (y.n 12) (y.n 13) (y.n 14) (y.n 15) (y.n 16) (y.n 17) (y.n 18) (y.b 19) (y.b 20) (y.n 21)) (Ch.mk (y.n 23) (y.n 24) (y.n 25) (y.n 26) (y.n 27) (y.n 28) (y.n 29) (y.b 30) (y.b 31) (y.n 32)) (Ch.mk (y.n 34) (y.n 35) (y.n 36) (y.n 37) (y.n 38) (y.n 39) (y.n 40) (y.b 41) (y.b 42) (y.n 43)))) y) : Holds ((run (pe E) (orcL E) (tabL fns) 20000 (2 ^ 200 - 1) (law2_td E) (mkL Try.f4.ntmps (slC y [(1, .r .i64 (0) (3)), (2, .r .i64 (0) (3)), (7, .c (.p 0 0)), (9, .c (.p 1 0)), (66, .c (.i true .i64 0))])) (mkM y [] [uB, tN] 0)).OK (lfP (pe E) Try.f4 (endR ([] : List MB).length [] (.c .b) (fun _ y => y.b 90000 = true) z) (headR ([] : List MB).length Try.f4.ntmps (some ((fun _ => 5) y)) (first_hs E a n c low high z)))) := by
  refine loopP_lfH ⟨?_⟩
  rw [first_r1]
  have hf : (((0) ≤ y.n 91001 ∧ y.n 91001 ≤ (3)) ∧ True) ∧ (((0) ≤ y.n 91002 ∧ y.n 91002 ≤ (3)) ∧ True) ∧ True ∧ True ∧ True ∧ True := hy2
  obtain ⟨⟨g1, _⟩, ⟨g2, _⟩, _, _, _, _⟩ := hf
  obtain ⟨hlt, ho⟩ := hy3
  have hRu : RGu y := rg_u (show rgM y uMs 0 from ⟨hy1.1, trivial⟩)
  refine ⟨by ((repeat' (first | exact trivial | with_reducible rfl | assumption | exact rfl | apply And.intro)) <;> omega), ?_⟩
  rintro y1 ⟨⟨hR1, _⟩, _, hq⟩
  have ho2 : of1 (TU y1) := by rw [hq]; exact of_0 ho
  ((repeat' (first | exact trivial | with_reducible rfl | assumption | exact rfl | apply And.intro)) <;> omega)
theorem first_r2 (E : World) (a : Option Addr) (n c : Nat) (low high : Int) (z : PX) (y : PX) :
    (loopP (pe E) Try.f4 (endR ([] : List MB).length [] (.c .b) (fun _ y => y.b 90000 = true) z) (headR ([] : List MB).length Try.f4.ntmps (some ((fun _ => 4) y)) (first_hs E a n c low high z))  (run (pe E) (orcL E) (tabL fns) 20000 (2 ^ 200 - 1) (law2_td E) (mkL Try.f4.ntmps (slC y [(1, .r .i64 (0) (3)), (2, .r .i64 (0) (3)), (7, .c (.p 0 0)), (9, .c (.p 1 0)), (66, .c (.i true .i64 1))])) (mkM y [] [uB, tN] 0))) =
    ((((62 : Nat) = (62 : Nat) ∧ (RGu y) ∧ ([] : SW) = []) ∧ (0 : Int) ≤ (0 : Int) ∧ (0 : Int) ≤ (65535 : Int)) ∧ ∀ (y_1 : PX), ((RGu y_1) ∧ True) ∧ True ∧ TU y_1 = uW (1 :
      Int) (5 : Int) (0 : Int) (TU y) → law2_td E = law2_td E ∧ (144 : Nat) = (144 : Nat) ∧ ((((0 : Int) ≤ y.n 91001 ∧ y.n 91001 ≤ (3 : Int)) ∧ True) ∧ (((0 : Int) ≤ y.n 91002 ∧
      y.n 91002 ≤ (3 : Int)) ∧ True) ∧ True ∧ True ∧ True ∧ True) ∧ ((62 : Nat) = (62 : Nat) ∧ (RGu y_1) ∧ (38 : Nat) = (38 : Nat) ∧ True ∧ ([] : SW) = []) ∧ (y.n 91001 < y.n
      91002 ∧ of2 (TU y_1)) ∧ (3 : Nat) < (4 : Nat) ∧ True) := by kernel_rfl
set_option maxHeartbeats 8000000 in
theorem first_q2 (E : World) (a : Option Addr) (n c : Nat) (low high : Int) (z : PX) (hp : (fun _ => n ≤ maxLen ∧ (a = none → n = 0) ∧ ∀ j, j < n → eRow E a (j * 6) [.i .i64, .i .i64, .i .i64, .i .u16, .i .i64, .i .u32] = true) z) (y : PX) (hy1 : rgM y [uB, tN] 0) (hy2 : rgF y [(1, .r .i64 (0) (3)), (2, .r .i64 (0) (3)), (7, .c (.p 0 0)), (9, .c (.p 1 0)), (66, .c (.i true .i64 1))]) (hy3 : (fun y => y.n 91001 < y.n 91002 ∧ of1 (U4.mk (Ch.mk (y.n 1) (y.n 2) (y.n 3) (y.n 4) (y.n 5) (y.n 6) (y.n 7) (y.b 8) (y.b 9) (y.n 10)) (Ch.mk (y.n 12) (y.n 13) (y.n 14) (y.n 15) (y.n 16) (y.n 17) (y.n 18) (y.b 19) (y.b 20) (y.n 21)) (Ch.mk (y.n 23) (y.n 24) (y.n 25) (y.n 26) (y.n 27) (y.n 28) (y.n 29) (y.b 30) (y.b 31) (y.n 32)) (Ch.mk (y.n 34) (y.n 35) (y.n 36) (y.n 37) (y.n 38) (y.n 39) (y.n 40) (y.b 41) (y.b 42) (y.n 43)))) y) : Holds ((run (pe E) (orcL E) (tabL fns) 20000 (2 ^ 200 - 1) (law2_td E) (mkL Try.f4.ntmps (slC y [(1, .r .i64 (0) (3)), (2, .r .i64 (0) (3)), (7, .c (.p 0 0)), (9, .c (.p 1 0)), (66, .c (.i true .i64 1))])) (mkM y [] [uB, tN] 0)).OK (lfP (pe E) Try.f4 (endR ([] : List MB).length [] (.c .b) (fun _ y => y.b 90000 = true) z) (headR ([] : List MB).length Try.f4.ntmps (some ((fun _ => 4) y)) (first_hs E a n c low high z)))) := by
  refine loopP_lfH ⟨?_⟩
  rw [first_r2]
  have hf : (((0) ≤ y.n 91001 ∧ y.n 91001 ≤ (3)) ∧ True) ∧ (((0) ≤ y.n 91002 ∧ y.n 91002 ≤ (3)) ∧ True) ∧ True ∧ True ∧ True ∧ True := hy2
  obtain ⟨⟨g1, _⟩, ⟨g2, _⟩, _, _, _, _⟩ := hf
  obtain ⟨hlt, ho⟩ := hy3
  have hRu : RGu y := rg_u (show rgM y uMs 0 from ⟨hy1.1, trivial⟩)
  refine ⟨by ((repeat' (first | exact trivial | with_reducible rfl | assumption | exact rfl | apply And.intro)) <;> omega), ?_⟩
  rintro y1 ⟨⟨hR1, _⟩, _, hq⟩
  have ho2 : of2 (TU y1) := by rw [hq]; exact of_1 ho
  ((repeat' (first | exact trivial | with_reducible rfl | assumption | exact rfl | apply And.intro)) <;> omega)
theorem first_r3 (E : World) (a : Option Addr) (n c : Nat) (low high : Int) (z : PX) (y : PX) :
    (loopP (pe E) Try.f4 (endR ([] : List MB).length [] (.c .b) (fun _ y => y.b 90000 = true) z) (headR ([] : List MB).length Try.f4.ntmps (some ((fun _ => 3) y)) (first_hs E a n c low high z))  (run (pe E) (orcL E) (tabL fns) 20000 (2 ^ 200 - 1) (law2_td E) (mkL Try.f4.ntmps (slC y [(1, .r .i64 (0) (3)), (2, .r .i64 (0) (3)), (7, .c (.p 0 0)), (9, .c (.p 1 0)), (66, .c (.i true .i64 2))])) (mkM y [] [uB, tN] 0))) =
    ((((62 : Nat) = (62 : Nat) ∧ (RGu y) ∧ ([] : SW) = []) ∧ (0 : Int) ≤ (0 : Int) ∧ (0 : Int) ≤ (65535 : Int)) ∧ ∀ (y_1 : PX), ((RGu y_1) ∧ True) ∧ True ∧ TU y_1 = uW (2 :
      Int) (5 : Int) (0 : Int) (TU y) → law2_td E = law2_td E ∧ (144 : Nat) = (144 : Nat) ∧ ((((0 : Int) ≤ y.n 91001 ∧ y.n 91001 ≤ (3 : Int)) ∧ True) ∧ (((0 : Int) ≤ y.n 91002 ∧
      y.n 91002 ≤ (3 : Int)) ∧ True) ∧ True ∧ True ∧ True ∧ True) ∧ ((62 : Nat) = (62 : Nat) ∧ (RGu y_1) ∧ (38 : Nat) = (38 : Nat) ∧ True ∧ ([] : SW) = []) ∧ (y.n 91001 < y.n
      91002 ∧ of3 (TU y_1)) ∧ (2 : Nat) < (3 : Nat) ∧ True) := by kernel_rfl
set_option maxHeartbeats 8000000 in
theorem first_q3 (E : World) (a : Option Addr) (n c : Nat) (low high : Int) (z : PX) (hp : (fun _ => n ≤ maxLen ∧ (a = none → n = 0) ∧ ∀ j, j < n → eRow E a (j * 6) [.i .i64, .i .i64, .i .i64, .i .u16, .i .i64, .i .u32] = true) z) (y : PX) (hy1 : rgM y [uB, tN] 0) (hy2 : rgF y [(1, .r .i64 (0) (3)), (2, .r .i64 (0) (3)), (7, .c (.p 0 0)), (9, .c (.p 1 0)), (66, .c (.i true .i64 2))]) (hy3 : (fun y => y.n 91001 < y.n 91002 ∧ of2 (U4.mk (Ch.mk (y.n 1) (y.n 2) (y.n 3) (y.n 4) (y.n 5) (y.n 6) (y.n 7) (y.b 8) (y.b 9) (y.n 10)) (Ch.mk (y.n 12) (y.n 13) (y.n 14) (y.n 15) (y.n 16) (y.n 17) (y.n 18) (y.b 19) (y.b 20) (y.n 21)) (Ch.mk (y.n 23) (y.n 24) (y.n 25) (y.n 26) (y.n 27) (y.n 28) (y.n 29) (y.b 30) (y.b 31) (y.n 32)) (Ch.mk (y.n 34) (y.n 35) (y.n 36) (y.n 37) (y.n 38) (y.n 39) (y.n 40) (y.b 41) (y.b 42) (y.n 43)))) y) : Holds ((run (pe E) (orcL E) (tabL fns) 20000 (2 ^ 200 - 1) (law2_td E) (mkL Try.f4.ntmps (slC y [(1, .r .i64 (0) (3)), (2, .r .i64 (0) (3)), (7, .c (.p 0 0)), (9, .c (.p 1 0)), (66, .c (.i true .i64 2))])) (mkM y [] [uB, tN] 0)).OK (lfP (pe E) Try.f4 (endR ([] : List MB).length [] (.c .b) (fun _ y => y.b 90000 = true) z) (headR ([] : List MB).length Try.f4.ntmps (some ((fun _ => 3) y)) (first_hs E a n c low high z)))) := by
  refine loopP_lfH ⟨?_⟩
  rw [first_r3]
  have hf : (((0) ≤ y.n 91001 ∧ y.n 91001 ≤ (3)) ∧ True) ∧ (((0) ≤ y.n 91002 ∧ y.n 91002 ≤ (3)) ∧ True) ∧ True ∧ True ∧ True ∧ True := hy2
  obtain ⟨⟨g1, _⟩, ⟨g2, _⟩, _, _, _, _⟩ := hf
  obtain ⟨hlt, ho⟩ := hy3
  have hRu : RGu y := rg_u (show rgM y uMs 0 from ⟨hy1.1, trivial⟩)
  refine ⟨by ((repeat' (first | exact trivial | with_reducible rfl | assumption | exact rfl | apply And.intro)) <;> omega), ?_⟩
  rintro y1 ⟨⟨hR1, _⟩, _, hq⟩
  have ho2 : of3 (TU y1) := by rw [hq]; exact of_2 ho
  ((repeat' (first | exact trivial | with_reducible rfl | assumption | exact rfl | apply And.intro)) <;> omega)
theorem first_r4 (E : World) (a : Option Addr) (n c : Nat) (low high : Int) (z : PX) (y : PX) :
    (loopP (pe E) Try.f4 (endR ([] : List MB).length [] (.c .b) (fun _ y => y.b 90000 = true) z) (headR ([] : List MB).length Try.f4.ntmps (some ((fun _ => 2) y)) (first_hs E a n c low high z))  (run (pe E) (orcL E) (tabL fns) 20000 (2 ^ 200 - 1) (law2_td E) (mkL Try.f4.ntmps (slC y [(1, .r .i64 (0) (3)), (2, .r .i64 (0) (3)), (7, .c (.p 0 0)), (9, .c (.p 1 0)), (66, .c (.i true .i64 3))])) (mkM y [] [uB, tN] 0))) =
    ((((62 : Nat) = (62 : Nat) ∧ (RGu y) ∧ ([] : SW) = []) ∧ (0 : Int) ≤ (0 : Int) ∧ (0 : Int) ≤ (65535 : Int)) ∧ ∀ (y_1 : PX), ((RGu y_1) ∧ True) ∧ True ∧ TU y_1 = uW (3 :
      Int) (5 : Int) (0 : Int) (TU y) → law2_td E = law2_td E ∧ (144 : Nat) = (144 : Nat) ∧ ((((0 : Int) ≤ y.n 91001 ∧ y.n 91001 ≤ (3 : Int)) ∧ True) ∧ (((0 : Int) ≤ y.n 91002 ∧
      y.n 91002 ≤ (3 : Int)) ∧ True) ∧ True ∧ True ∧ True ∧ True) ∧ ((62 : Nat) = (62 : Nat) ∧ (RGu y_1) ∧ (38 : Nat) = (38 : Nat) ∧ True ∧ ([] : SW) = []) ∧ (y.n 91001 < y.n
      91002 ∧ of4 (TU y_1)) ∧ (1 : Nat) < (2 : Nat) ∧ True) := by kernel_rfl
set_option maxHeartbeats 8000000 in
theorem first_q4 (E : World) (a : Option Addr) (n c : Nat) (low high : Int) (z : PX) (hp : (fun _ => n ≤ maxLen ∧ (a = none → n = 0) ∧ ∀ j, j < n → eRow E a (j * 6) [.i .i64, .i .i64, .i .i64, .i .u16, .i .i64, .i .u32] = true) z) (y : PX) (hy1 : rgM y [uB, tN] 0) (hy2 : rgF y [(1, .r .i64 (0) (3)), (2, .r .i64 (0) (3)), (7, .c (.p 0 0)), (9, .c (.p 1 0)), (66, .c (.i true .i64 3))]) (hy3 : (fun y => y.n 91001 < y.n 91002 ∧ of3 (U4.mk (Ch.mk (y.n 1) (y.n 2) (y.n 3) (y.n 4) (y.n 5) (y.n 6) (y.n 7) (y.b 8) (y.b 9) (y.n 10)) (Ch.mk (y.n 12) (y.n 13) (y.n 14) (y.n 15) (y.n 16) (y.n 17) (y.n 18) (y.b 19) (y.b 20) (y.n 21)) (Ch.mk (y.n 23) (y.n 24) (y.n 25) (y.n 26) (y.n 27) (y.n 28) (y.n 29) (y.b 30) (y.b 31) (y.n 32)) (Ch.mk (y.n 34) (y.n 35) (y.n 36) (y.n 37) (y.n 38) (y.n 39) (y.n 40) (y.b 41) (y.b 42) (y.n 43)))) y) : Holds ((run (pe E) (orcL E) (tabL fns) 20000 (2 ^ 200 - 1) (law2_td E) (mkL Try.f4.ntmps (slC y [(1, .r .i64 (0) (3)), (2, .r .i64 (0) (3)), (7, .c (.p 0 0)), (9, .c (.p 1 0)), (66, .c (.i true .i64 3))])) (mkM y [] [uB, tN] 0)).OK (lfP (pe E) Try.f4 (endR ([] : List MB).length [] (.c .b) (fun _ y => y.b 90000 = true) z) (headR ([] : List MB).length Try.f4.ntmps (some ((fun _ => 2) y)) (first_hs E a n c low high z)))) := by
  refine loopP_lfH ⟨?_⟩
  rw [first_r4]
  have hf : (((0) ≤ y.n 91001 ∧ y.n 91001 ≤ (3)) ∧ True) ∧ (((0) ≤ y.n 91002 ∧ y.n 91002 ≤ (3)) ∧ True) ∧ True ∧ True ∧ True ∧ True := hy2
  obtain ⟨⟨g1, _⟩, ⟨g2, _⟩, _, _, _, _⟩ := hf
  obtain ⟨hlt, ho⟩ := hy3
  have hRu : RGu y := rg_u (show rgM y uMs 0 from ⟨hy1.1, trivial⟩)
  refine ⟨by ((repeat' (first | exact trivial | with_reducible rfl | assumption | exact rfl | apply And.intro)) <;> omega), ?_⟩
  rintro y1 ⟨⟨hR1, _⟩, _, hq⟩
  have ho2 : of4 (TU y1) := by rw [hq]; exact of_3 ho
  ((repeat' (first | exact trivial | with_reducible rfl | assumption | exact rfl | apply And.intro)) <;> omega)
theorem first_r5 (E : World) (a : Option Addr) (n c : Nat) (low high : Int) (z : PX) (y : PX) :
    (loopP (pe E) Try.f4 (endR ([] : List MB).length [] (.c .b) (fun _ y => y.b 90000 = true) z) (headR ([] : List MB).length Try.f4.ntmps (some ((fun _ => 1) y)) (first_hs E a n c low high z))  (run (pe E) (orcL E) (tabL fns) 20000 (2 ^ 200 - 1) (law2_td E) (mkL Try.f4.ntmps (slC y [(1, .r .i64 (0) (3)), (2, .r .i64 (0) (3)), (7, .c (.p 0 0)), (9, .c (.p 1 0)), (66, .c (.i true .i64 4))])) (mkM y [] [uB, tN] 0))) =
    ((((62 : Nat) = (62 : Nat) ∧ (RGu y) ∧ ([] : SW) = []) ∧ (0 : Int) ≤ (9 : Int) ∧ (9 : Int) ≤ (65535 : Int)) ∧ ∀ (y_1 : PX), ((RGu y_1) ∧ True) ∧ True ∧ TU y_1 = uW (y.n
      91002) (4 : Int) (9 : Int) (TU y) → (((62 : Nat) = (62 : Nat) ∧ (RGu y_1) ∧ ([] : SW) = []) ∧ (0 : Int) ≤ (32768 : Int) ∧ (32768 : Int) ≤ (65535 : Int)) ∧ ∀ (y_2 : PX),
      ((RGu y_2) ∧ True) ∧ True ∧ TU y_2 = uW (y.n 91002) (5 : Int) (32768 : Int) (TU y_1) → (((62 : Nat) = (62 : Nat) ∧ (RGu y_2) ∧ (38 : Nat) = (38 : Nat) ∧ True ∧ ([] : SW) =
      []) ∧ (0 : Int) ≤ rdy (TU y_2)) ∧ ∀ (y_3 : PX), ((RGu y_3) ∧ ((0 : Int) ≤ y_3.n 100000 ∧ (0 : Int) ≤ y_3.n 100001 ∧ True) ∧ (flat plS = true ∧ Row plS (y_3.l 2)) ∧ (flat
      [Sp.i IntKind.u32] = true ∧ Row [Sp.i IntKind.u32] (y_3.l 3)) ∧ True) ∧ (((-1 : Int) ≤ y_3.n 90000 ∧ y_3.n 90000 ≤ (3 : Int)) ∧ True) ∧ (y_3.n 90000 = rdy (TU y_2) ∧ y_3.b
      90001 = dn (getC (TU y_2) (rdy (TU y_2))) ∧ y_3.b 90002 = (dn (getC (TU y_2) (rdy (TU y_2))) && asks (getC (TU y_2) (rdy (TU y_2))))) ∧ TU y_3 = stU (TU y_2) ∧ NX (rdy (TU
      y_2)) (wd (rdy (TU y_2)) (getC (TU y_2) (rdy (TU y_2))).control) (getC (TU y_2) (rdy (TU y_2))) (0 : Int) (y_3.n 100000) (y_3.n 100001) (y_3.l 2) (y_3.l 3) → ((y_3.n 90000
      != y.n 91002) = true → ([] : SW) = [] ∧ True ∧ false = true) ∧ ((y_3.n 90000 != y.n 91002) = false → (((62 : Nat) = (62 : Nat) ∧ (RGu y_3) ∧ ([] : SW) = []) ∧ (0 : Int) ≤
      (2 : Int) ∧ (2 : Int) ≤ (65535 : Int)) ∧ ∀ (y_4 : PX), ((RGu y_4) ∧ True) ∧ True ∧ TU y_4 = uW (y.n 91001) (4 : Int) (2 : Int) (TU y_3) → (((62 : Nat) = (62 : Nat) ∧ (RGu
      y_4) ∧ ([] : SW) = []) ∧ (0 : Int) ≤ (32768 : Int) ∧ (32768 : Int) ≤ (65535 : Int)) ∧ ∀ (y_5 : PX), ((RGu y_5) ∧ True) ∧ True ∧ TU y_5 = uW (y.n 91001) (5 : Int) (32768 :
      Int) (TU y_4) → (((62 : Nat) = (62 : Nat) ∧ (RGu y_5) ∧ (38 : Nat) = (38 : Nat) ∧ True ∧ (48 : Nat) = (48 : Nat) ∧ (flat plS = true ∧ Row plS (y_3.l 2)) ∧ (27 : Nat) = (27
      : Nat) ∧ (flat [Sp.i IntKind.u32] = true ∧ Row [Sp.i IntKind.u32] (y_3.l 3)) ∧ ([] : SW) = []) ∧ (0 : Int) ≤ rdy (TU y_5) ∧ TP (↑(y_3.n 100000).toNat : Int) (↑(y_3.n
      100001).toNat : Int) (y_3.l 2) (y_3.l 3)) ∧ ∀ (y_6 : PX), ((RGu y_6) ∧ ((0 : Int) ≤ y_6.n 100000 ∧ (0 : Int) ≤ y_6.n 100001 ∧ True) ∧ (flat plS = true ∧ Row plS (y_6.l 4))
      ∧ (flat [Sp.i IntKind.u32] = true ∧ Row [Sp.i IntKind.u32] (y_6.l 5)) ∧ True) ∧ (((-1 : Int) ≤ y_6.n 90000 ∧ y_6.n 90000 ≤ (3 : Int)) ∧ True) ∧ (y_6.n 90000 = rdy (TU y_5)
      ∧ y_6.b 90001 = dn (getC (TU y_5) (rdy (TU y_5))) ∧ y_6.b 90002 = (dn (getC (TU y_5) (rdy (TU y_5))) && asks (getC (TU y_5) (rdy (TU y_5))))) ∧ TU y_6 = stU (TU y_5) ∧ NX
      (rdy (TU y_5)) (wd (rdy (TU y_5)) (getC (TU y_5) (rdy (TU y_5))).control) (getC (TU y_5) (rdy (TU y_5))) (↑(y_3.n 100000).toNat : Int) (y_6.n 100000) (y_6.n 100001) (y_6.l
      4) (y_6.l 5) → (((62 : Nat) = (62 : Nat) ∧ (RGu y_6) ∧ (38 : Nat) = (38 : Nat) ∧ True ∧ (48 : Nat) = (48 : Nat) ∧ (flat plS = true ∧ Row plS (y_6.l 4)) ∧ (27 : Nat) = (27
      : Nat) ∧ (flat [Sp.i IntKind.u32] = true ∧ Row [Sp.i IntKind.u32] (y_6.l 5)) ∧ ([] : SW) = []) ∧ (0 : Int) ≤ rdy (TU y_6) ∧ TP (↑(y_6.n 100000).toNat : Int) (↑(y_6.n
      100001).toNat : Int) (y_6.l 4) (y_6.l 5)) ∧ ∀ (y_7 : PX), ((RGu y_7) ∧ ((0 : Int) ≤ y_7.n 100000 ∧ (0 : Int) ≤ y_7.n 100001 ∧ True) ∧ (flat plS = true ∧ Row plS (y_7.l 4))
      ∧ (flat [Sp.i IntKind.u32] = true ∧ Row [Sp.i IntKind.u32] (y_7.l 5)) ∧ True) ∧ (((-1 : Int) ≤ y_7.n 90000 ∧ y_7.n 90000 ≤ (3 : Int)) ∧ True) ∧ (y_7.n 90000 = rdy (TU y_6)
      ∧ y_7.b 90001 = dn (getC (TU y_6) (rdy (TU y_6))) ∧ y_7.b 90002 = (dn (getC (TU y_6) (rdy (TU y_6))) && asks (getC (TU y_6) (rdy (TU y_6))))) ∧ TU y_7 = stU (TU y_6) ∧ NX
      (rdy (TU y_6)) (wd (rdy (TU y_6)) (getC (TU y_6) (rdy (TU y_6))).control) (getC (TU y_6) (rdy (TU y_6))) (↑(y_6.n 100000).toNat : Int) (y_7.n 100000) (y_7.n 100001) (y_7.l
      4) (y_7.l 5) → (((62 : Nat) = (62 : Nat) ∧ (RGu y_7) ∧ (38 : Nat) = (38 : Nat) ∧ True ∧ (48 : Nat) = (48 : Nat) ∧ (flat plS = true ∧ Row plS (y_7.l 4)) ∧ (27 : Nat) = (27
      : Nat) ∧ (flat [Sp.i IntKind.u32] = true ∧ Row [Sp.i IntKind.u32] (y_7.l 5)) ∧ ([] : SW) = []) ∧ (0 : Int) ≤ rdy (TU y_7) ∧ TP (↑(y_7.n 100000).toNat : Int) (↑(y_7.n
      100001).toNat : Int) (y_7.l 4) (y_7.l 5)) ∧ ∀ (y_8 : PX), ((RGu y_8) ∧ ((0 : Int) ≤ y_8.n 100000 ∧ (0 : Int) ≤ y_8.n 100001 ∧ True) ∧ (flat plS = true ∧ Row plS (y_8.l 4))
      ∧ (flat [Sp.i IntKind.u32] = true ∧ Row [Sp.i IntKind.u32] (y_8.l 5)) ∧ True) ∧ (((-1 : Int) ≤ y_8.n 90000 ∧ y_8.n 90000 ≤ (3 : Int)) ∧ True) ∧ (y_8.n 90000 = rdy (TU y_7)
      ∧ y_8.b 90001 = dn (getC (TU y_7) (rdy (TU y_7))) ∧ y_8.b 90002 = (dn (getC (TU y_7) (rdy (TU y_7))) && asks (getC (TU y_7) (rdy (TU y_7))))) ∧ TU y_8 = stU (TU y_7) ∧ NX
      (rdy (TU y_7)) (wd (rdy (TU y_7)) (getC (TU y_7) (rdy (TU y_7))).control) (getC (TU y_7) (rdy (TU y_7))) (↑(y_7.n 100000).toNat : Int) (y_8.n 100000) (y_8.n 100001) (y_8.l
      4) (y_8.l 5) → ([] : SW) = [] ∧ True ∧ (bif bif bif bif bif y_6.n 90000 == y.n 91001 then !y_6.b 90001 else false then y_7.n 90000 == y.n 91001 else false then y_7.b 90001
      else false then y_8.n 90000 == y.n 91002 else false then !y_8.b 90001 else false) = true)) := by kernel_rfl
set_option maxHeartbeats 8000000 in
theorem first_q5 (E : World) (a : Option Addr) (n c : Nat) (low high : Int) (z : PX) (hp : (fun _ => n ≤ maxLen ∧ (a = none → n = 0) ∧ ∀ j, j < n → eRow E a (j * 6) [.i .i64, .i .i64, .i .i64, .i .u16, .i .i64, .i .u32] = true) z) (y : PX) (hy1 : rgM y [uB, tN] 0) (hy2 : rgF y [(1, .r .i64 (0) (3)), (2, .r .i64 (0) (3)), (7, .c (.p 0 0)), (9, .c (.p 1 0)), (66, .c (.i true .i64 4))]) (hy3 : (fun y => y.n 91001 < y.n 91002 ∧ of4 (U4.mk (Ch.mk (y.n 1) (y.n 2) (y.n 3) (y.n 4) (y.n 5) (y.n 6) (y.n 7) (y.b 8) (y.b 9) (y.n 10)) (Ch.mk (y.n 12) (y.n 13) (y.n 14) (y.n 15) (y.n 16) (y.n 17) (y.n 18) (y.b 19) (y.b 20) (y.n 21)) (Ch.mk (y.n 23) (y.n 24) (y.n 25) (y.n 26) (y.n 27) (y.n 28) (y.n 29) (y.b 30) (y.b 31) (y.n 32)) (Ch.mk (y.n 34) (y.n 35) (y.n 36) (y.n 37) (y.n 38) (y.n 39) (y.n 40) (y.b 41) (y.b 42) (y.n 43)))) y) : Holds ((run (pe E) (orcL E) (tabL fns) 20000 (2 ^ 200 - 1) (law2_td E) (mkL Try.f4.ntmps (slC y [(1, .r .i64 (0) (3)), (2, .r .i64 (0) (3)), (7, .c (.p 0 0)), (9, .c (.p 1 0)), (66, .c (.i true .i64 4))])) (mkM y [] [uB, tN] 0)).OK (lfP (pe E) Try.f4 (endR ([] : List MB).length [] (.c .b) (fun _ y => y.b 90000 = true) z) (headR ([] : List MB).length Try.f4.ntmps (some ((fun _ => 1) y)) (first_hs E a n c low high z)))) := by
  refine loopP_lfH ⟨?_⟩
  rw [first_r5]
  have hf : (((0) ≤ y.n 91001 ∧ y.n 91001 ≤ (3)) ∧ True) ∧ (((0) ≤ y.n 91002 ∧ y.n 91002 ≤ (3)) ∧ True) ∧ True ∧ True ∧ True ∧ True := hy2
  obtain ⟨⟨g1, _⟩, ⟨g2, _⟩, _, _, _, _⟩ := hf
  obtain ⟨hlt, ho⟩ := hy3
  have hRu : RGu y := rg_u (show rgM y uMs 0 from ⟨hy1.1, trivial⟩)
  have F := fin_all (l := (y.n 91001)) (h := (y.n 91002)) ho (by omega) hlt (by omega)
  have hf1 : flat plS = true := rfl
  have hf2 : flat [Sp.i IntKind.u32] = true := rfl
  refine ⟨by ((repeat' (first | exact trivial | with_reducible rfl | assumption | exact rfl | apply And.intro)) <;> omega), ?_⟩
  rintro y1 ⟨⟨hR1, _⟩, _, hq1⟩
  refine ⟨by ((repeat' (first | exact trivial | with_reducible rfl | assumption | exact rfl | apply And.intro)) <;> omega), ?_⟩
  rintro y2 ⟨⟨hR2, _⟩, _, hq2⟩
  have q2 : (TU y2) = gg2 (y.n 91002) (TU y) := by rw [hq2, hq1]; rfl
  have r2 : rdy (TU y2) = (y.n 91002) := by rw [q2]; exact F.a
  have r2' : 0 ≤ rdy (TU y2) := by rw [r2]; omega
  refine ⟨by ((repeat' (first | exact trivial | with_reducible rfl | assumption | exact rfl | apply And.intro)) <;> omega), ?_⟩
  rintro y3 ⟨⟨hR3, ⟨u3, v3, _⟩, ⟨_, hp3⟩, ⟨_, hr3⟩, _⟩, _, ⟨ch3, dn3, _⟩, hq3, hN3⟩
  have q3 : (TU y3) = gg3 (y.n 91002) (TU y) := by rw [hq3, q2]; rfl
  obtain ⟨T3, m3⟩ := tp_of hN3 (by omega) (by omega)
  have t3 : ((y3.n 100000).toNat : Int) = y3.n 100000 := Int.toNat_of_nonneg u3
  have s3 : ((y3.n 100001).toNat : Int) = y3.n 100001 := Int.toNat_of_nonneg v3
  have e3 : (y3.n 90000 != (y.n 91002)) = false := by rw [ch3, r2]; exact bne_self_eq_false _
  simp only [t3, s3]
  refine ⟨fun h => (by rw [e3] at h; cases h), fun _ => ?_⟩
  refine ⟨by ((repeat' (first | exact trivial | with_reducible rfl | assumption | exact rfl | apply And.intro)) <;> omega), ?_⟩
  rintro y4 ⟨⟨hR4, _⟩, _, hq4⟩
  refine ⟨by ((repeat' (first | exact trivial | with_reducible rfl | assumption | exact rfl | apply And.intro)) <;> omega), ?_⟩
  rintro y5 ⟨⟨hR5, _⟩, _, hq5⟩
  have q5 : (TU y5) = gg5 (y.n 91001) (y.n 91002) (TU y) := by rw [hq5, hq4, q3]; rfl
  have r5 : rdy (TU y5) = (y.n 91001) := by rw [q5]; exact F.b
  have r5' : 0 ≤ rdy (TU y5) := by rw [r5]; omega
  refine ⟨by ((repeat' (first | exact trivial | with_reducible rfl | assumption | exact rfl | apply And.intro)) <;> omega), ?_⟩
  rintro y6 ⟨⟨hR6, ⟨u6, v6, _⟩, ⟨_, hp6⟩, ⟨_, hr6⟩, _⟩, _, ⟨ch6, dn6, _⟩, hq6, hN6⟩
  have q6 : (TU y6) = gg6 (y.n 91001) (y.n 91002) (TU y) := by rw [hq6, q5]; rfl
  obtain ⟨T6, m6⟩ := tp_of hN6 (by omega) (by omega)
  have t6 : ((y6.n 100000).toNat : Int) = y6.n 100000 := Int.toNat_of_nonneg u6
  have s6 : ((y6.n 100001).toNat : Int) = y6.n 100001 := Int.toNat_of_nonneg v6
  have r6 : rdy (TU y6) = (y.n 91001) := by rw [q6]; exact F.d
  have r6' : 0 ≤ rdy (TU y6) := by rw [r6]; omega
  have d6 : y6.b 90001 = false := by rw [dn6, r5, q5]; exact F.c
  have c6 : (y6.n 90000 == (y.n 91001)) = true := by rw [ch6, r5]; exact beq_self_eq_true _
  simp only [t6, s6, d6, c6]
  refine ⟨by ((repeat' (first | exact trivial | with_reducible rfl | assumption | exact rfl | apply And.intro)) <;> omega), ?_⟩
  rintro y7 ⟨⟨hR7, ⟨u7, v7, _⟩, ⟨_, hp7⟩, ⟨_, hr7⟩, _⟩, _, ⟨ch7, dn7, _⟩, hq7, hN7⟩
  have q7 : (TU y7) = gg7 (y.n 91001) (y.n 91002) (TU y) := by rw [hq7, q6]; rfl
  obtain ⟨T7, m7⟩ := tp_of hN7 (by omega) (by omega)
  have t7 : ((y7.n 100000).toNat : Int) = y7.n 100000 := Int.toNat_of_nonneg u7
  have s7 : ((y7.n 100001).toNat : Int) = y7.n 100001 := Int.toNat_of_nonneg v7
  have r7 : rdy (TU y7) = (y.n 91002) := by rw [q7]; exact F.f
  have r7' : 0 ≤ rdy (TU y7) := by rw [r7]; omega
  have d7 : y7.b 90001 = true := by rw [dn7, r6, q6]; exact F.e
  have c7 : (y7.n 90000 == (y.n 91001)) = true := by rw [ch7, r6]; exact beq_self_eq_true _
  simp only [t7, s7, d7, c7]
  refine ⟨by ((repeat' (first | exact trivial | with_reducible rfl | assumption | exact rfl | apply And.intro)) <;> omega), ?_⟩
  rintro y8 ⟨⟨hR8, ⟨u8, v8, _⟩, ⟨_, hp8⟩, ⟨_, hr8⟩, _⟩, _, ⟨ch8, dn8, _⟩, hq8, hN8⟩
  have d8 : y8.b 90001 = false := by rw [dn8, r7, q7]; exact F.g
  have c8 : (y8.n 90000 == (y.n 91002)) = true := by rw [ch8, r7]; exact beq_self_eq_true _
  simp only [d8, c8, Bool.not_false, cond_true]
  ((repeat' (first | exact trivial | with_reducible rfl | assumption | exact rfl | apply And.intro)) <;> omega)
end Go.Proofs.Ytpddbhfebhpohaa

