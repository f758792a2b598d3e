import Derived.Test.YtpddbhfebhpohaaX
set_option linter.unusedVariables false
set_option linter.unusedSimpArgs false
namespace Go.Proofs.Ytpddbhfebhpohaa
open Go Go.Proofs Go.Proofs.Ytpddbhfebhpohaa.Ev Go.Proofs.Ytpddbhfebhpohaa.Ev.Ho
set_option maxRecDepth 100000
theorem first_pro (E : World) (a : Option Addr) (n c : Nat) (low high : Int) (z : PX) :
    (loopP (pe E) Try.f4 (endR ([] : List MB).length [] (.c .b) (fun _ y => y.b 90000 = true) z) (headR ([] : List MB).length Try.f4.ntmps none (first_hs E a n c low high z)) (run (pe E) (orcL E) (tabL fns) 20000 (2 ^ 200 - 1) [.code (Try.f4.body.getD .skip)] ⟨Try.f4.ntmps, mkFrGo (Tr.mk 12) 0 [.c (.es a n c), .c (.i false .i64 low), .c (.i false .i64 high)]⟩ (mkM z [] [] 0))) =
    (((bif decide ((IntKind.i64.wrap (low.tmod (4 : Int) + (4 : Int))).tmod (4 : Int) ≥ (IntKind.i64.wrap (high.tmod (4 : Int) + (4 : Int))).tmod (4 : Int)) then true else
      decide ((↑n : Int) > (100 : Int))) = true → ([] : SW) = [] ∧ True ∧ true = true) ∧ ((bif decide ((IntKind.i64.wrap (low.tmod (4 : Int) + (4 : Int))).tmod (4 : Int) ≥
      (IntKind.i64.wrap (high.tmod (4 : Int) + (4 : Int))).tmod (4 : Int)) then true else decide ((↑n : Int) > (100 : Int))) = false → law_td E = law_td E ∧ (144 : Nat) = (144 :
      Nat) ∧ ((((0 : Int) ≤ (IntKind.i64.wrap (low.tmod (4 : Int) + (4 : Int))).tmod (4 : Int) ∧ (IntKind.i64.wrap (low.tmod (4 : Int) + (4 : Int))).tmod (4 : Int) ≤ (3 : Int))
      ∧ True) ∧ (((0 : Int) ≤ (IntKind.i64.wrap (high.tmod (4 : Int) + (4 : Int))).tmod (4 : Int) ∧ (IntKind.i64.wrap (high.tmod (4 : Int) + (4 : Int))).tmod (4 : Int) ≤ (3 :
      Int)) ∧ True) ∧ True ∧ True ∧ True ∧ (renC (posN [(0 : Nat), (1 : Nat), (2 : Nat)]) (C.es a n c) = C.es a n c ∧ True) ∧ (renC (posN [(0 : Nat), (1 : Nat), (2 : Nat)]) (C.i
      false IntKind.i64 (↑n : Int)) = C.i false IntKind.i64 (↑n : Int) ∧ True) ∧ (((0 : Int) ≤ (0 : Int) ∧ (0 : Int) ≤ (100 : Int)) ∧ True) ∧ True) ∧ ((62 : Nat) = (62 : Nat) ∧
      (q32 ((0 : Int)) ∧ q32 ((0 : Int)) ∧ q16 ((0 : Int)) ∧ q16 ((0 : Int)) ∧ q32 ((0 : Int)) ∧ q32 ((0 : Int)) ∧ q32 ((0 : Int)) ∧ q32 ((0 : Int)) ∧ q32 ((0 : Int)) ∧ q16 ((0
      : Int)) ∧ q16 ((0 : Int)) ∧ q32 ((0 : Int)) ∧ q32 ((0 : Int)) ∧ q32 ((0 : Int)) ∧ q32 ((0 : Int)) ∧ q32 ((0 : Int)) ∧ q16 ((0 : Int)) ∧ q16 ((0 : Int)) ∧ q32 ((0 : Int)) ∧
      q32 ((0 : Int)) ∧ q32 ((0 : Int)) ∧ q32 ((0 : Int)) ∧ q32 ((0 : Int)) ∧ q16 ((0 : Int)) ∧ q16 ((0 : Int)) ∧ q32 ((0 : Int)) ∧ q32 ((0 : Int)) ∧ q32 ((0 : Int)) ∧ True) ∧
      (33 : Nat) = (33 : Nat) ∧ (q32 ((0 : Int)) ∧ q32 ((0 : Int)) ∧ q16 ((0 : Int)) ∧ q16 ((0 : Int)) ∧ q32 ((0 : Int)) ∧ q32 ((0 : Int)) ∧ q32 ((0 : Int)) ∧ q32 ((0 : Int)) ∧
      q32 ((0 : Int)) ∧ q16 ((0 : Int)) ∧ q16 ((0 : Int)) ∧ q32 ((0 : Int)) ∧ q32 ((0 : Int)) ∧ q32 ((0 : Int)) ∧ q32 ((0 : Int)) ∧ q32 ((0 : Int)) ∧ q16 ((0 : Int)) ∧ q16 ((0 :
      Int)) ∧ q32 ((0 : Int)) ∧ q32 ((0 : Int)) ∧ q32 ((0 : Int)) ∧ q32 ((0 : Int)) ∧ q32 ((0 : Int)) ∧ q16 ((0 : Int)) ∧ q16 ((0 : Int)) ∧ q32 ((0 : Int)) ∧ q32 ((0 : Int)) ∧
      q32 ((0 : Int)) ∧ True) ∧ (38 : Nat) = (38 : Nat) ∧ True ∧ ([] : SW) = []) ∧ (EQ (U4.mk (Ch.mk (0 : Int) (0 : Int) (0 : Int) (0 : Int) (0 : Int) (0 : Int) (0 : Int) false
      false (0 : Int)) (Ch.mk (0 : Int) (0 : Int) (0 : Int) (0 : Int) (0 : Int) (0 : Int) (0 : Int) false false (0 : Int)) (Ch.mk (0 : Int) (0 : Int) (0 : Int) (0 : Int) (0 :
      Int) (0 : Int) (0 : Int) false false (0 : Int)) (Ch.mk (0 : Int) (0 : Int) (0 : Int) (0 : Int) (0 : Int) (0 : Int) (0 : Int) false false (0 : Int))) (U4.mk (Ch.mk (0 :
      Int) (0 : Int) (0 : Int) (0 : Int) (0 : Int) (0 : Int) (0 : Int) false false (0 : Int)) (Ch.mk (0 : Int) (0 : Int) (0 : Int) (0 : Int) (0 : Int) (0 : Int) (0 : Int) false
      false (0 : Int)) (Ch.mk (0 : Int) (0 : Int) (0 : Int) (0 : Int) (0 : Int) (0 : Int) (0 : Int) false false (0 : Int)) (Ch.mk (0 : Int) (0 : Int) (0 : Int) (0 : Int) (0 :
      Int) (0 : Int) (0 : Int) false false (0 : Int))) ∧ (IntKind.i64.wrap (low.tmod (4 : Int) + (4 : Int))).tmod (4 : Int) < (IntKind.i64.wrap (high.tmod (4 : Int) + (4 :
      Int))).tmod (4 : Int) ∧ (0 : Int) ≤ (↑n : Int) ∧ n ≤ (100 : Nat)) ∧ True)) := by kernel_rfl
theorem first_pt (E : World) (a : Option Addr) (n c : Nat) (low high : Int) (z : PX) : (loopP (pe E) Try.f4 (endR ([] : List MB).length [] (.c .b) (fun _ y => y.b 90000 = true) z) (headR ([] : List MB).length Try.f4.ntmps none (first_hs E a n c low high z)) (run (pe E) (orcL E) (tabL fns) 20000 (2 ^ 200 - 1) [.code (Try.f4.body.getD .skip)] ⟨Try.f4.ntmps, mkFrGo (Tr.mk 12) 0 [.c (.es a n c), .c (.i false .i64 low), .c (.i false .i64 high)]⟩ (mkM z [] [] 0))) := by
    rw [first_pro]
    have hL : 0 ≤ (IntKind.i64.wrap (low.tmod 4 + 4)).tmod 4 ∧ (IntKind.i64.wrap (low.tmod 4 + 4)).tmod 4 ≤ 3 := by
      have a1 := Int.lt_tmod_of_pos low (b := 4) (by decide)
      have a2 := Int.tmod_lt_of_pos low (b := 4) (by decide)
      have e1 : IntKind.i64.wrap (low.tmod 4 + 4) = low.tmod 4 + 4 := by rw [wi64]; omega
      rw [e1, Int.tmod_eq_emod_of_nonneg (by omega)]; omega
    have hH : 0 ≤ (IntKind.i64.wrap (high.tmod 4 + 4)).tmod 4 ∧ (IntKind.i64.wrap (high.tmod 4 + 4)).tmod 4 ≤ 3 := by
      have a1 := Int.lt_tmod_of_pos high (b := 4) (by decide)
      have a2 := Int.tmod_lt_of_pos high (b := 4) (by decide)
      have e1 : IntKind.i64.wrap (high.tmod 4 + 4) = high.tmod 4 + 4 := by rw [wi64]; omega
      rw [e1, Int.tmod_eq_emod_of_nonneg (by omega)]; omega
    generalize (IntKind.i64.wrap (low.tmod 4 + 4)).tmod 4 = lo at hL ⊢
    generalize (IntKind.i64.wrap (high.tmod 4 + 4)).tmod 4 = hi at hH ⊢
    refine ⟨fun _ => by (repeat' (first | exact trivial | exact rfl | apply And.intro)), fun h => ?_⟩
    have hlt : lo < hi := by
      by_cases c : lo ≥ hi
      · rw [decide_eq_true c, cond_true] at h; cases h
      · omega
    have hn : n ≤ 100 := by
      rw [decide_eq_false (show ¬ lo ≥ hi by omega), cond_false] at h
      have := of_decide_eq_false h; omega
    obtain ⟨l0, l1⟩ := hL
    obtain ⟨i0, i1⟩ := hH
    have hq : EQ (U4.mk (Ch.mk 0 0 0 0 0 0 0 false false 0) (Ch.mk 0 0 0 0 0 0 0 false false 0) (Ch.mk 0 0 0 0 0 0 0 false false 0) (Ch.mk 0 0 0 0 0 0 0 false false 0)) (U4.mk (Ch.mk 0 0 0 0 0 0 0 false false 0) (Ch.mk 0 0 0 0 0 0 0 false false 0) (Ch.mk 0 0 0 0 0 0 0 false false 0) (Ch.mk 0 0 0 0 0 0 0 false false 0)) := ⟨rfl⟩
    (repeat' (first | exact trivial | with_reducible rfl | assumption | exact rfl | apply And.intro)) <;> omega
end Go.Proofs.Ytpddbhfebhpohaa

