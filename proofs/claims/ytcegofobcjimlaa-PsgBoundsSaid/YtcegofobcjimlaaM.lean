import Derived.Test.YtcegofobcjimlaaK
set_option linter.unusedVariables false
set_option linter.unusedSimpArgs false
namespace Go.Proofs.Ytcegofobcjimlaa
open Go Go.Proofs Go.Proofs.Ytcegofobcjimlaa.Ev Go.Proofs.Ytcegofobcjimlaa.Ev.Ho
set_option maxRecDepth 100000

theorem beat_p (E : World) (M : Bl) (S : SW) (z : PX) (k : Int) :
    (hoP false (uM M) S (.t []) (qN) z (fnTree (pe E) (orcC E) (tabL fns) 20000 Try.f21 [.c (.p 1 0), .c (.i false .i64 k)] (mkM z S (uM M) 0))) =
    (((k.tmod (2 : Int) == (0 : Int)) = true → ((M = M ∧ (50 : Nat) = (50 : Nat) ∧ (RG z) ∧ S = S) ∧ True) ∧ ∀ (y : PX), ((RG y) ∧ True) ∧ True ∧ y.n (100000 : Nat) = z.n
      (100000 : Nat) → ((M = M ∧ (50 : Nat) = (50 : Nat) ∧ (RG y) ∧ S = S) ∧ True) ∧ ∀ (y_1 : PX), ((RG y_1) ∧ True) ∧ True ∧ y_1.n (100000 : Nat) = y.n (100000 : Nat) → ((M = M
      ∧ (50 : Nat) = (50 : Nat) ∧ (RG y_1) ∧ S = S) ∧ True) ∧ ∀ (y : PX), ((RG y) ∧ True) ∧ True ∧ y.n (100000 : Nat) = y_1.n (100000 : Nat) → ((M = M ∧ (50 : Nat) = (50 : Nat)
      ∧ (RG y) ∧ S = S) ∧ True) ∧ ∀ (y_2 : PX), ((RG y_2) ∧ True) ∧ True ∧ y_2.n (100000 : Nat) = y.n (100000 : Nat) → ((k.tmod (4 : Int) == (0 : Int)) = true → ((M = M ∧ (50 :
      Nat) = (50 : Nat) ∧ (RG y_2) ∧ S = S) ∧ True) ∧ ∀ (y : PX), ((RG y) ∧ True) ∧ True ∧ y.n (100000 : Nat) = y_2.n (100000 : Nat) → ((k.tmod (8 : Int) == (0 : Int)) = true →
      ((M = M ∧ (50 : Nat) = (50 : Nat) ∧ (RG y) ∧ S = S) ∧ True) ∧ ∀ (y_3 : PX), ((RG y_3) ∧ True) ∧ True ∧ y_3.n (100000 : Nat) = y.n (100000 : Nat) → ((M = M ∧ (50 : Nat) =
      (50 : Nat) ∧ (RG y_3) ∧ S = S) ∧ True) ∧ ∀ (y : PX), ((RG y) ∧ True) ∧ True ∧ y.n (100000 : Nat) = y_3.n (100000 : Nat) → ((M = M ∧ (50 : Nat) = (50 : Nat) ∧ (RG y) ∧ S =
      S) ∧ True) ∧ ∀ (y_4 : PX), ((RG y_4) ∧ True) ∧ True ∧ y_4.n (100000 : Nat) = y.n (100000 : Nat) → True ∧ (M = M ∧ (50 : Nat) = (50 : Nat) ∧ (RG y_4) ∧ S = S) ∧ y_4.n
      (100000 : Nat) = z.n (100000 : Nat)) ∧ ((k.tmod (8 : Int) == (0 : Int)) = false → True ∧ (M = M ∧ (50 : Nat) = (50 : Nat) ∧ (RG y) ∧ S = S) ∧ y.n (100000 : Nat) = z.n
      (100000 : Nat))) ∧ ((k.tmod (4 : Int) == (0 : Int)) = false → ((k.tmod (8 : Int) == (0 : Int)) = true → ((M = M ∧ (50 : Nat) = (50 : Nat) ∧ (RG y_2) ∧ S = S) ∧ True) ∧ ∀
      (y : PX), ((RG y) ∧ True) ∧ True ∧ y.n (100000 : Nat) = y_2.n (100000 : Nat) → ((M = M ∧ (50 : Nat) = (50 : Nat) ∧ (RG y) ∧ S = S) ∧ True) ∧ ∀ (y_3 : PX), ((RG y_3) ∧
      True) ∧ True ∧ y_3.n (100000 : Nat) = y.n (100000 : Nat) → ((M = M ∧ (50 : Nat) = (50 : Nat) ∧ (RG y_3) ∧ S = S) ∧ True) ∧ ∀ (y : PX), ((RG y) ∧ True) ∧ True ∧ y.n (100000
      : Nat) = y_3.n (100000 : Nat) → True ∧ (M = M ∧ (50 : Nat) = (50 : Nat) ∧ (RG y) ∧ S = S) ∧ y.n (100000 : Nat) = z.n (100000 : Nat)) ∧ ((k.tmod (8 : Int) == (0 : Int)) =
      false → True ∧ (M = M ∧ (50 : Nat) = (50 : Nat) ∧ (RG y_2) ∧ S = S) ∧ y_2.n (100000 : Nat) = z.n (100000 : Nat)))) ∧ ((k.tmod (2 : Int) == (0 : Int)) = false → ((k.tmod (4
      : Int) == (0 : Int)) = true → ((M = M ∧ (50 : Nat) = (50 : Nat) ∧ (RG z) ∧ S = S) ∧ True) ∧ ∀ (y : PX), ((RG y) ∧ True) ∧ True ∧ y.n (100000 : Nat) = z.n (100000 : Nat) →
      ((k.tmod (8 : Int) == (0 : Int)) = true → ((M = M ∧ (50 : Nat) = (50 : Nat) ∧ (RG y) ∧ S = S) ∧ True) ∧ ∀ (y_1 : PX), ((RG y_1) ∧ True) ∧ True ∧ y_1.n (100000 : Nat) = y.n
      (100000 : Nat) → ((M = M ∧ (50 : Nat) = (50 : Nat) ∧ (RG y_1) ∧ S = S) ∧ True) ∧ ∀ (y : PX), ((RG y) ∧ True) ∧ True ∧ y.n (100000 : Nat) = y_1.n (100000 : Nat) → ((M = M ∧
      (50 : Nat) = (50 : Nat) ∧ (RG y) ∧ S = S) ∧ True) ∧ ∀ (y_2 : PX), ((RG y_2) ∧ True) ∧ True ∧ y_2.n (100000 : Nat) = y.n (100000 : Nat) → True ∧ (M = M ∧ (50 : Nat) = (50 :
      Nat) ∧ (RG y_2) ∧ S = S) ∧ y_2.n (100000 : Nat) = z.n (100000 : Nat)) ∧ ((k.tmod (8 : Int) == (0 : Int)) = false → True ∧ (M = M ∧ (50 : Nat) = (50 : Nat) ∧ (RG y) ∧ S =
      S) ∧ y.n (100000 : Nat) = z.n (100000 : Nat))) ∧ ((k.tmod (4 : Int) == (0 : Int)) = false → ((k.tmod (8 : Int) == (0 : Int)) = true → ((M = M ∧ (50 : Nat) = (50 : Nat) ∧
      (RG z) ∧ S = S) ∧ True) ∧ ∀ (y : PX), ((RG y) ∧ True) ∧ True ∧ y.n (100000 : Nat) = z.n (100000 : Nat) → ((M = M ∧ (50 : Nat) = (50 : Nat) ∧ (RG y) ∧ S = S) ∧ True) ∧ ∀
      (y_1 : PX), ((RG y_1) ∧ True) ∧ True ∧ y_1.n (100000 : Nat) = y.n (100000 : Nat) → ((M = M ∧ (50 : Nat) = (50 : Nat) ∧ (RG y_1) ∧ S = S) ∧ True) ∧ ∀ (y : PX), ((RG y) ∧
      True) ∧ True ∧ y.n (100000 : Nat) = y_1.n (100000 : Nat) → True ∧ (M = M ∧ (50 : Nat) = (50 : Nat) ∧ (RG y) ∧ S = S) ∧ y.n (100000 : Nat) = z.n (100000 : Nat)) ∧ ((k.tmod
      (8 : Int) == (0 : Int)) = false → True ∧ (M = M ∧ (50 : Nat) = (50 : Nat) ∧ (RG z) ∧ S = S) ∧ z.n (100000 : Nat) = z.n (100000 : Nat))))) := by kernel_rfl
theorem beat_c (E : World) (M : Bl) (S : SW) (k : Int) (z : PX) (hz : rgM z (uM M) 0) (hp : (fun _ => True) z) : HC (pe E) 21 [.c (.p 1 0), .c (.i false .i64 k)] (uM M) S (.t []) (qN) z := by
  refine HC.mk false (by rfl) (by rfl) (by rfl) (by rfl) (fnTree_sound (P := pe E) orcC_ok tab_ok tab_sz mixed 20000 Try.func21 (by decide) [.c (.p 1 0), .c (.i false .i64 k)] _) ⟨?_⟩
  rw [beat_p]
  obtain ⟨h0, h4, h5, h6, h7, h8, h11, h16, h17, h18, h19, h20, h23, h28, h29, h30, h31, h32, h35, h40, h41, h42, h43, h44, h47, h50, h86, h88, h92, h93, _⟩ := rg_u hz
  (repeat' (first | assumption | exact trivial | exact rfl | apply And.intro | (rintro y ⟨⟨⟨h0, h4, h5, h6, h7, h8, h11, h16, h17, h18, h19, h20, h23, h28, h29, h30, h31, h32, h35, h40, h41, h42, h43, h44, h47, h50, h86, h88, h92, h93, _⟩, _⟩, _, hq⟩; (try rw [hq])) | (rintro y ⟨⟨hr, _⟩, hq⟩) | intro _)) <;> ((try simp only [wi64, wu16, Bool.not_eq_true', Bool.not_eq_false', Bool.and_eq_true, Bool.or_eq_true, beq_iff_eq, bne_iff_ne, ne_eq, beq_eq_false_iff_ne, bne_eq_false_iff_eq, decide_eq_true_eq, decide_eq_false_iff_not] at *) <;> (repeat' split) <;> omega)
theorem play_p (E : World) (M : Bl) (S : SW) (z : PX)  :
    (hoPr false (uM M) S (.c (.r .i64 0 15)) (fun z y => y.n 90000 = cond (z.b 100001) 1 0 + cond (z.b 100013) 2 0 + cond (z.b 100025) 4 0 + cond (z.b 100037) 8 0) z (fnTree (pe E) (orcC E) (tabL fns) 20000 Try.f11 [.c (.p 1 0)] (mkM z S (uM M) 0))) =
    ((z.b (100001 : Nat) = true → (z.b (100013 : Nat) = true → (z.b (100025 : Nat) = true → (z.b (100037 : Nat) = true → (((0 : Int) ≤ (15 : Int) ∧ (15 : Int) ≤ (15 : Int)) ∧
      True) ∧ mkM z S (uM M) (0 : Nat) = mkM z S (uM M) (0 : Nat) ∧ (15 : Int) = (((bif z.b (100001 : Nat) then (1 : Int) else (0 : Int)) + bif z.b (100013 : Nat) then (2 : Int)
      else (0 : Int)) + bif z.b (100025 : Nat) then (4 : Int) else (0 : Int)) + bif z.b (100037 : Nat) then (8 : Int) else (0 : Int)) ∧ (z.b (100037 : Nat) = false → (((0 : Int)
      ≤ (7 : Int) ∧ (7 : Int) ≤ (15 : Int)) ∧ True) ∧ mkM z S (uM M) (0 : Nat) = mkM z S (uM M) (0 : Nat) ∧ (7 : Int) = (((bif z.b (100001 : Nat) then (1 : Int) else (0 : Int))
      + bif z.b (100013 : Nat) then (2 : Int) else (0 : Int)) + bif z.b (100025 : Nat) then (4 : Int) else (0 : Int)) + bif z.b (100037 : Nat) then (8 : Int) else (0 : Int))) ∧
      (z.b (100025 : Nat) = false → (z.b (100037 : Nat) = true → (((0 : Int) ≤ (11 : Int) ∧ (11 : Int) ≤ (15 : Int)) ∧ True) ∧ mkM z S (uM M) (0 : Nat) = mkM z S (uM M) (0 :
      Nat) ∧ (11 : Int) = (((bif z.b (100001 : Nat) then (1 : Int) else (0 : Int)) + bif z.b (100013 : Nat) then (2 : Int) else (0 : Int)) + bif z.b (100025 : Nat) then (4 :
      Int) else (0 : Int)) + bif z.b (100037 : Nat) then (8 : Int) else (0 : Int)) ∧ (z.b (100037 : Nat) = false → (((0 : Int) ≤ (3 : Int) ∧ (3 : Int) ≤ (15 : Int)) ∧ True) ∧
      mkM z S (uM M) (0 : Nat) = mkM z S (uM M) (0 : Nat) ∧ (3 : Int) = (((bif z.b (100001 : Nat) then (1 : Int) else (0 : Int)) + bif z.b (100013 : Nat) then (2 : Int) else (0
      : Int)) + bif z.b (100025 : Nat) then (4 : Int) else (0 : Int)) + bif z.b (100037 : Nat) then (8 : Int) else (0 : Int)))) ∧ (z.b (100013 : Nat) = false → (z.b (100025 :
      Nat) = true → (z.b (100037 : Nat) = true → (((0 : Int) ≤ (13 : Int) ∧ (13 : Int) ≤ (15 : Int)) ∧ True) ∧ mkM z S (uM M) (0 : Nat) = mkM z S (uM M) (0 : Nat) ∧ (13 : Int) =
      (((bif z.b (100001 : Nat) then (1 : Int) else (0 : Int)) + bif z.b (100013 : Nat) then (2 : Int) else (0 : Int)) + bif z.b (100025 : Nat) then (4 : Int) else (0 : Int)) +
      bif z.b (100037 : Nat) then (8 : Int) else (0 : Int)) ∧ (z.b (100037 : Nat) = false → (((0 : Int) ≤ (5 : Int) ∧ (5 : Int) ≤ (15 : Int)) ∧ True) ∧ mkM z S (uM M) (0 : Nat)
      = mkM z S (uM M) (0 : Nat) ∧ (5 : Int) = (((bif z.b (100001 : Nat) then (1 : Int) else (0 : Int)) + bif z.b (100013 : Nat) then (2 : Int) else (0 : Int)) + bif z.b (100025
      : Nat) then (4 : Int) else (0 : Int)) + bif z.b (100037 : Nat) then (8 : Int) else (0 : Int))) ∧ (z.b (100025 : Nat) = false → (z.b (100037 : Nat) = true → (((0 : Int) ≤
      (9 : Int) ∧ (9 : Int) ≤ (15 : Int)) ∧ True) ∧ mkM z S (uM M) (0 : Nat) = mkM z S (uM M) (0 : Nat) ∧ (9 : Int) = (((bif z.b (100001 : Nat) then (1 : Int) else (0 : Int)) +
      bif z.b (100013 : Nat) then (2 : Int) else (0 : Int)) + bif z.b (100025 : Nat) then (4 : Int) else (0 : Int)) + bif z.b (100037 : Nat) then (8 : Int) else (0 : Int)) ∧
      (z.b (100037 : Nat) = false → (((0 : Int) ≤ (1 : Int) ∧ (1 : Int) ≤ (15 : Int)) ∧ True) ∧ mkM z S (uM M) (0 : Nat) = mkM z S (uM M) (0 : Nat) ∧ (1 : Int) = (((bif z.b
      (100001 : Nat) then (1 : Int) else (0 : Int)) + bif z.b (100013 : Nat) then (2 : Int) else (0 : Int)) + bif z.b (100025 : Nat) then (4 : Int) else (0 : Int)) + bif z.b
      (100037 : Nat) then (8 : Int) else (0 : Int))))) ∧ (z.b (100001 : Nat) = false → (z.b (100013 : Nat) = true → (z.b (100025 : Nat) = true → (z.b (100037 : Nat) = true →
      (((0 : Int) ≤ (14 : Int) ∧ (14 : Int) ≤ (15 : Int)) ∧ True) ∧ mkM z S (uM M) (0 : Nat) = mkM z S (uM M) (0 : Nat) ∧ (14 : Int) = (((bif z.b (100001 : Nat) then (1 : Int)
      else (0 : Int)) + bif z.b (100013 : Nat) then (2 : Int) else (0 : Int)) + bif z.b (100025 : Nat) then (4 : Int) else (0 : Int)) + bif z.b (100037 : Nat) then (8 : Int)
      else (0 : Int)) ∧ (z.b (100037 : Nat) = false → (((0 : Int) ≤ (6 : Int) ∧ (6 : Int) ≤ (15 : Int)) ∧ True) ∧ mkM z S (uM M) (0 : Nat) = mkM z S (uM M) (0 : Nat) ∧ (6 : Int)
      = (((bif z.b (100001 : Nat) then (1 : Int) else (0 : Int)) + bif z.b (100013 : Nat) then (2 : Int) else (0 : Int)) + bif z.b (100025 : Nat) then (4 : Int) else (0 : Int))
      + bif z.b (100037 : Nat) then (8 : Int) else (0 : Int))) ∧ (z.b (100025 : Nat) = false → (z.b (100037 : Nat) = true → (((0 : Int) ≤ (10 : Int) ∧ (10 : Int) ≤ (15 : Int)) ∧
      True) ∧ mkM z S (uM M) (0 : Nat) = mkM z S (uM M) (0 : Nat) ∧ (10 : Int) = (((bif z.b (100001 : Nat) then (1 : Int) else (0 : Int)) + bif z.b (100013 : Nat) then (2 : Int)
      else (0 : Int)) + bif z.b (100025 : Nat) then (4 : Int) else (0 : Int)) + bif z.b (100037 : Nat) then (8 : Int) else (0 : Int)) ∧ (z.b (100037 : Nat) = false → (((0 : Int)
      ≤ (2 : Int) ∧ (2 : Int) ≤ (15 : Int)) ∧ True) ∧ mkM z S (uM M) (0 : Nat) = mkM z S (uM M) (0 : Nat) ∧ (2 : Int) = (((bif z.b (100001 : Nat) then (1 : Int) else (0 : Int))
      + bif z.b (100013 : Nat) then (2 : Int) else (0 : Int)) + bif z.b (100025 : Nat) then (4 : Int) else (0 : Int)) + bif z.b (100037 : Nat) then (8 : Int) else (0 : Int)))) ∧
      (z.b (100013 : Nat) = false → (z.b (100025 : Nat) = true → (z.b (100037 : Nat) = true → (((0 : Int) ≤ (12 : Int) ∧ (12 : Int) ≤ (15 : Int)) ∧ True) ∧ mkM z S (uM M) (0 :
      Nat) = mkM z S (uM M) (0 : Nat) ∧ (12 : Int) = (((bif z.b (100001 : Nat) then (1 : Int) else (0 : Int)) + bif z.b (100013 : Nat) then (2 : Int) else (0 : Int)) + bif z.b
      (100025 : Nat) then (4 : Int) else (0 : Int)) + bif z.b (100037 : Nat) then (8 : Int) else (0 : Int)) ∧ (z.b (100037 : Nat) = false → (((0 : Int) ≤ (4 : Int) ∧ (4 : Int) ≤
      (15 : Int)) ∧ True) ∧ mkM z S (uM M) (0 : Nat) = mkM z S (uM M) (0 : Nat) ∧ (4 : Int) = (((bif z.b (100001 : Nat) then (1 : Int) else (0 : Int)) + bif z.b (100013 : Nat)
      then (2 : Int) else (0 : Int)) + bif z.b (100025 : Nat) then (4 : Int) else (0 : Int)) + bif z.b (100037 : Nat) then (8 : Int) else (0 : Int))) ∧ (z.b (100025 : Nat) =
      false → (z.b (100037 : Nat) = true → (((0 : Int) ≤ (8 : Int) ∧ (8 : Int) ≤ (15 : Int)) ∧ True) ∧ mkM z S (uM M) (0 : Nat) = mkM z S (uM M) (0 : Nat) ∧ (8 : Int) = (((bif
      z.b (100001 : Nat) then (1 : Int) else (0 : Int)) + bif z.b (100013 : Nat) then (2 : Int) else (0 : Int)) + bif z.b (100025 : Nat) then (4 : Int) else (0 : Int)) + bif z.b
      (100037 : Nat) then (8 : Int) else (0 : Int)) ∧ (z.b (100037 : Nat) = false → (((0 : Int) ≤ (0 : Int) ∧ (0 : Int) ≤ (15 : Int)) ∧ True) ∧ mkM z S (uM M) (0 : Nat) = mkM z
      S (uM M) (0 : Nat) ∧ (0 : Int) = (((bif z.b (100001 : Nat) then (1 : Int) else (0 : Int)) + bif z.b (100013 : Nat) then (2 : Int) else (0 : Int)) + bif z.b (100025 : Nat)
      then (4 : Int) else (0 : Int)) + bif z.b (100037 : Nat) then (8 : Int) else (0 : Int)))))) := by kernel_rfl
theorem play_c (E : World) (M : Bl) (S : SW)  (z : PX) (hz : rgM z (uM M) 0) (hp : (fun _ => True) z) : HR (pe E) 11 [.c (.p 1 0)] (uM M) S (.c (.r .i64 0 15)) (fun z y => y.n 90000 = cond (z.b 100001) 1 0 + cond (z.b 100013) 2 0 + cond (z.b 100025) 4 0 + cond (z.b 100037) 8 0) z := by
  refine HR.mk false (by rfl) (by rfl) (fnTree_sound (P := pe E) orcC_ok tab_ok tab_sz mixed 20000 Try.func11 (by decide) [.c (.p 1 0)] _) ⟨?_⟩
  rw [play_p]
  obtain ⟨h0, h4, h5, h6, h7, h8, h11, h16, h17, h18, h19, h20, h23, h28, h29, h30, h31, h32, h35, h40, h41, h42, h43, h44, h47, h50, h86, h88, h92, h93, _⟩ := rg_u hz
  cases z.b 100001 <;> cases z.b 100013 <;> cases z.b 100025 <;> cases z.b 100037 <;> simp
noncomputable def orcR (E : World) : Orc := fun g vs s => match g, vs, s with
  | 22, [.c (.p 1 0), .c (.i _ .i64 k)], M :: B :: S => some (hoT (pre := fun _ => -9223372036854775808 ≤ k ∧ k ≤ 9223372036854775807) (fun z => turn_c E M S k z) (by rfl) (M :: B :: S))
  | 20, [.c (.p 1 0), .c (.i _ .i64 k)], M :: B :: S => some (hoT (pre := fun _ => 0 ≤ k ∧ k ≤ 32768) (fun z => pass_c E M S k z) (by rfl) (M :: B :: S))
  | 21, [.c (.p 1 0), .c (.i _ .i64 k)], M :: B :: S => some (hoT (pre := fun _ => True) (fun z => beat_c E M S k z) (by rfl) (M :: B :: S))
  | 11, [.c (.p 1 0)], M :: B :: S => some (hoTr (pre := fun _ => True) (fun z => play_c E M S  z) (by rfl) (M :: B :: S))
  | g, vs, s => (orcC E) g vs s
theorem orcR_ok {E : World} : OrcOK (pe E) (orcR E) := by
  intro g vs s t h
  unfold orcR at h
  split at h
  · cases h; refine CallTree.args ?_ (hoT_ok _ _ _ (by first | rfl | (simp only [List.length_cons, List.length_nil, uM]; omega))); simp [simL, SV.sim, C.sim]
  · cases h; refine CallTree.args ?_ (hoT_ok _ _ _ (by first | rfl | (simp only [List.length_cons, List.length_nil, uM]; omega))); simp [simL, SV.sim, C.sim]
  · cases h; refine CallTree.args ?_ (hoT_ok _ _ _ (by first | rfl | (simp only [List.length_cons, List.length_nil, uM]; omega))); simp [simL, SV.sim, C.sim]
  · cases h; refine CallTree.args ?_ (hoTr_ok _ _ _ (by first | rfl | (simp only [List.length_cons, List.length_nil, uM]; omega)) (by rfl)); simp [simL, SV.sim, C.sim]
  · exact orcC_ok _ _ _ _ h
noncomputable def run_td (E : World) : List Item := headOf (run (pe E) (orcR E) (tabL fns) 20000 (2 ^ 200 - 1) [.code (Try.f12.body.getD .skip)] ⟨Try.f12.ntmps, mkFrGo (Tr.mk 12) 0 [.c (.p 1 0), .c (.i true .i64 1)]⟩ (mkM default [] (uM ⟨[], 0⟩) 0))
noncomputable def run_hs (E : World) (M : Bl) (S : SW) (z : PX) (k : Int) : List Head := [⟨4, anyK, (run_td E), [(0, .c (.p 1 0)), (1, .r .i64 (0) (2199023255552)), (4, .r .i64 (-9223372036854775808) (9223372036854775807))], (uM M), fun y => y.n 91001 = k ∧ y.n 100000 ≤ k, fun y => (k - y.n 100000).toNat⟩]
theorem run_pro (E : World) (M : Bl) (S : SW) (z : PX) (k : Int) :
    (loopP (pe E) Try.f12 (endP false (uM M) S (.t []) (fun _ _ => True) z) (headP false S Try.f12.ntmps none (run_hs E M S z k)) (run (pe E) (orcR E) (tabL fns) 20000 (2 ^ 200 - 1) [.code (Try.f12.body.getD .skip)] ⟨Try.f12.ntmps, mkFrGo (Tr.mk 12) 0 [.c (.p 1 0), .c (.i false .i64 k)]⟩ (mkM z S (uM M) 0))) =
    ((decide (k ≤ z.n (100000 : Nat)) = true → True ∧ (M = M ∧ (50 : Nat) = (50 : Nat) ∧ (RG z) ∧ S = S) ∧ True) ∧ (decide (k ≤ z.n (100000 : Nat)) = false → (decide (k >
      (2199023255552 : Int)) = true → True ∧ (M = M ∧ (50 : Nat) = (50 : Nat) ∧ (RG z) ∧ S = S) ∧ True) ∧ (decide (k > (2199023255552 : Int)) = false → run_td E = run_td E ∧ (68
      : Nat) = (68 : Nat) ∧ (True ∧ (((0 : Int) ≤ k ∧ k ≤ (2199023255552 : Int)) ∧ True) ∧ (((-9223372036854775808 : Int) ≤ (0 : Int) ∧ (0 : Int) ≤ (9223372036854775807 : Int))
      ∧ True) ∧ True) ∧ (M = M ∧ (50 : Nat) = (50 : Nat) ∧ (RG z) ∧ S = S) ∧ (k = k ∧ z.n (100000 : Nat) ≤ k) ∧ True))) := by kernel_rfl
theorem run_r0 (E : World) (M : Bl) (S : SW) (z : PX) (k : Int) (y : PX) :
    (loopP (pe E) Try.f12 (endP false (uM M) S (.t []) (fun _ _ => True) z) (headP false S Try.f12.ntmps (some ((fun y => (k - y.n 100000).toNat) y)) (run_hs E M S z k))  (run (pe E) (orcR E) (tabL fns) 20000 (2 ^ 200 - 1) (run_td E) (mkL Try.f12.ntmps (slC y [(0, .c (.p 1 0)), (1, .r .i64 (0) (2199023255552)), (4, .r .i64 (-9223372036854775808) (9223372036854775807))])) (mkM y S (uM M) 0))) =
    ((decide (y.n (100000 : Nat) < y.n (91001 : Nat)) = true → ((M = M ∧ (50 : Nat) = (50 : Nat) ∧ (RG y) ∧ S = S) ∧ True) ∧ ∀ (y_1 : PX), ((((0 : Int) ≤ y_1.n (90000 : Nat) ∧
      y_1.n (90000 : Nat) ≤ (15 : Int)) ∧ True) ∧ y_1.n (90000 : Nat) = (((bif y.b (100001 : Nat) then (1 : Int) else (0 : Int)) + bif y.b (100013 : Nat) then (2 : Int) else (0
      : Int)) + bif y.b (100025 : Nat) then (4 : Int) else (0 : Int)) + bif y.b (100037 : Nat) then (8 : Int) else (0 : Int)) → ((y_1.n (90000 : Nat) != (0 : Int)) = true → ((M
      = M ∧ (50 : Nat) = (50 : Nat) ∧ (RG y) ∧ S = S) ∧ (0 : Int) ≤ IntKind.i64.wrap ((if IntKind.i64.wrap (IntKind.i64.wrap (IntKind.i64.wrap ((y.n (100000 : Nat)).tdiv (32768
      : Int)) + (1 : Int)) * (32768 : Int)) < y.n (91001 : Nat) then IntKind.i64.wrap (IntKind.i64.wrap (IntKind.i64.wrap ((y.n (100000 : Nat)).tdiv (32768 : Int)) + (1 : Int))
      * (32768 : Int)) else y.n (91001 : Nat)) - y.n (100000 : Nat)) ∧ IntKind.i64.wrap ((if IntKind.i64.wrap (IntKind.i64.wrap (IntKind.i64.wrap ((y.n (100000 : Nat)).tdiv
      (32768 : Int)) + (1 : Int)) * (32768 : Int)) < y.n (91001 : Nat) then IntKind.i64.wrap (IntKind.i64.wrap (IntKind.i64.wrap ((y.n (100000 : Nat)).tdiv (32768 : Int)) + (1 :
      Int)) * (32768 : Int)) else y.n (91001 : Nat)) - y.n (100000 : Nat)) ≤ (32768 : Int)) ∧ ∀ (y_2 : PX), ((RG y_2) ∧ True) ∧ True ∧ y_2.n (100000 : Nat) = y.n (100000 : Nat)
      → (((if IntKind.i64.wrap (IntKind.i64.wrap (IntKind.i64.wrap ((y.n (100000 : Nat)).tdiv (32768 : Int)) + (1 : Int)) * (32768 : Int)) < y.n (91001 : Nat) then
      IntKind.i64.wrap (IntKind.i64.wrap (IntKind.i64.wrap ((y.n (100000 : Nat)).tdiv (32768 : Int)) + (1 : Int)) * (32768 : Int)) else y.n (91001 : Nat)).tmod (32768 : Int) ==
      (0 : Int)) = true → ((M = M ∧ (50 : Nat) = (50 : Nat) ∧ ((((0 : Int) ≤ if IntKind.i64.wrap (IntKind.i64.wrap (IntKind.i64.wrap ((y.n (100000 : Nat)).tdiv (32768 : Int)) +
      (1 : Int)) * (32768 : Int)) < y.n (91001 : Nat) then IntKind.i64.wrap (IntKind.i64.wrap (IntKind.i64.wrap ((y.n (100000 : Nat)).tdiv (32768 : Int)) + (1 : Int)) * (32768 :
      Int)) else y.n (91001 : Nat)) ∧ (if IntKind.i64.wrap (IntKind.i64.wrap (IntKind.i64.wrap ((y.n (100000 : Nat)).tdiv (32768 : Int)) + (1 : Int)) * (32768 : Int)) < y.n
      (91001 : Nat) then IntKind.i64.wrap (IntKind.i64.wrap (IntKind.i64.wrap ((y.n (100000 : Nat)).tdiv (32768 : Int)) + (1 : Int)) * (32768 : Int)) else y.n (91001 : Nat)) ≤
      (2199023255552 : Int)) ∧ ((0 : Int) ≤ y_2.n (100004 : Nat) ∧ y_2.n (100004 : Nat) ≤ (2047 : Int)) ∧ ((0 : Int) ≤ y_2.n (100005 : Nat) ∧ y_2.n (100005 : Nat) ≤ (63 : Int))
      ∧ ((0 : Int) ≤ y_2.n (100006 : Nat) ∧ y_2.n (100006 : Nat) ≤ (16777216 : Int)) ∧ ((0 : Int) ≤ y_2.n (100007 : Nat) ∧ y_2.n (100007 : Nat) ≤ (3 : Int)) ∧ ((0 : Int) ≤ y_2.n
      (100008 : Nat) ∧ y_2.n (100008 : Nat) ≤ (15 : Int)) ∧ ((0 : Int) ≤ y_2.n (100011 : Nat) ∧ y_2.n (100011 : Nat) ≤ (15 : Int)) ∧ ((0 : Int) ≤ y_2.n (100016 : Nat) ∧ y_2.n
      (100016 : Nat) ≤ (2047 : Int)) ∧ ((0 : Int) ≤ y_2.n (100017 : Nat) ∧ y_2.n (100017 : Nat) ≤ (63 : Int)) ∧ ((0 : Int) ≤ y_2.n (100018 : Nat) ∧ y_2.n (100018 : Nat) ≤
      (16777216 : Int)) ∧ ((0 : Int) ≤ y_2.n (100019 : Nat) ∧ y_2.n (100019 : Nat) ≤ (3 : Int)) ∧ ((0 : Int) ≤ y_2.n (100020 : Nat) ∧ y_2.n (100020 : Nat) ≤ (15 : Int)) ∧ ((0 :
      Int) ≤ y_2.n (100023 : Nat) ∧ y_2.n (100023 : Nat) ≤ (15 : Int)) ∧ ((0 : Int) ≤ y_2.n (100028 : Nat) ∧ y_2.n (100028 : Nat) ≤ (2047 : Int)) ∧ ((0 : Int) ≤ y_2.n (100029 :
      Nat) ∧ y_2.n (100029 : Nat) ≤ (63 : Int)) ∧ ((0 : Int) ≤ y_2.n (100030 : Nat) ∧ y_2.n (100030 : Nat) ≤ (16777216 : Int)) ∧ ((0 : Int) ≤ y_2.n (100031 : Nat) ∧ y_2.n
      (100031 : Nat) ≤ (3 : Int)) ∧ ((0 : Int) ≤ y_2.n (100032 : Nat) ∧ y_2.n (100032 : Nat) ≤ (15 : Int)) ∧ ((0 : Int) ≤ y_2.n (100035 : Nat) ∧ y_2.n (100035 : Nat) ≤ (15 :
      Int)) ∧ ((0 : Int) ≤ y_2.n (100040 : Nat) ∧ y_2.n (100040 : Nat) ≤ (2047 : Int)) ∧ ((0 : Int) ≤ y_2.n (100041 : Nat) ∧ y_2.n (100041 : Nat) ≤ (63 : Int)) ∧ ((0 : Int) ≤
      y_2.n (100042 : Nat) ∧ y_2.n (100042 : Nat) ≤ (16777216 : Int)) ∧ ((0 : Int) ≤ y_2.n (100043 : Nat) ∧ y_2.n (100043 : Nat) ≤ (3 : Int)) ∧ ((0 : Int) ≤ y_2.n (100044 : Nat)
      ∧ y_2.n (100044 : Nat) ≤ (15 : Int)) ∧ ((0 : Int) ≤ y_2.n (100047 : Nat) ∧ y_2.n (100047 : Nat) ≤ (15 : Int)) ∧ ((0 : Int) ≤ y_2.n (100050 : Nat) ∧ y_2.n (100050 : Nat) ≤
      (7 : Int)) ∧ ((0 : Int) ≤ y_2.n (100086 : Nat) ∧ y_2.n (100086 : Nat) ≤ (1 : Int)) ∧ ((0 : Int) ≤ y_2.n (100088 : Nat) ∧ y_2.n (100088 : Nat) ≤ (4 : Int)) ∧ ((0 : Int) ≤
      y_2.n (100092 : Nat) ∧ y_2.n (100092 : Nat) ≤ (15 : Int)) ∧ ((0 : Int) ≤ y_2.n (100093 : Nat) ∧ y_2.n (100093 : Nat) ≤ (7 : Int)) ∧ True) ∧ S = S) ∧ True) ∧ ∀ (y_3 : PX),
      (((RG y_3) ∧ True) ∧ True ∧ y_3.n (100000 : Nat) = if IntKind.i64.wrap (IntKind.i64.wrap (IntKind.i64.wrap ((y.n (100000 : Nat)).tdiv (32768 : Int)) + (1 : Int)) * (32768
      : Int)) < y.n (91001 : Nat) then IntKind.i64.wrap (IntKind.i64.wrap (IntKind.i64.wrap ((y.n (100000 : Nat)).tdiv (32768 : Int)) + (1 : Int)) * (32768 : Int)) else y.n
      (91001 : Nat)) → run_td E = run_td E ∧ (68 : Nat) = (68 : Nat) ∧ (True ∧ (((0 : Int) ≤ y.n (91001 : Nat) ∧ y.n (91001 : Nat) ≤ (2199023255552 : Int)) ∧ True) ∧
      (((-9223372036854775808 : Int) ≤ IntKind.i64.wrap (y.n (91004 : Nat) + y_2.n (90000 : Nat)) ∧ IntKind.i64.wrap (y.n (91004 : Nat) + y_2.n (90000 : Nat)) ≤
      (9223372036854775807 : Int)) ∧ True) ∧ True) ∧ (M = M ∧ (50 : Nat) = (50 : Nat) ∧ (RG y_3) ∧ S = S) ∧ (y.n (91001 : Nat) = k ∧ y_3.n (100000 : Nat) ≤ k) ∧ (k - y_3.n
      (100000 : Nat)).toNat < (k - y.n (100000 : Nat)).toNat ∧ True) ∧ (((if IntKind.i64.wrap (IntKind.i64.wrap (IntKind.i64.wrap ((y.n (100000 : Nat)).tdiv (32768 : Int)) + (1
      : Int)) * (32768 : Int)) < y.n (91001 : Nat) then IntKind.i64.wrap (IntKind.i64.wrap (IntKind.i64.wrap ((y.n (100000 : Nat)).tdiv (32768 : Int)) + (1 : Int)) * (32768 :
      Int)) else y.n (91001 : Nat)).tmod (32768 : Int) == (0 : Int)) = false → run_td E = run_td E ∧ (68 : Nat) = (68 : Nat) ∧ (True ∧ (((0 : Int) ≤ y.n (91001 : Nat) ∧ y.n
      (91001 : Nat) ≤ (2199023255552 : Int)) ∧ True) ∧ (((-9223372036854775808 : Int) ≤ IntKind.i64.wrap (y.n (91004 : Nat) + y_2.n (90000 : Nat)) ∧ IntKind.i64.wrap (y.n (91004
      : Nat) + y_2.n (90000 : Nat)) ≤ (9223372036854775807 : Int)) ∧ True) ∧ True) ∧ (M = M ∧ (50 : Nat) = (50 : Nat) ∧ ((((0 : Int) ≤ if IntKind.i64.wrap (IntKind.i64.wrap
      (IntKind.i64.wrap ((y.n (100000 : Nat)).tdiv (32768 : Int)) + (1 : Int)) * (32768 : Int)) < y.n (91001 : Nat) then IntKind.i64.wrap (IntKind.i64.wrap (IntKind.i64.wrap
      ((y.n (100000 : Nat)).tdiv (32768 : Int)) + (1 : Int)) * (32768 : Int)) else y.n (91001 : Nat)) ∧ (if IntKind.i64.wrap (IntKind.i64.wrap (IntKind.i64.wrap ((y.n (100000 :
      Nat)).tdiv (32768 : Int)) + (1 : Int)) * (32768 : Int)) < y.n (91001 : Nat) then IntKind.i64.wrap (IntKind.i64.wrap (IntKind.i64.wrap ((y.n (100000 : Nat)).tdiv (32768 :
      Int)) + (1 : Int)) * (32768 : Int)) else y.n (91001 : Nat)) ≤ (2199023255552 : Int)) ∧ ((0 : Int) ≤ y_2.n (100004 : Nat) ∧ y_2.n (100004 : Nat) ≤ (2047 : Int)) ∧ ((0 :
      Int) ≤ y_2.n (100005 : Nat) ∧ y_2.n (100005 : Nat) ≤ (63 : Int)) ∧ ((0 : Int) ≤ y_2.n (100006 : Nat) ∧ y_2.n (100006 : Nat) ≤ (16777216 : Int)) ∧ ((0 : Int) ≤ y_2.n
      (100007 : Nat) ∧ y_2.n (100007 : Nat) ≤ (3 : Int)) ∧ ((0 : Int) ≤ y_2.n (100008 : Nat) ∧ y_2.n (100008 : Nat) ≤ (15 : Int)) ∧ ((0 : Int) ≤ y_2.n (100011 : Nat) ∧ y_2.n
      (100011 : Nat) ≤ (15 : Int)) ∧ ((0 : Int) ≤ y_2.n (100016 : Nat) ∧ y_2.n (100016 : Nat) ≤ (2047 : Int)) ∧ ((0 : Int) ≤ y_2.n (100017 : Nat) ∧ y_2.n (100017 : Nat) ≤ (63 :
      Int)) ∧ ((0 : Int) ≤ y_2.n (100018 : Nat) ∧ y_2.n (100018 : Nat) ≤ (16777216 : Int)) ∧ ((0 : Int) ≤ y_2.n (100019 : Nat) ∧ y_2.n (100019 : Nat) ≤ (3 : Int)) ∧ ((0 : Int) ≤
      y_2.n (100020 : Nat) ∧ y_2.n (100020 : Nat) ≤ (15 : Int)) ∧ ((0 : Int) ≤ y_2.n (100023 : Nat) ∧ y_2.n (100023 : Nat) ≤ (15 : Int)) ∧ ((0 : Int) ≤ y_2.n (100028 : Nat) ∧
      y_2.n (100028 : Nat) ≤ (2047 : Int)) ∧ ((0 : Int) ≤ y_2.n (100029 : Nat) ∧ y_2.n (100029 : Nat) ≤ (63 : Int)) ∧ ((0 : Int) ≤ y_2.n (100030 : Nat) ∧ y_2.n (100030 : Nat) ≤
      (16777216 : Int)) ∧ ((0 : Int) ≤ y_2.n (100031 : Nat) ∧ y_2.n (100031 : Nat) ≤ (3 : Int)) ∧ ((0 : Int) ≤ y_2.n (100032 : Nat) ∧ y_2.n (100032 : Nat) ≤ (15 : Int)) ∧ ((0 :
      Int) ≤ y_2.n (100035 : Nat) ∧ y_2.n (100035 : Nat) ≤ (15 : Int)) ∧ ((0 : Int) ≤ y_2.n (100040 : Nat) ∧ y_2.n (100040 : Nat) ≤ (2047 : Int)) ∧ ((0 : Int) ≤ y_2.n (100041 :
      Nat) ∧ y_2.n (100041 : Nat) ≤ (63 : Int)) ∧ ((0 : Int) ≤ y_2.n (100042 : Nat) ∧ y_2.n (100042 : Nat) ≤ (16777216 : Int)) ∧ ((0 : Int) ≤ y_2.n (100043 : Nat) ∧ y_2.n
      (100043 : Nat) ≤ (3 : Int)) ∧ ((0 : Int) ≤ y_2.n (100044 : Nat) ∧ y_2.n (100044 : Nat) ≤ (15 : Int)) ∧ ((0 : Int) ≤ y_2.n (100047 : Nat) ∧ y_2.n (100047 : Nat) ≤ (15 :
      Int)) ∧ ((0 : Int) ≤ y_2.n (100050 : Nat) ∧ y_2.n (100050 : Nat) ≤ (7 : Int)) ∧ ((0 : Int) ≤ y_2.n (100086 : Nat) ∧ y_2.n (100086 : Nat) ≤ (1 : Int)) ∧ ((0 : Int) ≤ y_2.n
      (100088 : Nat) ∧ y_2.n (100088 : Nat) ≤ (4 : Int)) ∧ ((0 : Int) ≤ y_2.n (100092 : Nat) ∧ y_2.n (100092 : Nat) ≤ (15 : Int)) ∧ ((0 : Int) ≤ y_2.n (100093 : Nat) ∧ y_2.n
      (100093 : Nat) ≤ (7 : Int)) ∧ True) ∧ S = S) ∧ (y.n (91001 : Nat) = k ∧ (if IntKind.i64.wrap (IntKind.i64.wrap (IntKind.i64.wrap ((y.n (100000 : Nat)).tdiv (32768 : Int))
      + (1 : Int)) * (32768 : Int)) < y.n (91001 : Nat) then IntKind.i64.wrap (IntKind.i64.wrap (IntKind.i64.wrap ((y.n (100000 : Nat)).tdiv (32768 : Int)) + (1 : Int)) * (32768
      : Int)) else y.n (91001 : Nat)) ≤ k) ∧ (k - if IntKind.i64.wrap (IntKind.i64.wrap (IntKind.i64.wrap ((y.n (100000 : Nat)).tdiv (32768 : Int)) + (1 : Int)) * (32768 : Int))
      < y.n (91001 : Nat) then IntKind.i64.wrap (IntKind.i64.wrap (IntKind.i64.wrap ((y.n (100000 : Nat)).tdiv (32768 : Int)) + (1 : Int)) * (32768 : Int)) else y.n (91001 :
      Nat)).toNat < (k - y.n (100000 : Nat)).toNat ∧ True)) ∧ ((y_1.n (90000 : Nat) != (0 : Int)) = false → ((M = M ∧ (50 : Nat) = (50 : Nat) ∧ (((0 : Int) ≤ y.n (91001 : Nat) ∧
      y.n (91001 : Nat) ≤ (2199023255552 : Int)) ∧ ((0 : Int) ≤ y.n (100004 : Nat) ∧ y.n (100004 : Nat) ≤ (2047 : Int)) ∧ ((0 : Int) ≤ y.n (100005 : Nat) ∧ y.n (100005 : Nat) ≤
      (63 : Int)) ∧ ((0 : Int) ≤ y.n (100006 : Nat) ∧ y.n (100006 : Nat) ≤ (16777216 : Int)) ∧ ((0 : Int) ≤ y.n (100007 : Nat) ∧ y.n (100007 : Nat) ≤ (3 : Int)) ∧ ((0 : Int) ≤
      y.n (100008 : Nat) ∧ y.n (100008 : Nat) ≤ (15 : Int)) ∧ ((0 : Int) ≤ y.n (100011 : Nat) ∧ y.n (100011 : Nat) ≤ (15 : Int)) ∧ ((0 : Int) ≤ y.n (100016 : Nat) ∧ y.n (100016
      : Nat) ≤ (2047 : Int)) ∧ ((0 : Int) ≤ y.n (100017 : Nat) ∧ y.n (100017 : Nat) ≤ (63 : Int)) ∧ ((0 : Int) ≤ y.n (100018 : Nat) ∧ y.n (100018 : Nat) ≤ (16777216 : Int)) ∧
      ((0 : Int) ≤ y.n (100019 : Nat) ∧ y.n (100019 : Nat) ≤ (3 : Int)) ∧ ((0 : Int) ≤ y.n (100020 : Nat) ∧ y.n (100020 : Nat) ≤ (15 : Int)) ∧ ((0 : Int) ≤ y.n (100023 : Nat) ∧
      y.n (100023 : Nat) ≤ (15 : Int)) ∧ ((0 : Int) ≤ y.n (100028 : Nat) ∧ y.n (100028 : Nat) ≤ (2047 : Int)) ∧ ((0 : Int) ≤ y.n (100029 : Nat) ∧ y.n (100029 : Nat) ≤ (63 :
      Int)) ∧ ((0 : Int) ≤ y.n (100030 : Nat) ∧ y.n (100030 : Nat) ≤ (16777216 : Int)) ∧ ((0 : Int) ≤ y.n (100031 : Nat) ∧ y.n (100031 : Nat) ≤ (3 : Int)) ∧ ((0 : Int) ≤ y.n
      (100032 : Nat) ∧ y.n (100032 : Nat) ≤ (15 : Int)) ∧ ((0 : Int) ≤ y.n (100035 : Nat) ∧ y.n (100035 : Nat) ≤ (15 : Int)) ∧ ((0 : Int) ≤ y.n (100040 : Nat) ∧ y.n (100040 :
      Nat) ≤ (2047 : Int)) ∧ ((0 : Int) ≤ y.n (100041 : Nat) ∧ y.n (100041 : Nat) ≤ (63 : Int)) ∧ ((0 : Int) ≤ y.n (100042 : Nat) ∧ y.n (100042 : Nat) ≤ (16777216 : Int)) ∧ ((0
      : Int) ≤ y.n (100043 : Nat) ∧ y.n (100043 : Nat) ≤ (3 : Int)) ∧ ((0 : Int) ≤ y.n (100044 : Nat) ∧ y.n (100044 : Nat) ≤ (15 : Int)) ∧ ((0 : Int) ≤ y.n (100047 : Nat) ∧ y.n
      (100047 : Nat) ≤ (15 : Int)) ∧ ((0 : Int) ≤ y.n (100050 : Nat) ∧ y.n (100050 : Nat) ≤ (7 : Int)) ∧ ((0 : Int) ≤ y.n (100086 : Nat) ∧ y.n (100086 : Nat) ≤ (1 : Int)) ∧ ((0
      : Int) ≤ y.n (100088 : Nat) ∧ y.n (100088 : Nat) ≤ (4 : Int)) ∧ ((0 : Int) ≤ y.n (100092 : Nat) ∧ y.n (100092 : Nat) ≤ (15 : Int)) ∧ ((0 : Int) ≤ y.n (100093 : Nat) ∧ y.n
      (100093 : Nat) ≤ (7 : Int)) ∧ True) ∧ S = S) ∧ (-9223372036854775808 : Int) ≤ y.n (91004 : Nat) ∧ y.n (91004 : Nat) ≤ (9223372036854775807 : Int)) ∧ ∀ (y_2 : PX), ((RG
      y_2) ∧ True) ∧ True ∧ y_2.n (100000 : Nat) = y.n (91001 : Nat) → True ∧ (M = M ∧ (50 : Nat) = (50 : Nat) ∧ (RG y_2) ∧ S = S) ∧ True)) ∧ (decide (y.n (100000 : Nat) < y.n
      (91001 : Nat)) = false → ((M = M ∧ (50 : Nat) = (50 : Nat) ∧ (((0 : Int) ≤ y.n (91001 : Nat) ∧ y.n (91001 : Nat) ≤ (2199023255552 : Int)) ∧ ((0 : Int) ≤ y.n (100004 : Nat)
      ∧ y.n (100004 : Nat) ≤ (2047 : Int)) ∧ ((0 : Int) ≤ y.n (100005 : Nat) ∧ y.n (100005 : Nat) ≤ (63 : Int)) ∧ ((0 : Int) ≤ y.n (100006 : Nat) ∧ y.n (100006 : Nat) ≤
      (16777216 : Int)) ∧ ((0 : Int) ≤ y.n (100007 : Nat) ∧ y.n (100007 : Nat) ≤ (3 : Int)) ∧ ((0 : Int) ≤ y.n (100008 : Nat) ∧ y.n (100008 : Nat) ≤ (15 : Int)) ∧ ((0 : Int) ≤
      y.n (100011 : Nat) ∧ y.n (100011 : Nat) ≤ (15 : Int)) ∧ ((0 : Int) ≤ y.n (100016 : Nat) ∧ y.n (100016 : Nat) ≤ (2047 : Int)) ∧ ((0 : Int) ≤ y.n (100017 : Nat) ∧ y.n
      (100017 : Nat) ≤ (63 : Int)) ∧ ((0 : Int) ≤ y.n (100018 : Nat) ∧ y.n (100018 : Nat) ≤ (16777216 : Int)) ∧ ((0 : Int) ≤ y.n (100019 : Nat) ∧ y.n (100019 : Nat) ≤ (3 : Int))
      ∧ ((0 : Int) ≤ y.n (100020 : Nat) ∧ y.n (100020 : Nat) ≤ (15 : Int)) ∧ ((0 : Int) ≤ y.n (100023 : Nat) ∧ y.n (100023 : Nat) ≤ (15 : Int)) ∧ ((0 : Int) ≤ y.n (100028 : Nat)
      ∧ y.n (100028 : Nat) ≤ (2047 : Int)) ∧ ((0 : Int) ≤ y.n (100029 : Nat) ∧ y.n (100029 : Nat) ≤ (63 : Int)) ∧ ((0 : Int) ≤ y.n (100030 : Nat) ∧ y.n (100030 : Nat) ≤
      (16777216 : Int)) ∧ ((0 : Int) ≤ y.n (100031 : Nat) ∧ y.n (100031 : Nat) ≤ (3 : Int)) ∧ ((0 : Int) ≤ y.n (100032 : Nat) ∧ y.n (100032 : Nat) ≤ (15 : Int)) ∧ ((0 : Int) ≤
      y.n (100035 : Nat) ∧ y.n (100035 : Nat) ≤ (15 : Int)) ∧ ((0 : Int) ≤ y.n (100040 : Nat) ∧ y.n (100040 : Nat) ≤ (2047 : Int)) ∧ ((0 : Int) ≤ y.n (100041 : Nat) ∧ y.n
      (100041 : Nat) ≤ (63 : Int)) ∧ ((0 : Int) ≤ y.n (100042 : Nat) ∧ y.n (100042 : Nat) ≤ (16777216 : Int)) ∧ ((0 : Int) ≤ y.n (100043 : Nat) ∧ y.n (100043 : Nat) ≤ (3 : Int))
      ∧ ((0 : Int) ≤ y.n (100044 : Nat) ∧ y.n (100044 : Nat) ≤ (15 : Int)) ∧ ((0 : Int) ≤ y.n (100047 : Nat) ∧ y.n (100047 : Nat) ≤ (15 : Int)) ∧ ((0 : Int) ≤ y.n (100050 : Nat)
      ∧ y.n (100050 : Nat) ≤ (7 : Int)) ∧ ((0 : Int) ≤ y.n (100086 : Nat) ∧ y.n (100086 : Nat) ≤ (1 : Int)) ∧ ((0 : Int) ≤ y.n (100088 : Nat) ∧ y.n (100088 : Nat) ≤ (4 : Int)) ∧
      ((0 : Int) ≤ y.n (100092 : Nat) ∧ y.n (100092 : Nat) ≤ (15 : Int)) ∧ ((0 : Int) ≤ y.n (100093 : Nat) ∧ y.n (100093 : Nat) ≤ (7 : Int)) ∧ True) ∧ S = S) ∧
      (-9223372036854775808 : Int) ≤ y.n (91004 : Nat) ∧ y.n (91004 : Nat) ≤ (9223372036854775807 : Int)) ∧ ∀ (y_1 : PX), ((RG y_1) ∧ True) ∧ True ∧ y_1.n (100000 : Nat) = y.n
      (91001 : Nat) → True ∧ (M = M ∧ (50 : Nat) = (50 : Nat) ∧ (RG y_1) ∧ S = S) ∧ True)) := by kernel_rfl
set_option maxHeartbeats 8000000 in
theorem run_c (E : World) (M : Bl) (S : SW) (k : Int) (z : PX) (hz : rgM z (uM M) 0) (hp : (fun _ => True) z) : HC (pe E) 12 [.c (.p 1 0), .c (.i false .i64 k)] (uM M) S (.t []) (fun _ _ => True) z := by
  refine HC.loop (P := pe E) orcR_ok tab_ok tab_sz mixed Try.func12 (c := Try.f12.body.getD .skip) rfl (by decide) (Nat.le_of_ble_eq_true rfl) false (by rfl) (by rfl) (by rfl) (by rfl) 20000 (2 ^ 200 - 1) (run_hs E M S z k) (by rfl) ?_ (loopP_lf ?_) ?_
  · intro h hmem
    simp only [run_hs, List.mem_cons, List.not_mem_nil, or_false] at hmem
    rcases hmem with hmem
    all_goals (subst hmem; exact ⟨by rfl, Nat.le_of_ble_eq_true rfl, fun y hk => okSW_M (by rfl) hk⟩)
  · rw [run_pro]
    obtain ⟨h0, h4, h5, h6, h7, h8, h11, h16, h17, h18, h19, h20, h23, h28, h29, h30, h31, h32, h35, h40, h41, h42, h43, h44, h47, h50, h86, h88, h92, h93, _⟩ := rg_u hz
    (repeat' (first | assumption | exact trivial | exact rfl | apply And.intro | (rintro y ⟨⟨⟨h0, h4, h5, h6, h7, h8, h11, h16, h17, h18, h19, h20, h23, h28, h29, h30, h31, h32, h35, h40, h41, h42, h43, h44, h47, h50, h86, h88, h92, h93, _⟩, _⟩, _, hq⟩; (try rw [hq])) | (rintro y ⟨⟨hr, _⟩, hq⟩) | intro _)) <;> ((try simp only [wi64, wu16, Bool.not_eq_true', Bool.not_eq_false', Bool.and_eq_true, Bool.or_eq_true, beq_iff_eq, bne_iff_ne, ne_eq, beq_eq_false_iff_ne, bne_eq_false_iff_eq, decide_eq_true_eq, decide_eq_false_iff_not] at *) <;> (repeat' split) <;> omega)
  · intro h hmem y hy1 hy2 hy3
    simp only [run_hs, List.mem_cons, List.not_mem_nil, or_false] at hmem
    rcases hmem with hmem
    · subst hmem
      refine loopP_lf ?_
      show loopP (pe E) Try.f12 (endP false (uM M) S (.t []) (fun _ _ => True) z) (headP false S Try.f12.ntmps (some ((fun y => (k - y.n 100000).toNat) y)) (run_hs E M S z k))  (run (pe E) (orcR E) (tabL fns) 20000 (2 ^ 200 - 1) (run_td E) (mkL Try.f12.ntmps (slC y [(0, .c (.p 1 0)), (1, .r .i64 (0) (2199023255552)), (4, .r .i64 (-9223372036854775808) (9223372036854775807))])) (mkM y S (uM M) 0))
      rw [run_r0]
      have hf : True ∧ (((0) ≤ y.n 91001 ∧ y.n 91001 ≤ (2199023255552)) ∧ True) ∧ (((-9223372036854775808) ≤ y.n 91004 ∧ y.n 91004 ≤ (9223372036854775807)) ∧ True) ∧ True := hy2
      obtain ⟨_, ⟨g1, _⟩, ⟨g4, _⟩, _⟩ := hf
      obtain ⟨h0, h4, h5, h6, h7, h8, h11, h16, h17, h18, h19, h20, h23, h28, h29, h30, h31, h32, h35, h40, h41, h42, h43, h44, h47, h50, h86, h88, h92, h93, _⟩ := rg_u hy1
      have hW : IntKind.i64.wrap (IntKind.i64.wrap (IntKind.i64.wrap ((y.n 100000).tdiv 32768) + 1) * 32768) = (y.n 100000 / 32768 + 1) * 32768 := by rw [Int.tdiv_eq_ediv_of_nonneg h0.1, wi64, wi64, wi64]; omega
      rw [hW]
      obtain ⟨T, hT, t1, t2, t3⟩ : ∃ T, (if (y.n 100000 / 32768 + 1) * 32768 < y.n 91001 then (y.n 100000 / 32768 + 1) * 32768 else y.n 91001) = T ∧ (y.n 100000 < y.n 91001 → y.n 100000 < T) ∧ T ≤ y.n 91001 ∧ (y.n 100000 < y.n 91001 → T - y.n 100000 ≤ 32768) := by refine ⟨_, rfl, ?_⟩; split <;> omega
      rw [hT]
      (repeat' (first | assumption | exact trivial | exact rfl | apply And.intro | (rintro y ⟨⟨⟨h0, h4, h5, h6, h7, h8, h11, h16, h17, h18, h19, h20, h23, h28, h29, h30, h31, h32, h35, h40, h41, h42, h43, h44, h47, h50, h86, h88, h92, h93, _⟩, _⟩, _, hq⟩; (try rw [hq])) | (rintro y ⟨⟨hr, _⟩, hq⟩) | intro _)) <;> ((try simp only [wi64, wu16, Bool.not_eq_true', Bool.not_eq_false', Bool.and_eq_true, Bool.or_eq_true, beq_iff_eq, bne_iff_ne, ne_eq, beq_eq_false_iff_ne, bne_eq_false_iff_eq, decide_eq_true_eq, decide_eq_false_iff_not] at *) <;> (repeat' split) <;> omega)
end Go.Proofs.Ytcegofobcjimlaa

