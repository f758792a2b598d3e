import Derived.Test.YtpfdemmoapjjpaaM
set_option linter.unusedVariables false
set_option linter.unusedSimpArgs false
namespace Go.Proofs.Ytpfdemmoapjjpaa
open Go Go.Proofs Go.Proofs.Ytpfdemmoapjjpaa.Ev
set_option maxRecDepth 100000
theorem hOK_bits (a b : Int) : hOK (bits .or .u16 a b) = true := by
  unfold bits hOK
  simp only [wu16, Bool.and_eq_true, decide_eq_true_eq]
  omega
noncomputable def c4 : Code := Try.f4.body.getD .skip
noncomputable def hd4 (E : World) : List Item := headOf (run (pe E) (orcD E) (tabL fns) 20000 (2^200-1) [.code c4] ⟨Try.f4.ntmps, mkFrGo (Tr.mk 12) 0 [.c (.i true .u16 0)]⟩ [])
def lv4 (E : World) (h : Int) (x : Nat) : List (Nat × SV) := [(0, .c (.i false .u16 h)), (7, .c (.i false .i64 (x : Int)))]
def sv4 (E : World) (h : Int) (x : Nat) : SW := []
def hh4 (E : World) (h : Int) (x : Nat) : Prop := x ≤ 256
def mu4 (E : World) (h : Int) (x : Nat) : Nat := 256 - x
theorem all_pro (E : World) (h : Int) :
    (loopP (pe E) Try.f4 (fun v _ => SV.sim v (.c (.b false true))) (fun todo fr s' => ∃ x : Nat, hh4 E h x ∧ todo = hd4 E ∧ fr.nt = Try.f4.ntmps ∧ refP fr (lv4 E h x) ∧ refT s' (sv4 E h x)) (run (pe E) (orcD E) (tabL fns) 20000 (2^200-1) [.code c4] ⟨Try.f4.ntmps, mkFrGo (Tr.mk 12) 0 [.c (.i false .u16 h)]⟩ [])) =
    (∃ (x : Nat), x.le (256 : Nat) ∧ hd4 E = hd4 E ∧ (21 : Nat) = (21 : Nat) ∧ ((IntKind.u16 = IntKind.u16 ∧ h = h) ∧ IntKind.i64 = IntKind.i64 ∧ (0 : Int) = (↑x : Int)) ∧ True) := by kernel_rfl
theorem all_round (E : World) (h : Int) (j : Nat) :
    (loopP (pe E) Try.f4 (fun v _ => SV.sim v (.c (.b false true))) (fun todo fr s' => ∃ x : Nat, hh4 E h x ∧ mu4 E h x < mu4 E h j ∧ todo = hd4 E ∧ fr.nt = Try.f4.ntmps ∧ refP fr (lv4 E h x) ∧ refT s' (sv4 E h x)) (run (pe E) (orcD E) (tabL fns) 20000 (2^200-1) (hd4 E) (mkL Try.f4.ntmps (lv4 E h j)) (sv4 E h j))) =
    ((decide ((↑j : Int) < (256 : Int)) = true → hOK (bits BinOp.or IntKind.u16 (bits BinOp.andNot IntKind.u16 h (255 : Int)) (IntKind.u16.wrap (↑j : Int))) = true ∧ hOK (bits
      BinOp.or IntKind.u16 (bits BinOp.andNot IntKind.u16 h (255 : Int)) (IntKind.u16.wrap (↑j : Int))) = true ∧ ((true ^^ (pk E (bits BinOp.or IntKind.u16 (bits BinOp.andNot
      IntKind.u16 h (255 : Int)) (IntKind.u16.wrap (↑j : Int)))).fst (0 : Nat) == (pk E (bits BinOp.or IntKind.u16 (bits BinOp.andNot IntKind.u16 h (255 : Int))
      (IntKind.u16.wrap (↑j : Int)))).fst (0 : Nat) && ((pk E (bits BinOp.or IntKind.u16 (bits BinOp.andNot IntKind.u16 h (255 : Int)) (IntKind.u16.wrap (↑j : Int)))).fst (1 :
      Nat) == (pk E (bits BinOp.or IntKind.u16 (bits BinOp.andNot IntKind.u16 h (255 : Int)) (IntKind.u16.wrap (↑j : Int)))).fst (1 : Nat) && ((pk E (bits BinOp.or IntKind.u16
      (bits BinOp.andNot IntKind.u16 h (255 : Int)) (IntKind.u16.wrap (↑j : Int)))).fst (2 : Nat) == (pk E (bits BinOp.or IntKind.u16 (bits BinOp.andNot IntKind.u16 h (255 :
      Int)) (IntKind.u16.wrap (↑j : Int)))).fst (2 : Nat) && ((pk E (bits BinOp.or IntKind.u16 (bits BinOp.andNot IntKind.u16 h (255 : Int)) (IntKind.u16.wrap (↑j : Int)))).snd
      (3 : Nat) == (pk E (bits BinOp.or IntKind.u16 (bits BinOp.andNot IntKind.u16 h (255 : Int)) (IntKind.u16.wrap (↑j : Int)))).snd (3 : Nat) && ((pk E (bits BinOp.or
      IntKind.u16 (bits BinOp.andNot IntKind.u16 h (255 : Int)) (IntKind.u16.wrap (↑j : Int)))).fst (4 : Nat) == (pk E (bits BinOp.or IntKind.u16 (bits BinOp.andNot IntKind.u16
      h (255 : Int)) (IntKind.u16.wrap (↑j : Int)))).fst (4 : Nat) && ((pk E (bits BinOp.or IntKind.u16 (bits BinOp.andNot IntKind.u16 h (255 : Int)) (IntKind.u16.wrap (↑j :
      Int)))).fst (5 : Nat) == (pk E (bits BinOp.or IntKind.u16 (bits BinOp.andNot IntKind.u16 h (255 : Int)) (IntKind.u16.wrap (↑j : Int)))).fst (5 : Nat) && ((pk E (bits
      BinOp.or IntKind.u16 (bits BinOp.andNot IntKind.u16 h (255 : Int)) (IntKind.u16.wrap (↑j : Int)))).fst (6 : Nat) == (pk E (bits BinOp.or IntKind.u16 (bits BinOp.andNot
      IntKind.u16 h (255 : Int)) (IntKind.u16.wrap (↑j : Int)))).fst (6 : Nat) && ((pk E (bits BinOp.or IntKind.u16 (bits BinOp.andNot IntKind.u16 h (255 : Int))
      (IntKind.u16.wrap (↑j : Int)))).fst (7 : Nat) == (pk E (bits BinOp.or IntKind.u16 (bits BinOp.andNot IntKind.u16 h (255 : Int)) (IntKind.u16.wrap (↑j : Int)))).fst (7 :
      Nat) && ((pk E (bits BinOp.or IntKind.u16 (bits BinOp.andNot IntKind.u16 h (255 : Int)) (IntKind.u16.wrap (↑j : Int)))).fst (8 : Nat) == (pk E (bits BinOp.or IntKind.u16
      (bits BinOp.andNot IntKind.u16 h (255 : Int)) (IntKind.u16.wrap (↑j : Int)))).fst (8 : Nat) && ((pk E (bits BinOp.or IntKind.u16 (bits BinOp.andNot IntKind.u16 h (255 :
      Int)) (IntKind.u16.wrap (↑j : Int)))).snd (9 : Nat) == (pk E (bits BinOp.or IntKind.u16 (bits BinOp.andNot IntKind.u16 h (255 : Int)) (IntKind.u16.wrap (↑j : Int)))).snd
      (9 : Nat) && ((pk E (bits BinOp.or IntKind.u16 (bits BinOp.andNot IntKind.u16 h (255 : Int)) (IntKind.u16.wrap (↑j : Int)))).fst (10 : Nat) == (pk E (bits BinOp.or
      IntKind.u16 (bits BinOp.andNot IntKind.u16 h (255 : Int)) (IntKind.u16.wrap (↑j : Int)))).fst (10 : Nat) && ((pk E (bits BinOp.or IntKind.u16 (bits BinOp.andNot
      IntKind.u16 h (255 : Int)) (IntKind.u16.wrap (↑j : Int)))).fst (11 : Nat) == (pk E (bits BinOp.or IntKind.u16 (bits BinOp.andNot IntKind.u16 h (255 : Int))
      (IntKind.u16.wrap (↑j : Int)))).fst (11 : Nat) && ((pk E (bits BinOp.or IntKind.u16 (bits BinOp.andNot IntKind.u16 h (255 : Int)) (IntKind.u16.wrap (↑j : Int)))).snd (12 :
      Nat) == (pk E (bits BinOp.or IntKind.u16 (bits BinOp.andNot IntKind.u16 h (255 : Int)) (IntKind.u16.wrap (↑j : Int)))).snd (12 : Nat) && ((pk E (bits BinOp.or IntKind.u16
      (bits BinOp.andNot IntKind.u16 h (255 : Int)) (IntKind.u16.wrap (↑j : Int)))).snd (13 : Nat) == (pk E (bits BinOp.or IntKind.u16 (bits BinOp.andNot IntKind.u16 h (255 :
      Int)) (IntKind.u16.wrap (↑j : Int)))).snd (13 : Nat) && ((pk E (bits BinOp.or IntKind.u16 (bits BinOp.andNot IntKind.u16 h (255 : Int)) (IntKind.u16.wrap (↑j : Int)))).snd
      (14 : Nat) == (pk E (bits BinOp.or IntKind.u16 (bits BinOp.andNot IntKind.u16 h (255 : Int)) (IntKind.u16.wrap (↑j : Int)))).snd (14 : Nat) && ((pk E (bits BinOp.or
      IntKind.u16 (bits BinOp.andNot IntKind.u16 h (255 : Int)) (IntKind.u16.wrap (↑j : Int)))).snd (15 : Nat) == (pk E (bits BinOp.or IntKind.u16 (bits BinOp.andNot IntKind.u16
      h (255 : Int)) (IntKind.u16.wrap (↑j : Int)))).snd (15 : Nat) && ((pk E (bits BinOp.or IntKind.u16 (bits BinOp.andNot IntKind.u16 h (255 : Int)) (IntKind.u16.wrap (↑j :
      Int)))).snd (16 : Nat) == (pk E (bits BinOp.or IntKind.u16 (bits BinOp.andNot IntKind.u16 h (255 : Int)) (IntKind.u16.wrap (↑j : Int)))).snd (16 : Nat) && ((pk E (bits
      BinOp.or IntKind.u16 (bits BinOp.andNot IntKind.u16 h (255 : Int)) (IntKind.u16.wrap (↑j : Int)))).snd (17 : Nat) == (pk E (bits BinOp.or IntKind.u16 (bits BinOp.andNot
      IntKind.u16 h (255 : Int)) (IntKind.u16.wrap (↑j : Int)))).snd (17 : Nat) && ((pk E (bits BinOp.or IntKind.u16 (bits BinOp.andNot IntKind.u16 h (255 : Int))
      (IntKind.u16.wrap (↑j : Int)))).snd (18 : Nat) == (pk E (bits BinOp.or IntKind.u16 (bits BinOp.andNot IntKind.u16 h (255 : Int)) (IntKind.u16.wrap (↑j : Int)))).snd (18 :
      Nat) && ((pk E (bits BinOp.or IntKind.u16 (bits BinOp.andNot IntKind.u16 h (255 : Int)) (IntKind.u16.wrap (↑j : Int)))).snd (19 : Nat) == (pk E (bits BinOp.or IntKind.u16
      (bits BinOp.andNot IntKind.u16 h (255 : Int)) (IntKind.u16.wrap (↑j : Int)))).snd (19 : Nat) && ((pk E (bits BinOp.or IntKind.u16 (bits BinOp.andNot IntKind.u16 h (255 :
      Int)) (IntKind.u16.wrap (↑j : Int)))).fst (20 : Nat) == (pk E (bits BinOp.or IntKind.u16 (bits BinOp.andNot IntKind.u16 h (255 : Int)) (IntKind.u16.wrap (↑j : Int)))).fst
      (20 : Nat) && ((pk E (bits BinOp.or IntKind.u16 (bits BinOp.andNot IntKind.u16 h (255 : Int)) (IntKind.u16.wrap (↑j : Int)))).snd (21 : Nat) == (pk E (bits BinOp.or
      IntKind.u16 (bits BinOp.andNot IntKind.u16 h (255 : Int)) (IntKind.u16.wrap (↑j : Int)))).snd (21 : Nat) && ((pk E (bits BinOp.or IntKind.u16 (bits BinOp.andNot
      IntKind.u16 h (255 : Int)) (IntKind.u16.wrap (↑j : Int)))).snd (22 : Nat) == (pk E (bits BinOp.or IntKind.u16 (bits BinOp.andNot IntKind.u16 h (255 : Int))
      (IntKind.u16.wrap (↑j : Int)))).snd (22 : Nat) && ((pk E (bits BinOp.or IntKind.u16 (bits BinOp.andNot IntKind.u16 h (255 : Int)) (IntKind.u16.wrap (↑j : Int)))).snd (23 :
      Nat) == (pk E (bits BinOp.or IntKind.u16 (bits BinOp.andNot IntKind.u16 h (255 : Int)) (IntKind.u16.wrap (↑j : Int)))).snd (23 : Nat) && true)))))))))))))))))))))))) =
      true → false = true) ∧ ((true ^^ (pk E (bits BinOp.or IntKind.u16 (bits BinOp.andNot IntKind.u16 h (255 : Int)) (IntKind.u16.wrap (↑j : Int)))).fst (0 : Nat) == (pk E
      (bits BinOp.or IntKind.u16 (bits BinOp.andNot IntKind.u16 h (255 : Int)) (IntKind.u16.wrap (↑j : Int)))).fst (0 : Nat) && ((pk E (bits BinOp.or IntKind.u16 (bits
      BinOp.andNot IntKind.u16 h (255 : Int)) (IntKind.u16.wrap (↑j : Int)))).fst (1 : Nat) == (pk E (bits BinOp.or IntKind.u16 (bits BinOp.andNot IntKind.u16 h (255 : Int))
      (IntKind.u16.wrap (↑j : Int)))).fst (1 : Nat) && ((pk E (bits BinOp.or IntKind.u16 (bits BinOp.andNot IntKind.u16 h (255 : Int)) (IntKind.u16.wrap (↑j : Int)))).fst (2 :
      Nat) == (pk E (bits BinOp.or IntKind.u16 (bits BinOp.andNot IntKind.u16 h (255 : Int)) (IntKind.u16.wrap (↑j : Int)))).fst (2 : Nat) && ((pk E (bits BinOp.or IntKind.u16
      (bits BinOp.andNot IntKind.u16 h (255 : Int)) (IntKind.u16.wrap (↑j : Int)))).snd (3 : Nat) == (pk E (bits BinOp.or IntKind.u16 (bits BinOp.andNot IntKind.u16 h (255 :
      Int)) (IntKind.u16.wrap (↑j : Int)))).snd (3 : Nat) && ((pk E (bits BinOp.or IntKind.u16 (bits BinOp.andNot IntKind.u16 h (255 : Int)) (IntKind.u16.wrap (↑j : Int)))).fst
      (4 : Nat) == (pk E (bits BinOp.or IntKind.u16 (bits BinOp.andNot IntKind.u16 h (255 : Int)) (IntKind.u16.wrap (↑j : Int)))).fst (4 : Nat) && ((pk E (bits BinOp.or
      IntKind.u16 (bits BinOp.andNot IntKind.u16 h (255 : Int)) (IntKind.u16.wrap (↑j : Int)))).fst (5 : Nat) == (pk E (bits BinOp.or IntKind.u16 (bits BinOp.andNot IntKind.u16
      h (255 : Int)) (IntKind.u16.wrap (↑j : Int)))).fst (5 : Nat) && ((pk E (bits BinOp.or IntKind.u16 (bits BinOp.andNot IntKind.u16 h (255 : Int)) (IntKind.u16.wrap (↑j :
      Int)))).fst (6 : Nat) == (pk E (bits BinOp.or IntKind.u16 (bits BinOp.andNot IntKind.u16 h (255 : Int)) (IntKind.u16.wrap (↑j : Int)))).fst (6 : Nat) && ((pk E (bits
      BinOp.or IntKind.u16 (bits BinOp.andNot IntKind.u16 h (255 : Int)) (IntKind.u16.wrap (↑j : Int)))).fst (7 : Nat) == (pk E (bits BinOp.or IntKind.u16 (bits BinOp.andNot
      IntKind.u16 h (255 : Int)) (IntKind.u16.wrap (↑j : Int)))).fst (7 : Nat) && ((pk E (bits BinOp.or IntKind.u16 (bits BinOp.andNot IntKind.u16 h (255 : Int))
      (IntKind.u16.wrap (↑j : Int)))).fst (8 : Nat) == (pk E (bits BinOp.or IntKind.u16 (bits BinOp.andNot IntKind.u16 h (255 : Int)) (IntKind.u16.wrap (↑j : Int)))).fst (8 :
      Nat) && ((pk E (bits BinOp.or IntKind.u16 (bits BinOp.andNot IntKind.u16 h (255 : Int)) (IntKind.u16.wrap (↑j : Int)))).snd (9 : Nat) == (pk E (bits BinOp.or IntKind.u16
      (bits BinOp.andNot IntKind.u16 h (255 : Int)) (IntKind.u16.wrap (↑j : Int)))).snd (9 : Nat) && ((pk E (bits BinOp.or IntKind.u16 (bits BinOp.andNot IntKind.u16 h (255 :
      Int)) (IntKind.u16.wrap (↑j : Int)))).fst (10 : Nat) == (pk E (bits BinOp.or IntKind.u16 (bits BinOp.andNot IntKind.u16 h (255 : Int)) (IntKind.u16.wrap (↑j : Int)))).fst
      (10 : Nat) && ((pk E (bits BinOp.or IntKind.u16 (bits BinOp.andNot IntKind.u16 h (255 : Int)) (IntKind.u16.wrap (↑j : Int)))).fst (11 : Nat) == (pk E (bits BinOp.or
      IntKind.u16 (bits BinOp.andNot IntKind.u16 h (255 : Int)) (IntKind.u16.wrap (↑j : Int)))).fst (11 : Nat) && ((pk E (bits BinOp.or IntKind.u16 (bits BinOp.andNot
      IntKind.u16 h (255 : Int)) (IntKind.u16.wrap (↑j : Int)))).snd (12 : Nat) == (pk E (bits BinOp.or IntKind.u16 (bits BinOp.andNot IntKind.u16 h (255 : Int))
      (IntKind.u16.wrap (↑j : Int)))).snd (12 : Nat) && ((pk E (bits BinOp.or IntKind.u16 (bits BinOp.andNot IntKind.u16 h (255 : Int)) (IntKind.u16.wrap (↑j : Int)))).snd (13 :
      Nat) == (pk E (bits BinOp.or IntKind.u16 (bits BinOp.andNot IntKind.u16 h (255 : Int)) (IntKind.u16.wrap (↑j : Int)))).snd (13 : Nat) && ((pk E (bits BinOp.or IntKind.u16
      (bits BinOp.andNot IntKind.u16 h (255 : Int)) (IntKind.u16.wrap (↑j : Int)))).snd (14 : Nat) == (pk E (bits BinOp.or IntKind.u16 (bits BinOp.andNot IntKind.u16 h (255 :
      Int)) (IntKind.u16.wrap (↑j : Int)))).snd (14 : Nat) && ((pk E (bits BinOp.or IntKind.u16 (bits BinOp.andNot IntKind.u16 h (255 : Int)) (IntKind.u16.wrap (↑j : Int)))).snd
      (15 : Nat) == (pk E (bits BinOp.or IntKind.u16 (bits BinOp.andNot IntKind.u16 h (255 : Int)) (IntKind.u16.wrap (↑j : Int)))).snd (15 : Nat) && ((pk E (bits BinOp.or
      IntKind.u16 (bits BinOp.andNot IntKind.u16 h (255 : Int)) (IntKind.u16.wrap (↑j : Int)))).snd (16 : Nat) == (pk E (bits BinOp.or IntKind.u16 (bits BinOp.andNot IntKind.u16
      h (255 : Int)) (IntKind.u16.wrap (↑j : Int)))).snd (16 : Nat) && ((pk E (bits BinOp.or IntKind.u16 (bits BinOp.andNot IntKind.u16 h (255 : Int)) (IntKind.u16.wrap (↑j :
      Int)))).snd (17 : Nat) == (pk E (bits BinOp.or IntKind.u16 (bits BinOp.andNot IntKind.u16 h (255 : Int)) (IntKind.u16.wrap (↑j : Int)))).snd (17 : Nat) && ((pk E (bits
      BinOp.or IntKind.u16 (bits BinOp.andNot IntKind.u16 h (255 : Int)) (IntKind.u16.wrap (↑j : Int)))).snd (18 : Nat) == (pk E (bits BinOp.or IntKind.u16 (bits BinOp.andNot
      IntKind.u16 h (255 : Int)) (IntKind.u16.wrap (↑j : Int)))).snd (18 : Nat) && ((pk E (bits BinOp.or IntKind.u16 (bits BinOp.andNot IntKind.u16 h (255 : Int))
      (IntKind.u16.wrap (↑j : Int)))).snd (19 : Nat) == (pk E (bits BinOp.or IntKind.u16 (bits BinOp.andNot IntKind.u16 h (255 : Int)) (IntKind.u16.wrap (↑j : Int)))).snd (19 :
      Nat) && ((pk E (bits BinOp.or IntKind.u16 (bits BinOp.andNot IntKind.u16 h (255 : Int)) (IntKind.u16.wrap (↑j : Int)))).fst (20 : Nat) == (pk E (bits BinOp.or IntKind.u16
      (bits BinOp.andNot IntKind.u16 h (255 : Int)) (IntKind.u16.wrap (↑j : Int)))).fst (20 : Nat) && ((pk E (bits BinOp.or IntKind.u16 (bits BinOp.andNot IntKind.u16 h (255 :
      Int)) (IntKind.u16.wrap (↑j : Int)))).snd (21 : Nat) == (pk E (bits BinOp.or IntKind.u16 (bits BinOp.andNot IntKind.u16 h (255 : Int)) (IntKind.u16.wrap (↑j : Int)))).snd
      (21 : Nat) && ((pk E (bits BinOp.or IntKind.u16 (bits BinOp.andNot IntKind.u16 h (255 : Int)) (IntKind.u16.wrap (↑j : Int)))).snd (22 : Nat) == (pk E (bits BinOp.or
      IntKind.u16 (bits BinOp.andNot IntKind.u16 h (255 : Int)) (IntKind.u16.wrap (↑j : Int)))).snd (22 : Nat) && ((pk E (bits BinOp.or IntKind.u16 (bits BinOp.andNot
      IntKind.u16 h (255 : Int)) (IntKind.u16.wrap (↑j : Int)))).snd (23 : Nat) == (pk E (bits BinOp.or IntKind.u16 (bits BinOp.andNot IntKind.u16 h (255 : Int))
      (IntKind.u16.wrap (↑j : Int)))).snd (23 : Nat) && true)))))))))))))))))))))))) = false → ∃ (x : Nat), x.le (256 : Nat) ∧ mu4 E h x < mu4 E h j ∧ hd4 E = hd4 E ∧ (21 : Nat)
      = (21 : Nat) ∧ ((IntKind.u16 = IntKind.u16 ∧ h = h) ∧ IntKind.i64 = IntKind.i64 ∧ IntKind.i64.wrap ((↑j : Int) + (1 : Int)) = (↑x : Int)) ∧ True)) ∧ (decide ((↑j : Int) <
      (256 : Int)) = false → true = true)) := by kernel_rfl

theorem all_calls (W : World) (h : Int) (hh : hOK h = true) : Calls Try.prog 4 #[.int .u16 h] W fun e w' => e = .returned (.bool true) ∧ Grew W w' := by
  have hE : ExtI W Rh0 0 W := ExtI.refl W _
  refine law_of_calls (P := pe W) (ρ := Rh0) ?_
  refine calls_loopT (c := c4) (P := pe W) orcD_ok tab_ok tab_sz mixed Try.func4 rfl (by decide) (vs := [.c (.i false .u16 h)]) (s := []) (Nat.le_of_ble_eq_true rfl) 20000 (2^200-1) (hh4 W h) (mu4 W h) (fun _ => hd4 W) (lv4 W h) (sv4 W h) (fun _ => rfl) (fun x hx => ⟨rfl, rfl, Nat.le_of_ble_eq_true rfl⟩)
    (fun v _ => SV.sim v (.c (.b false true))) ?_ ?_ W 0 _ W (Inv.start hE) (by simp [SV.ok, C.ok, okL])
  · rw [all_pro]
    exact ⟨0, Nat.zero_le _, rfl, rfl, ⟨⟨rfl, rfl⟩, rfl, rfl⟩, trivial⟩
  · intro j hj
    rw [all_round]
    have hj : j ≤ 256 := hj
    have hX := hOK_bits (bits BinOp.andNot IntKind.u16 h (255 : Int)) (IntKind.u16.wrap (j : Int))
    generalize bits BinOp.or IntKind.u16 (bits BinOp.andNot IntKind.u16 h (255 : Int)) (IntKind.u16.wrap (j : Int)) = X at hX ⊢
    refine ⟨fun h1 => ⟨hX, hX, fun e => ?_, fun e => ?_⟩, fun h1 => rfl⟩
    · simp at e
    · have h1 := of_decide_eq_true h1
      exact ⟨j + 1, (show j + 1 ≤ 256 by omega), (show 256 - (j + 1) < 256 - j by omega), rfl, rfl, ⟨⟨rfl, rfl⟩, rfl, (by show IntKind.i64.wrap ((j : Int) + 1) = ((j + 1 : Nat) : Int); rw [wi64_in _ (by omega) (by omega)]; rfl)⟩, trivial⟩
end Go.Proofs.Ytpfdemmoapjjpaa

