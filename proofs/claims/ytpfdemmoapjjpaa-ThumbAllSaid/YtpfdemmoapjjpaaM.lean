import Derived.Test.YtpfdemmoapjjpaaZ
set_option linter.unusedVariables false
set_option linter.unusedSimpArgs false
namespace Go.Proofs.Ytpfdemmoapjjpaa
open Go Go.Proofs Go.Proofs.Ytpfdemmoapjjpaa.Ev
set_option maxRecDepth 100000
def csP (p : (Nat → Int) × (Nat → Bool)) : List C := [.i false .i64 (p.1 0), .i false .i64 (p.1 1), .i false .i64 (p.1 2), .b false (p.2 3), .i false .i64 (p.1 4), .i false .i64 (p.1 5), .i false .i64 (p.1 6), .i false .i64 (p.1 7), .i false .u32 (p.1 8), .b false (p.2 9), .i false .i64 (p.1 10), .i false .i64 (p.1 11), .b false (p.2 12), .b false (p.2 13), .b false (p.2 14), .b false (p.2 15), .b false (p.2 16), .b false (p.2 17), .b false (p.2 18), .b false (p.2 19), .i false .i64 (p.1 20), .b false (p.2 21), .b false (p.2 22), .b false (p.2 23)]
theorem pk_ex (E : World) (h : Int) : ∃ p : (Nat → Int) × (Nat → Bool), 0 ≤ h → h < 65536 → ∀ s, CallTree (pe E) 7 [.c (.i false .u16 h)] s (.leaf (.a (csP p), s)) ∧ CallTree (pe E) 8 [.c (.i false .u16 h)] s (.leaf (.a (csP p), s)) := by
  by_cases h0 : 0 ≤ h
  · by_cases h1 : h < 65536
    · obtain ⟨n0, n1, n2, b3, n4, n5, n6, n7, n8, b9, n10, n11, b12, b13, b14, b15, b16, b17, b18, b19, n20, b21, b22, b23, hb⟩ := both_c E h h0 h1
      exact ⟨(fun k => [n0, n1, n2, 0, n4, n5, n6, n7, n8, 0, n10, n11, 0, 0, 0, 0, 0, 0, 0, 0, n20, 0, 0, 0].getD k 0, fun k => [false, false, false, b3, false, false, false, false, false, b9, false, false, b12, b13, b14, b15, b16, b17, b18, b19, false, b21, b22, b23].getD k false), fun _ _ s => hb s⟩
    · exact ⟨(fun _ => 0, fun _ => false), fun _ h2 => absurd h2 h1⟩
  · exact ⟨(fun _ => 0, fun _ => false), fun h2 => absurd h2 h0⟩
noncomputable def pk (E : World) (h : Int) : (Nat → Int) × (Nat → Bool) := Classical.choose (pk_ex E h)
def hOK (h : Int) : Bool := decide (0 ≤ h) && decide (h < 65536)
theorem pk_c (E : World) (h : Int) (hh : hOK h = true) (s : SW) : CallTree (pe E) 7 [.c (.i false .u16 h)] s (.leaf (.a (csP (pk E h)), s)) ∧ CallTree (pe E) 8 [.c (.i false .u16 h)] s (.leaf (.a (csP (pk E h)), s)) := by
  simp only [hOK, Bool.and_eq_true, decide_eq_true_eq] at hh
  exact Classical.choose_spec (pk_ex E h) hh.1 hh.2 s
noncomputable def orcD (E : World) : Orc := fun g vs s => match g, vs with
  | 7, [.c (.i _ .u16 h)] => some (.need (hOK h) (.leaf (.a (csP (pk E h)), s)))
  | 8, [.c (.i _ .u16 h)] => some (.need (hOK h) (.leaf (.a (csP (pk E h)), s)))
  | g, vs => orcA E g vs s
theorem orcD_ok {E : World} : OrcOK (pe E) (orcD E) := by
  intro g vs s t h
  unfold orcD at h
  split at h
  · cases h
    exact CallTree.need fun hh => CallTree.args (by simp [simL, SV.sim, S1.sim, C.sim]) (pk_c E _ hh s).1
  · cases h
    exact CallTree.need fun hh => CallTree.args (by simp [simL, SV.sim, S1.sim, C.sim]) (pk_c E _ hh s).2
  · exact orcA_ok _ _ _ _ h
theorem decs_p (E : World) (h : Int) :
    (lawP (fnTree (pe E) (orcD E) (tabL fns) 20000 Try.f3 [.c (.i false .u16 h)] [])) =
    (hOK h = true ∧ hOK h = true ∧ (false ^^ (pk E h).fst (0 : Nat) == (pk E h).fst (0 : Nat) && ((pk E h).fst (1 : Nat) == (pk E h).fst (1 : Nat) && ((pk E h).fst (2 : Nat) ==
      (pk E h).fst (2 : Nat) && ((pk E h).snd (3 : Nat) == (pk E h).snd (3 : Nat) && ((pk E h).fst (4 : Nat) == (pk E h).fst (4 : Nat) && ((pk E h).fst (5 : Nat) == (pk E h).fst
      (5 : Nat) && ((pk E h).fst (6 : Nat) == (pk E h).fst (6 : Nat) && ((pk E h).fst (7 : Nat) == (pk E h).fst (7 : Nat) && ((pk E h).fst (8 : Nat) == (pk E h).fst (8 : Nat) &&
      ((pk E h).snd (9 : Nat) == (pk E h).snd (9 : Nat) && ((pk E h).fst (10 : Nat) == (pk E h).fst (10 : Nat) && ((pk E h).fst (11 : Nat) == (pk E h).fst (11 : Nat) && ((pk E
      h).snd (12 : Nat) == (pk E h).snd (12 : Nat) && ((pk E h).snd (13 : Nat) == (pk E h).snd (13 : Nat) && ((pk E h).snd (14 : Nat) == (pk E h).snd (14 : Nat) && ((pk E h).snd
      (15 : Nat) == (pk E h).snd (15 : Nat) && ((pk E h).snd (16 : Nat) == (pk E h).snd (16 : Nat) && ((pk E h).snd (17 : Nat) == (pk E h).snd (17 : Nat) && ((pk E h).snd (18 :
      Nat) == (pk E h).snd (18 : Nat) && ((pk E h).snd (19 : Nat) == (pk E h).snd (19 : Nat) && ((pk E h).fst (20 : Nat) == (pk E h).fst (20 : Nat) && ((pk E h).snd (21 : Nat)
      == (pk E h).snd (21 : Nat) && ((pk E h).snd (22 : Nat) == (pk E h).snd (22 : Nat) && ((pk E h).snd (23 : Nat) == (pk E h).snd (23 : Nat) && true)))))))))))))))))))))))) =
      true) := by kernel_rfl
theorem decs_l (E : World) (h : Int) (hh : hOK h = true) : Holds (lawP (fnTree (pe E) (orcD E) (tabL fns) 20000 Try.f3 [.c (.i false .u16 h)] [])) := ⟨by
  rw [decs_p]
  simp [hh]⟩
end Go.Proofs.Ytpfdemmoapjjpaa

