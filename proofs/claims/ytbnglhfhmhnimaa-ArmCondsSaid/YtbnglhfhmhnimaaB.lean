import Derived.Test.YtbnglhfhmhnimaaA
set_option linter.unusedVariables false
set_option linter.unusedSimpArgs false
namespace Go.Proofs.Ytbnglhfhmhnimaa
open Go Go.Proofs Go.Proofs.Ytbnglhfhmhnimaa.Ev
def intC : C → Int | .i _ _ n => n | _ => 0
def boolC : C → Bool | .b _ v => v | _ => false
def reC : EK → C → C | .i k, c => .i false k (intC c) | .b, c => .b false (boolC c) | _, c => c
def hasC : EK → C → Bool | .i k, .i _ k' _ => decide (k' = k) | .b, .b _ _ => true | _, _ => false
def hasL : List EK → List C → Bool | [], [] => true | k :: ks, c :: cs => hasC k c && hasL ks cs | _, _ => false
def shapeT (ks : List EK) : Tree (SV × SW) → Bool
  | .leaf (.a l, _) => hasL ks l
  | .node _ t f => shapeT ks t && shapeT ks f
  | .need _ t => shapeT ks t
  | _ => false
def pick : Tree (SV × SW) → List C
  | .leaf (.a l, _) => l
  | .node b t f => cond b (pick t) (pick f)
  | .need _ t => pick t
  | _ => []
def mkCells : List EK → (Nat → C) → Nat → List C
  | [], _, _ => []
  | k :: ks, g, j => reC k (g j) :: mkCells ks g (j + 1)
def dflt : C := .b false false
def Par : Tree (SV × SW) → Tree (SV × SW) → Prop
  | .leaf (.a l, _), .leaf (.a l', _) => simL C.sim l l'
  | .node b t f, .node b' t' f' => b = b' ∧ Par t t' ∧ Par f f'
  | .need b t, .need _ t' => b = true ∧ Par t t'
  | _, _ => False
theorem sim_re {k : EK} {c : C} (h : hasC k c = true) : C.sim c (reC k c) := by
  cases k <;> cases c <;> simp_all [hasC, reC, C.sim, intC, boolC]
theorem C.sim_trans {x y z : C} (h : x.sim y) (h' : y.sim z) : x.sim z := by
  cases x <;> cases y <;> simp only [C.sim] at h <;> first | (cases h; done) | (cases z <;> simp_all [C.sim])
theorem simL_cons {x y : C} {xs ys : List C} (h : C.sim x y) (hs : simL C.sim xs ys) : simL C.sim (x :: xs) (y :: ys) := by
  cases xs <;> cases ys <;> first | exact h | exact ⟨h, hs⟩ | exact hs.elim
theorem simL_uncons {x y : C} {xs ys : List C} (h : simL C.sim (x :: xs) (y :: ys)) : C.sim x y ∧ simL C.sim xs ys := by
  cases xs <;> cases ys <;> first | exact ⟨h, trivial⟩ | exact h
theorem simL_trans2 : ∀ {a b c : List C}, simL C.sim a b → simL C.sim b c → simL C.sim a c
  | [], [], [], _, _ => trivial
  | x :: xs, y :: ys, z :: zs, h, h' => simL_cons (C.sim_trans (simL_uncons h).1 (simL_uncons h').1) (simL_trans2 (simL_uncons h).2 (simL_uncons h').2)
  | [], _ :: _, _, h, _ => False.elim h
  | x :: xs, [], _, h, _ => by cases xs <;> exact False.elim h
  | [], [], _ :: _, _, h => False.elim h
  | _ :: _, y :: ys, [], _, h => by cases ys <;> exact False.elim h
theorem cells_sim : ∀ (ks : List EK) (l pre : List C), hasL ks l = true → simL C.sim l (mkCells ks (fun j => (pre ++ l).getD j dflt) pre.length)
  | [], [], _, _ => trivial
  | k :: ks, c :: cs, pre, h => by
    simp only [hasL, Bool.and_eq_true] at h
    have ih := cells_sim ks cs (pre ++ [c]) h.2
    simp only [List.append_assoc, List.singleton_append, List.length_append, List.length_singleton] at ih
    refine simL_cons ?_ ih
    have : (pre ++ c :: cs).getD pre.length dflt = c := by simp [List.getD]
    show C.sim c (reC k ((pre ++ c :: cs).getD pre.length dflt))
    rw [this]
    exact sim_re h.1
  | [], _ :: _, _, h => by cases h
  | _ :: _, [], _, h => by cases h
theorem par_con {ks : List EK} : ∀ (t t' : Tree (SV × SW)), Par t t' → shapeT ks t' = true → conP (.a (mkCells ks (fun j => (pick t').getD j dflt) 0)) t := by
  intro t
  induction t with
  | leaf x =>
    intro t' h hs
    obtain ⟨v, s⟩ := x
    cases v with
    | a l =>
      cases t' with
      | leaf y =>
        obtain ⟨v', s'⟩ := y
        cases v' with
        | a l' => exact simL_trans2 h (cells_sim ks l' [] hs)
        | _ => exact False.elim h
      | _ => exact False.elim h
    | _ => cases t' <;> exact False.elim h
  | node b t f iht ihf =>
    intro t' h hs
    cases t' with
    | node b' t1 f1 =>
      obtain ⟨rfl, h1, h2⟩ := h
      simp only [shapeT, Bool.and_eq_true] at hs
      refine ⟨fun hb => ?_, fun hb => ?_⟩
      · subst hb; exact iht t1 h1 hs.1
      · subst hb; exact ihf f1 h2 hs.2
    | _ => exact False.elim h
  | need b t ih =>
    intro t' h hs
    cases t' with
    | need b' t1 => exact ⟨h.1, ih t1 h.2 hs⟩
    | _ => exact False.elim h
  | fail => intro t' h; cases t' <;> exact False.elim h
end Go.Proofs.Ytbnglhfhmhnimaa

