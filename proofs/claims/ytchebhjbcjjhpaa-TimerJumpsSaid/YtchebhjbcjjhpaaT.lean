import Derived.Test.YtchebhjbcjjhpaaK
set_option linter.unusedVariables false
set_option linter.unusedSimpArgs false
namespace Go.Proofs.Ytchebhjbcjjhpaa
open Go Go.Proofs Go.Proofs.Ytchebhjbcjjhpaa.Ev
set_option maxRecDepth 100000
def wfR : Nat → List C → Bool
  | 0, [.i false .i64 _] => true
  | n + 1, .i false .i64 _ :: .i false .u16 _ :: .i false .i64 _ :: .i false .i64 _ :: l => wfR n l
  | _, _ => false
theorem wfR_cons {n : Nat} {l : List C} (h : wfR (n + 1) l = true) : ∃ a b c d l', l = .i false .i64 a :: .i false .u16 b :: .i false .i64 c :: .i false .i64 d :: l' ∧ wfR n l' = true := by
  unfold wfR at h
  split at h
  · rename_i h0; omega
  · rename_i m a b c d l' h0
    obtain rfl : n = m := by omega
    exact ⟨a, b, c, d, l', rfl, h⟩
  · cases h
theorem wfR_eq {l : List C} (h : wfR 4 l = true) : l = rk (iA l) (iA l 16) := by
  obtain ⟨a0, b0, c0, d0, l0, rfl, h0⟩ := wfR_cons h
  obtain ⟨a1, b1, c1, d1, l1, rfl, h1⟩ := wfR_cons h0
  obtain ⟨a2, b2, c2, d2, l2, rfl, h2⟩ := wfR_cons h1
  obtain ⟨a3, b3, c3, d3, l3, rfl, h3⟩ := wfR_cons h2
  unfold wfR at h3
  split at h3
  · rfl
  · rename_i h0 _; omega
  · cases h3
def iAK {β : Type} : List C → Nat → (Int → β) → β → β
  | .i _ _ v :: _, 0, K, _ => K v
  | _ :: l, j + 1, K, F => iAK l j K F
  | _, _, _, F => F
theorem iAK_eq {β : Type} {x : β} : ∀ (l : List C) (j : Nat) (K : Int → Option β), iAK l j K none = some x → K (iA l j) = some x := by
  intro l
  induction l with
  | nil => intro j K h; cases j <;> cases h
  | cons c l ih =>
    intro j K h
    cases j with
    | zero => cases c <;> first | exact h | cases h
    | succ j => cases c <;> exact ih j K h
def opK (l l2 : List C) (Z : Bl) : FuncId → List SV → Option (Tree (SV × SW)) := fun g vs => match g, vs with
  | 21, [.c (.p 1 0)] => iAK l2 1 (fun c => some (.leaf (.c (.b false (rnR c)), [⟨l, 56⟩, ⟨l2, 32⟩, Z]))) none
  | 20, [.c (.p 1 0)] => iAK l2 1 (fun c => some (.need (decide (0 ≤ c)) (.leaf (.c (.i false .i64 (stR c)), [⟨l, 56⟩, ⟨l2, 32⟩, Z])))) none
  | 19, [.c (.p 1 0), .c (.i true .i64 0)] => iAK l2 1 (fun c => some (.leaf (.c (.b false (alC 0 c)), [⟨l, 56⟩, ⟨l2, 32⟩, Z]))) none
  | 21, [.c (.p 1 4)] => iAK l2 5 (fun c => some (.leaf (.c (.b false (rnR c)), [⟨l, 56⟩, ⟨l2, 32⟩, Z]))) none
  | 20, [.c (.p 1 4)] => iAK l2 5 (fun c => some (.need (decide (0 ≤ c)) (.leaf (.c (.i false .i64 (stR c)), [⟨l, 56⟩, ⟨l2, 32⟩, Z])))) none
  | 19, [.c (.p 1 0), .c (.i true .i64 1)] => iAK l2 5 (fun c => some (.leaf (.c (.b false (alC 1 c)), [⟨l, 56⟩, ⟨l2, 32⟩, Z]))) none
  | 21, [.c (.p 1 8)] => iAK l2 9 (fun c => some (.leaf (.c (.b false (rnR c)), [⟨l, 56⟩, ⟨l2, 32⟩, Z]))) none
  | 20, [.c (.p 1 8)] => iAK l2 9 (fun c => some (.need (decide (0 ≤ c)) (.leaf (.c (.i false .i64 (stR c)), [⟨l, 56⟩, ⟨l2, 32⟩, Z])))) none
  | 19, [.c (.p 1 0), .c (.i true .i64 2)] => iAK l2 9 (fun c => some (.leaf (.c (.b false (alC 2 c)), [⟨l, 56⟩, ⟨l2, 32⟩, Z]))) none
  | 21, [.c (.p 1 12)] => iAK l2 13 (fun c => some (.leaf (.c (.b false (rnR c)), [⟨l, 56⟩, ⟨l2, 32⟩, Z]))) none
  | 20, [.c (.p 1 12)] => iAK l2 13 (fun c => some (.need (decide (0 ≤ c)) (.leaf (.c (.i false .i64 (stR c)), [⟨l, 56⟩, ⟨l2, 32⟩, Z])))) none
  | 19, [.c (.p 1 0), .c (.i true .i64 3)] => iAK l2 13 (fun c => some (.leaf (.c (.b false (alC 3 c)), [⟨l, 56⟩, ⟨l2, 32⟩, Z]))) none
  | _, _ => none
theorem opK_ok {E : World} {l l2 : List C} {Z : Bl} {g : FuncId} {vs : List SV} {t : Tree (SV × SW)} (hl : wfP 4 l = true) (hl2 : wfR 4 l2 = true) (h : opK l l2 Z g vs = some t) : CallTree (pe E) g vs [⟨l, 56⟩, ⟨l2, 32⟩, Z] t := by
  unfold opK at h
  split at h
  · have h := iAK_eq _ _ _ h
    cases h
    have K : ∀ p r w, l = pk p → l2 = rk r w → CallTree (pe E) 21 [.c (.p 1 0)] [⟨l, 56⟩, ⟨l2, 32⟩, Z] (.leaf (.c (.b false (rnR (r 1))), [⟨l, 56⟩, ⟨l2, 32⟩, Z])) := by
      intro p r w h1 h2
      rw [h1, h2]
      exact rn0_c E p Z r w
    exact K _ _ _ (wfP_eq hl) (wfR_eq hl2)
  · have h := iAK_eq _ _ _ h
    cases h
    have K : ∀ p r w, l = pk p → l2 = rk r w → 0 ≤ r 1 → CallTree (pe E) 20 [.c (.p 1 0)] [⟨l, 56⟩, ⟨l2, 32⟩, Z] (.leaf (.c (.i false .i64 (stR (r 1))), [⟨l, 56⟩, ⟨l2, 32⟩, Z])) := by
      intro p r w h1 h2 h3
      rw [h1, h2]
      exact st0_c E p Z r w h3
    exact CallTree.need fun h3 => K _ _ _ (wfP_eq hl) (wfR_eq hl2) (of_decide_eq_true h3)
  · have h := iAK_eq _ _ _ h
    cases h
    have K : ∀ p r w, l = pk p → l2 = rk r w → CallTree (pe E) 19 [.c (.p 1 0), .c (.i true .i64 0)] [⟨l, 56⟩, ⟨l2, 32⟩, Z] (.leaf (.c (.b false (alC 0 (r 1))), [⟨l, 56⟩, ⟨l2, 32⟩, Z])) := by
      intro p r w h1 h2
      rw [h1, h2]
      exact al0_c E p Z r w
    exact K _ _ _ (wfP_eq hl) (wfR_eq hl2)
  · have h := iAK_eq _ _ _ h
    cases h
    have K : ∀ p r w, l = pk p → l2 = rk r w → CallTree (pe E) 21 [.c (.p 1 4)] [⟨l, 56⟩, ⟨l2, 32⟩, Z] (.leaf (.c (.b false (rnR (r 5))), [⟨l, 56⟩, ⟨l2, 32⟩, Z])) := by
      intro p r w h1 h2
      rw [h1, h2]
      exact rn1_c E p Z r w
    exact K _ _ _ (wfP_eq hl) (wfR_eq hl2)
  · have h := iAK_eq _ _ _ h
    cases h
    have K : ∀ p r w, l = pk p → l2 = rk r w → 0 ≤ r 5 → CallTree (pe E) 20 [.c (.p 1 4)] [⟨l, 56⟩, ⟨l2, 32⟩, Z] (.leaf (.c (.i false .i64 (stR (r 5))), [⟨l, 56⟩, ⟨l2, 32⟩, Z])) := by
      intro p r w h1 h2 h3
      rw [h1, h2]
      exact st1_c E p Z r w h3
    exact CallTree.need fun h3 => K _ _ _ (wfP_eq hl) (wfR_eq hl2) (of_decide_eq_true h3)
  · have h := iAK_eq _ _ _ h
    cases h
    have K : ∀ p r w, l = pk p → l2 = rk r w → CallTree (pe E) 19 [.c (.p 1 0), .c (.i true .i64 1)] [⟨l, 56⟩, ⟨l2, 32⟩, Z] (.leaf (.c (.b false (alC 1 (r 5))), [⟨l, 56⟩, ⟨l2, 32⟩, Z])) := by
      intro p r w h1 h2
      rw [h1, h2]
      exact al1_c E p Z r w
    exact K _ _ _ (wfP_eq hl) (wfR_eq hl2)
  · have h := iAK_eq _ _ _ h
    cases h
    have K : ∀ p r w, l = pk p → l2 = rk r w → CallTree (pe E) 21 [.c (.p 1 8)] [⟨l, 56⟩, ⟨l2, 32⟩, Z] (.leaf (.c (.b false (rnR (r 9))), [⟨l, 56⟩, ⟨l2, 32⟩, Z])) := by
      intro p r w h1 h2
      rw [h1, h2]
      exact rn2_c E p Z r w
    exact K _ _ _ (wfP_eq hl) (wfR_eq hl2)
  · have h := iAK_eq _ _ _ h
    cases h
    have K : ∀ p r w, l = pk p → l2 = rk r w → 0 ≤ r 9 → CallTree (pe E) 20 [.c (.p 1 8)] [⟨l, 56⟩, ⟨l2, 32⟩, Z] (.leaf (.c (.i false .i64 (stR (r 9))), [⟨l, 56⟩, ⟨l2, 32⟩, Z])) := by
      intro p r w h1 h2 h3
      rw [h1, h2]
      exact st2_c E p Z r w h3
    exact CallTree.need fun h3 => K _ _ _ (wfP_eq hl) (wfR_eq hl2) (of_decide_eq_true h3)
  · have h := iAK_eq _ _ _ h
    cases h
    have K : ∀ p r w, l = pk p → l2 = rk r w → CallTree (pe E) 19 [.c (.p 1 0), .c (.i true .i64 2)] [⟨l, 56⟩, ⟨l2, 32⟩, Z] (.leaf (.c (.b false (alC 2 (r 9))), [⟨l, 56⟩, ⟨l2, 32⟩, Z])) := by
      intro p r w h1 h2
      rw [h1, h2]
      exact al2_c E p Z r w
    exact K _ _ _ (wfP_eq hl) (wfR_eq hl2)
  · have h := iAK_eq _ _ _ h
    cases h
    have K : ∀ p r w, l = pk p → l2 = rk r w → CallTree (pe E) 21 [.c (.p 1 12)] [⟨l, 56⟩, ⟨l2, 32⟩, Z] (.leaf (.c (.b false (rnR (r 13))), [⟨l, 56⟩, ⟨l2, 32⟩, Z])) := by
      intro p r w h1 h2
      rw [h1, h2]
      exact rn3_c E p Z r w
    exact K _ _ _ (wfP_eq hl) (wfR_eq hl2)
  · have h := iAK_eq _ _ _ h
    cases h
    have K : ∀ p r w, l = pk p → l2 = rk r w → 0 ≤ r 13 → CallTree (pe E) 20 [.c (.p 1 12)] [⟨l, 56⟩, ⟨l2, 32⟩, Z] (.leaf (.c (.i false .i64 (stR (r 13))), [⟨l, 56⟩, ⟨l2, 32⟩, Z])) := by
      intro p r w h1 h2 h3
      rw [h1, h2]
      exact st3_c E p Z r w h3
    exact CallTree.need fun h3 => K _ _ _ (wfP_eq hl) (wfR_eq hl2) (of_decide_eq_true h3)
  · have h := iAK_eq _ _ _ h
    cases h
    have K : ∀ p r w, l = pk p → l2 = rk r w → CallTree (pe E) 19 [.c (.p 1 0), .c (.i true .i64 3)] [⟨l, 56⟩, ⟨l2, 32⟩, Z] (.leaf (.c (.b false (alC 3 (r 13))), [⟨l, 56⟩, ⟨l2, 32⟩, Z])) := by
      intro p r w h1 h2
      rw [h1, h2]
      exact al3_c E p Z r w
    exact K _ _ _ (wfP_eq hl) (wfR_eq hl2)
  · cases h
def orcK (E : World) : Orc := fun g vs s => match s with
  | [⟨l, 56⟩, ⟨l2, 32⟩, Z] => (match (cond (wfP 4 l && wfR 4 l2) (opK l l2 Z g vs) none) with
    | some t => some t
    | none => orcF E g vs s)
  | _ => orcF E g vs s
theorem orcK_ok {E : World} : OrcOK (pe E) (orcK E) := by
  intro g vs s t h
  unfold orcK at h
  split at h
  · rename_i l l2 Z
    split at h
    · rename_i t' ht
      cases h
      cases hl : (wfP 4 l && wfR 4 l2) <;> rw [hl] at ht <;> simp only [cond_true, cond_false] at ht
      · cases ht
      · rw [Bool.and_eq_true] at hl
        exact opK_ok hl.1 hl.2 ht
    · exact orcF_ok _ _ _ _ h
  · exact orcF_ok _ _ _ _ h
noncomputable def c10 : Code := Try.f10.body.getD .skip
noncomputable def hd10 (E : World) : List Item := headOf (run (pe E) (orcK E) (tabL fns) 20000 (2^200-1) [.code c10] ⟨Try.f10.ntmps, mkFrGo (Tr.mk 12) 0 [.c (.p 1 0)]⟩ [⟨pk (fun _ => 0), 56⟩, ⟨rk (fun _ => 0) 0, 32⟩, ⟨[], 34⟩])
def lv10 (ov : Int) (i : Nat) : List (Nat × SV) := [(0, .c (.p 1 0)), (3, .c (.i false .i64 ov)), (4, .c (.i true .i64 (i : Int)))]
def upR (q : Nat → Int) (i : Nat) (ov : Int) : Bool := cond (alR q i) (IntKind.i64.wrap (q (4 * i + 3) + 1) == stR (q (4 * i + 1))) (cond (rnR (q (4 * i + 1))) ((ov.fdiv (2 ^ (i - 1))).tmod 2 == 1) false)
def flow (q : Nat → Int) (i : Nat) : Bool := IntKind.i64.wrap (q (4 * i + 2) + 1) == 65536
def tC2 (q : Nat → Int) (i : Nat) (ov : Int) : Int := cond (upR q i ov) (cond (flow q i) (q (4 * i)) (IntKind.i64.wrap (q (4 * i + 2) + 1))) (q (4 * i + 2))
def tC3 (q : Nat → Int) (i : Nat) : Int := cond (alR q i) (cond (IntKind.i64.wrap (q (4 * i + 3) + 1) == stR (q (4 * i + 1))) 0 (IntKind.i64.wrap (q (4 * i + 3) + 1))) (q (4 * i + 3))
def tkQ (q : Nat → Int) (i : Nat) (ov : Int) : Nat → Int := u2 q i (tC2 q i ov) (tC3 q i)
def tkO (q : Nat → Int) (i : Nat) (ov : Int) : Int := cond (upR q i ov && flow q i) (IntKind.i64.wrap (ov + 2 ^ i)) ov
theorem tick_pro (E : World) (p : Nat → Int) (z1 z2 z3 z4 : Int) (q : Nat → Int) (w ov : Int) :
    (loopP (pe E) Try.f10 (fun v _ => False) (fun todo fr s' => todo = hd10 E ∧ fr.nt = Try.f10.ntmps ∧ refP fr (lv10 0 0) ∧ refT s' [⟨pk p, 56⟩, ⟨rk q (IntKind.i64.wrap (w + 1)), 32⟩, ⟨[.i false .i64 z1, .i false .i64 z2, .i false .i64 z3, .i false .u16 z4], 34⟩]) (run (pe E) (orcK E) (tabL fns) 20000 (2^200-1) [.code c10] ⟨Try.f10.ntmps, mkFrGo (Tr.mk 12) 0 [.c (.p 1 0)]⟩ [⟨pk p, 56⟩, ⟨rk q w, 32⟩, ⟨[.i false .i64 z1, .i false .i64 z2, .i false .i64 z3, .i false .u16 z4], 34⟩])) =
    (hd10 E = hd10 E ∧ (76 : Nat) = (76 : Nat) ∧ (C.p (1 : Nat) (0 : Nat) = C.p (1 : Nat) (0 : Nat) ∧ (IntKind.i64 = IntKind.i64 ∧ (0 : Int) = (0 : Int)) ∧ IntKind.i64 =
      IntKind.i64 ∧ (0 : Int) = (0 : Int)) ∧ ((56 : Nat) = (56 : Nat) ∧ (IntKind.u16 = IntKind.u16 ∧ p (0 : Nat) = p (0 : Nat)) ∧ (IntKind.u16 = IntKind.u16 ∧ p (1 : Nat) = p (1
      : Nat)) ∧ (IntKind.u16 = IntKind.u16 ∧ p (2 : Nat) = p (2 : Nat)) ∧ (IntKind.i64 = IntKind.i64 ∧ p (3 : Nat) = p (3 : Nat)) ∧ (IntKind.u16 = IntKind.u16 ∧ p (4 : Nat) = p
      (4 : Nat)) ∧ (IntKind.u16 = IntKind.u16 ∧ p (5 : Nat) = p (5 : Nat)) ∧ (IntKind.u16 = IntKind.u16 ∧ p (6 : Nat) = p (6 : Nat)) ∧ (IntKind.i64 = IntKind.i64 ∧ p (7 : Nat) =
      p (7 : Nat)) ∧ (IntKind.u16 = IntKind.u16 ∧ p (8 : Nat) = p (8 : Nat)) ∧ (IntKind.u16 = IntKind.u16 ∧ p (9 : Nat) = p (9 : Nat)) ∧ (IntKind.u16 = IntKind.u16 ∧ p (10 :
      Nat) = p (10 : Nat)) ∧ (IntKind.i64 = IntKind.i64 ∧ p (11 : Nat) = p (11 : Nat)) ∧ (IntKind.u16 = IntKind.u16 ∧ p (12 : Nat) = p (12 : Nat)) ∧ (IntKind.u16 = IntKind.u16 ∧
      p (13 : Nat) = p (13 : Nat)) ∧ (IntKind.u16 = IntKind.u16 ∧ p (14 : Nat) = p (14 : Nat)) ∧ IntKind.i64 = IntKind.i64 ∧ p (15 : Nat) = p (15 : Nat)) ∧ ((32 : Nat) = (32 :
      Nat) ∧ (IntKind.i64 = IntKind.i64 ∧ q (0 : Nat) = q (0 : Nat)) ∧ (IntKind.u16 = IntKind.u16 ∧ q (1 : Nat) = q (1 : Nat)) ∧ (IntKind.i64 = IntKind.i64 ∧ q (2 : Nat) = q (2
      : Nat)) ∧ (IntKind.i64 = IntKind.i64 ∧ q (3 : Nat) = q (3 : Nat)) ∧ (IntKind.i64 = IntKind.i64 ∧ q (4 : Nat) = q (4 : Nat)) ∧ (IntKind.u16 = IntKind.u16 ∧ q (5 : Nat) = q
      (5 : Nat)) ∧ (IntKind.i64 = IntKind.i64 ∧ q (6 : Nat) = q (6 : Nat)) ∧ (IntKind.i64 = IntKind.i64 ∧ q (7 : Nat) = q (7 : Nat)) ∧ (IntKind.i64 = IntKind.i64 ∧ q (8 : Nat) =
      q (8 : Nat)) ∧ (IntKind.u16 = IntKind.u16 ∧ q (9 : Nat) = q (9 : Nat)) ∧ (IntKind.i64 = IntKind.i64 ∧ q (10 : Nat) = q (10 : Nat)) ∧ (IntKind.i64 = IntKind.i64 ∧ q (11 :
      Nat) = q (11 : Nat)) ∧ (IntKind.i64 = IntKind.i64 ∧ q (12 : Nat) = q (12 : Nat)) ∧ (IntKind.u16 = IntKind.u16 ∧ q (13 : Nat) = q (13 : Nat)) ∧ (IntKind.i64 = IntKind.i64 ∧
      q (14 : Nat) = q (14 : Nat)) ∧ (IntKind.i64 = IntKind.i64 ∧ q (15 : Nat) = q (15 : Nat)) ∧ IntKind.i64 = IntKind.i64 ∧ IntKind.i64.wrap (w + (1 : Int)) = IntKind.i64.wrap
      (w + (1 : Int))) ∧ ((34 : Nat) = (34 : Nat) ∧ (IntKind.i64 = IntKind.i64 ∧ z1 = z1) ∧ (IntKind.i64 = IntKind.i64 ∧ z2 = z2) ∧ (IntKind.i64 = IntKind.i64 ∧ z3 = z3) ∧
      IntKind.u16 = IntKind.u16 ∧ z4 = z4) ∧ True) := by kernel_rfl
theorem tick_r0 (E : World) (p : Nat → Int) (z1 z2 z3 z4 : Int) (q : Nat → Int) (w ov : Int) :
    (loopP (pe E) Try.f10 (fun v s1 => False) (fun todo fr s' => todo = hd10 E ∧ fr.nt = Try.f10.ntmps ∧ refP fr (lv10 (tkO q 0 ov) 1) ∧ refT s' [⟨pk p, 56⟩, ⟨rk (tkQ q 0 ov) w, 32⟩, ⟨[.i false .i64 z1, .i false .i64 z2, .i false .i64 z3, .i false .u16 z4], 34⟩]) (run (pe E) (orcK E) (tabL fns) 20000 (2^200-1) (hd10 E) (mkL Try.f10.ntmps (lv10 ov 0)) [⟨pk p, 56⟩, ⟨rk q w, 32⟩, ⟨[.i false .i64 z1, .i false .i64 z2, .i false .i64 z3, .i false .u16 z4], 34⟩])) =
    ((alC (0 : Nat) (q (1 : Nat)) = true → decide ((0 : Int) ≤ q (1 : Nat)) = true ∧ decide (p (0 : Nat) = p (0 : Nat)) = true ∧ decide (p (1 : Nat) = p (1 : Nat)) = true ∧
      decide (p (2 : Nat) = p (2 : Nat)) = true ∧ decide (p (3 : Nat) = p (3 : Nat)) = true ∧ decide (p (4 : Nat) = p (4 : Nat)) = true ∧ decide (p (5 : Nat) = p (5 : Nat)) =
      true ∧ decide (p (6 : Nat) = p (6 : Nat)) = true ∧ decide (p (7 : Nat) = p (7 : Nat)) = true ∧ decide (p (8 : Nat) = p (8 : Nat)) = true ∧ decide (p (9 : Nat) = p (9 :
      Nat)) = true ∧ decide (p (10 : Nat) = p (10 : Nat)) = true ∧ decide (p (11 : Nat) = p (11 : Nat)) = true ∧ decide (p (12 : Nat) = p (12 : Nat)) = true ∧ decide (p (13 :
      Nat) = p (13 : Nat)) = true ∧ decide (p (14 : Nat) = p (14 : Nat)) = true ∧ decide (p (15 : Nat) = p (15 : Nat)) = true ∧ decide (q (0 : Nat) = q (0 : Nat)) = true ∧
      decide (q (1 : Nat) = q (1 : Nat)) = true ∧ decide (q (2 : Nat) = q (2 : Nat)) = true ∧ decide (IntKind.i64.wrap (q (3 : Nat) + (1 : Int)) = IntKind.i64.wrap (q (3 : Nat)
      + (1 : Int))) = true ∧ decide (q (4 : Nat) = q (4 : Nat)) = true ∧ decide (q (5 : Nat) = q (5 : Nat)) = true ∧ decide (q (6 : Nat) = q (6 : Nat)) = true ∧ decide (q (7 :
      Nat) = q (7 : Nat)) = true ∧ decide (q (8 : Nat) = q (8 : Nat)) = true ∧ decide (q (9 : Nat) = q (9 : Nat)) = true ∧ decide (q (10 : Nat) = q (10 : Nat)) = true ∧ decide
      (q (11 : Nat) = q (11 : Nat)) = true ∧ decide (q (12 : Nat) = q (12 : Nat)) = true ∧ decide (q (13 : Nat) = q (13 : Nat)) = true ∧ decide (q (14 : Nat) = q (14 : Nat)) =
      true ∧ decide (q (15 : Nat) = q (15 : Nat)) = true ∧ decide (w = w) = true ∧ decide (z1 = z1) = true ∧ decide (z2 = z2) = true ∧ decide (z3 = z3) = true ∧ decide (z4 = z4)
      = true ∧ ((IntKind.i64.wrap (q (3 : Nat) + (1 : Int)) == stR (q (1 : Nat))) = true → ((IntKind.i64.wrap (q (2 : Nat) + (1 : Int)) == (65536 : Int)) = true → hd10 E = hd10
      E ∧ (76 : Nat) = (76 : Nat) ∧ (C.p (1 : Nat) (0 : Nat) = C.p (1 : Nat) (0 : Nat) ∧ (IntKind.i64 = IntKind.i64 ∧ IntKind.i64.wrap (ov + (1 : Int)) = tkO q (0 : Nat) ov) ∧
      IntKind.i64 = IntKind.i64 ∧ (1 : Int) = (1 : Int)) ∧ ((56 : Nat) = (56 : Nat) ∧ (IntKind.u16 = IntKind.u16 ∧ p (0 : Nat) = p (0 : Nat)) ∧ (IntKind.u16 = IntKind.u16 ∧ p (1
      : Nat) = p (1 : Nat)) ∧ (IntKind.u16 = IntKind.u16 ∧ p (2 : Nat) = p (2 : Nat)) ∧ (IntKind.i64 = IntKind.i64 ∧ p (3 : Nat) = p (3 : Nat)) ∧ (IntKind.u16 = IntKind.u16 ∧ p
      (4 : Nat) = p (4 : Nat)) ∧ (IntKind.u16 = IntKind.u16 ∧ p (5 : Nat) = p (5 : Nat)) ∧ (IntKind.u16 = IntKind.u16 ∧ p (6 : Nat) = p (6 : Nat)) ∧ (IntKind.i64 = IntKind.i64 ∧
      p (7 : Nat) = p (7 : Nat)) ∧ (IntKind.u16 = IntKind.u16 ∧ p (8 : Nat) = p (8 : Nat)) ∧ (IntKind.u16 = IntKind.u16 ∧ p (9 : Nat) = p (9 : Nat)) ∧ (IntKind.u16 = IntKind.u16
      ∧ p (10 : Nat) = p (10 : Nat)) ∧ (IntKind.i64 = IntKind.i64 ∧ p (11 : Nat) = p (11 : Nat)) ∧ (IntKind.u16 = IntKind.u16 ∧ p (12 : Nat) = p (12 : Nat)) ∧ (IntKind.u16 =
      IntKind.u16 ∧ p (13 : Nat) = p (13 : Nat)) ∧ (IntKind.u16 = IntKind.u16 ∧ p (14 : Nat) = p (14 : Nat)) ∧ IntKind.i64 = IntKind.i64 ∧ p (15 : Nat) = p (15 : Nat)) ∧ ((32 :
      Nat) = (32 : Nat) ∧ (IntKind.i64 = IntKind.i64 ∧ q (0 : Nat) = tkQ q (0 : Nat) ov (0 : Nat)) ∧ (IntKind.u16 = IntKind.u16 ∧ q (1 : Nat) = tkQ q (0 : Nat) ov (1 : Nat)) ∧
      (IntKind.i64 = IntKind.i64 ∧ q (0 : Nat) = tkQ q (0 : Nat) ov (2 : Nat)) ∧ (IntKind.i64 = IntKind.i64 ∧ (0 : Int) = tkQ q (0 : Nat) ov (3 : Nat)) ∧ (IntKind.i64 =
      IntKind.i64 ∧ q (4 : Nat) = tkQ q (0 : Nat) ov (4 : Nat)) ∧ (IntKind.u16 = IntKind.u16 ∧ q (5 : Nat) = tkQ q (0 : Nat) ov (5 : Nat)) ∧ (IntKind.i64 = IntKind.i64 ∧ q (6 :
      Nat) = tkQ q (0 : Nat) ov (6 : Nat)) ∧ (IntKind.i64 = IntKind.i64 ∧ q (7 : Nat) = tkQ q (0 : Nat) ov (7 : Nat)) ∧ (IntKind.i64 = IntKind.i64 ∧ q (8 : Nat) = tkQ q (0 :
      Nat) ov (8 : Nat)) ∧ (IntKind.u16 = IntKind.u16 ∧ q (9 : Nat) = tkQ q (0 : Nat) ov (9 : Nat)) ∧ (IntKind.i64 = IntKind.i64 ∧ q (10 : Nat) = tkQ q (0 : Nat) ov (10 : Nat))
      ∧ (IntKind.i64 = IntKind.i64 ∧ q (11 : Nat) = tkQ q (0 : Nat) ov (11 : Nat)) ∧ (IntKind.i64 = IntKind.i64 ∧ q (12 : Nat) = tkQ q (0 : Nat) ov (12 : Nat)) ∧ (IntKind.u16 =
      IntKind.u16 ∧ q (13 : Nat) = tkQ q (0 : Nat) ov (13 : Nat)) ∧ (IntKind.i64 = IntKind.i64 ∧ q (14 : Nat) = tkQ q (0 : Nat) ov (14 : Nat)) ∧ (IntKind.i64 = IntKind.i64 ∧ q
      (15 : Nat) = tkQ q (0 : Nat) ov (15 : Nat)) ∧ IntKind.i64 = IntKind.i64 ∧ w = w) ∧ ((34 : Nat) = (34 : Nat) ∧ (IntKind.i64 = IntKind.i64 ∧ z1 = z1) ∧ (IntKind.i64 =
      IntKind.i64 ∧ z2 = z2) ∧ (IntKind.i64 = IntKind.i64 ∧ z3 = z3) ∧ IntKind.u16 = IntKind.u16 ∧ z4 = z4) ∧ True) ∧ ((IntKind.i64.wrap (q (2 : Nat) + (1 : Int)) == (65536 :
      Int)) = false → hd10 E = hd10 E ∧ (76 : Nat) = (76 : Nat) ∧ (C.p (1 : Nat) (0 : Nat) = C.p (1 : Nat) (0 : Nat) ∧ (IntKind.i64 = IntKind.i64 ∧ ov = tkO q (0 : Nat) ov) ∧
      IntKind.i64 = IntKind.i64 ∧ (1 : Int) = (1 : Int)) ∧ ((56 : Nat) = (56 : Nat) ∧ (IntKind.u16 = IntKind.u16 ∧ p (0 : Nat) = p (0 : Nat)) ∧ (IntKind.u16 = IntKind.u16 ∧ p (1
      : Nat) = p (1 : Nat)) ∧ (IntKind.u16 = IntKind.u16 ∧ p (2 : Nat) = p (2 : Nat)) ∧ (IntKind.i64 = IntKind.i64 ∧ p (3 : Nat) = p (3 : Nat)) ∧ (IntKind.u16 = IntKind.u16 ∧ p
      (4 : Nat) = p (4 : Nat)) ∧ (IntKind.u16 = IntKind.u16 ∧ p (5 : Nat) = p (5 : Nat)) ∧ (IntKind.u16 = IntKind.u16 ∧ p (6 : Nat) = p (6 : Nat)) ∧ (IntKind.i64 = IntKind.i64 ∧
      p (7 : Nat) = p (7 : Nat)) ∧ (IntKind.u16 = IntKind.u16 ∧ p (8 : Nat) = p (8 : Nat)) ∧ (IntKind.u16 = IntKind.u16 ∧ p (9 : Nat) = p (9 : Nat)) ∧ (IntKind.u16 = IntKind.u16
      ∧ p (10 : Nat) = p (10 : Nat)) ∧ (IntKind.i64 = IntKind.i64 ∧ p (11 : Nat) = p (11 : Nat)) ∧ (IntKind.u16 = IntKind.u16 ∧ p (12 : Nat) = p (12 : Nat)) ∧ (IntKind.u16 =
      IntKind.u16 ∧ p (13 : Nat) = p (13 : Nat)) ∧ (IntKind.u16 = IntKind.u16 ∧ p (14 : Nat) = p (14 : Nat)) ∧ IntKind.i64 = IntKind.i64 ∧ p (15 : Nat) = p (15 : Nat)) ∧ ((32 :
      Nat) = (32 : Nat) ∧ (IntKind.i64 = IntKind.i64 ∧ q (0 : Nat) = tkQ q (0 : Nat) ov (0 : Nat)) ∧ (IntKind.u16 = IntKind.u16 ∧ q (1 : Nat) = tkQ q (0 : Nat) ov (1 : Nat)) ∧
      (IntKind.i64 = IntKind.i64 ∧ IntKind.i64.wrap (q (2 : Nat) + (1 : Int)) = tkQ q (0 : Nat) ov (2 : Nat)) ∧ (IntKind.i64 = IntKind.i64 ∧ (0 : Int) = tkQ q (0 : Nat) ov (3 :
      Nat)) ∧ (IntKind.i64 = IntKind.i64 ∧ q (4 : Nat) = tkQ q (0 : Nat) ov (4 : Nat)) ∧ (IntKind.u16 = IntKind.u16 ∧ q (5 : Nat) = tkQ q (0 : Nat) ov (5 : Nat)) ∧ (IntKind.i64
      = IntKind.i64 ∧ q (6 : Nat) = tkQ q (0 : Nat) ov (6 : Nat)) ∧ (IntKind.i64 = IntKind.i64 ∧ q (7 : Nat) = tkQ q (0 : Nat) ov (7 : Nat)) ∧ (IntKind.i64 = IntKind.i64 ∧ q (8
      : Nat) = tkQ q (0 : Nat) ov (8 : Nat)) ∧ (IntKind.u16 = IntKind.u16 ∧ q (9 : Nat) = tkQ q (0 : Nat) ov (9 : Nat)) ∧ (IntKind.i64 = IntKind.i64 ∧ q (10 : Nat) = tkQ q (0 :
      Nat) ov (10 : Nat)) ∧ (IntKind.i64 = IntKind.i64 ∧ q (11 : Nat) = tkQ q (0 : Nat) ov (11 : Nat)) ∧ (IntKind.i64 = IntKind.i64 ∧ q (12 : Nat) = tkQ q (0 : Nat) ov (12 :
      Nat)) ∧ (IntKind.u16 = IntKind.u16 ∧ q (13 : Nat) = tkQ q (0 : Nat) ov (13 : Nat)) ∧ (IntKind.i64 = IntKind.i64 ∧ q (14 : Nat) = tkQ q (0 : Nat) ov (14 : Nat)) ∧
      (IntKind.i64 = IntKind.i64 ∧ q (15 : Nat) = tkQ q (0 : Nat) ov (15 : Nat)) ∧ IntKind.i64 = IntKind.i64 ∧ w = w) ∧ ((34 : Nat) = (34 : Nat) ∧ (IntKind.i64 = IntKind.i64 ∧
      z1 = z1) ∧ (IntKind.i64 = IntKind.i64 ∧ z2 = z2) ∧ (IntKind.i64 = IntKind.i64 ∧ z3 = z3) ∧ IntKind.u16 = IntKind.u16 ∧ z4 = z4) ∧ True)) ∧ ((IntKind.i64.wrap (q (3 : Nat)
      + (1 : Int)) == stR (q (1 : Nat))) = false → hd10 E = hd10 E ∧ (76 : Nat) = (76 : Nat) ∧ (C.p (1 : Nat) (0 : Nat) = C.p (1 : Nat) (0 : Nat) ∧ (IntKind.i64 = IntKind.i64 ∧
      ov = tkO q (0 : Nat) ov) ∧ IntKind.i64 = IntKind.i64 ∧ (1 : Int) = (1 : Int)) ∧ ((56 : Nat) = (56 : Nat) ∧ (IntKind.u16 = IntKind.u16 ∧ p (0 : Nat) = p (0 : Nat)) ∧
      (IntKind.u16 = IntKind.u16 ∧ p (1 : Nat) = p (1 : Nat)) ∧ (IntKind.u16 = IntKind.u16 ∧ p (2 : Nat) = p (2 : Nat)) ∧ (IntKind.i64 = IntKind.i64 ∧ p (3 : Nat) = p (3 : Nat))
      ∧ (IntKind.u16 = IntKind.u16 ∧ p (4 : Nat) = p (4 : Nat)) ∧ (IntKind.u16 = IntKind.u16 ∧ p (5 : Nat) = p (5 : Nat)) ∧ (IntKind.u16 = IntKind.u16 ∧ p (6 : Nat) = p (6 :
      Nat)) ∧ (IntKind.i64 = IntKind.i64 ∧ p (7 : Nat) = p (7 : Nat)) ∧ (IntKind.u16 = IntKind.u16 ∧ p (8 : Nat) = p (8 : Nat)) ∧ (IntKind.u16 = IntKind.u16 ∧ p (9 : Nat) = p (9
      : Nat)) ∧ (IntKind.u16 = IntKind.u16 ∧ p (10 : Nat) = p (10 : Nat)) ∧ (IntKind.i64 = IntKind.i64 ∧ p (11 : Nat) = p (11 : Nat)) ∧ (IntKind.u16 = IntKind.u16 ∧ p (12 : Nat)
      = p (12 : Nat)) ∧ (IntKind.u16 = IntKind.u16 ∧ p (13 : Nat) = p (13 : Nat)) ∧ (IntKind.u16 = IntKind.u16 ∧ p (14 : Nat) = p (14 : Nat)) ∧ IntKind.i64 = IntKind.i64 ∧ p (15
      : Nat) = p (15 : Nat)) ∧ ((32 : Nat) = (32 : Nat) ∧ (IntKind.i64 = IntKind.i64 ∧ q (0 : Nat) = tkQ q (0 : Nat) ov (0 : Nat)) ∧ (IntKind.u16 = IntKind.u16 ∧ q (1 : Nat) =
      tkQ q (0 : Nat) ov (1 : Nat)) ∧ (IntKind.i64 = IntKind.i64 ∧ q (2 : Nat) = tkQ q (0 : Nat) ov (2 : Nat)) ∧ (IntKind.i64 = IntKind.i64 ∧ IntKind.i64.wrap (q (3 : Nat) + (1
      : Int)) = tkQ q (0 : Nat) ov (3 : Nat)) ∧ (IntKind.i64 = IntKind.i64 ∧ q (4 : Nat) = tkQ q (0 : Nat) ov (4 : Nat)) ∧ (IntKind.u16 = IntKind.u16 ∧ q (5 : Nat) = tkQ q (0 :
      Nat) ov (5 : Nat)) ∧ (IntKind.i64 = IntKind.i64 ∧ q (6 : Nat) = tkQ q (0 : Nat) ov (6 : Nat)) ∧ (IntKind.i64 = IntKind.i64 ∧ q (7 : Nat) = tkQ q (0 : Nat) ov (7 : Nat)) ∧
      (IntKind.i64 = IntKind.i64 ∧ q (8 : Nat) = tkQ q (0 : Nat) ov (8 : Nat)) ∧ (IntKind.u16 = IntKind.u16 ∧ q (9 : Nat) = tkQ q (0 : Nat) ov (9 : Nat)) ∧ (IntKind.i64 =
      IntKind.i64 ∧ q (10 : Nat) = tkQ q (0 : Nat) ov (10 : Nat)) ∧ (IntKind.i64 = IntKind.i64 ∧ q (11 : Nat) = tkQ q (0 : Nat) ov (11 : Nat)) ∧ (IntKind.i64 = IntKind.i64 ∧ q
      (12 : Nat) = tkQ q (0 : Nat) ov (12 : Nat)) ∧ (IntKind.u16 = IntKind.u16 ∧ q (13 : Nat) = tkQ q (0 : Nat) ov (13 : Nat)) ∧ (IntKind.i64 = IntKind.i64 ∧ q (14 : Nat) = tkQ
      q (0 : Nat) ov (14 : Nat)) ∧ (IntKind.i64 = IntKind.i64 ∧ q (15 : Nat) = tkQ q (0 : Nat) ov (15 : Nat)) ∧ IntKind.i64 = IntKind.i64 ∧ w = w) ∧ ((34 : Nat) = (34 : Nat) ∧
      (IntKind.i64 = IntKind.i64 ∧ z1 = z1) ∧ (IntKind.i64 = IntKind.i64 ∧ z2 = z2) ∧ (IntKind.i64 = IntKind.i64 ∧ z3 = z3) ∧ IntKind.u16 = IntKind.u16 ∧ z4 = z4) ∧ True)) ∧
      (alC (0 : Nat) (q (1 : Nat)) = false → (rnR (q (1 : Nat)) = true → False) ∧ (rnR (q (1 : Nat)) = false → hd10 E = hd10 E ∧ (76 : Nat) = (76 : Nat) ∧ (C.p (1 : Nat) (0 :
      Nat) = C.p (1 : Nat) (0 : Nat) ∧ (IntKind.i64 = IntKind.i64 ∧ ov = tkO q (0 : Nat) ov) ∧ IntKind.i64 = IntKind.i64 ∧ (1 : Int) = (1 : Int)) ∧ ((56 : Nat) = (56 : Nat) ∧
      (IntKind.u16 = IntKind.u16 ∧ p (0 : Nat) = p (0 : Nat)) ∧ (IntKind.u16 = IntKind.u16 ∧ p (1 : Nat) = p (1 : Nat)) ∧ (IntKind.u16 = IntKind.u16 ∧ p (2 : Nat) = p (2 : Nat))
      ∧ (IntKind.i64 = IntKind.i64 ∧ p (3 : Nat) = p (3 : Nat)) ∧ (IntKind.u16 = IntKind.u16 ∧ p (4 : Nat) = p (4 : Nat)) ∧ (IntKind.u16 = IntKind.u16 ∧ p (5 : Nat) = p (5 :
      Nat)) ∧ (IntKind.u16 = IntKind.u16 ∧ p (6 : Nat) = p (6 : Nat)) ∧ (IntKind.i64 = IntKind.i64 ∧ p (7 : Nat) = p (7 : Nat)) ∧ (IntKind.u16 = IntKind.u16 ∧ p (8 : Nat) = p (8
      : Nat)) ∧ (IntKind.u16 = IntKind.u16 ∧ p (9 : Nat) = p (9 : Nat)) ∧ (IntKind.u16 = IntKind.u16 ∧ p (10 : Nat) = p (10 : Nat)) ∧ (IntKind.i64 = IntKind.i64 ∧ p (11 : Nat) =
      p (11 : Nat)) ∧ (IntKind.u16 = IntKind.u16 ∧ p (12 : Nat) = p (12 : Nat)) ∧ (IntKind.u16 = IntKind.u16 ∧ p (13 : Nat) = p (13 : Nat)) ∧ (IntKind.u16 = IntKind.u16 ∧ p (14
      : Nat) = p (14 : Nat)) ∧ IntKind.i64 = IntKind.i64 ∧ p (15 : Nat) = p (15 : Nat)) ∧ ((32 : Nat) = (32 : Nat) ∧ (IntKind.i64 = IntKind.i64 ∧ q (0 : Nat) = tkQ q (0 : Nat)
      ov (0 : Nat)) ∧ (IntKind.u16 = IntKind.u16 ∧ q (1 : Nat) = tkQ q (0 : Nat) ov (1 : Nat)) ∧ (IntKind.i64 = IntKind.i64 ∧ q (2 : Nat) = tkQ q (0 : Nat) ov (2 : Nat)) ∧
      (IntKind.i64 = IntKind.i64 ∧ q (3 : Nat) = tkQ q (0 : Nat) ov (3 : Nat)) ∧ (IntKind.i64 = IntKind.i64 ∧ q (4 : Nat) = tkQ q (0 : Nat) ov (4 : Nat)) ∧ (IntKind.u16 =
      IntKind.u16 ∧ q (5 : Nat) = tkQ q (0 : Nat) ov (5 : Nat)) ∧ (IntKind.i64 = IntKind.i64 ∧ q (6 : Nat) = tkQ q (0 : Nat) ov (6 : Nat)) ∧ (IntKind.i64 = IntKind.i64 ∧ q (7 :
      Nat) = tkQ q (0 : Nat) ov (7 : Nat)) ∧ (IntKind.i64 = IntKind.i64 ∧ q (8 : Nat) = tkQ q (0 : Nat) ov (8 : Nat)) ∧ (IntKind.u16 = IntKind.u16 ∧ q (9 : Nat) = tkQ q (0 :
      Nat) ov (9 : Nat)) ∧ (IntKind.i64 = IntKind.i64 ∧ q (10 : Nat) = tkQ q (0 : Nat) ov (10 : Nat)) ∧ (IntKind.i64 = IntKind.i64 ∧ q (11 : Nat) = tkQ q (0 : Nat) ov (11 :
      Nat)) ∧ (IntKind.i64 = IntKind.i64 ∧ q (12 : Nat) = tkQ q (0 : Nat) ov (12 : Nat)) ∧ (IntKind.u16 = IntKind.u16 ∧ q (13 : Nat) = tkQ q (0 : Nat) ov (13 : Nat)) ∧
      (IntKind.i64 = IntKind.i64 ∧ q (14 : Nat) = tkQ q (0 : Nat) ov (14 : Nat)) ∧ (IntKind.i64 = IntKind.i64 ∧ q (15 : Nat) = tkQ q (0 : Nat) ov (15 : Nat)) ∧ IntKind.i64 =
      IntKind.i64 ∧ w = w) ∧ ((34 : Nat) = (34 : Nat) ∧ (IntKind.i64 = IntKind.i64 ∧ z1 = z1) ∧ (IntKind.i64 = IntKind.i64 ∧ z2 = z2) ∧ (IntKind.i64 = IntKind.i64 ∧ z3 = z3) ∧
      IntKind.u16 = IntKind.u16 ∧ z4 = z4) ∧ True))) := by kernel_rfl
theorem tick_r1 (E : World) (p : Nat → Int) (z1 z2 z3 z4 : Int) (q : Nat → Int) (w ov : Int) :
    (loopP (pe E) Try.f10 (fun v s1 => False) (fun todo fr s' => todo = hd10 E ∧ fr.nt = Try.f10.ntmps ∧ refP fr (lv10 (tkO q 1 ov) 2) ∧ refT s' [⟨pk p, 56⟩, ⟨rk (tkQ q 1 ov) w, 32⟩, ⟨[.i false .i64 z1, .i false .i64 z2, .i false .i64 z3, .i false .u16 z4], 34⟩]) (run (pe E) (orcK E) (tabL fns) 20000 (2^200-1) (hd10 E) (mkL Try.f10.ntmps (lv10 ov 1)) [⟨pk p, 56⟩, ⟨rk q w, 32⟩, ⟨[.i false .i64 z1, .i false .i64 z2, .i false .i64 z3, .i false .u16 z4], 34⟩])) =
    ((alC (1 : Nat) (q (5 : Nat)) = true → decide ((0 : Int) ≤ q (5 : Nat)) = true ∧ decide (p (0 : Nat) = p (0 : Nat)) = true ∧ decide (p (1 : Nat) = p (1 : Nat)) = true ∧
      decide (p (2 : Nat) = p (2 : Nat)) = true ∧ decide (p (3 : Nat) = p (3 : Nat)) = true ∧ decide (p (4 : Nat) = p (4 : Nat)) = true ∧ decide (p (5 : Nat) = p (5 : Nat)) =
      true ∧ decide (p (6 : Nat) = p (6 : Nat)) = true ∧ decide (p (7 : Nat) = p (7 : Nat)) = true ∧ decide (p (8 : Nat) = p (8 : Nat)) = true ∧ decide (p (9 : Nat) = p (9 :
      Nat)) = true ∧ decide (p (10 : Nat) = p (10 : Nat)) = true ∧ decide (p (11 : Nat) = p (11 : Nat)) = true ∧ decide (p (12 : Nat) = p (12 : Nat)) = true ∧ decide (p (13 :
      Nat) = p (13 : Nat)) = true ∧ decide (p (14 : Nat) = p (14 : Nat)) = true ∧ decide (p (15 : Nat) = p (15 : Nat)) = true ∧ decide (q (0 : Nat) = q (0 : Nat)) = true ∧
      decide (q (1 : Nat) = q (1 : Nat)) = true ∧ decide (q (2 : Nat) = q (2 : Nat)) = true ∧ decide (q (3 : Nat) = q (3 : Nat)) = true ∧ decide (q (4 : Nat) = q (4 : Nat)) =
      true ∧ decide (q (5 : Nat) = q (5 : Nat)) = true ∧ decide (q (6 : Nat) = q (6 : Nat)) = true ∧ decide (IntKind.i64.wrap (q (7 : Nat) + (1 : Int)) = IntKind.i64.wrap (q (7
      : Nat) + (1 : Int))) = true ∧ decide (q (8 : Nat) = q (8 : Nat)) = true ∧ decide (q (9 : Nat) = q (9 : Nat)) = true ∧ decide (q (10 : Nat) = q (10 : Nat)) = true ∧ decide
      (q (11 : Nat) = q (11 : Nat)) = true ∧ decide (q (12 : Nat) = q (12 : Nat)) = true ∧ decide (q (13 : Nat) = q (13 : Nat)) = true ∧ decide (q (14 : Nat) = q (14 : Nat)) =
      true ∧ decide (q (15 : Nat) = q (15 : Nat)) = true ∧ decide (w = w) = true ∧ decide (z1 = z1) = true ∧ decide (z2 = z2) = true ∧ decide (z3 = z3) = true ∧ decide (z4 = z4)
      = true ∧ ((IntKind.i64.wrap (q (7 : Nat) + (1 : Int)) == stR (q (5 : Nat))) = true → ((IntKind.i64.wrap (q (6 : Nat) + (1 : Int)) == (65536 : Int)) = true → hd10 E = hd10
      E ∧ (76 : Nat) = (76 : Nat) ∧ (C.p (1 : Nat) (0 : Nat) = C.p (1 : Nat) (0 : Nat) ∧ (IntKind.i64 = IntKind.i64 ∧ IntKind.i64.wrap (ov + (2 : Int)) = tkO q (1 : Nat) ov) ∧
      IntKind.i64 = IntKind.i64 ∧ (2 : Int) = (2 : Int)) ∧ ((56 : Nat) = (56 : Nat) ∧ (IntKind.u16 = IntKind.u16 ∧ p (0 : Nat) = p (0 : Nat)) ∧ (IntKind.u16 = IntKind.u16 ∧ p (1
      : Nat) = p (1 : Nat)) ∧ (IntKind.u16 = IntKind.u16 ∧ p (2 : Nat) = p (2 : Nat)) ∧ (IntKind.i64 = IntKind.i64 ∧ p (3 : Nat) = p (3 : Nat)) ∧ (IntKind.u16 = IntKind.u16 ∧ p
      (4 : Nat) = p (4 : Nat)) ∧ (IntKind.u16 = IntKind.u16 ∧ p (5 : Nat) = p (5 : Nat)) ∧ (IntKind.u16 = IntKind.u16 ∧ p (6 : Nat) = p (6 : Nat)) ∧ (IntKind.i64 = IntKind.i64 ∧
      p (7 : Nat) = p (7 : Nat)) ∧ (IntKind.u16 = IntKind.u16 ∧ p (8 : Nat) = p (8 : Nat)) ∧ (IntKind.u16 = IntKind.u16 ∧ p (9 : Nat) = p (9 : Nat)) ∧ (IntKind.u16 = IntKind.u16
      ∧ p (10 : Nat) = p (10 : Nat)) ∧ (IntKind.i64 = IntKind.i64 ∧ p (11 : Nat) = p (11 : Nat)) ∧ (IntKind.u16 = IntKind.u16 ∧ p (12 : Nat) = p (12 : Nat)) ∧ (IntKind.u16 =
      IntKind.u16 ∧ p (13 : Nat) = p (13 : Nat)) ∧ (IntKind.u16 = IntKind.u16 ∧ p (14 : Nat) = p (14 : Nat)) ∧ IntKind.i64 = IntKind.i64 ∧ p (15 : Nat) = p (15 : Nat)) ∧ ((32 :
      Nat) = (32 : Nat) ∧ (IntKind.i64 = IntKind.i64 ∧ q (0 : Nat) = tkQ q (1 : Nat) ov (0 : Nat)) ∧ (IntKind.u16 = IntKind.u16 ∧ q (1 : Nat) = tkQ q (1 : Nat) ov (1 : Nat)) ∧
      (IntKind.i64 = IntKind.i64 ∧ q (2 : Nat) = tkQ q (1 : Nat) ov (2 : Nat)) ∧ (IntKind.i64 = IntKind.i64 ∧ q (3 : Nat) = tkQ q (1 : Nat) ov (3 : Nat)) ∧ (IntKind.i64 =
      IntKind.i64 ∧ q (4 : Nat) = tkQ q (1 : Nat) ov (4 : Nat)) ∧ (IntKind.u16 = IntKind.u16 ∧ q (5 : Nat) = tkQ q (1 : Nat) ov (5 : Nat)) ∧ (IntKind.i64 = IntKind.i64 ∧ q (4 :
      Nat) = tkQ q (1 : Nat) ov (6 : Nat)) ∧ (IntKind.i64 = IntKind.i64 ∧ (0 : Int) = tkQ q (1 : Nat) ov (7 : Nat)) ∧ (IntKind.i64 = IntKind.i64 ∧ q (8 : Nat) = tkQ q (1 : Nat)
      ov (8 : Nat)) ∧ (IntKind.u16 = IntKind.u16 ∧ q (9 : Nat) = tkQ q (1 : Nat) ov (9 : Nat)) ∧ (IntKind.i64 = IntKind.i64 ∧ q (10 : Nat) = tkQ q (1 : Nat) ov (10 : Nat)) ∧
      (IntKind.i64 = IntKind.i64 ∧ q (11 : Nat) = tkQ q (1 : Nat) ov (11 : Nat)) ∧ (IntKind.i64 = IntKind.i64 ∧ q (12 : Nat) = tkQ q (1 : Nat) ov (12 : Nat)) ∧ (IntKind.u16 =
      IntKind.u16 ∧ q (13 : Nat) = tkQ q (1 : Nat) ov (13 : Nat)) ∧ (IntKind.i64 = IntKind.i64 ∧ q (14 : Nat) = tkQ q (1 : Nat) ov (14 : Nat)) ∧ (IntKind.i64 = IntKind.i64 ∧ q
      (15 : Nat) = tkQ q (1 : Nat) ov (15 : Nat)) ∧ IntKind.i64 = IntKind.i64 ∧ w = w) ∧ ((34 : Nat) = (34 : Nat) ∧ (IntKind.i64 = IntKind.i64 ∧ z1 = z1) ∧ (IntKind.i64 =
      IntKind.i64 ∧ z2 = z2) ∧ (IntKind.i64 = IntKind.i64 ∧ z3 = z3) ∧ IntKind.u16 = IntKind.u16 ∧ z4 = z4) ∧ True) ∧ ((IntKind.i64.wrap (q (6 : Nat) + (1 : Int)) == (65536 :
      Int)) = false → hd10 E = hd10 E ∧ (76 : Nat) = (76 : Nat) ∧ (C.p (1 : Nat) (0 : Nat) = C.p (1 : Nat) (0 : Nat) ∧ (IntKind.i64 = IntKind.i64 ∧ ov = tkO q (1 : Nat) ov) ∧
      IntKind.i64 = IntKind.i64 ∧ (2 : Int) = (2 : Int)) ∧ ((56 : Nat) = (56 : Nat) ∧ (IntKind.u16 = IntKind.u16 ∧ p (0 : Nat) = p (0 : Nat)) ∧ (IntKind.u16 = IntKind.u16 ∧ p (1
      : Nat) = p (1 : Nat)) ∧ (IntKind.u16 = IntKind.u16 ∧ p (2 : Nat) = p (2 : Nat)) ∧ (IntKind.i64 = IntKind.i64 ∧ p (3 : Nat) = p (3 : Nat)) ∧ (IntKind.u16 = IntKind.u16 ∧ p
      (4 : Nat) = p (4 : Nat)) ∧ (IntKind.u16 = IntKind.u16 ∧ p (5 : Nat) = p (5 : Nat)) ∧ (IntKind.u16 = IntKind.u16 ∧ p (6 : Nat) = p (6 : Nat)) ∧ (IntKind.i64 = IntKind.i64 ∧
      p (7 : Nat) = p (7 : Nat)) ∧ (IntKind.u16 = IntKind.u16 ∧ p (8 : Nat) = p (8 : Nat)) ∧ (IntKind.u16 = IntKind.u16 ∧ p (9 : Nat) = p (9 : Nat)) ∧ (IntKind.u16 = IntKind.u16
      ∧ p (10 : Nat) = p (10 : Nat)) ∧ (IntKind.i64 = IntKind.i64 ∧ p (11 : Nat) = p (11 : Nat)) ∧ (IntKind.u16 = IntKind.u16 ∧ p (12 : Nat) = p (12 : Nat)) ∧ (IntKind.u16 =
      IntKind.u16 ∧ p (13 : Nat) = p (13 : Nat)) ∧ (IntKind.u16 = IntKind.u16 ∧ p (14 : Nat) = p (14 : Nat)) ∧ IntKind.i64 = IntKind.i64 ∧ p (15 : Nat) = p (15 : Nat)) ∧ ((32 :
      Nat) = (32 : Nat) ∧ (IntKind.i64 = IntKind.i64 ∧ q (0 : Nat) = tkQ q (1 : Nat) ov (0 : Nat)) ∧ (IntKind.u16 = IntKind.u16 ∧ q (1 : Nat) = tkQ q (1 : Nat) ov (1 : Nat)) ∧
      (IntKind.i64 = IntKind.i64 ∧ q (2 : Nat) = tkQ q (1 : Nat) ov (2 : Nat)) ∧ (IntKind.i64 = IntKind.i64 ∧ q (3 : Nat) = tkQ q (1 : Nat) ov (3 : Nat)) ∧ (IntKind.i64 =
      IntKind.i64 ∧ q (4 : Nat) = tkQ q (1 : Nat) ov (4 : Nat)) ∧ (IntKind.u16 = IntKind.u16 ∧ q (5 : Nat) = tkQ q (1 : Nat) ov (5 : Nat)) ∧ (IntKind.i64 = IntKind.i64 ∧
      IntKind.i64.wrap (q (6 : Nat) + (1 : Int)) = tkQ q (1 : Nat) ov (6 : Nat)) ∧ (IntKind.i64 = IntKind.i64 ∧ (0 : Int) = tkQ q (1 : Nat) ov (7 : Nat)) ∧ (IntKind.i64 =
      IntKind.i64 ∧ q (8 : Nat) = tkQ q (1 : Nat) ov (8 : Nat)) ∧ (IntKind.u16 = IntKind.u16 ∧ q (9 : Nat) = tkQ q (1 : Nat) ov (9 : Nat)) ∧ (IntKind.i64 = IntKind.i64 ∧ q (10 :
      Nat) = tkQ q (1 : Nat) ov (10 : Nat)) ∧ (IntKind.i64 = IntKind.i64 ∧ q (11 : Nat) = tkQ q (1 : Nat) ov (11 : Nat)) ∧ (IntKind.i64 = IntKind.i64 ∧ q (12 : Nat) = tkQ q (1 :
      Nat) ov (12 : Nat)) ∧ (IntKind.u16 = IntKind.u16 ∧ q (13 : Nat) = tkQ q (1 : Nat) ov (13 : Nat)) ∧ (IntKind.i64 = IntKind.i64 ∧ q (14 : Nat) = tkQ q (1 : Nat) ov (14 :
      Nat)) ∧ (IntKind.i64 = IntKind.i64 ∧ q (15 : Nat) = tkQ q (1 : Nat) ov (15 : Nat)) ∧ IntKind.i64 = IntKind.i64 ∧ w = w) ∧ ((34 : Nat) = (34 : Nat) ∧ (IntKind.i64 =
      IntKind.i64 ∧ z1 = z1) ∧ (IntKind.i64 = IntKind.i64 ∧ z2 = z2) ∧ (IntKind.i64 = IntKind.i64 ∧ z3 = z3) ∧ IntKind.u16 = IntKind.u16 ∧ z4 = z4) ∧ True)) ∧ ((IntKind.i64.wrap
      (q (7 : Nat) + (1 : Int)) == stR (q (5 : Nat))) = false → hd10 E = hd10 E ∧ (76 : Nat) = (76 : Nat) ∧ (C.p (1 : Nat) (0 : Nat) = C.p (1 : Nat) (0 : Nat) ∧ (IntKind.i64 =
      IntKind.i64 ∧ ov = tkO q (1 : Nat) ov) ∧ IntKind.i64 = IntKind.i64 ∧ (2 : Int) = (2 : Int)) ∧ ((56 : Nat) = (56 : Nat) ∧ (IntKind.u16 = IntKind.u16 ∧ p (0 : Nat) = p (0 :
      Nat)) ∧ (IntKind.u16 = IntKind.u16 ∧ p (1 : Nat) = p (1 : Nat)) ∧ (IntKind.u16 = IntKind.u16 ∧ p (2 : Nat) = p (2 : Nat)) ∧ (IntKind.i64 = IntKind.i64 ∧ p (3 : Nat) = p (3
      : Nat)) ∧ (IntKind.u16 = IntKind.u16 ∧ p (4 : Nat) = p (4 : Nat)) ∧ (IntKind.u16 = IntKind.u16 ∧ p (5 : Nat) = p (5 : Nat)) ∧ (IntKind.u16 = IntKind.u16 ∧ p (6 : Nat) = p
      (6 : Nat)) ∧ (IntKind.i64 = IntKind.i64 ∧ p (7 : Nat) = p (7 : Nat)) ∧ (IntKind.u16 = IntKind.u16 ∧ p (8 : Nat) = p (8 : Nat)) ∧ (IntKind.u16 = IntKind.u16 ∧ p (9 : Nat) =
      p (9 : Nat)) ∧ (IntKind.u16 = IntKind.u16 ∧ p (10 : Nat) = p (10 : Nat)) ∧ (IntKind.i64 = IntKind.i64 ∧ p (11 : Nat) = p (11 : Nat)) ∧ (IntKind.u16 = IntKind.u16 ∧ p (12 :
      Nat) = p (12 : Nat)) ∧ (IntKind.u16 = IntKind.u16 ∧ p (13 : Nat) = p (13 : Nat)) ∧ (IntKind.u16 = IntKind.u16 ∧ p (14 : Nat) = p (14 : Nat)) ∧ IntKind.i64 = IntKind.i64 ∧
      p (15 : Nat) = p (15 : Nat)) ∧ ((32 : Nat) = (32 : Nat) ∧ (IntKind.i64 = IntKind.i64 ∧ q (0 : Nat) = tkQ q (1 : Nat) ov (0 : Nat)) ∧ (IntKind.u16 = IntKind.u16 ∧ q (1 :
      Nat) = tkQ q (1 : Nat) ov (1 : Nat)) ∧ (IntKind.i64 = IntKind.i64 ∧ q (2 : Nat) = tkQ q (1 : Nat) ov (2 : Nat)) ∧ (IntKind.i64 = IntKind.i64 ∧ q (3 : Nat) = tkQ q (1 :
      Nat) ov (3 : Nat)) ∧ (IntKind.i64 = IntKind.i64 ∧ q (4 : Nat) = tkQ q (1 : Nat) ov (4 : Nat)) ∧ (IntKind.u16 = IntKind.u16 ∧ q (5 : Nat) = tkQ q (1 : Nat) ov (5 : Nat)) ∧
      (IntKind.i64 = IntKind.i64 ∧ q (6 : Nat) = tkQ q (1 : Nat) ov (6 : Nat)) ∧ (IntKind.i64 = IntKind.i64 ∧ IntKind.i64.wrap (q (7 : Nat) + (1 : Int)) = tkQ q (1 : Nat) ov (7
      : Nat)) ∧ (IntKind.i64 = IntKind.i64 ∧ q (8 : Nat) = tkQ q (1 : Nat) ov (8 : Nat)) ∧ (IntKind.u16 = IntKind.u16 ∧ q (9 : Nat) = tkQ q (1 : Nat) ov (9 : Nat)) ∧
      (IntKind.i64 = IntKind.i64 ∧ q (10 : Nat) = tkQ q (1 : Nat) ov (10 : Nat)) ∧ (IntKind.i64 = IntKind.i64 ∧ q (11 : Nat) = tkQ q (1 : Nat) ov (11 : Nat)) ∧ (IntKind.i64 =
      IntKind.i64 ∧ q (12 : Nat) = tkQ q (1 : Nat) ov (12 : Nat)) ∧ (IntKind.u16 = IntKind.u16 ∧ q (13 : Nat) = tkQ q (1 : Nat) ov (13 : Nat)) ∧ (IntKind.i64 = IntKind.i64 ∧ q
      (14 : Nat) = tkQ q (1 : Nat) ov (14 : Nat)) ∧ (IntKind.i64 = IntKind.i64 ∧ q (15 : Nat) = tkQ q (1 : Nat) ov (15 : Nat)) ∧ IntKind.i64 = IntKind.i64 ∧ w = w) ∧ ((34 : Nat)
      = (34 : Nat) ∧ (IntKind.i64 = IntKind.i64 ∧ z1 = z1) ∧ (IntKind.i64 = IntKind.i64 ∧ z2 = z2) ∧ (IntKind.i64 = IntKind.i64 ∧ z3 = z3) ∧ IntKind.u16 = IntKind.u16 ∧ z4 = z4)
      ∧ True)) ∧ (alC (1 : Nat) (q (5 : Nat)) = false → ((bif rnR (q (5 : Nat)) then (ov.fdiv (1 : Int)).tmod (2 : Int) == (1 : Int) else false) = true → ((IntKind.i64.wrap (q
      (6 : Nat) + (1 : Int)) == (65536 : Int)) = true → hd10 E = hd10 E ∧ (76 : Nat) = (76 : Nat) ∧ (C.p (1 : Nat) (0 : Nat) = C.p (1 : Nat) (0 : Nat) ∧ (IntKind.i64 =
      IntKind.i64 ∧ IntKind.i64.wrap (ov + (2 : Int)) = tkO q (1 : Nat) ov) ∧ IntKind.i64 = IntKind.i64 ∧ (2 : Int) = (2 : Int)) ∧ ((56 : Nat) = (56 : Nat) ∧ (IntKind.u16 =
      IntKind.u16 ∧ p (0 : Nat) = p (0 : Nat)) ∧ (IntKind.u16 = IntKind.u16 ∧ p (1 : Nat) = p (1 : Nat)) ∧ (IntKind.u16 = IntKind.u16 ∧ p (2 : Nat) = p (2 : Nat)) ∧ (IntKind.i64
      = IntKind.i64 ∧ p (3 : Nat) = p (3 : Nat)) ∧ (IntKind.u16 = IntKind.u16 ∧ p (4 : Nat) = p (4 : Nat)) ∧ (IntKind.u16 = IntKind.u16 ∧ p (5 : Nat) = p (5 : Nat)) ∧
      (IntKind.u16 = IntKind.u16 ∧ p (6 : Nat) = p (6 : Nat)) ∧ (IntKind.i64 = IntKind.i64 ∧ p (7 : Nat) = p (7 : Nat)) ∧ (IntKind.u16 = IntKind.u16 ∧ p (8 : Nat) = p (8 : Nat))
      ∧ (IntKind.u16 = IntKind.u16 ∧ p (9 : Nat) = p (9 : Nat)) ∧ (IntKind.u16 = IntKind.u16 ∧ p (10 : Nat) = p (10 : Nat)) ∧ (IntKind.i64 = IntKind.i64 ∧ p (11 : Nat) = p (11 :
      Nat)) ∧ (IntKind.u16 = IntKind.u16 ∧ p (12 : Nat) = p (12 : Nat)) ∧ (IntKind.u16 = IntKind.u16 ∧ p (13 : Nat) = p (13 : Nat)) ∧ (IntKind.u16 = IntKind.u16 ∧ p (14 : Nat) =
      p (14 : Nat)) ∧ IntKind.i64 = IntKind.i64 ∧ p (15 : Nat) = p (15 : Nat)) ∧ ((32 : Nat) = (32 : Nat) ∧ (IntKind.i64 = IntKind.i64 ∧ q (0 : Nat) = tkQ q (1 : Nat) ov (0 :
      Nat)) ∧ (IntKind.u16 = IntKind.u16 ∧ q (1 : Nat) = tkQ q (1 : Nat) ov (1 : Nat)) ∧ (IntKind.i64 = IntKind.i64 ∧ q (2 : Nat) = tkQ q (1 : Nat) ov (2 : Nat)) ∧ (IntKind.i64
      = IntKind.i64 ∧ q (3 : Nat) = tkQ q (1 : Nat) ov (3 : Nat)) ∧ (IntKind.i64 = IntKind.i64 ∧ q (4 : Nat) = tkQ q (1 : Nat) ov (4 : Nat)) ∧ (IntKind.u16 = IntKind.u16 ∧ q (5
      : Nat) = tkQ q (1 : Nat) ov (5 : Nat)) ∧ (IntKind.i64 = IntKind.i64 ∧ q (4 : Nat) = tkQ q (1 : Nat) ov (6 : Nat)) ∧ (IntKind.i64 = IntKind.i64 ∧ q (7 : Nat) = tkQ q (1 :
      Nat) ov (7 : Nat)) ∧ (IntKind.i64 = IntKind.i64 ∧ q (8 : Nat) = tkQ q (1 : Nat) ov (8 : Nat)) ∧ (IntKind.u16 = IntKind.u16 ∧ q (9 : Nat) = tkQ q (1 : Nat) ov (9 : Nat)) ∧
      (IntKind.i64 = IntKind.i64 ∧ q (10 : Nat) = tkQ q (1 : Nat) ov (10 : Nat)) ∧ (IntKind.i64 = IntKind.i64 ∧ q (11 : Nat) = tkQ q (1 : Nat) ov (11 : Nat)) ∧ (IntKind.i64 =
      IntKind.i64 ∧ q (12 : Nat) = tkQ q (1 : Nat) ov (12 : Nat)) ∧ (IntKind.u16 = IntKind.u16 ∧ q (13 : Nat) = tkQ q (1 : Nat) ov (13 : Nat)) ∧ (IntKind.i64 = IntKind.i64 ∧ q
      (14 : Nat) = tkQ q (1 : Nat) ov (14 : Nat)) ∧ (IntKind.i64 = IntKind.i64 ∧ q (15 : Nat) = tkQ q (1 : Nat) ov (15 : Nat)) ∧ IntKind.i64 = IntKind.i64 ∧ w = w) ∧ ((34 : Nat)
      = (34 : Nat) ∧ (IntKind.i64 = IntKind.i64 ∧ z1 = z1) ∧ (IntKind.i64 = IntKind.i64 ∧ z2 = z2) ∧ (IntKind.i64 = IntKind.i64 ∧ z3 = z3) ∧ IntKind.u16 = IntKind.u16 ∧ z4 = z4)
      ∧ True) ∧ ((IntKind.i64.wrap (q (6 : Nat) + (1 : Int)) == (65536 : Int)) = false → hd10 E = hd10 E ∧ (76 : Nat) = (76 : Nat) ∧ (C.p (1 : Nat) (0 : Nat) = C.p (1 : Nat) (0
      : Nat) ∧ (IntKind.i64 = IntKind.i64 ∧ ov = tkO q (1 : Nat) ov) ∧ IntKind.i64 = IntKind.i64 ∧ (2 : Int) = (2 : Int)) ∧ ((56 : Nat) = (56 : Nat) ∧ (IntKind.u16 = IntKind.u16
      ∧ p (0 : Nat) = p (0 : Nat)) ∧ (IntKind.u16 = IntKind.u16 ∧ p (1 : Nat) = p (1 : Nat)) ∧ (IntKind.u16 = IntKind.u16 ∧ p (2 : Nat) = p (2 : Nat)) ∧ (IntKind.i64 =
      IntKind.i64 ∧ p (3 : Nat) = p (3 : Nat)) ∧ (IntKind.u16 = IntKind.u16 ∧ p (4 : Nat) = p (4 : Nat)) ∧ (IntKind.u16 = IntKind.u16 ∧ p (5 : Nat) = p (5 : Nat)) ∧ (IntKind.u16
      = IntKind.u16 ∧ p (6 : Nat) = p (6 : Nat)) ∧ (IntKind.i64 = IntKind.i64 ∧ p (7 : Nat) = p (7 : Nat)) ∧ (IntKind.u16 = IntKind.u16 ∧ p (8 : Nat) = p (8 : Nat)) ∧
      (IntKind.u16 = IntKind.u16 ∧ p (9 : Nat) = p (9 : Nat)) ∧ (IntKind.u16 = IntKind.u16 ∧ p (10 : Nat) = p (10 : Nat)) ∧ (IntKind.i64 = IntKind.i64 ∧ p (11 : Nat) = p (11 :
      Nat)) ∧ (IntKind.u16 = IntKind.u16 ∧ p (12 : Nat) = p (12 : Nat)) ∧ (IntKind.u16 = IntKind.u16 ∧ p (13 : Nat) = p (13 : Nat)) ∧ (IntKind.u16 = IntKind.u16 ∧ p (14 : Nat) =
      p (14 : Nat)) ∧ IntKind.i64 = IntKind.i64 ∧ p (15 : Nat) = p (15 : Nat)) ∧ ((32 : Nat) = (32 : Nat) ∧ (IntKind.i64 = IntKind.i64 ∧ q (0 : Nat) = tkQ q (1 : Nat) ov (0 :
      Nat)) ∧ (IntKind.u16 = IntKind.u16 ∧ q (1 : Nat) = tkQ q (1 : Nat) ov (1 : Nat)) ∧ (IntKind.i64 = IntKind.i64 ∧ q (2 : Nat) = tkQ q (1 : Nat) ov (2 : Nat)) ∧ (IntKind.i64
      = IntKind.i64 ∧ q (3 : Nat) = tkQ q (1 : Nat) ov (3 : Nat)) ∧ (IntKind.i64 = IntKind.i64 ∧ q (4 : Nat) = tkQ q (1 : Nat) ov (4 : Nat)) ∧ (IntKind.u16 = IntKind.u16 ∧ q (5
      : Nat) = tkQ q (1 : Nat) ov (5 : Nat)) ∧ (IntKind.i64 = IntKind.i64 ∧ IntKind.i64.wrap (q (6 : Nat) + (1 : Int)) = tkQ q (1 : Nat) ov (6 : Nat)) ∧ (IntKind.i64 =
      IntKind.i64 ∧ q (7 : Nat) = tkQ q (1 : Nat) ov (7 : Nat)) ∧ (IntKind.i64 = IntKind.i64 ∧ q (8 : Nat) = tkQ q (1 : Nat) ov (8 : Nat)) ∧ (IntKind.u16 = IntKind.u16 ∧ q (9 :
      Nat) = tkQ q (1 : Nat) ov (9 : Nat)) ∧ (IntKind.i64 = IntKind.i64 ∧ q (10 : Nat) = tkQ q (1 : Nat) ov (10 : Nat)) ∧ (IntKind.i64 = IntKind.i64 ∧ q (11 : Nat) = tkQ q (1 :
      Nat) ov (11 : Nat)) ∧ (IntKind.i64 = IntKind.i64 ∧ q (12 : Nat) = tkQ q (1 : Nat) ov (12 : Nat)) ∧ (IntKind.u16 = IntKind.u16 ∧ q (13 : Nat) = tkQ q (1 : Nat) ov (13 :
      Nat)) ∧ (IntKind.i64 = IntKind.i64 ∧ q (14 : Nat) = tkQ q (1 : Nat) ov (14 : Nat)) ∧ (IntKind.i64 = IntKind.i64 ∧ q (15 : Nat) = tkQ q (1 : Nat) ov (15 : Nat)) ∧
      IntKind.i64 = IntKind.i64 ∧ w = w) ∧ ((34 : Nat) = (34 : Nat) ∧ (IntKind.i64 = IntKind.i64 ∧ z1 = z1) ∧ (IntKind.i64 = IntKind.i64 ∧ z2 = z2) ∧ (IntKind.i64 = IntKind.i64
      ∧ z3 = z3) ∧ IntKind.u16 = IntKind.u16 ∧ z4 = z4) ∧ True)) ∧ ((bif rnR (q (5 : Nat)) then (ov.fdiv (1 : Int)).tmod (2 : Int) == (1 : Int) else false) = false → hd10 E =
      hd10 E ∧ (76 : Nat) = (76 : Nat) ∧ (C.p (1 : Nat) (0 : Nat) = C.p (1 : Nat) (0 : Nat) ∧ (IntKind.i64 = IntKind.i64 ∧ ov = tkO q (1 : Nat) ov) ∧ IntKind.i64 = IntKind.i64 ∧
      (2 : Int) = (2 : Int)) ∧ ((56 : Nat) = (56 : Nat) ∧ (IntKind.u16 = IntKind.u16 ∧ p (0 : Nat) = p (0 : Nat)) ∧ (IntKind.u16 = IntKind.u16 ∧ p (1 : Nat) = p (1 : Nat)) ∧
      (IntKind.u16 = IntKind.u16 ∧ p (2 : Nat) = p (2 : Nat)) ∧ (IntKind.i64 = IntKind.i64 ∧ p (3 : Nat) = p (3 : Nat)) ∧ (IntKind.u16 = IntKind.u16 ∧ p (4 : Nat) = p (4 : Nat))
      ∧ (IntKind.u16 = IntKind.u16 ∧ p (5 : Nat) = p (5 : Nat)) ∧ (IntKind.u16 = IntKind.u16 ∧ p (6 : Nat) = p (6 : Nat)) ∧ (IntKind.i64 = IntKind.i64 ∧ p (7 : Nat) = p (7 :
      Nat)) ∧ (IntKind.u16 = IntKind.u16 ∧ p (8 : Nat) = p (8 : Nat)) ∧ (IntKind.u16 = IntKind.u16 ∧ p (9 : Nat) = p (9 : Nat)) ∧ (IntKind.u16 = IntKind.u16 ∧ p (10 : Nat) = p
      (10 : Nat)) ∧ (IntKind.i64 = IntKind.i64 ∧ p (11 : Nat) = p (11 : Nat)) ∧ (IntKind.u16 = IntKind.u16 ∧ p (12 : Nat) = p (12 : Nat)) ∧ (IntKind.u16 = IntKind.u16 ∧ p (13 :
      Nat) = p (13 : Nat)) ∧ (IntKind.u16 = IntKind.u16 ∧ p (14 : Nat) = p (14 : Nat)) ∧ IntKind.i64 = IntKind.i64 ∧ p (15 : Nat) = p (15 : Nat)) ∧ ((32 : Nat) = (32 : Nat) ∧
      (IntKind.i64 = IntKind.i64 ∧ q (0 : Nat) = tkQ q (1 : Nat) ov (0 : Nat)) ∧ (IntKind.u16 = IntKind.u16 ∧ q (1 : Nat) = tkQ q (1 : Nat) ov (1 : Nat)) ∧ (IntKind.i64 =
      IntKind.i64 ∧ q (2 : Nat) = tkQ q (1 : Nat) ov (2 : Nat)) ∧ (IntKind.i64 = IntKind.i64 ∧ q (3 : Nat) = tkQ q (1 : Nat) ov (3 : Nat)) ∧ (IntKind.i64 = IntKind.i64 ∧ q (4 :
      Nat) = tkQ q (1 : Nat) ov (4 : Nat)) ∧ (IntKind.u16 = IntKind.u16 ∧ q (5 : Nat) = tkQ q (1 : Nat) ov (5 : Nat)) ∧ (IntKind.i64 = IntKind.i64 ∧ q (6 : Nat) = tkQ q (1 :
      Nat) ov (6 : Nat)) ∧ (IntKind.i64 = IntKind.i64 ∧ q (7 : Nat) = tkQ q (1 : Nat) ov (7 : Nat)) ∧ (IntKind.i64 = IntKind.i64 ∧ q (8 : Nat) = tkQ q (1 : Nat) ov (8 : Nat)) ∧
      (IntKind.u16 = IntKind.u16 ∧ q (9 : Nat) = tkQ q (1 : Nat) ov (9 : Nat)) ∧ (IntKind.i64 = IntKind.i64 ∧ q (10 : Nat) = tkQ q (1 : Nat) ov (10 : Nat)) ∧ (IntKind.i64 =
      IntKind.i64 ∧ q (11 : Nat) = tkQ q (1 : Nat) ov (11 : Nat)) ∧ (IntKind.i64 = IntKind.i64 ∧ q (12 : Nat) = tkQ q (1 : Nat) ov (12 : Nat)) ∧ (IntKind.u16 = IntKind.u16 ∧ q
      (13 : Nat) = tkQ q (1 : Nat) ov (13 : Nat)) ∧ (IntKind.i64 = IntKind.i64 ∧ q (14 : Nat) = tkQ q (1 : Nat) ov (14 : Nat)) ∧ (IntKind.i64 = IntKind.i64 ∧ q (15 : Nat) = tkQ
      q (1 : Nat) ov (15 : Nat)) ∧ IntKind.i64 = IntKind.i64 ∧ w = w) ∧ ((34 : Nat) = (34 : Nat) ∧ (IntKind.i64 = IntKind.i64 ∧ z1 = z1) ∧ (IntKind.i64 = IntKind.i64 ∧ z2 = z2)
      ∧ (IntKind.i64 = IntKind.i64 ∧ z3 = z3) ∧ IntKind.u16 = IntKind.u16 ∧ z4 = z4) ∧ True))) := by kernel_rfl
theorem tick_r2 (E : World) (p : Nat → Int) (z1 z2 z3 z4 : Int) (q : Nat → Int) (w ov : Int) :
    (loopP (pe E) Try.f10 (fun v s1 => False) (fun todo fr s' => todo = hd10 E ∧ fr.nt = Try.f10.ntmps ∧ refP fr (lv10 (tkO q 2 ov) 3) ∧ refT s' [⟨pk p, 56⟩, ⟨rk (tkQ q 2 ov) w, 32⟩, ⟨[.i false .i64 z1, .i false .i64 z2, .i false .i64 z3, .i false .u16 z4], 34⟩]) (run (pe E) (orcK E) (tabL fns) 20000 (2^200-1) (hd10 E) (mkL Try.f10.ntmps (lv10 ov 2)) [⟨pk p, 56⟩, ⟨rk q w, 32⟩, ⟨[.i false .i64 z1, .i false .i64 z2, .i false .i64 z3, .i false .u16 z4], 34⟩])) =
    ((alC (2 : Nat) (q (9 : Nat)) = true → decide ((0 : Int) ≤ q (9 : Nat)) = true ∧ decide (p (0 : Nat) = p (0 : Nat)) = true ∧ decide (p (1 : Nat) = p (1 : Nat)) = true ∧
      decide (p (2 : Nat) = p (2 : Nat)) = true ∧ decide (p (3 : Nat) = p (3 : Nat)) = true ∧ decide (p (4 : Nat) = p (4 : Nat)) = true ∧ decide (p (5 : Nat) = p (5 : Nat)) =
      true ∧ decide (p (6 : Nat) = p (6 : Nat)) = true ∧ decide (p (7 : Nat) = p (7 : Nat)) = true ∧ decide (p (8 : Nat) = p (8 : Nat)) = true ∧ decide (p (9 : Nat) = p (9 :
      Nat)) = true ∧ decide (p (10 : Nat) = p (10 : Nat)) = true ∧ decide (p (11 : Nat) = p (11 : Nat)) = true ∧ decide (p (12 : Nat) = p (12 : Nat)) = true ∧ decide (p (13 :
      Nat) = p (13 : Nat)) = true ∧ decide (p (14 : Nat) = p (14 : Nat)) = true ∧ decide (p (15 : Nat) = p (15 : Nat)) = true ∧ decide (q (0 : Nat) = q (0 : Nat)) = true ∧
      decide (q (1 : Nat) = q (1 : Nat)) = true ∧ decide (q (2 : Nat) = q (2 : Nat)) = true ∧ decide (q (3 : Nat) = q (3 : Nat)) = true ∧ decide (q (4 : Nat) = q (4 : Nat)) =
      true ∧ decide (q (5 : Nat) = q (5 : Nat)) = true ∧ decide (q (6 : Nat) = q (6 : Nat)) = true ∧ decide (q (7 : Nat) = q (7 : Nat)) = true ∧ decide (q (8 : Nat) = q (8 :
      Nat)) = true ∧ decide (q (9 : Nat) = q (9 : Nat)) = true ∧ decide (q (10 : Nat) = q (10 : Nat)) = true ∧ decide (IntKind.i64.wrap (q (11 : Nat) + (1 : Int)) =
      IntKind.i64.wrap (q (11 : Nat) + (1 : Int))) = true ∧ decide (q (12 : Nat) = q (12 : Nat)) = true ∧ decide (q (13 : Nat) = q (13 : Nat)) = true ∧ decide (q (14 : Nat) = q
      (14 : Nat)) = true ∧ decide (q (15 : Nat) = q (15 : Nat)) = true ∧ decide (w = w) = true ∧ decide (z1 = z1) = true ∧ decide (z2 = z2) = true ∧ decide (z3 = z3) = true ∧
      decide (z4 = z4) = true ∧ ((IntKind.i64.wrap (q (11 : Nat) + (1 : Int)) == stR (q (9 : Nat))) = true → ((IntKind.i64.wrap (q (10 : Nat) + (1 : Int)) == (65536 : Int)) =
      true → hd10 E = hd10 E ∧ (76 : Nat) = (76 : Nat) ∧ (C.p (1 : Nat) (0 : Nat) = C.p (1 : Nat) (0 : Nat) ∧ (IntKind.i64 = IntKind.i64 ∧ IntKind.i64.wrap (ov + (4 : Int)) =
      tkO q (2 : Nat) ov) ∧ IntKind.i64 = IntKind.i64 ∧ (3 : Int) = (3 : Int)) ∧ ((56 : Nat) = (56 : Nat) ∧ (IntKind.u16 = IntKind.u16 ∧ p (0 : Nat) = p (0 : Nat)) ∧
      (IntKind.u16 = IntKind.u16 ∧ p (1 : Nat) = p (1 : Nat)) ∧ (IntKind.u16 = IntKind.u16 ∧ p (2 : Nat) = p (2 : Nat)) ∧ (IntKind.i64 = IntKind.i64 ∧ p (3 : Nat) = p (3 : Nat))
      ∧ (IntKind.u16 = IntKind.u16 ∧ p (4 : Nat) = p (4 : Nat)) ∧ (IntKind.u16 = IntKind.u16 ∧ p (5 : Nat) = p (5 : Nat)) ∧ (IntKind.u16 = IntKind.u16 ∧ p (6 : Nat) = p (6 :
      Nat)) ∧ (IntKind.i64 = IntKind.i64 ∧ p (7 : Nat) = p (7 : Nat)) ∧ (IntKind.u16 = IntKind.u16 ∧ p (8 : Nat) = p (8 : Nat)) ∧ (IntKind.u16 = IntKind.u16 ∧ p (9 : Nat) = p (9
      : Nat)) ∧ (IntKind.u16 = IntKind.u16 ∧ p (10 : Nat) = p (10 : Nat)) ∧ (IntKind.i64 = IntKind.i64 ∧ p (11 : Nat) = p (11 : Nat)) ∧ (IntKind.u16 = IntKind.u16 ∧ p (12 : Nat)
      = p (12 : Nat)) ∧ (IntKind.u16 = IntKind.u16 ∧ p (13 : Nat) = p (13 : Nat)) ∧ (IntKind.u16 = IntKind.u16 ∧ p (14 : Nat) = p (14 : Nat)) ∧ IntKind.i64 = IntKind.i64 ∧ p (15
      : Nat) = p (15 : Nat)) ∧ ((32 : Nat) = (32 : Nat) ∧ (IntKind.i64 = IntKind.i64 ∧ q (0 : Nat) = tkQ q (2 : Nat) ov (0 : Nat)) ∧ (IntKind.u16 = IntKind.u16 ∧ q (1 : Nat) =
      tkQ q (2 : Nat) ov (1 : Nat)) ∧ (IntKind.i64 = IntKind.i64 ∧ q (2 : Nat) = tkQ q (2 : Nat) ov (2 : Nat)) ∧ (IntKind.i64 = IntKind.i64 ∧ q (3 : Nat) = tkQ q (2 : Nat) ov (3
      : Nat)) ∧ (IntKind.i64 = IntKind.i64 ∧ q (4 : Nat) = tkQ q (2 : Nat) ov (4 : Nat)) ∧ (IntKind.u16 = IntKind.u16 ∧ q (5 : Nat) = tkQ q (2 : Nat) ov (5 : Nat)) ∧
      (IntKind.i64 = IntKind.i64 ∧ q (6 : Nat) = tkQ q (2 : Nat) ov (6 : Nat)) ∧ (IntKind.i64 = IntKind.i64 ∧ q (7 : Nat) = tkQ q (2 : Nat) ov (7 : Nat)) ∧ (IntKind.i64 =
      IntKind.i64 ∧ q (8 : Nat) = tkQ q (2 : Nat) ov (8 : Nat)) ∧ (IntKind.u16 = IntKind.u16 ∧ q (9 : Nat) = tkQ q (2 : Nat) ov (9 : Nat)) ∧ (IntKind.i64 = IntKind.i64 ∧ q (8 :
      Nat) = tkQ q (2 : Nat) ov (10 : Nat)) ∧ (IntKind.i64 = IntKind.i64 ∧ (0 : Int) = tkQ q (2 : Nat) ov (11 : Nat)) ∧ (IntKind.i64 = IntKind.i64 ∧ q (12 : Nat) = tkQ q (2 :
      Nat) ov (12 : Nat)) ∧ (IntKind.u16 = IntKind.u16 ∧ q (13 : Nat) = tkQ q (2 : Nat) ov (13 : Nat)) ∧ (IntKind.i64 = IntKind.i64 ∧ q (14 : Nat) = tkQ q (2 : Nat) ov (14 :
      Nat)) ∧ (IntKind.i64 = IntKind.i64 ∧ q (15 : Nat) = tkQ q (2 : Nat) ov (15 : Nat)) ∧ IntKind.i64 = IntKind.i64 ∧ w = w) ∧ ((34 : Nat) = (34 : Nat) ∧ (IntKind.i64 =
      IntKind.i64 ∧ z1 = z1) ∧ (IntKind.i64 = IntKind.i64 ∧ z2 = z2) ∧ (IntKind.i64 = IntKind.i64 ∧ z3 = z3) ∧ IntKind.u16 = IntKind.u16 ∧ z4 = z4) ∧ True) ∧ ((IntKind.i64.wrap
      (q (10 : Nat) + (1 : Int)) == (65536 : Int)) = false → hd10 E = hd10 E ∧ (76 : Nat) = (76 : Nat) ∧ (C.p (1 : Nat) (0 : Nat) = C.p (1 : Nat) (0 : Nat) ∧ (IntKind.i64 =
      IntKind.i64 ∧ ov = tkO q (2 : Nat) ov) ∧ IntKind.i64 = IntKind.i64 ∧ (3 : Int) = (3 : Int)) ∧ ((56 : Nat) = (56 : Nat) ∧ (IntKind.u16 = IntKind.u16 ∧ p (0 : Nat) = p (0 :
      Nat)) ∧ (IntKind.u16 = IntKind.u16 ∧ p (1 : Nat) = p (1 : Nat)) ∧ (IntKind.u16 = IntKind.u16 ∧ p (2 : Nat) = p (2 : Nat)) ∧ (IntKind.i64 = IntKind.i64 ∧ p (3 : Nat) = p (3
      : Nat)) ∧ (IntKind.u16 = IntKind.u16 ∧ p (4 : Nat) = p (4 : Nat)) ∧ (IntKind.u16 = IntKind.u16 ∧ p (5 : Nat) = p (5 : Nat)) ∧ (IntKind.u16 = IntKind.u16 ∧ p (6 : Nat) = p
      (6 : Nat)) ∧ (IntKind.i64 = IntKind.i64 ∧ p (7 : Nat) = p (7 : Nat)) ∧ (IntKind.u16 = IntKind.u16 ∧ p (8 : Nat) = p (8 : Nat)) ∧ (IntKind.u16 = IntKind.u16 ∧ p (9 : Nat) =
      p (9 : Nat)) ∧ (IntKind.u16 = IntKind.u16 ∧ p (10 : Nat) = p (10 : Nat)) ∧ (IntKind.i64 = IntKind.i64 ∧ p (11 : Nat) = p (11 : Nat)) ∧ (IntKind.u16 = IntKind.u16 ∧ p (12 :
      Nat) = p (12 : Nat)) ∧ (IntKind.u16 = IntKind.u16 ∧ p (13 : Nat) = p (13 : Nat)) ∧ (IntKind.u16 = IntKind.u16 ∧ p (14 : Nat) = p (14 : Nat)) ∧ IntKind.i64 = IntKind.i64 ∧
      p (15 : Nat) = p (15 : Nat)) ∧ ((32 : Nat) = (32 : Nat) ∧ (IntKind.i64 = IntKind.i64 ∧ q (0 : Nat) = tkQ q (2 : Nat) ov (0 : Nat)) ∧ (IntKind.u16 = IntKind.u16 ∧ q (1 :
      Nat) = tkQ q (2 : Nat) ov (1 : Nat)) ∧ (IntKind.i64 = IntKind.i64 ∧ q (2 : Nat) = tkQ q (2 : Nat) ov (2 : Nat)) ∧ (IntKind.i64 = IntKind.i64 ∧ q (3 : Nat) = tkQ q (2 :
      Nat) ov (3 : Nat)) ∧ (IntKind.i64 = IntKind.i64 ∧ q (4 : Nat) = tkQ q (2 : Nat) ov (4 : Nat)) ∧ (IntKind.u16 = IntKind.u16 ∧ q (5 : Nat) = tkQ q (2 : Nat) ov (5 : Nat)) ∧
      (IntKind.i64 = IntKind.i64 ∧ q (6 : Nat) = tkQ q (2 : Nat) ov (6 : Nat)) ∧ (IntKind.i64 = IntKind.i64 ∧ q (7 : Nat) = tkQ q (2 : Nat) ov (7 : Nat)) ∧ (IntKind.i64 =
      IntKind.i64 ∧ q (8 : Nat) = tkQ q (2 : Nat) ov (8 : Nat)) ∧ (IntKind.u16 = IntKind.u16 ∧ q (9 : Nat) = tkQ q (2 : Nat) ov (9 : Nat)) ∧ (IntKind.i64 = IntKind.i64 ∧
      IntKind.i64.wrap (q (10 : Nat) + (1 : Int)) = tkQ q (2 : Nat) ov (10 : Nat)) ∧ (IntKind.i64 = IntKind.i64 ∧ (0 : Int) = tkQ q (2 : Nat) ov (11 : Nat)) ∧ (IntKind.i64 =
      IntKind.i64 ∧ q (12 : Nat) = tkQ q (2 : Nat) ov (12 : Nat)) ∧ (IntKind.u16 = IntKind.u16 ∧ q (13 : Nat) = tkQ q (2 : Nat) ov (13 : Nat)) ∧ (IntKind.i64 = IntKind.i64 ∧ q
      (14 : Nat) = tkQ q (2 : Nat) ov (14 : Nat)) ∧ (IntKind.i64 = IntKind.i64 ∧ q (15 : Nat) = tkQ q (2 : Nat) ov (15 : Nat)) ∧ IntKind.i64 = IntKind.i64 ∧ w = w) ∧ ((34 : Nat)
      = (34 : Nat) ∧ (IntKind.i64 = IntKind.i64 ∧ z1 = z1) ∧ (IntKind.i64 = IntKind.i64 ∧ z2 = z2) ∧ (IntKind.i64 = IntKind.i64 ∧ z3 = z3) ∧ IntKind.u16 = IntKind.u16 ∧ z4 = z4)
      ∧ True)) ∧ ((IntKind.i64.wrap (q (11 : Nat) + (1 : Int)) == stR (q (9 : Nat))) = false → hd10 E = hd10 E ∧ (76 : Nat) = (76 : Nat) ∧ (C.p (1 : Nat) (0 : Nat) = C.p (1 :
      Nat) (0 : Nat) ∧ (IntKind.i64 = IntKind.i64 ∧ ov = tkO q (2 : Nat) ov) ∧ IntKind.i64 = IntKind.i64 ∧ (3 : Int) = (3 : Int)) ∧ ((56 : Nat) = (56 : Nat) ∧ (IntKind.u16 =
      IntKind.u16 ∧ p (0 : Nat) = p (0 : Nat)) ∧ (IntKind.u16 = IntKind.u16 ∧ p (1 : Nat) = p (1 : Nat)) ∧ (IntKind.u16 = IntKind.u16 ∧ p (2 : Nat) = p (2 : Nat)) ∧ (IntKind.i64
      = IntKind.i64 ∧ p (3 : Nat) = p (3 : Nat)) ∧ (IntKind.u16 = IntKind.u16 ∧ p (4 : Nat) = p (4 : Nat)) ∧ (IntKind.u16 = IntKind.u16 ∧ p (5 : Nat) = p (5 : Nat)) ∧
      (IntKind.u16 = IntKind.u16 ∧ p (6 : Nat) = p (6 : Nat)) ∧ (IntKind.i64 = IntKind.i64 ∧ p (7 : Nat) = p (7 : Nat)) ∧ (IntKind.u16 = IntKind.u16 ∧ p (8 : Nat) = p (8 : Nat))
      ∧ (IntKind.u16 = IntKind.u16 ∧ p (9 : Nat) = p (9 : Nat)) ∧ (IntKind.u16 = IntKind.u16 ∧ p (10 : Nat) = p (10 : Nat)) ∧ (IntKind.i64 = IntKind.i64 ∧ p (11 : Nat) = p (11 :
      Nat)) ∧ (IntKind.u16 = IntKind.u16 ∧ p (12 : Nat) = p (12 : Nat)) ∧ (IntKind.u16 = IntKind.u16 ∧ p (13 : Nat) = p (13 : Nat)) ∧ (IntKind.u16 = IntKind.u16 ∧ p (14 : Nat) =
      p (14 : Nat)) ∧ IntKind.i64 = IntKind.i64 ∧ p (15 : Nat) = p (15 : Nat)) ∧ ((32 : Nat) = (32 : Nat) ∧ (IntKind.i64 = IntKind.i64 ∧ q (0 : Nat) = tkQ q (2 : Nat) ov (0 :
      Nat)) ∧ (IntKind.u16 = IntKind.u16 ∧ q (1 : Nat) = tkQ q (2 : Nat) ov (1 : Nat)) ∧ (IntKind.i64 = IntKind.i64 ∧ q (2 : Nat) = tkQ q (2 : Nat) ov (2 : Nat)) ∧ (IntKind.i64
      = IntKind.i64 ∧ q (3 : Nat) = tkQ q (2 : Nat) ov (3 : Nat)) ∧ (IntKind.i64 = IntKind.i64 ∧ q (4 : Nat) = tkQ q (2 : Nat) ov (4 : Nat)) ∧ (IntKind.u16 = IntKind.u16 ∧ q (5
      : Nat) = tkQ q (2 : Nat) ov (5 : Nat)) ∧ (IntKind.i64 = IntKind.i64 ∧ q (6 : Nat) = tkQ q (2 : Nat) ov (6 : Nat)) ∧ (IntKind.i64 = IntKind.i64 ∧ q (7 : Nat) = tkQ q (2 :
      Nat) ov (7 : Nat)) ∧ (IntKind.i64 = IntKind.i64 ∧ q (8 : Nat) = tkQ q (2 : Nat) ov (8 : Nat)) ∧ (IntKind.u16 = IntKind.u16 ∧ q (9 : Nat) = tkQ q (2 : Nat) ov (9 : Nat)) ∧
      (IntKind.i64 = IntKind.i64 ∧ q (10 : Nat) = tkQ q (2 : Nat) ov (10 : Nat)) ∧ (IntKind.i64 = IntKind.i64 ∧ IntKind.i64.wrap (q (11 : Nat) + (1 : Int)) = tkQ q (2 : Nat) ov
      (11 : Nat)) ∧ (IntKind.i64 = IntKind.i64 ∧ q (12 : Nat) = tkQ q (2 : Nat) ov (12 : Nat)) ∧ (IntKind.u16 = IntKind.u16 ∧ q (13 : Nat) = tkQ q (2 : Nat) ov (13 : Nat)) ∧
      (IntKind.i64 = IntKind.i64 ∧ q (14 : Nat) = tkQ q (2 : Nat) ov (14 : Nat)) ∧ (IntKind.i64 = IntKind.i64 ∧ q (15 : Nat) = tkQ q (2 : Nat) ov (15 : Nat)) ∧ IntKind.i64 =
      IntKind.i64 ∧ w = w) ∧ ((34 : Nat) = (34 : Nat) ∧ (IntKind.i64 = IntKind.i64 ∧ z1 = z1) ∧ (IntKind.i64 = IntKind.i64 ∧ z2 = z2) ∧ (IntKind.i64 = IntKind.i64 ∧ z3 = z3) ∧
      IntKind.u16 = IntKind.u16 ∧ z4 = z4) ∧ True)) ∧ (alC (2 : Nat) (q (9 : Nat)) = false → ((bif rnR (q (9 : Nat)) then (ov.fdiv (2 : Int)).tmod (2 : Int) == (1 : Int) else
      false) = true → ((IntKind.i64.wrap (q (10 : Nat) + (1 : Int)) == (65536 : Int)) = true → hd10 E = hd10 E ∧ (76 : Nat) = (76 : Nat) ∧ (C.p (1 : Nat) (0 : Nat) = C.p (1 :
      Nat) (0 : Nat) ∧ (IntKind.i64 = IntKind.i64 ∧ IntKind.i64.wrap (ov + (4 : Int)) = tkO q (2 : Nat) ov) ∧ IntKind.i64 = IntKind.i64 ∧ (3 : Int) = (3 : Int)) ∧ ((56 : Nat) =
      (56 : Nat) ∧ (IntKind.u16 = IntKind.u16 ∧ p (0 : Nat) = p (0 : Nat)) ∧ (IntKind.u16 = IntKind.u16 ∧ p (1 : Nat) = p (1 : Nat)) ∧ (IntKind.u16 = IntKind.u16 ∧ p (2 : Nat) =
      p (2 : Nat)) ∧ (IntKind.i64 = IntKind.i64 ∧ p (3 : Nat) = p (3 : Nat)) ∧ (IntKind.u16 = IntKind.u16 ∧ p (4 : Nat) = p (4 : Nat)) ∧ (IntKind.u16 = IntKind.u16 ∧ p (5 : Nat)
      = p (5 : Nat)) ∧ (IntKind.u16 = IntKind.u16 ∧ p (6 : Nat) = p (6 : Nat)) ∧ (IntKind.i64 = IntKind.i64 ∧ p (7 : Nat) = p (7 : Nat)) ∧ (IntKind.u16 = IntKind.u16 ∧ p (8 :
      Nat) = p (8 : Nat)) ∧ (IntKind.u16 = IntKind.u16 ∧ p (9 : Nat) = p (9 : Nat)) ∧ (IntKind.u16 = IntKind.u16 ∧ p (10 : Nat) = p (10 : Nat)) ∧ (IntKind.i64 = IntKind.i64 ∧ p
      (11 : Nat) = p (11 : Nat)) ∧ (IntKind.u16 = IntKind.u16 ∧ p (12 : Nat) = p (12 : Nat)) ∧ (IntKind.u16 = IntKind.u16 ∧ p (13 : Nat) = p (13 : Nat)) ∧ (IntKind.u16 =
      IntKind.u16 ∧ p (14 : Nat) = p (14 : Nat)) ∧ IntKind.i64 = IntKind.i64 ∧ p (15 : Nat) = p (15 : Nat)) ∧ ((32 : Nat) = (32 : Nat) ∧ (IntKind.i64 = IntKind.i64 ∧ q (0 : Nat)
      = tkQ q (2 : Nat) ov (0 : Nat)) ∧ (IntKind.u16 = IntKind.u16 ∧ q (1 : Nat) = tkQ q (2 : Nat) ov (1 : Nat)) ∧ (IntKind.i64 = IntKind.i64 ∧ q (2 : Nat) = tkQ q (2 : Nat) ov
      (2 : Nat)) ∧ (IntKind.i64 = IntKind.i64 ∧ q (3 : Nat) = tkQ q (2 : Nat) ov (3 : Nat)) ∧ (IntKind.i64 = IntKind.i64 ∧ q (4 : Nat) = tkQ q (2 : Nat) ov (4 : Nat)) ∧
      (IntKind.u16 = IntKind.u16 ∧ q (5 : Nat) = tkQ q (2 : Nat) ov (5 : Nat)) ∧ (IntKind.i64 = IntKind.i64 ∧ q (6 : Nat) = tkQ q (2 : Nat) ov (6 : Nat)) ∧ (IntKind.i64 =
      IntKind.i64 ∧ q (7 : Nat) = tkQ q (2 : Nat) ov (7 : Nat)) ∧ (IntKind.i64 = IntKind.i64 ∧ q (8 : Nat) = tkQ q (2 : Nat) ov (8 : Nat)) ∧ (IntKind.u16 = IntKind.u16 ∧ q (9 :
      Nat) = tkQ q (2 : Nat) ov (9 : Nat)) ∧ (IntKind.i64 = IntKind.i64 ∧ q (8 : Nat) = tkQ q (2 : Nat) ov (10 : Nat)) ∧ (IntKind.i64 = IntKind.i64 ∧ q (11 : Nat) = tkQ q (2 :
      Nat) ov (11 : Nat)) ∧ (IntKind.i64 = IntKind.i64 ∧ q (12 : Nat) = tkQ q (2 : Nat) ov (12 : Nat)) ∧ (IntKind.u16 = IntKind.u16 ∧ q (13 : Nat) = tkQ q (2 : Nat) ov (13 :
      Nat)) ∧ (IntKind.i64 = IntKind.i64 ∧ q (14 : Nat) = tkQ q (2 : Nat) ov (14 : Nat)) ∧ (IntKind.i64 = IntKind.i64 ∧ q (15 : Nat) = tkQ q (2 : Nat) ov (15 : Nat)) ∧
      IntKind.i64 = IntKind.i64 ∧ w = w) ∧ ((34 : Nat) = (34 : Nat) ∧ (IntKind.i64 = IntKind.i64 ∧ z1 = z1) ∧ (IntKind.i64 = IntKind.i64 ∧ z2 = z2) ∧ (IntKind.i64 = IntKind.i64
      ∧ z3 = z3) ∧ IntKind.u16 = IntKind.u16 ∧ z4 = z4) ∧ True) ∧ ((IntKind.i64.wrap (q (10 : Nat) + (1 : Int)) == (65536 : Int)) = false → hd10 E = hd10 E ∧ (76 : Nat) = (76 :
      Nat) ∧ (C.p (1 : Nat) (0 : Nat) = C.p (1 : Nat) (0 : Nat) ∧ (IntKind.i64 = IntKind.i64 ∧ ov = tkO q (2 : Nat) ov) ∧ IntKind.i64 = IntKind.i64 ∧ (3 : Int) = (3 : Int)) ∧
      ((56 : Nat) = (56 : Nat) ∧ (IntKind.u16 = IntKind.u16 ∧ p (0 : Nat) = p (0 : Nat)) ∧ (IntKind.u16 = IntKind.u16 ∧ p (1 : Nat) = p (1 : Nat)) ∧ (IntKind.u16 = IntKind.u16 ∧
      p (2 : Nat) = p (2 : Nat)) ∧ (IntKind.i64 = IntKind.i64 ∧ p (3 : Nat) = p (3 : Nat)) ∧ (IntKind.u16 = IntKind.u16 ∧ p (4 : Nat) = p (4 : Nat)) ∧ (IntKind.u16 = IntKind.u16
      ∧ p (5 : Nat) = p (5 : Nat)) ∧ (IntKind.u16 = IntKind.u16 ∧ p (6 : Nat) = p (6 : Nat)) ∧ (IntKind.i64 = IntKind.i64 ∧ p (7 : Nat) = p (7 : Nat)) ∧ (IntKind.u16 =
      IntKind.u16 ∧ p (8 : Nat) = p (8 : Nat)) ∧ (IntKind.u16 = IntKind.u16 ∧ p (9 : Nat) = p (9 : Nat)) ∧ (IntKind.u16 = IntKind.u16 ∧ p (10 : Nat) = p (10 : Nat)) ∧
      (IntKind.i64 = IntKind.i64 ∧ p (11 : Nat) = p (11 : Nat)) ∧ (IntKind.u16 = IntKind.u16 ∧ p (12 : Nat) = p (12 : Nat)) ∧ (IntKind.u16 = IntKind.u16 ∧ p (13 : Nat) = p (13 :
      Nat)) ∧ (IntKind.u16 = IntKind.u16 ∧ p (14 : Nat) = p (14 : Nat)) ∧ IntKind.i64 = IntKind.i64 ∧ p (15 : Nat) = p (15 : Nat)) ∧ ((32 : Nat) = (32 : Nat) ∧ (IntKind.i64 =
      IntKind.i64 ∧ q (0 : Nat) = tkQ q (2 : Nat) ov (0 : Nat)) ∧ (IntKind.u16 = IntKind.u16 ∧ q (1 : Nat) = tkQ q (2 : Nat) ov (1 : Nat)) ∧ (IntKind.i64 = IntKind.i64 ∧ q (2 :
      Nat) = tkQ q (2 : Nat) ov (2 : Nat)) ∧ (IntKind.i64 = IntKind.i64 ∧ q (3 : Nat) = tkQ q (2 : Nat) ov (3 : Nat)) ∧ (IntKind.i64 = IntKind.i64 ∧ q (4 : Nat) = tkQ q (2 :
      Nat) ov (4 : Nat)) ∧ (IntKind.u16 = IntKind.u16 ∧ q (5 : Nat) = tkQ q (2 : Nat) ov (5 : Nat)) ∧ (IntKind.i64 = IntKind.i64 ∧ q (6 : Nat) = tkQ q (2 : Nat) ov (6 : Nat)) ∧
      (IntKind.i64 = IntKind.i64 ∧ q (7 : Nat) = tkQ q (2 : Nat) ov (7 : Nat)) ∧ (IntKind.i64 = IntKind.i64 ∧ q (8 : Nat) = tkQ q (2 : Nat) ov (8 : Nat)) ∧ (IntKind.u16 =
      IntKind.u16 ∧ q (9 : Nat) = tkQ q (2 : Nat) ov (9 : Nat)) ∧ (IntKind.i64 = IntKind.i64 ∧ IntKind.i64.wrap (q (10 : Nat) + (1 : Int)) = tkQ q (2 : Nat) ov (10 : Nat)) ∧
      (IntKind.i64 = IntKind.i64 ∧ q (11 : Nat) = tkQ q (2 : Nat) ov (11 : Nat)) ∧ (IntKind.i64 = IntKind.i64 ∧ q (12 : Nat) = tkQ q (2 : Nat) ov (12 : Nat)) ∧ (IntKind.u16 =
      IntKind.u16 ∧ q (13 : Nat) = tkQ q (2 : Nat) ov (13 : Nat)) ∧ (IntKind.i64 = IntKind.i64 ∧ q (14 : Nat) = tkQ q (2 : Nat) ov (14 : Nat)) ∧ (IntKind.i64 = IntKind.i64 ∧ q
      (15 : Nat) = tkQ q (2 : Nat) ov (15 : Nat)) ∧ IntKind.i64 = IntKind.i64 ∧ w = w) ∧ ((34 : Nat) = (34 : Nat) ∧ (IntKind.i64 = IntKind.i64 ∧ z1 = z1) ∧ (IntKind.i64 =
      IntKind.i64 ∧ z2 = z2) ∧ (IntKind.i64 = IntKind.i64 ∧ z3 = z3) ∧ IntKind.u16 = IntKind.u16 ∧ z4 = z4) ∧ True)) ∧ ((bif rnR (q (9 : Nat)) then (ov.fdiv (2 : Int)).tmod (2 :
      Int) == (1 : Int) else false) = false → hd10 E = hd10 E ∧ (76 : Nat) = (76 : Nat) ∧ (C.p (1 : Nat) (0 : Nat) = C.p (1 : Nat) (0 : Nat) ∧ (IntKind.i64 = IntKind.i64 ∧ ov =
      tkO q (2 : Nat) ov) ∧ IntKind.i64 = IntKind.i64 ∧ (3 : Int) = (3 : Int)) ∧ ((56 : Nat) = (56 : Nat) ∧ (IntKind.u16 = IntKind.u16 ∧ p (0 : Nat) = p (0 : Nat)) ∧
      (IntKind.u16 = IntKind.u16 ∧ p (1 : Nat) = p (1 : Nat)) ∧ (IntKind.u16 = IntKind.u16 ∧ p (2 : Nat) = p (2 : Nat)) ∧ (IntKind.i64 = IntKind.i64 ∧ p (3 : Nat) = p (3 : Nat))
      ∧ (IntKind.u16 = IntKind.u16 ∧ p (4 : Nat) = p (4 : Nat)) ∧ (IntKind.u16 = IntKind.u16 ∧ p (5 : Nat) = p (5 : Nat)) ∧ (IntKind.u16 = IntKind.u16 ∧ p (6 : Nat) = p (6 :
      Nat)) ∧ (IntKind.i64 = IntKind.i64 ∧ p (7 : Nat) = p (7 : Nat)) ∧ (IntKind.u16 = IntKind.u16 ∧ p (8 : Nat) = p (8 : Nat)) ∧ (IntKind.u16 = IntKind.u16 ∧ p (9 : Nat) = p (9
      : Nat)) ∧ (IntKind.u16 = IntKind.u16 ∧ p (10 : Nat) = p (10 : Nat)) ∧ (IntKind.i64 = IntKind.i64 ∧ p (11 : Nat) = p (11 : Nat)) ∧ (IntKind.u16 = IntKind.u16 ∧ p (12 : Nat)
      = p (12 : Nat)) ∧ (IntKind.u16 = IntKind.u16 ∧ p (13 : Nat) = p (13 : Nat)) ∧ (IntKind.u16 = IntKind.u16 ∧ p (14 : Nat) = p (14 : Nat)) ∧ IntKind.i64 = IntKind.i64 ∧ p (15
      : Nat) = p (15 : Nat)) ∧ ((32 : Nat) = (32 : Nat) ∧ (IntKind.i64 = IntKind.i64 ∧ q (0 : Nat) = tkQ q (2 : Nat) ov (0 : Nat)) ∧ (IntKind.u16 = IntKind.u16 ∧ q (1 : Nat) =
      tkQ q (2 : Nat) ov (1 : Nat)) ∧ (IntKind.i64 = IntKind.i64 ∧ q (2 : Nat) = tkQ q (2 : Nat) ov (2 : Nat)) ∧ (IntKind.i64 = IntKind.i64 ∧ q (3 : Nat) = tkQ q (2 : Nat) ov (3
      : Nat)) ∧ (IntKind.i64 = IntKind.i64 ∧ q (4 : Nat) = tkQ q (2 : Nat) ov (4 : Nat)) ∧ (IntKind.u16 = IntKind.u16 ∧ q (5 : Nat) = tkQ q (2 : Nat) ov (5 : Nat)) ∧
      (IntKind.i64 = IntKind.i64 ∧ q (6 : Nat) = tkQ q (2 : Nat) ov (6 : Nat)) ∧ (IntKind.i64 = IntKind.i64 ∧ q (7 : Nat) = tkQ q (2 : Nat) ov (7 : Nat)) ∧ (IntKind.i64 =
      IntKind.i64 ∧ q (8 : Nat) = tkQ q (2 : Nat) ov (8 : Nat)) ∧ (IntKind.u16 = IntKind.u16 ∧ q (9 : Nat) = tkQ q (2 : Nat) ov (9 : Nat)) ∧ (IntKind.i64 = IntKind.i64 ∧ q (10 :
      Nat) = tkQ q (2 : Nat) ov (10 : Nat)) ∧ (IntKind.i64 = IntKind.i64 ∧ q (11 : Nat) = tkQ q (2 : Nat) ov (11 : Nat)) ∧ (IntKind.i64 = IntKind.i64 ∧ q (12 : Nat) = tkQ q (2 :
      Nat) ov (12 : Nat)) ∧ (IntKind.u16 = IntKind.u16 ∧ q (13 : Nat) = tkQ q (2 : Nat) ov (13 : Nat)) ∧ (IntKind.i64 = IntKind.i64 ∧ q (14 : Nat) = tkQ q (2 : Nat) ov (14 :
      Nat)) ∧ (IntKind.i64 = IntKind.i64 ∧ q (15 : Nat) = tkQ q (2 : Nat) ov (15 : Nat)) ∧ IntKind.i64 = IntKind.i64 ∧ w = w) ∧ ((34 : Nat) = (34 : Nat) ∧ (IntKind.i64 =
      IntKind.i64 ∧ z1 = z1) ∧ (IntKind.i64 = IntKind.i64 ∧ z2 = z2) ∧ (IntKind.i64 = IntKind.i64 ∧ z3 = z3) ∧ IntKind.u16 = IntKind.u16 ∧ z4 = z4) ∧ True))) := by kernel_rfl
theorem tick_r3 (E : World) (p : Nat → Int) (z1 z2 z3 z4 : Int) (q : Nat → Int) (w ov : Int) :
    (loopP (pe E) Try.f10 (fun v s1 => False) (fun todo fr s' => todo = hd10 E ∧ fr.nt = Try.f10.ntmps ∧ refP fr (lv10 (tkO q 3 ov) 4) ∧ refT s' [⟨pk p, 56⟩, ⟨rk (tkQ q 3 ov) w, 32⟩, ⟨[.i false .i64 z1, .i false .i64 z2, .i false .i64 z3, .i false .u16 z4], 34⟩]) (run (pe E) (orcK E) (tabL fns) 20000 (2^200-1) (hd10 E) (mkL Try.f10.ntmps (lv10 ov 3)) [⟨pk p, 56⟩, ⟨rk q w, 32⟩, ⟨[.i false .i64 z1, .i false .i64 z2, .i false .i64 z3, .i false .u16 z4], 34⟩])) =
    ((alC (3 : Nat) (q (13 : Nat)) = true → decide ((0 : Int) ≤ q (13 : Nat)) = true ∧ decide (p (0 : Nat) = p (0 : Nat)) = true ∧ decide (p (1 : Nat) = p (1 : Nat)) = true ∧
      decide (p (2 : Nat) = p (2 : Nat)) = true ∧ decide (p (3 : Nat) = p (3 : Nat)) = true ∧ decide (p (4 : Nat) = p (4 : Nat)) = true ∧ decide (p (5 : Nat) = p (5 : Nat)) =
      true ∧ decide (p (6 : Nat) = p (6 : Nat)) = true ∧ decide (p (7 : Nat) = p (7 : Nat)) = true ∧ decide (p (8 : Nat) = p (8 : Nat)) = true ∧ decide (p (9 : Nat) = p (9 :
      Nat)) = true ∧ decide (p (10 : Nat) = p (10 : Nat)) = true ∧ decide (p (11 : Nat) = p (11 : Nat)) = true ∧ decide (p (12 : Nat) = p (12 : Nat)) = true ∧ decide (p (13 :
      Nat) = p (13 : Nat)) = true ∧ decide (p (14 : Nat) = p (14 : Nat)) = true ∧ decide (p (15 : Nat) = p (15 : Nat)) = true ∧ decide (q (0 : Nat) = q (0 : Nat)) = true ∧
      decide (q (1 : Nat) = q (1 : Nat)) = true ∧ decide (q (2 : Nat) = q (2 : Nat)) = true ∧ decide (q (3 : Nat) = q (3 : Nat)) = true ∧ decide (q (4 : Nat) = q (4 : Nat)) =
      true ∧ decide (q (5 : Nat) = q (5 : Nat)) = true ∧ decide (q (6 : Nat) = q (6 : Nat)) = true ∧ decide (q (7 : Nat) = q (7 : Nat)) = true ∧ decide (q (8 : Nat) = q (8 :
      Nat)) = true ∧ decide (q (9 : Nat) = q (9 : Nat)) = true ∧ decide (q (10 : Nat) = q (10 : Nat)) = true ∧ decide (q (11 : Nat) = q (11 : Nat)) = true ∧ decide (q (12 : Nat)
      = q (12 : Nat)) = true ∧ decide (q (13 : Nat) = q (13 : Nat)) = true ∧ decide (q (14 : Nat) = q (14 : Nat)) = true ∧ decide (IntKind.i64.wrap (q (15 : Nat) + (1 : Int)) =
      IntKind.i64.wrap (q (15 : Nat) + (1 : Int))) = true ∧ decide (w = w) = true ∧ decide (z1 = z1) = true ∧ decide (z2 = z2) = true ∧ decide (z3 = z3) = true ∧ decide (z4 =
      z4) = true ∧ ((IntKind.i64.wrap (q (15 : Nat) + (1 : Int)) == stR (q (13 : Nat))) = true → ((IntKind.i64.wrap (q (14 : Nat) + (1 : Int)) == (65536 : Int)) = true → hd10 E
      = hd10 E ∧ (76 : Nat) = (76 : Nat) ∧ (C.p (1 : Nat) (0 : Nat) = C.p (1 : Nat) (0 : Nat) ∧ (IntKind.i64 = IntKind.i64 ∧ IntKind.i64.wrap (ov + (8 : Int)) = tkO q (3 : Nat)
      ov) ∧ IntKind.i64 = IntKind.i64 ∧ (4 : Int) = (4 : Int)) ∧ ((56 : Nat) = (56 : Nat) ∧ (IntKind.u16 = IntKind.u16 ∧ p (0 : Nat) = p (0 : Nat)) ∧ (IntKind.u16 = IntKind.u16
      ∧ p (1 : Nat) = p (1 : Nat)) ∧ (IntKind.u16 = IntKind.u16 ∧ p (2 : Nat) = p (2 : Nat)) ∧ (IntKind.i64 = IntKind.i64 ∧ p (3 : Nat) = p (3 : Nat)) ∧ (IntKind.u16 =
      IntKind.u16 ∧ p (4 : Nat) = p (4 : Nat)) ∧ (IntKind.u16 = IntKind.u16 ∧ p (5 : Nat) = p (5 : Nat)) ∧ (IntKind.u16 = IntKind.u16 ∧ p (6 : Nat) = p (6 : Nat)) ∧ (IntKind.i64
      = IntKind.i64 ∧ p (7 : Nat) = p (7 : Nat)) ∧ (IntKind.u16 = IntKind.u16 ∧ p (8 : Nat) = p (8 : Nat)) ∧ (IntKind.u16 = IntKind.u16 ∧ p (9 : Nat) = p (9 : Nat)) ∧
      (IntKind.u16 = IntKind.u16 ∧ p (10 : Nat) = p (10 : Nat)) ∧ (IntKind.i64 = IntKind.i64 ∧ p (11 : Nat) = p (11 : Nat)) ∧ (IntKind.u16 = IntKind.u16 ∧ p (12 : Nat) = p (12 :
      Nat)) ∧ (IntKind.u16 = IntKind.u16 ∧ p (13 : Nat) = p (13 : Nat)) ∧ (IntKind.u16 = IntKind.u16 ∧ p (14 : Nat) = p (14 : Nat)) ∧ IntKind.i64 = IntKind.i64 ∧ p (15 : Nat) =
      p (15 : Nat)) ∧ ((32 : Nat) = (32 : Nat) ∧ (IntKind.i64 = IntKind.i64 ∧ q (0 : Nat) = tkQ q (3 : Nat) ov (0 : Nat)) ∧ (IntKind.u16 = IntKind.u16 ∧ q (1 : Nat) = tkQ q (3 :
      Nat) ov (1 : Nat)) ∧ (IntKind.i64 = IntKind.i64 ∧ q (2 : Nat) = tkQ q (3 : Nat) ov (2 : Nat)) ∧ (IntKind.i64 = IntKind.i64 ∧ q (3 : Nat) = tkQ q (3 : Nat) ov (3 : Nat)) ∧
      (IntKind.i64 = IntKind.i64 ∧ q (4 : Nat) = tkQ q (3 : Nat) ov (4 : Nat)) ∧ (IntKind.u16 = IntKind.u16 ∧ q (5 : Nat) = tkQ q (3 : Nat) ov (5 : Nat)) ∧ (IntKind.i64 =
      IntKind.i64 ∧ q (6 : Nat) = tkQ q (3 : Nat) ov (6 : Nat)) ∧ (IntKind.i64 = IntKind.i64 ∧ q (7 : Nat) = tkQ q (3 : Nat) ov (7 : Nat)) ∧ (IntKind.i64 = IntKind.i64 ∧ q (8 :
      Nat) = tkQ q (3 : Nat) ov (8 : Nat)) ∧ (IntKind.u16 = IntKind.u16 ∧ q (9 : Nat) = tkQ q (3 : Nat) ov (9 : Nat)) ∧ (IntKind.i64 = IntKind.i64 ∧ q (10 : Nat) = tkQ q (3 :
      Nat) ov (10 : Nat)) ∧ (IntKind.i64 = IntKind.i64 ∧ q (11 : Nat) = tkQ q (3 : Nat) ov (11 : Nat)) ∧ (IntKind.i64 = IntKind.i64 ∧ q (12 : Nat) = tkQ q (3 : Nat) ov (12 :
      Nat)) ∧ (IntKind.u16 = IntKind.u16 ∧ q (13 : Nat) = tkQ q (3 : Nat) ov (13 : Nat)) ∧ (IntKind.i64 = IntKind.i64 ∧ q (12 : Nat) = tkQ q (3 : Nat) ov (14 : Nat)) ∧
      (IntKind.i64 = IntKind.i64 ∧ (0 : Int) = tkQ q (3 : Nat) ov (15 : Nat)) ∧ IntKind.i64 = IntKind.i64 ∧ w = w) ∧ ((34 : Nat) = (34 : Nat) ∧ (IntKind.i64 = IntKind.i64 ∧ z1 =
      z1) ∧ (IntKind.i64 = IntKind.i64 ∧ z2 = z2) ∧ (IntKind.i64 = IntKind.i64 ∧ z3 = z3) ∧ IntKind.u16 = IntKind.u16 ∧ z4 = z4) ∧ True) ∧ ((IntKind.i64.wrap (q (14 : Nat) + (1
      : Int)) == (65536 : Int)) = false → hd10 E = hd10 E ∧ (76 : Nat) = (76 : Nat) ∧ (C.p (1 : Nat) (0 : Nat) = C.p (1 : Nat) (0 : Nat) ∧ (IntKind.i64 = IntKind.i64 ∧ ov = tkO
      q (3 : Nat) ov) ∧ IntKind.i64 = IntKind.i64 ∧ (4 : Int) = (4 : Int)) ∧ ((56 : Nat) = (56 : Nat) ∧ (IntKind.u16 = IntKind.u16 ∧ p (0 : Nat) = p (0 : Nat)) ∧ (IntKind.u16 =
      IntKind.u16 ∧ p (1 : Nat) = p (1 : Nat)) ∧ (IntKind.u16 = IntKind.u16 ∧ p (2 : Nat) = p (2 : Nat)) ∧ (IntKind.i64 = IntKind.i64 ∧ p (3 : Nat) = p (3 : Nat)) ∧ (IntKind.u16
      = IntKind.u16 ∧ p (4 : Nat) = p (4 : Nat)) ∧ (IntKind.u16 = IntKind.u16 ∧ p (5 : Nat) = p (5 : Nat)) ∧ (IntKind.u16 = IntKind.u16 ∧ p (6 : Nat) = p (6 : Nat)) ∧
      (IntKind.i64 = IntKind.i64 ∧ p (7 : Nat) = p (7 : Nat)) ∧ (IntKind.u16 = IntKind.u16 ∧ p (8 : Nat) = p (8 : Nat)) ∧ (IntKind.u16 = IntKind.u16 ∧ p (9 : Nat) = p (9 : Nat))
      ∧ (IntKind.u16 = IntKind.u16 ∧ p (10 : Nat) = p (10 : Nat)) ∧ (IntKind.i64 = IntKind.i64 ∧ p (11 : Nat) = p (11 : Nat)) ∧ (IntKind.u16 = IntKind.u16 ∧ p (12 : Nat) = p (12
      : Nat)) ∧ (IntKind.u16 = IntKind.u16 ∧ p (13 : Nat) = p (13 : Nat)) ∧ (IntKind.u16 = IntKind.u16 ∧ p (14 : Nat) = p (14 : Nat)) ∧ IntKind.i64 = IntKind.i64 ∧ p (15 : Nat)
      = p (15 : Nat)) ∧ ((32 : Nat) = (32 : Nat) ∧ (IntKind.i64 = IntKind.i64 ∧ q (0 : Nat) = tkQ q (3 : Nat) ov (0 : Nat)) ∧ (IntKind.u16 = IntKind.u16 ∧ q (1 : Nat) = tkQ q (3
      : Nat) ov (1 : Nat)) ∧ (IntKind.i64 = IntKind.i64 ∧ q (2 : Nat) = tkQ q (3 : Nat) ov (2 : Nat)) ∧ (IntKind.i64 = IntKind.i64 ∧ q (3 : Nat) = tkQ q (3 : Nat) ov (3 : Nat))
      ∧ (IntKind.i64 = IntKind.i64 ∧ q (4 : Nat) = tkQ q (3 : Nat) ov (4 : Nat)) ∧ (IntKind.u16 = IntKind.u16 ∧ q (5 : Nat) = tkQ q (3 : Nat) ov (5 : Nat)) ∧ (IntKind.i64 =
      IntKind.i64 ∧ q (6 : Nat) = tkQ q (3 : Nat) ov (6 : Nat)) ∧ (IntKind.i64 = IntKind.i64 ∧ q (7 : Nat) = tkQ q (3 : Nat) ov (7 : Nat)) ∧ (IntKind.i64 = IntKind.i64 ∧ q (8 :
      Nat) = tkQ q (3 : Nat) ov (8 : Nat)) ∧ (IntKind.u16 = IntKind.u16 ∧ q (9 : Nat) = tkQ q (3 : Nat) ov (9 : Nat)) ∧ (IntKind.i64 = IntKind.i64 ∧ q (10 : Nat) = tkQ q (3 :
      Nat) ov (10 : Nat)) ∧ (IntKind.i64 = IntKind.i64 ∧ q (11 : Nat) = tkQ q (3 : Nat) ov (11 : Nat)) ∧ (IntKind.i64 = IntKind.i64 ∧ q (12 : Nat) = tkQ q (3 : Nat) ov (12 :
      Nat)) ∧ (IntKind.u16 = IntKind.u16 ∧ q (13 : Nat) = tkQ q (3 : Nat) ov (13 : Nat)) ∧ (IntKind.i64 = IntKind.i64 ∧ IntKind.i64.wrap (q (14 : Nat) + (1 : Int)) = tkQ q (3 :
      Nat) ov (14 : Nat)) ∧ (IntKind.i64 = IntKind.i64 ∧ (0 : Int) = tkQ q (3 : Nat) ov (15 : Nat)) ∧ IntKind.i64 = IntKind.i64 ∧ w = w) ∧ ((34 : Nat) = (34 : Nat) ∧
      (IntKind.i64 = IntKind.i64 ∧ z1 = z1) ∧ (IntKind.i64 = IntKind.i64 ∧ z2 = z2) ∧ (IntKind.i64 = IntKind.i64 ∧ z3 = z3) ∧ IntKind.u16 = IntKind.u16 ∧ z4 = z4) ∧ True)) ∧
      ((IntKind.i64.wrap (q (15 : Nat) + (1 : Int)) == stR (q (13 : Nat))) = false → hd10 E = hd10 E ∧ (76 : Nat) = (76 : Nat) ∧ (C.p (1 : Nat) (0 : Nat) = C.p (1 : Nat) (0 :
      Nat) ∧ (IntKind.i64 = IntKind.i64 ∧ ov = tkO q (3 : Nat) ov) ∧ IntKind.i64 = IntKind.i64 ∧ (4 : Int) = (4 : Int)) ∧ ((56 : Nat) = (56 : Nat) ∧ (IntKind.u16 = IntKind.u16 ∧
      p (0 : Nat) = p (0 : Nat)) ∧ (IntKind.u16 = IntKind.u16 ∧ p (1 : Nat) = p (1 : Nat)) ∧ (IntKind.u16 = IntKind.u16 ∧ p (2 : Nat) = p (2 : Nat)) ∧ (IntKind.i64 = IntKind.i64
      ∧ p (3 : Nat) = p (3 : Nat)) ∧ (IntKind.u16 = IntKind.u16 ∧ p (4 : Nat) = p (4 : Nat)) ∧ (IntKind.u16 = IntKind.u16 ∧ p (5 : Nat) = p (5 : Nat)) ∧ (IntKind.u16 =
      IntKind.u16 ∧ p (6 : Nat) = p (6 : Nat)) ∧ (IntKind.i64 = IntKind.i64 ∧ p (7 : Nat) = p (7 : Nat)) ∧ (IntKind.u16 = IntKind.u16 ∧ p (8 : Nat) = p (8 : Nat)) ∧ (IntKind.u16
      = IntKind.u16 ∧ p (9 : Nat) = p (9 : Nat)) ∧ (IntKind.u16 = IntKind.u16 ∧ p (10 : Nat) = p (10 : Nat)) ∧ (IntKind.i64 = IntKind.i64 ∧ p (11 : Nat) = p (11 : Nat)) ∧
      (IntKind.u16 = IntKind.u16 ∧ p (12 : Nat) = p (12 : Nat)) ∧ (IntKind.u16 = IntKind.u16 ∧ p (13 : Nat) = p (13 : Nat)) ∧ (IntKind.u16 = IntKind.u16 ∧ p (14 : Nat) = p (14 :
      Nat)) ∧ IntKind.i64 = IntKind.i64 ∧ p (15 : Nat) = p (15 : Nat)) ∧ ((32 : Nat) = (32 : Nat) ∧ (IntKind.i64 = IntKind.i64 ∧ q (0 : Nat) = tkQ q (3 : Nat) ov (0 : Nat)) ∧
      (IntKind.u16 = IntKind.u16 ∧ q (1 : Nat) = tkQ q (3 : Nat) ov (1 : Nat)) ∧ (IntKind.i64 = IntKind.i64 ∧ q (2 : Nat) = tkQ q (3 : Nat) ov (2 : Nat)) ∧ (IntKind.i64 =
      IntKind.i64 ∧ q (3 : Nat) = tkQ q (3 : Nat) ov (3 : Nat)) ∧ (IntKind.i64 = IntKind.i64 ∧ q (4 : Nat) = tkQ q (3 : Nat) ov (4 : Nat)) ∧ (IntKind.u16 = IntKind.u16 ∧ q (5 :
      Nat) = tkQ q (3 : Nat) ov (5 : Nat)) ∧ (IntKind.i64 = IntKind.i64 ∧ q (6 : Nat) = tkQ q (3 : Nat) ov (6 : Nat)) ∧ (IntKind.i64 = IntKind.i64 ∧ q (7 : Nat) = tkQ q (3 :
      Nat) ov (7 : Nat)) ∧ (IntKind.i64 = IntKind.i64 ∧ q (8 : Nat) = tkQ q (3 : Nat) ov (8 : Nat)) ∧ (IntKind.u16 = IntKind.u16 ∧ q (9 : Nat) = tkQ q (3 : Nat) ov (9 : Nat)) ∧
      (IntKind.i64 = IntKind.i64 ∧ q (10 : Nat) = tkQ q (3 : Nat) ov (10 : Nat)) ∧ (IntKind.i64 = IntKind.i64 ∧ q (11 : Nat) = tkQ q (3 : Nat) ov (11 : Nat)) ∧ (IntKind.i64 =
      IntKind.i64 ∧ q (12 : Nat) = tkQ q (3 : Nat) ov (12 : Nat)) ∧ (IntKind.u16 = IntKind.u16 ∧ q (13 : Nat) = tkQ q (3 : Nat) ov (13 : Nat)) ∧ (IntKind.i64 = IntKind.i64 ∧ q
      (14 : Nat) = tkQ q (3 : Nat) ov (14 : Nat)) ∧ (IntKind.i64 = IntKind.i64 ∧ IntKind.i64.wrap (q (15 : Nat) + (1 : Int)) = tkQ q (3 : Nat) ov (15 : Nat)) ∧ IntKind.i64 =
      IntKind.i64 ∧ w = w) ∧ ((34 : Nat) = (34 : Nat) ∧ (IntKind.i64 = IntKind.i64 ∧ z1 = z1) ∧ (IntKind.i64 = IntKind.i64 ∧ z2 = z2) ∧ (IntKind.i64 = IntKind.i64 ∧ z3 = z3) ∧
      IntKind.u16 = IntKind.u16 ∧ z4 = z4) ∧ True)) ∧ (alC (3 : Nat) (q (13 : Nat)) = false → ((bif rnR (q (13 : Nat)) then (ov.fdiv (4 : Int)).tmod (2 : Int) == (1 : Int) else
      false) = true → ((IntKind.i64.wrap (q (14 : Nat) + (1 : Int)) == (65536 : Int)) = true → hd10 E = hd10 E ∧ (76 : Nat) = (76 : Nat) ∧ (C.p (1 : Nat) (0 : Nat) = C.p (1 :
      Nat) (0 : Nat) ∧ (IntKind.i64 = IntKind.i64 ∧ IntKind.i64.wrap (ov + (8 : Int)) = tkO q (3 : Nat) ov) ∧ IntKind.i64 = IntKind.i64 ∧ (4 : Int) = (4 : Int)) ∧ ((56 : Nat) =
      (56 : Nat) ∧ (IntKind.u16 = IntKind.u16 ∧ p (0 : Nat) = p (0 : Nat)) ∧ (IntKind.u16 = IntKind.u16 ∧ p (1 : Nat) = p (1 : Nat)) ∧ (IntKind.u16 = IntKind.u16 ∧ p (2 : Nat) =
      p (2 : Nat)) ∧ (IntKind.i64 = IntKind.i64 ∧ p (3 : Nat) = p (3 : Nat)) ∧ (IntKind.u16 = IntKind.u16 ∧ p (4 : Nat) = p (4 : Nat)) ∧ (IntKind.u16 = IntKind.u16 ∧ p (5 : Nat)
      = p (5 : Nat)) ∧ (IntKind.u16 = IntKind.u16 ∧ p (6 : Nat) = p (6 : Nat)) ∧ (IntKind.i64 = IntKind.i64 ∧ p (7 : Nat) = p (7 : Nat)) ∧ (IntKind.u16 = IntKind.u16 ∧ p (8 :
      Nat) = p (8 : Nat)) ∧ (IntKind.u16 = IntKind.u16 ∧ p (9 : Nat) = p (9 : Nat)) ∧ (IntKind.u16 = IntKind.u16 ∧ p (10 : Nat) = p (10 : Nat)) ∧ (IntKind.i64 = IntKind.i64 ∧ p
      (11 : Nat) = p (11 : Nat)) ∧ (IntKind.u16 = IntKind.u16 ∧ p (12 : Nat) = p (12 : Nat)) ∧ (IntKind.u16 = IntKind.u16 ∧ p (13 : Nat) = p (13 : Nat)) ∧ (IntKind.u16 =
      IntKind.u16 ∧ p (14 : Nat) = p (14 : Nat)) ∧ IntKind.i64 = IntKind.i64 ∧ p (15 : Nat) = p (15 : Nat)) ∧ ((32 : Nat) = (32 : Nat) ∧ (IntKind.i64 = IntKind.i64 ∧ q (0 : Nat)
      = tkQ q (3 : Nat) ov (0 : Nat)) ∧ (IntKind.u16 = IntKind.u16 ∧ q (1 : Nat) = tkQ q (3 : Nat) ov (1 : Nat)) ∧ (IntKind.i64 = IntKind.i64 ∧ q (2 : Nat) = tkQ q (3 : Nat) ov
      (2 : Nat)) ∧ (IntKind.i64 = IntKind.i64 ∧ q (3 : Nat) = tkQ q (3 : Nat) ov (3 : Nat)) ∧ (IntKind.i64 = IntKind.i64 ∧ q (4 : Nat) = tkQ q (3 : Nat) ov (4 : Nat)) ∧
      (IntKind.u16 = IntKind.u16 ∧ q (5 : Nat) = tkQ q (3 : Nat) ov (5 : Nat)) ∧ (IntKind.i64 = IntKind.i64 ∧ q (6 : Nat) = tkQ q (3 : Nat) ov (6 : Nat)) ∧ (IntKind.i64 =
      IntKind.i64 ∧ q (7 : Nat) = tkQ q (3 : Nat) ov (7 : Nat)) ∧ (IntKind.i64 = IntKind.i64 ∧ q (8 : Nat) = tkQ q (3 : Nat) ov (8 : Nat)) ∧ (IntKind.u16 = IntKind.u16 ∧ q (9 :
      Nat) = tkQ q (3 : Nat) ov (9 : Nat)) ∧ (IntKind.i64 = IntKind.i64 ∧ q (10 : Nat) = tkQ q (3 : Nat) ov (10 : Nat)) ∧ (IntKind.i64 = IntKind.i64 ∧ q (11 : Nat) = tkQ q (3 :
      Nat) ov (11 : Nat)) ∧ (IntKind.i64 = IntKind.i64 ∧ q (12 : Nat) = tkQ q (3 : Nat) ov (12 : Nat)) ∧ (IntKind.u16 = IntKind.u16 ∧ q (13 : Nat) = tkQ q (3 : Nat) ov (13 :
      Nat)) ∧ (IntKind.i64 = IntKind.i64 ∧ q (12 : Nat) = tkQ q (3 : Nat) ov (14 : Nat)) ∧ (IntKind.i64 = IntKind.i64 ∧ q (15 : Nat) = tkQ q (3 : Nat) ov (15 : Nat)) ∧
      IntKind.i64 = IntKind.i64 ∧ w = w) ∧ ((34 : Nat) = (34 : Nat) ∧ (IntKind.i64 = IntKind.i64 ∧ z1 = z1) ∧ (IntKind.i64 = IntKind.i64 ∧ z2 = z2) ∧ (IntKind.i64 = IntKind.i64
      ∧ z3 = z3) ∧ IntKind.u16 = IntKind.u16 ∧ z4 = z4) ∧ True) ∧ ((IntKind.i64.wrap (q (14 : Nat) + (1 : Int)) == (65536 : Int)) = false → hd10 E = hd10 E ∧ (76 : Nat) = (76 :
      Nat) ∧ (C.p (1 : Nat) (0 : Nat) = C.p (1 : Nat) (0 : Nat) ∧ (IntKind.i64 = IntKind.i64 ∧ ov = tkO q (3 : Nat) ov) ∧ IntKind.i64 = IntKind.i64 ∧ (4 : Int) = (4 : Int)) ∧
      ((56 : Nat) = (56 : Nat) ∧ (IntKind.u16 = IntKind.u16 ∧ p (0 : Nat) = p (0 : Nat)) ∧ (IntKind.u16 = IntKind.u16 ∧ p (1 : Nat) = p (1 : Nat)) ∧ (IntKind.u16 = IntKind.u16 ∧
      p (2 : Nat) = p (2 : Nat)) ∧ (IntKind.i64 = IntKind.i64 ∧ p (3 : Nat) = p (3 : Nat)) ∧ (IntKind.u16 = IntKind.u16 ∧ p (4 : Nat) = p (4 : Nat)) ∧ (IntKind.u16 = IntKind.u16
      ∧ p (5 : Nat) = p (5 : Nat)) ∧ (IntKind.u16 = IntKind.u16 ∧ p (6 : Nat) = p (6 : Nat)) ∧ (IntKind.i64 = IntKind.i64 ∧ p (7 : Nat) = p (7 : Nat)) ∧ (IntKind.u16 =
      IntKind.u16 ∧ p (8 : Nat) = p (8 : Nat)) ∧ (IntKind.u16 = IntKind.u16 ∧ p (9 : Nat) = p (9 : Nat)) ∧ (IntKind.u16 = IntKind.u16 ∧ p (10 : Nat) = p (10 : Nat)) ∧
      (IntKind.i64 = IntKind.i64 ∧ p (11 : Nat) = p (11 : Nat)) ∧ (IntKind.u16 = IntKind.u16 ∧ p (12 : Nat) = p (12 : Nat)) ∧ (IntKind.u16 = IntKind.u16 ∧ p (13 : Nat) = p (13 :
      Nat)) ∧ (IntKind.u16 = IntKind.u16 ∧ p (14 : Nat) = p (14 : Nat)) ∧ IntKind.i64 = IntKind.i64 ∧ p (15 : Nat) = p (15 : Nat)) ∧ ((32 : Nat) = (32 : Nat) ∧ (IntKind.i64 =
      IntKind.i64 ∧ q (0 : Nat) = tkQ q (3 : Nat) ov (0 : Nat)) ∧ (IntKind.u16 = IntKind.u16 ∧ q (1 : Nat) = tkQ q (3 : Nat) ov (1 : Nat)) ∧ (IntKind.i64 = IntKind.i64 ∧ q (2 :
      Nat) = tkQ q (3 : Nat) ov (2 : Nat)) ∧ (IntKind.i64 = IntKind.i64 ∧ q (3 : Nat) = tkQ q (3 : Nat) ov (3 : Nat)) ∧ (IntKind.i64 = IntKind.i64 ∧ q (4 : Nat) = tkQ q (3 :
      Nat) ov (4 : Nat)) ∧ (IntKind.u16 = IntKind.u16 ∧ q (5 : Nat) = tkQ q (3 : Nat) ov (5 : Nat)) ∧ (IntKind.i64 = IntKind.i64 ∧ q (6 : Nat) = tkQ q (3 : Nat) ov (6 : Nat)) ∧
      (IntKind.i64 = IntKind.i64 ∧ q (7 : Nat) = tkQ q (3 : Nat) ov (7 : Nat)) ∧ (IntKind.i64 = IntKind.i64 ∧ q (8 : Nat) = tkQ q (3 : Nat) ov (8 : Nat)) ∧ (IntKind.u16 =
      IntKind.u16 ∧ q (9 : Nat) = tkQ q (3 : Nat) ov (9 : Nat)) ∧ (IntKind.i64 = IntKind.i64 ∧ q (10 : Nat) = tkQ q (3 : Nat) ov (10 : Nat)) ∧ (IntKind.i64 = IntKind.i64 ∧ q (11
      : Nat) = tkQ q (3 : Nat) ov (11 : Nat)) ∧ (IntKind.i64 = IntKind.i64 ∧ q (12 : Nat) = tkQ q (3 : Nat) ov (12 : Nat)) ∧ (IntKind.u16 = IntKind.u16 ∧ q (13 : Nat) = tkQ q (3
      : Nat) ov (13 : Nat)) ∧ (IntKind.i64 = IntKind.i64 ∧ IntKind.i64.wrap (q (14 : Nat) + (1 : Int)) = tkQ q (3 : Nat) ov (14 : Nat)) ∧ (IntKind.i64 = IntKind.i64 ∧ q (15 :
      Nat) = tkQ q (3 : Nat) ov (15 : Nat)) ∧ IntKind.i64 = IntKind.i64 ∧ w = w) ∧ ((34 : Nat) = (34 : Nat) ∧ (IntKind.i64 = IntKind.i64 ∧ z1 = z1) ∧ (IntKind.i64 = IntKind.i64
      ∧ z2 = z2) ∧ (IntKind.i64 = IntKind.i64 ∧ z3 = z3) ∧ IntKind.u16 = IntKind.u16 ∧ z4 = z4) ∧ True)) ∧ ((bif rnR (q (13 : Nat)) then (ov.fdiv (4 : Int)).tmod (2 : Int) == (1
      : Int) else false) = false → hd10 E = hd10 E ∧ (76 : Nat) = (76 : Nat) ∧ (C.p (1 : Nat) (0 : Nat) = C.p (1 : Nat) (0 : Nat) ∧ (IntKind.i64 = IntKind.i64 ∧ ov = tkO q (3 :
      Nat) ov) ∧ IntKind.i64 = IntKind.i64 ∧ (4 : Int) = (4 : Int)) ∧ ((56 : Nat) = (56 : Nat) ∧ (IntKind.u16 = IntKind.u16 ∧ p (0 : Nat) = p (0 : Nat)) ∧ (IntKind.u16 =
      IntKind.u16 ∧ p (1 : Nat) = p (1 : Nat)) ∧ (IntKind.u16 = IntKind.u16 ∧ p (2 : Nat) = p (2 : Nat)) ∧ (IntKind.i64 = IntKind.i64 ∧ p (3 : Nat) = p (3 : Nat)) ∧ (IntKind.u16
      = IntKind.u16 ∧ p (4 : Nat) = p (4 : Nat)) ∧ (IntKind.u16 = IntKind.u16 ∧ p (5 : Nat) = p (5 : Nat)) ∧ (IntKind.u16 = IntKind.u16 ∧ p (6 : Nat) = p (6 : Nat)) ∧
      (IntKind.i64 = IntKind.i64 ∧ p (7 : Nat) = p (7 : Nat)) ∧ (IntKind.u16 = IntKind.u16 ∧ p (8 : Nat) = p (8 : Nat)) ∧ (IntKind.u16 = IntKind.u16 ∧ p (9 : Nat) = p (9 : Nat))
      ∧ (IntKind.u16 = IntKind.u16 ∧ p (10 : Nat) = p (10 : Nat)) ∧ (IntKind.i64 = IntKind.i64 ∧ p (11 : Nat) = p (11 : Nat)) ∧ (IntKind.u16 = IntKind.u16 ∧ p (12 : Nat) = p (12
      : Nat)) ∧ (IntKind.u16 = IntKind.u16 ∧ p (13 : Nat) = p (13 : Nat)) ∧ (IntKind.u16 = IntKind.u16 ∧ p (14 : Nat) = p (14 : Nat)) ∧ IntKind.i64 = IntKind.i64 ∧ p (15 : Nat)
      = p (15 : Nat)) ∧ ((32 : Nat) = (32 : Nat) ∧ (IntKind.i64 = IntKind.i64 ∧ q (0 : Nat) = tkQ q (3 : Nat) ov (0 : Nat)) ∧ (IntKind.u16 = IntKind.u16 ∧ q (1 : Nat) = tkQ q (3
      : Nat) ov (1 : Nat)) ∧ (IntKind.i64 = IntKind.i64 ∧ q (2 : Nat) = tkQ q (3 : Nat) ov (2 : Nat)) ∧ (IntKind.i64 = IntKind.i64 ∧ q (3 : Nat) = tkQ q (3 : Nat) ov (3 : Nat))
      ∧ (IntKind.i64 = IntKind.i64 ∧ q (4 : Nat) = tkQ q (3 : Nat) ov (4 : Nat)) ∧ (IntKind.u16 = IntKind.u16 ∧ q (5 : Nat) = tkQ q (3 : Nat) ov (5 : Nat)) ∧ (IntKind.i64 =
      IntKind.i64 ∧ q (6 : Nat) = tkQ q (3 : Nat) ov (6 : Nat)) ∧ (IntKind.i64 = IntKind.i64 ∧ q (7 : Nat) = tkQ q (3 : Nat) ov (7 : Nat)) ∧ (IntKind.i64 = IntKind.i64 ∧ q (8 :
      Nat) = tkQ q (3 : Nat) ov (8 : Nat)) ∧ (IntKind.u16 = IntKind.u16 ∧ q (9 : Nat) = tkQ q (3 : Nat) ov (9 : Nat)) ∧ (IntKind.i64 = IntKind.i64 ∧ q (10 : Nat) = tkQ q (3 :
      Nat) ov (10 : Nat)) ∧ (IntKind.i64 = IntKind.i64 ∧ q (11 : Nat) = tkQ q (3 : Nat) ov (11 : Nat)) ∧ (IntKind.i64 = IntKind.i64 ∧ q (12 : Nat) = tkQ q (3 : Nat) ov (12 :
      Nat)) ∧ (IntKind.u16 = IntKind.u16 ∧ q (13 : Nat) = tkQ q (3 : Nat) ov (13 : Nat)) ∧ (IntKind.i64 = IntKind.i64 ∧ q (14 : Nat) = tkQ q (3 : Nat) ov (14 : Nat)) ∧
      (IntKind.i64 = IntKind.i64 ∧ q (15 : Nat) = tkQ q (3 : Nat) ov (15 : Nat)) ∧ IntKind.i64 = IntKind.i64 ∧ w = w) ∧ ((34 : Nat) = (34 : Nat) ∧ (IntKind.i64 = IntKind.i64 ∧
      z1 = z1) ∧ (IntKind.i64 = IntKind.i64 ∧ z2 = z2) ∧ (IntKind.i64 = IntKind.i64 ∧ z3 = z3) ∧ IntKind.u16 = IntKind.u16 ∧ z4 = z4) ∧ True))) := by kernel_rfl
theorem tick_r4 (E : World) (p : Nat → Int) (z1 z2 z3 z4 : Int) (q : Nat → Int) (w ov : Int) :
    (loopP (pe E) Try.f10 (fun v s1 => SV.sim v (.c (.i false .i64 ov)) ∧ refT s1 [⟨pk p, 56⟩, ⟨rk q w, 32⟩, ⟨[.i false .i64 z1, .i false .i64 z2, .i false .i64 z3, .i false .u16 z4], 34⟩]) (fun todo fr s' => False) (run (pe E) (orcK E) (tabL fns) 20000 (2^200-1) (hd10 E) (mkL Try.f10.ntmps (lv10 ov 4)) [⟨pk p, 56⟩, ⟨rk q w, 32⟩, ⟨[.i false .i64 z1, .i false .i64 z2, .i false .i64 z3, .i false .u16 z4], 34⟩])) =
    ((IntKind.i64 = IntKind.i64 ∧ ov = ov) ∧ ((56 : Nat) = (56 : Nat) ∧ (IntKind.u16 = IntKind.u16 ∧ p (0 : Nat) = p (0 : Nat)) ∧ (IntKind.u16 = IntKind.u16 ∧ p (1 : Nat) = p
      (1 : Nat)) ∧ (IntKind.u16 = IntKind.u16 ∧ p (2 : Nat) = p (2 : Nat)) ∧ (IntKind.i64 = IntKind.i64 ∧ p (3 : Nat) = p (3 : Nat)) ∧ (IntKind.u16 = IntKind.u16 ∧ p (4 : Nat) =
      p (4 : Nat)) ∧ (IntKind.u16 = IntKind.u16 ∧ p (5 : Nat) = p (5 : Nat)) ∧ (IntKind.u16 = IntKind.u16 ∧ p (6 : Nat) = p (6 : Nat)) ∧ (IntKind.i64 = IntKind.i64 ∧ p (7 : Nat)
      = p (7 : Nat)) ∧ (IntKind.u16 = IntKind.u16 ∧ p (8 : Nat) = p (8 : Nat)) ∧ (IntKind.u16 = IntKind.u16 ∧ p (9 : Nat) = p (9 : Nat)) ∧ (IntKind.u16 = IntKind.u16 ∧ p (10 :
      Nat) = p (10 : Nat)) ∧ (IntKind.i64 = IntKind.i64 ∧ p (11 : Nat) = p (11 : Nat)) ∧ (IntKind.u16 = IntKind.u16 ∧ p (12 : Nat) = p (12 : Nat)) ∧ (IntKind.u16 = IntKind.u16 ∧
      p (13 : Nat) = p (13 : Nat)) ∧ (IntKind.u16 = IntKind.u16 ∧ p (14 : Nat) = p (14 : Nat)) ∧ IntKind.i64 = IntKind.i64 ∧ p (15 : Nat) = p (15 : Nat)) ∧ ((32 : Nat) = (32 :
      Nat) ∧ (IntKind.i64 = IntKind.i64 ∧ q (0 : Nat) = q (0 : Nat)) ∧ (IntKind.u16 = IntKind.u16 ∧ q (1 : Nat) = q (1 : Nat)) ∧ (IntKind.i64 = IntKind.i64 ∧ q (2 : Nat) = q (2
      : Nat)) ∧ (IntKind.i64 = IntKind.i64 ∧ q (3 : Nat) = q (3 : Nat)) ∧ (IntKind.i64 = IntKind.i64 ∧ q (4 : Nat) = q (4 : Nat)) ∧ (IntKind.u16 = IntKind.u16 ∧ q (5 : Nat) = q
      (5 : Nat)) ∧ (IntKind.i64 = IntKind.i64 ∧ q (6 : Nat) = q (6 : Nat)) ∧ (IntKind.i64 = IntKind.i64 ∧ q (7 : Nat) = q (7 : Nat)) ∧ (IntKind.i64 = IntKind.i64 ∧ q (8 : Nat) =
      q (8 : Nat)) ∧ (IntKind.u16 = IntKind.u16 ∧ q (9 : Nat) = q (9 : Nat)) ∧ (IntKind.i64 = IntKind.i64 ∧ q (10 : Nat) = q (10 : Nat)) ∧ (IntKind.i64 = IntKind.i64 ∧ q (11 :
      Nat) = q (11 : Nat)) ∧ (IntKind.i64 = IntKind.i64 ∧ q (12 : Nat) = q (12 : Nat)) ∧ (IntKind.u16 = IntKind.u16 ∧ q (13 : Nat) = q (13 : Nat)) ∧ (IntKind.i64 = IntKind.i64 ∧
      q (14 : Nat) = q (14 : Nat)) ∧ (IntKind.i64 = IntKind.i64 ∧ q (15 : Nat) = q (15 : Nat)) ∧ IntKind.i64 = IntKind.i64 ∧ w = w) ∧ ((34 : Nat) = (34 : Nat) ∧ (IntKind.i64 =
      IntKind.i64 ∧ z1 = z1) ∧ (IntKind.i64 = IntKind.i64 ∧ z2 = z2) ∧ (IntKind.i64 = IntKind.i64 ∧ z3 = z3) ∧ IntKind.u16 = IntKind.u16 ∧ z4 = z4) ∧ True) := by kernel_rfl
end Go.Proofs.Ytchebhjbcjjhpaa

