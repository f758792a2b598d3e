import Derived.Test.YtchebhjbcjjhpaaI
set_option linter.unusedVariables false
set_option linter.unusedSimpArgs false
namespace Go.Proofs.Ytchebhjbcjjhpaa
open Go Go.Proofs Go.Proofs.Ytchebhjbcjjhpaa.Ev
set_option maxRecDepth 100000
def iA : List C → Nat → Int
  | .i _ _ v :: _, 0 => v
  | _ :: l, j + 1 => iA l j
  | _, _ => 0
def wfP : Nat → List C → Bool
  | 0, [] => true
  | n + 1, .i false .u16 _ :: .i false .u16 _ :: .i false .u16 _ :: .i false .i64 _ :: l => wfP n l
  | _, _ => false
theorem wfP_cons {n : Nat} {l : List C} (h : wfP (n + 1) l = true) : ∃ a b c d l', l = .i false .u16 a :: .i false .u16 b :: .i false .u16 c :: .i false .i64 d :: l' ∧ wfP n l' = true := by
  unfold wfP at h
  split at h
  · rename_i h0; omega
  · rename_i m a b c d l' h0
    obtain rfl : n = m := by omega
    exact ⟨a, b, c, d, l', rfl, h⟩
  · cases h
theorem wfP_eq {l : List C} (h : wfP 4 l = true) : l = pk (iA l) := by
  obtain ⟨a0, b0, c0, d0, l0, rfl, h0⟩ := wfP_cons h
  obtain ⟨a1, b1, c1, d1, l1, rfl, h1⟩ := wfP_cons h0
  obtain ⟨a2, b2, c2, d2, l2, rfl, h2⟩ := wfP_cons h1
  obtain ⟨a3, b3, c3, d3, l3, rfl, h3⟩ := wfP_cons h2
  cases l3 with
  | nil => rfl
  | cons x l => simp [wfP] at h3
def opI (l : List C) (S : SW) : FuncId → List SV → Option (Tree (SV × SW)) := fun g vs => match g, vs with
  | 24, [.c (.p 0 0), .c (.i true .i64 0)] => some (.leaf (.c (.b false (cnt (iA l) 0)), ⟨l, 56⟩ :: S))
  | 24, [.c (.p 0 0), .c (.i true .i64 1)] => some (.leaf (.c (.b false (cnt (iA l) 1)), ⟨l, 56⟩ :: S))
  | 24, [.c (.p 0 0), .c (.i true .i64 2)] => some (.leaf (.c (.b false (cnt (iA l) 2)), ⟨l, 56⟩ :: S))
  | 24, [.c (.p 0 0), .c (.i true .i64 3)] => some (.leaf (.c (.b false (cnt (iA l) 3)), ⟨l, 56⟩ :: S))
  | 25, [.c (.p 0 0), .c (.i true .i64 0)] => some (.leaf (.c (.b false (ind (iA l) 0)), ⟨l, 56⟩ :: S))
  | 25, [.c (.p 0 0), .c (.i true .i64 1)] => some (.leaf (.c (.b false (ind (iA l) 1)), ⟨l, 56⟩ :: S))
  | 25, [.c (.p 0 0), .c (.i true .i64 2)] => some (.leaf (.c (.b false (ind (iA l) 2)), ⟨l, 56⟩ :: S))
  | 25, [.c (.p 0 0), .c (.i true .i64 3)] => some (.leaf (.c (.b false (ind (iA l) 3)), ⟨l, 56⟩ :: S))
  | _, _ => none
theorem opI_ok {E : World} {l : List C} {S : SW} {g : FuncId} {vs : List SV} {t : Tree (SV × SW)} (hl : wfP 4 l = true) (h : opI l S g vs = some t) : CallTree (pe E) g vs (⟨l, 56⟩ :: S) t := by
  unfold opI at h
  split at h
  · cases h
    have K : ∀ p, l = pk p → CallTree (pe E) 24 [.c (.p 0 0), .c (.i true .i64 0)] (⟨l, 56⟩ :: S) (.leaf (.c (.b false (cnt p 0)), ⟨l, 56⟩ :: S)) := by
      intro p hh
      rw [hh]
      exact cnt0_c E S p
    exact K _ (wfP_eq hl)
  · cases h
    have K : ∀ p, l = pk p → CallTree (pe E) 24 [.c (.p 0 0), .c (.i true .i64 1)] (⟨l, 56⟩ :: S) (.leaf (.c (.b false (cnt p 1)), ⟨l, 56⟩ :: S)) := by
      intro p hh
      rw [hh]
      exact cnt1_c E S p
    exact K _ (wfP_eq hl)
  · cases h
    have K : ∀ p, l = pk p → CallTree (pe E) 24 [.c (.p 0 0), .c (.i true .i64 2)] (⟨l, 56⟩ :: S) (.leaf (.c (.b false (cnt p 2)), ⟨l, 56⟩ :: S)) := by
      intro p hh
      rw [hh]
      exact cnt2_c E S p
    exact K _ (wfP_eq hl)
  · cases h
    have K : ∀ p, l = pk p → CallTree (pe E) 24 [.c (.p 0 0), .c (.i true .i64 3)] (⟨l, 56⟩ :: S) (.leaf (.c (.b false (cnt p 3)), ⟨l, 56⟩ :: S)) := by
      intro p hh
      rw [hh]
      exact cnt3_c E S p
    exact K _ (wfP_eq hl)
  · cases h
    have K : ∀ p, l = pk p → CallTree (pe E) 25 [.c (.p 0 0), .c (.i true .i64 0)] (⟨l, 56⟩ :: S) (.leaf (.c (.b false (ind p 0)), ⟨l, 56⟩ :: S)) := by
      intro p hh
      rw [hh]
      exact ind0_c E S p
    exact K _ (wfP_eq hl)
  · cases h
    have K : ∀ p, l = pk p → CallTree (pe E) 25 [.c (.p 0 0), .c (.i true .i64 1)] (⟨l, 56⟩ :: S) (.leaf (.c (.b false (ind p 1)), ⟨l, 56⟩ :: S)) := by
      intro p hh
      rw [hh]
      exact ind1_c E S p
    exact K _ (wfP_eq hl)
  · cases h
    have K : ∀ p, l = pk p → CallTree (pe E) 25 [.c (.p 0 0), .c (.i true .i64 2)] (⟨l, 56⟩ :: S) (.leaf (.c (.b false (ind p 2)), ⟨l, 56⟩ :: S)) := by
      intro p hh
      rw [hh]
      exact ind2_c E S p
    exact K _ (wfP_eq hl)
  · cases h
    have K : ∀ p, l = pk p → CallTree (pe E) 25 [.c (.p 0 0), .c (.i true .i64 3)] (⟨l, 56⟩ :: S) (.leaf (.c (.b false (ind p 3)), ⟨l, 56⟩ :: S)) := by
      intro p hh
      rw [hh]
      exact ind3_c E S p
    exact K _ (wfP_eq hl)
  · cases h
def orcI (E : World) : Orc := fun g vs s => match s with
  | ⟨l, 56⟩ :: S => (match (cond (wfP 4 l) (opI l S g vs) none) with
    | some t => some t
    | none => orcB E g vs s)
  | _ => orcB E g vs s
theorem orcI_ok {E : World} : OrcOK (pe E) (orcI E) := by
  intro g vs s t h
  unfold orcI at h
  split at h
  · rename_i l S
    split at h
    · rename_i t' ht
      cases h
      cases hl : wfP 4 l <;> rw [hl] at ht <;> simp only [cond_true, cond_false] at ht
      · cases ht
      · exact opI_ok hl ht
    · exact orcB_ok _ _ _ _ h
  · exact orcB_ok _ _ _ _ h
def u2 (p : Nat → Int) (i : Nat) (c2 c3 : Int) (j : Nat) : Int := cond (Nat.beq j (4 * i + 2)) c2 (cond (Nat.beq j (4 * i + 3)) c3 (p j))
def fire (p : Nat → Int) (i : Nat) (y : Int) (b : Bool) : Bool := cond (ind p i) (!(due p i != y)) (cnt p i && (b && !(p (4 * i + 2) != 65535)))
def aC2 (p : Nat → Int) (i : Nat) (y : Int) (b : Bool) : Int := cond (ind p i) (cond (due p i != y) (p (4 * i + 2)) (p (4 * i))) (cond (cnt p i) (cond b (cond (p (4 * i + 2) != 65535) (IntKind.u16.wrap (p (4 * i + 2) + 1)) (p (4 * i))) (p (4 * i + 2))) (p (4 * i + 2)))
def aC3 (p : Nat → Int) (i : Nat) (y : Int) : Int := cond (ind p i) (cond (due p i != y) (p (4 * i + 3)) y) (p (4 * i + 3))
def adP (p : Nat → Int) (i : Nat) (y : Int) (b : Bool) : Nat → Int := u2 p i (aC2 p i y b) (aC3 p i y)
def nxT {α : Type} (p : Nat → Int) (K : Int → Bool → Tree α) : List Nat → Int → Bool → Tree α
  | [], x, f => K x f
  | i :: l, x, f => .node (!(ind p i)) (nxT p K l x f) (nxT p K l (cond f (cond (decide (due p i < x)) (due p i) x) (due p i)) true)
def nxA (p : Nat → Int) : List Nat → Int → Bool → Int
  | [], x, _ => x
  | i :: l, x, f => cond (ind p i) (nxA p l (cond f (cond (decide (due p i < x)) (due p i) x) (due p i)) true) (nxA p l x f)
def nxF (p : Nat → Int) : List Nat → Bool → Bool
  | [], f => f
  | i :: l, f => cond (ind p i) (nxF p l true) (nxF p l f)
theorem conF_nx {r : SV × SW} {p : Nat → Int} {K : Int → Bool → Tree (SV × SW)} : ∀ (l : List Nat) (x : Int) (f : Bool), conF r (K (nxA p l x f) (nxF p l f)) → conF r (nxT p K l x f)
  | [], _, _, h => h
  | i :: l, x, f, h => by
    unfold nxA nxF at h
    exact ⟨fun e => by rw [Bool.not_eq_true'] at e; rw [e] at h; exact conF_nx l _ _ h, fun e => by rw [Bool.not_eq_false'] at e; rw [e] at h; exact conF_nx l _ _ h⟩
theorem next_t (E : World) (S : SW) (p : Nat → Int) : fnTree (pe E) (orcI E) (tabL fns) 20000 Try.f18 [.c (.p 0 0)] (⟨pk p, 56⟩ :: S) = (nxT p (fun x f => (.leaf (.t [.c (.i (match f with | true => false | false => true) .i64 x), .c (.b true f)], ⟨pk p, 56⟩ :: S))) [0, 1, 2, 3] 0 false) := by kernel_rfl
theorem next_c (E : World) (S : SW) (p : Nat → Int) : CallTree (pe E) 18 [.c (.p 0 0)] (⟨pk p, 56⟩ :: S) (.leaf (.t [.c (.i false .i64 (nxA p [0, 1, 2, 3] 0 false)), .c (.b false (nxF p [0, 1, 2, 3] false))], ⟨pk p, 56⟩ :: S)) := by
  refine call_conF (t := nxT p (fun x f => (.leaf (.t [.c (.i (match f with | true => false | false => true) .i64 x), .c (.b true f)], ⟨pk p, 56⟩ :: S))) [0, 1, 2, 3] 0 false) ?_ (conF_nx _ _ _ ⟨⟨⟨rfl, rfl⟩, rfl⟩, refS_refl _⟩)
  rw [← next_t E]
  exact fnTree_sound (P := pe E) orcI_ok tab_ok tab_sz mixed 20000 Try.func18 (by decide) [.c (.p 0 0)] _
theorem adv0_t (E : World) (S : SW) (p : Nat → Int) (y : Int) (b : Bool) : fnTree (pe E) (orcI E) (tabL fns) 20000 Try.f22 [.c (.p 0 0), .c (.i true .i64 0), .c (.i false .i64 y), .c (.b false b)] (⟨pk p, 56⟩ :: S) = (.node (ind p 0) (.node (due p 0 != y) (.leaf (.c (.b true false), ⟨pk (u2 p 0 (p 2) (p 3)), 56⟩ :: S)) (.leaf (.c (.b true true), ⟨pk (u2 p 0 (p 0) y), 56⟩ :: S))) (.node (cnt p 0) (.node b (.node (p 2 != 65535) (.leaf (.c (.b true false), ⟨pk (u2 p 0 (IntKind.u16.wrap (p 2 + 1)) (p 3)), 56⟩ :: S)) (.leaf (.c (.b true true), ⟨pk (u2 p 0 (p 0) (p 3)), 56⟩ :: S))) (.leaf (.c (.b true false), ⟨pk (u2 p 0 (p 2) (p 3)), 56⟩ :: S))) (.leaf (.c (.b true false), ⟨pk (u2 p 0 (p 2) (p 3)), 56⟩ :: S)))) := by kernel_rfl
theorem adv0_c (E : World) (S : SW) (p : Nat → Int) (y : Int) (b : Bool) : CallTree (pe E) 22 [.c (.p 0 0), .c (.i true .i64 0), .c (.i false .i64 y), .c (.b false b)] (⟨pk p, 56⟩ :: S) (.leaf (.c (.b false (fire p 0 y b)), ⟨pk (adP p 0 y b), 56⟩ :: S)) := by
  refine call_conF (t := .node (ind p 0) (.node (due p 0 != y) (.leaf (.c (.b true false), ⟨pk (u2 p 0 (p 2) (p 3)), 56⟩ :: S)) (.leaf (.c (.b true true), ⟨pk (u2 p 0 (p 0) y), 56⟩ :: S))) (.node (cnt p 0) (.node b (.node (p 2 != 65535) (.leaf (.c (.b true false), ⟨pk (u2 p 0 (IntKind.u16.wrap (p 2 + 1)) (p 3)), 56⟩ :: S)) (.leaf (.c (.b true true), ⟨pk (u2 p 0 (p 0) (p 3)), 56⟩ :: S))) (.leaf (.c (.b true false), ⟨pk (u2 p 0 (p 2) (p 3)), 56⟩ :: S))) (.leaf (.c (.b true false), ⟨pk (u2 p 0 (p 2) (p 3)), 56⟩ :: S)))) ?_ (by
    refine ⟨fun h1 => ⟨fun h2 => ⟨by show _ = fire p 0 y b; unfold fire; simp only [h1, h2, cond_true, cond_false, Bool.not_true, Bool.not_false, Bool.and_true, Bool.and_false, Bool.true_and, Bool.false_and], by
      unfold adP aC2 aC3; simp only [h1, h2, cond_true, cond_false, Bool.not_true, Bool.not_false, Bool.and_true, Bool.and_false, Bool.true_and, Bool.false_and]; exact refS_refl _⟩, fun h2 => ⟨by show _ = fire p 0 y b; unfold fire; simp only [h1, h2, cond_true, cond_false, Bool.not_true, Bool.not_false, Bool.and_true, Bool.and_false, Bool.true_and, Bool.false_and], by
      unfold adP aC2 aC3; simp only [h1, h2, cond_true, cond_false, Bool.not_true, Bool.not_false, Bool.and_true, Bool.and_false, Bool.true_and, Bool.false_and]; exact refS_refl _⟩⟩, fun h1 => ⟨fun h2 => ⟨fun h3 => ⟨fun h4 => ⟨by show _ = fire p 0 y b; unfold fire; simp only [h1, h2, h3, h4, cond_true, cond_false, Bool.not_true, Bool.not_false, Bool.and_true, Bool.and_false, Bool.true_and, Bool.false_and], by
      unfold adP aC2 aC3; simp only [h1, h2, h3, h4, cond_true, cond_false, Bool.not_true, Bool.not_false, Bool.and_true, Bool.and_false, Bool.true_and, Bool.false_and]; exact refS_refl _⟩, fun h4 => ⟨by show _ = fire p 0 y b; unfold fire; simp only [h1, h2, h3, h4, cond_true, cond_false, Bool.not_true, Bool.not_false, Bool.and_true, Bool.and_false, Bool.true_and, Bool.false_and], by
      unfold adP aC2 aC3; simp only [h1, h2, h3, h4, cond_true, cond_false, Bool.not_true, Bool.not_false, Bool.and_true, Bool.and_false, Bool.true_and, Bool.false_and]; exact refS_refl _⟩⟩, fun h3 => ⟨by show _ = fire p 0 y b; unfold fire; simp only [h1, h2, h3, cond_true, cond_false, Bool.not_true, Bool.not_false, Bool.and_true, Bool.and_false, Bool.true_and, Bool.false_and], by
      unfold adP aC2 aC3; simp only [h1, h2, h3, cond_true, cond_false, Bool.not_true, Bool.not_false, Bool.and_true, Bool.and_false, Bool.true_and, Bool.false_and]; exact refS_refl _⟩⟩, fun h2 => ⟨by show _ = fire p 0 y b; unfold fire; simp only [h1, h2, cond_true, cond_false, Bool.not_true, Bool.not_false, Bool.and_true, Bool.and_false, Bool.true_and, Bool.false_and], by
      unfold adP aC2 aC3; simp only [h1, h2, cond_true, cond_false, Bool.not_true, Bool.not_false, Bool.and_true, Bool.and_false, Bool.true_and, Bool.false_and]; exact refS_refl _⟩⟩⟩)
  rw [← adv0_t E]
  exact fnTree_sound (P := pe E) orcI_ok tab_ok tab_sz mixed 20000 Try.func22 (by decide) [.c (.p 0 0), .c (.i true .i64 0), .c (.i false .i64 y), .c (.b false b)] _
theorem adv1_t (E : World) (S : SW) (p : Nat → Int) (y : Int) (b : Bool) : fnTree (pe E) (orcI E) (tabL fns) 20000 Try.f22 [.c (.p 0 0), .c (.i true .i64 1), .c (.i false .i64 y), .c (.b false b)] (⟨pk p, 56⟩ :: S) = (.node (ind p 1) (.node (due p 1 != y) (.leaf (.c (.b true false), ⟨pk (u2 p 1 (p 6) (p 7)), 56⟩ :: S)) (.leaf (.c (.b true true), ⟨pk (u2 p 1 (p 4) y), 56⟩ :: S))) (.node (cnt p 1) (.node b (.node (p 6 != 65535) (.leaf (.c (.b true false), ⟨pk (u2 p 1 (IntKind.u16.wrap (p 6 + 1)) (p 7)), 56⟩ :: S)) (.leaf (.c (.b true true), ⟨pk (u2 p 1 (p 4) (p 7)), 56⟩ :: S))) (.leaf (.c (.b true false), ⟨pk (u2 p 1 (p 6) (p 7)), 56⟩ :: S))) (.leaf (.c (.b true false), ⟨pk (u2 p 1 (p 6) (p 7)), 56⟩ :: S)))) := by kernel_rfl
theorem adv1_c (E : World) (S : SW) (p : Nat → Int) (y : Int) (b : Bool) : CallTree (pe E) 22 [.c (.p 0 0), .c (.i true .i64 1), .c (.i false .i64 y), .c (.b false b)] (⟨pk p, 56⟩ :: S) (.leaf (.c (.b false (fire p 1 y b)), ⟨pk (adP p 1 y b), 56⟩ :: S)) := by
  refine call_conF (t := .node (ind p 1) (.node (due p 1 != y) (.leaf (.c (.b true false), ⟨pk (u2 p 1 (p 6) (p 7)), 56⟩ :: S)) (.leaf (.c (.b true true), ⟨pk (u2 p 1 (p 4) y), 56⟩ :: S))) (.node (cnt p 1) (.node b (.node (p 6 != 65535) (.leaf (.c (.b true false), ⟨pk (u2 p 1 (IntKind.u16.wrap (p 6 + 1)) (p 7)), 56⟩ :: S)) (.leaf (.c (.b true true), ⟨pk (u2 p 1 (p 4) (p 7)), 56⟩ :: S))) (.leaf (.c (.b true false), ⟨pk (u2 p 1 (p 6) (p 7)), 56⟩ :: S))) (.leaf (.c (.b true false), ⟨pk (u2 p 1 (p 6) (p 7)), 56⟩ :: S)))) ?_ (by
    refine ⟨fun h1 => ⟨fun h2 => ⟨by show _ = fire p 1 y b; unfold fire; simp only [h1, h2, cond_true, cond_false, Bool.not_true, Bool.not_false, Bool.and_true, Bool.and_false, Bool.true_and, Bool.false_and], by
      unfold adP aC2 aC3; simp only [h1, h2, cond_true, cond_false, Bool.not_true, Bool.not_false, Bool.and_true, Bool.and_false, Bool.true_and, Bool.false_and]; exact refS_refl _⟩, fun h2 => ⟨by show _ = fire p 1 y b; unfold fire; simp only [h1, h2, cond_true, cond_false, Bool.not_true, Bool.not_false, Bool.and_true, Bool.and_false, Bool.true_and, Bool.false_and], by
      unfold adP aC2 aC3; simp only [h1, h2, cond_true, cond_false, Bool.not_true, Bool.not_false, Bool.and_true, Bool.and_false, Bool.true_and, Bool.false_and]; exact refS_refl _⟩⟩, fun h1 => ⟨fun h2 => ⟨fun h3 => ⟨fun h4 => ⟨by show _ = fire p 1 y b; unfold fire; simp only [h1, h2, h3, h4, cond_true, cond_false, Bool.not_true, Bool.not_false, Bool.and_true, Bool.and_false, Bool.true_and, Bool.false_and], by
      unfold adP aC2 aC3; simp only [h1, h2, h3, h4, cond_true, cond_false, Bool.not_true, Bool.not_false, Bool.and_true, Bool.and_false, Bool.true_and, Bool.false_and]; exact refS_refl _⟩, fun h4 => ⟨by show _ = fire p 1 y b; unfold fire; simp only [h1, h2, h3, h4, cond_true, cond_false, Bool.not_true, Bool.not_false, Bool.and_true, Bool.and_false, Bool.true_and, Bool.false_and], by
      unfold adP aC2 aC3; simp only [h1, h2, h3, h4, cond_true, cond_false, Bool.not_true, Bool.not_false, Bool.and_true, Bool.and_false, Bool.true_and, Bool.false_and]; exact refS_refl _⟩⟩, fun h3 => ⟨by show _ = fire p 1 y b; unfold fire; simp only [h1, h2, h3, cond_true, cond_false, Bool.not_true, Bool.not_false, Bool.and_true, Bool.and_false, Bool.true_and, Bool.false_and], by
      unfold adP aC2 aC3; simp only [h1, h2, h3, cond_true, cond_false, Bool.not_true, Bool.not_false, Bool.and_true, Bool.and_false, Bool.true_and, Bool.false_and]; exact refS_refl _⟩⟩, fun h2 => ⟨by show _ = fire p 1 y b; unfold fire; simp only [h1, h2, cond_true, cond_false, Bool.not_true, Bool.not_false, Bool.and_true, Bool.and_false, Bool.true_and, Bool.false_and], by
      unfold adP aC2 aC3; simp only [h1, h2, cond_true, cond_false, Bool.not_true, Bool.not_false, Bool.and_true, Bool.and_false, Bool.true_and, Bool.false_and]; exact refS_refl _⟩⟩⟩)
  rw [← adv1_t E]
  exact fnTree_sound (P := pe E) orcI_ok tab_ok tab_sz mixed 20000 Try.func22 (by decide) [.c (.p 0 0), .c (.i true .i64 1), .c (.i false .i64 y), .c (.b false b)] _
theorem adv2_t (E : World) (S : SW) (p : Nat → Int) (y : Int) (b : Bool) : fnTree (pe E) (orcI E) (tabL fns) 20000 Try.f22 [.c (.p 0 0), .c (.i true .i64 2), .c (.i false .i64 y), .c (.b false b)] (⟨pk p, 56⟩ :: S) = (.node (ind p 2) (.node (due p 2 != y) (.leaf (.c (.b true false), ⟨pk (u2 p 2 (p 10) (p 11)), 56⟩ :: S)) (.leaf (.c (.b true true), ⟨pk (u2 p 2 (p 8) y), 56⟩ :: S))) (.node (cnt p 2) (.node b (.node (p 10 != 65535) (.leaf (.c (.b true false), ⟨pk (u2 p 2 (IntKind.u16.wrap (p 10 + 1)) (p 11)), 56⟩ :: S)) (.leaf (.c (.b true true), ⟨pk (u2 p 2 (p 8) (p 11)), 56⟩ :: S))) (.leaf (.c (.b true false), ⟨pk (u2 p 2 (p 10) (p 11)), 56⟩ :: S))) (.leaf (.c (.b true false), ⟨pk (u2 p 2 (p 10) (p 11)), 56⟩ :: S)))) := by kernel_rfl
theorem adv2_c (E : World) (S : SW) (p : Nat → Int) (y : Int) (b : Bool) : CallTree (pe E) 22 [.c (.p 0 0), .c (.i true .i64 2), .c (.i false .i64 y), .c (.b false b)] (⟨pk p, 56⟩ :: S) (.leaf (.c (.b false (fire p 2 y b)), ⟨pk (adP p 2 y b), 56⟩ :: S)) := by
  refine call_conF (t := .node (ind p 2) (.node (due p 2 != y) (.leaf (.c (.b true false), ⟨pk (u2 p 2 (p 10) (p 11)), 56⟩ :: S)) (.leaf (.c (.b true true), ⟨pk (u2 p 2 (p 8) y), 56⟩ :: S))) (.node (cnt p 2) (.node b (.node (p 10 != 65535) (.leaf (.c (.b true false), ⟨pk (u2 p 2 (IntKind.u16.wrap (p 10 + 1)) (p 11)), 56⟩ :: S)) (.leaf (.c (.b true true), ⟨pk (u2 p 2 (p 8) (p 11)), 56⟩ :: S))) (.leaf (.c (.b true false), ⟨pk (u2 p 2 (p 10) (p 11)), 56⟩ :: S))) (.leaf (.c (.b true false), ⟨pk (u2 p 2 (p 10) (p 11)), 56⟩ :: S)))) ?_ (by
    refine ⟨fun h1 => ⟨fun h2 => ⟨by show _ = fire p 2 y b; unfold fire; simp only [h1, h2, cond_true, cond_false, Bool.not_true, Bool.not_false, Bool.and_true, Bool.and_false, Bool.true_and, Bool.false_and], by
      unfold adP aC2 aC3; simp only [h1, h2, cond_true, cond_false, Bool.not_true, Bool.not_false, Bool.and_true, Bool.and_false, Bool.true_and, Bool.false_and]; exact refS_refl _⟩, fun h2 => ⟨by show _ = fire p 2 y b; unfold fire; simp only [h1, h2, cond_true, cond_false, Bool.not_true, Bool.not_false, Bool.and_true, Bool.and_false, Bool.true_and, Bool.false_and], by
      unfold adP aC2 aC3; simp only [h1, h2, cond_true, cond_false, Bool.not_true, Bool.not_false, Bool.and_true, Bool.and_false, Bool.true_and, Bool.false_and]; exact refS_refl _⟩⟩, fun h1 => ⟨fun h2 => ⟨fun h3 => ⟨fun h4 => ⟨by show _ = fire p 2 y b; unfold fire; simp only [h1, h2, h3, h4, cond_true, cond_false, Bool.not_true, Bool.not_false, Bool.and_true, Bool.and_false, Bool.true_and, Bool.false_and], by
      unfold adP aC2 aC3; simp only [h1, h2, h3, h4, cond_true, cond_false, Bool.not_true, Bool.not_false, Bool.and_true, Bool.and_false, Bool.true_and, Bool.false_and]; exact refS_refl _⟩, fun h4 => ⟨by show _ = fire p 2 y b; unfold fire; simp only [h1, h2, h3, h4, cond_true, cond_false, Bool.not_true, Bool.not_false, Bool.and_true, Bool.and_false, Bool.true_and, Bool.false_and], by
      unfold adP aC2 aC3; simp only [h1, h2, h3, h4, cond_true, cond_false, Bool.not_true, Bool.not_false, Bool.and_true, Bool.and_false, Bool.true_and, Bool.false_and]; exact refS_refl _⟩⟩, fun h3 => ⟨by show _ = fire p 2 y b; unfold fire; simp only [h1, h2, h3, cond_true, cond_false, Bool.not_true, Bool.not_false, Bool.and_true, Bool.and_false, Bool.true_and, Bool.false_and], by
      unfold adP aC2 aC3; simp only [h1, h2, h3, cond_true, cond_false, Bool.not_true, Bool.not_false, Bool.and_true, Bool.and_false, Bool.true_and, Bool.false_and]; exact refS_refl _⟩⟩, fun h2 => ⟨by show _ = fire p 2 y b; unfold fire; simp only [h1, h2, cond_true, cond_false, Bool.not_true, Bool.not_false, Bool.and_true, Bool.and_false, Bool.true_and, Bool.false_and], by
      unfold adP aC2 aC3; simp only [h1, h2, cond_true, cond_false, Bool.not_true, Bool.not_false, Bool.and_true, Bool.and_false, Bool.true_and, Bool.false_and]; exact refS_refl _⟩⟩⟩)
  rw [← adv2_t E]
  exact fnTree_sound (P := pe E) orcI_ok tab_ok tab_sz mixed 20000 Try.func22 (by decide) [.c (.p 0 0), .c (.i true .i64 2), .c (.i false .i64 y), .c (.b false b)] _
theorem adv3_t (E : World) (S : SW) (p : Nat → Int) (y : Int) (b : Bool) : fnTree (pe E) (orcI E) (tabL fns) 20000 Try.f22 [.c (.p 0 0), .c (.i true .i64 3), .c (.i false .i64 y), .c (.b false b)] (⟨pk p, 56⟩ :: S) = (.node (ind p 3) (.node (due p 3 != y) (.leaf (.c (.b true false), ⟨pk (u2 p 3 (p 14) (p 15)), 56⟩ :: S)) (.leaf (.c (.b true true), ⟨pk (u2 p 3 (p 12) y), 56⟩ :: S))) (.node (cnt p 3) (.node b (.node (p 14 != 65535) (.leaf (.c (.b true false), ⟨pk (u2 p 3 (IntKind.u16.wrap (p 14 + 1)) (p 15)), 56⟩ :: S)) (.leaf (.c (.b true true), ⟨pk (u2 p 3 (p 12) (p 15)), 56⟩ :: S))) (.leaf (.c (.b true false), ⟨pk (u2 p 3 (p 14) (p 15)), 56⟩ :: S))) (.leaf (.c (.b true false), ⟨pk (u2 p 3 (p 14) (p 15)), 56⟩ :: S)))) := by kernel_rfl
theorem adv3_c (E : World) (S : SW) (p : Nat → Int) (y : Int) (b : Bool) : CallTree (pe E) 22 [.c (.p 0 0), .c (.i true .i64 3), .c (.i false .i64 y), .c (.b false b)] (⟨pk p, 56⟩ :: S) (.leaf (.c (.b false (fire p 3 y b)), ⟨pk (adP p 3 y b), 56⟩ :: S)) := by
  refine call_conF (t := .node (ind p 3) (.node (due p 3 != y) (.leaf (.c (.b true false), ⟨pk (u2 p 3 (p 14) (p 15)), 56⟩ :: S)) (.leaf (.c (.b true true), ⟨pk (u2 p 3 (p 12) y), 56⟩ :: S))) (.node (cnt p 3) (.node b (.node (p 14 != 65535) (.leaf (.c (.b true false), ⟨pk (u2 p 3 (IntKind.u16.wrap (p 14 + 1)) (p 15)), 56⟩ :: S)) (.leaf (.c (.b true true), ⟨pk (u2 p 3 (p 12) (p 15)), 56⟩ :: S))) (.leaf (.c (.b true false), ⟨pk (u2 p 3 (p 14) (p 15)), 56⟩ :: S))) (.leaf (.c (.b true false), ⟨pk (u2 p 3 (p 14) (p 15)), 56⟩ :: S)))) ?_ (by
    refine ⟨fun h1 => ⟨fun h2 => ⟨by show _ = fire p 3 y b; unfold fire; simp only [h1, h2, cond_true, cond_false, Bool.not_true, Bool.not_false, Bool.and_true, Bool.and_false, Bool.true_and, Bool.false_and], by
      unfold adP aC2 aC3; simp only [h1, h2, cond_true, cond_false, Bool.not_true, Bool.not_false, Bool.and_true, Bool.and_false, Bool.true_and, Bool.false_and]; exact refS_refl _⟩, fun h2 => ⟨by show _ = fire p 3 y b; unfold fire; simp only [h1, h2, cond_true, cond_false, Bool.not_true, Bool.not_false, Bool.and_true, Bool.and_false, Bool.true_and, Bool.false_and], by
      unfold adP aC2 aC3; simp only [h1, h2, cond_true, cond_false, Bool.not_true, Bool.not_false, Bool.and_true, Bool.and_false, Bool.true_and, Bool.false_and]; exact refS_refl _⟩⟩, fun h1 => ⟨fun h2 => ⟨fun h3 => ⟨fun h4 => ⟨by show _ = fire p 3 y b; unfold fire; simp only [h1, h2, h3, h4, cond_true, cond_false, Bool.not_true, Bool.not_false, Bool.and_true, Bool.and_false, Bool.true_and, Bool.false_and], by
      unfold adP aC2 aC3; simp only [h1, h2, h3, h4, cond_true, cond_false, Bool.not_true, Bool.not_false, Bool.and_true, Bool.and_false, Bool.true_and, Bool.false_and]; exact refS_refl _⟩, fun h4 => ⟨by show _ = fire p 3 y b; unfold fire; simp only [h1, h2, h3, h4, cond_true, cond_false, Bool.not_true, Bool.not_false, Bool.and_true, Bool.and_false, Bool.true_and, Bool.false_and], by
      unfold adP aC2 aC3; simp only [h1, h2, h3, h4, cond_true, cond_false, Bool.not_true, Bool.not_false, Bool.and_true, Bool.and_false, Bool.true_and, Bool.false_and]; exact refS_refl _⟩⟩, fun h3 => ⟨by show _ = fire p 3 y b; unfold fire; simp only [h1, h2, h3, cond_true, cond_false, Bool.not_true, Bool.not_false, Bool.and_true, Bool.and_false, Bool.true_and, Bool.false_and], by
      unfold adP aC2 aC3; simp only [h1, h2, h3, cond_true, cond_false, Bool.not_true, Bool.not_false, Bool.and_true, Bool.and_false, Bool.true_and, Bool.false_and]; exact refS_refl _⟩⟩, fun h2 => ⟨by show _ = fire p 3 y b; unfold fire; simp only [h1, h2, cond_true, cond_false, Bool.not_true, Bool.not_false, Bool.and_true, Bool.and_false, Bool.true_and, Bool.false_and], by
      unfold adP aC2 aC3; simp only [h1, h2, cond_true, cond_false, Bool.not_true, Bool.not_false, Bool.and_true, Bool.and_false, Bool.true_and, Bool.false_and]; exact refS_refl _⟩⟩⟩)
  rw [← adv3_t E]
  exact fnTree_sound (P := pe E) orcI_ok tab_ok tab_sz mixed 20000 Try.func22 (by decide) [.c (.p 0 0), .c (.i true .i64 3), .c (.i false .i64 y), .c (.b false b)] _
def opA (l : List C) (S : SW) : FuncId → List SV → Option (Tree (SV × SW)) := fun g vs => match g, vs with
  | 18, [.c (.p 0 0)] => some (.leaf (.t [.c (.i false .i64 (nxA (iA l) [0, 1, 2, 3] 0 false)), .c (.b false (nxF (iA l) [0, 1, 2, 3] false))], ⟨l, 56⟩ :: S))
  | 22, [.c (.p 0 0), .c (.i true .i64 0), .c (.i _ .i64 y), .c (.b _ b)] => some (.leaf (.c (.b false (fire (iA l) 0 y b)), ⟨pk (adP (iA l) 0 y b), 56⟩ :: S))
  | 22, [.c (.p 0 0), .c (.i true .i64 1), .c (.i _ .i64 y), .c (.b _ b)] => some (.leaf (.c (.b false (fire (iA l) 1 y b)), ⟨pk (adP (iA l) 1 y b), 56⟩ :: S))
  | 22, [.c (.p 0 0), .c (.i true .i64 2), .c (.i _ .i64 y), .c (.b _ b)] => some (.leaf (.c (.b false (fire (iA l) 2 y b)), ⟨pk (adP (iA l) 2 y b), 56⟩ :: S))
  | 22, [.c (.p 0 0), .c (.i true .i64 3), .c (.i _ .i64 y), .c (.b _ b)] => some (.leaf (.c (.b false (fire (iA l) 3 y b)), ⟨pk (adP (iA l) 3 y b), 56⟩ :: S))
  | _, _ => none
theorem opA_ok {E : World} {l : List C} {S : SW} {g : FuncId} {vs : List SV} {t : Tree (SV × SW)} (hl : wfP 4 l = true) (h : opA l S g vs = some t) : CallTree (pe E) g vs (⟨l, 56⟩ :: S) t := by
  unfold opA at h
  split at h
  · cases h
    have K : ∀ p, l = pk p → CallTree (pe E) 18 [.c (.p 0 0)] (⟨l, 56⟩ :: S) (.leaf (.t [.c (.i false .i64 (nxA p [0, 1, 2, 3] 0 false)), .c (.b false (nxF p [0, 1, 2, 3] false))], ⟨l, 56⟩ :: S)) := by
      intro p hh
      rw [hh]
      exact next_c E S p
    exact K _ (wfP_eq hl)
  · rename_i l1 y l2 b
    cases h
    have K : ∀ p, l = pk p → CallTree (pe E) 22 [.c (.p 0 0), .c (.i true .i64 0), .c (.i false .i64 y), .c (.b false b)] (⟨l, 56⟩ :: S) (.leaf (.c (.b false (fire p 0 y b)), ⟨pk (adP p 0 y b), 56⟩ :: S)) := by
      intro p hh
      rw [hh]
      exact adv0_c E S p y b
    exact CallTree.args (by simp [simL, SV.sim, S1.sim, C.sim]) (K _ (wfP_eq hl))
  · rename_i l1 y l2 b
    cases h
    have K : ∀ p, l = pk p → CallTree (pe E) 22 [.c (.p 0 0), .c (.i true .i64 1), .c (.i false .i64 y), .c (.b false b)] (⟨l, 56⟩ :: S) (.leaf (.c (.b false (fire p 1 y b)), ⟨pk (adP p 1 y b), 56⟩ :: S)) := by
      intro p hh
      rw [hh]
      exact adv1_c E S p y b
    exact CallTree.args (by simp [simL, SV.sim, S1.sim, C.sim]) (K _ (wfP_eq hl))
  · rename_i l1 y l2 b
    cases h
    have K : ∀ p, l = pk p → CallTree (pe E) 22 [.c (.p 0 0), .c (.i true .i64 2), .c (.i false .i64 y), .c (.b false b)] (⟨l, 56⟩ :: S) (.leaf (.c (.b false (fire p 2 y b)), ⟨pk (adP p 2 y b), 56⟩ :: S)) := by
      intro p hh
      rw [hh]
      exact adv2_c E S p y b
    exact CallTree.args (by simp [simL, SV.sim, S1.sim, C.sim]) (K _ (wfP_eq hl))
  · rename_i l1 y l2 b
    cases h
    have K : ∀ p, l = pk p → CallTree (pe E) 22 [.c (.p 0 0), .c (.i true .i64 3), .c (.i false .i64 y), .c (.b false b)] (⟨l, 56⟩ :: S) (.leaf (.c (.b false (fire p 3 y b)), ⟨pk (adP p 3 y b), 56⟩ :: S)) := by
      intro p hh
      rw [hh]
      exact adv3_c E S p y b
    exact CallTree.args (by simp [simL, SV.sim, S1.sim, C.sim]) (K _ (wfP_eq hl))
  · cases h
def orcF (E : World) : Orc := fun g vs s => match s with
  | ⟨l, 56⟩ :: S => (match (cond (wfP 4 l) (opA l S g vs) none) with
    | some t => some t
    | none => orcI E g vs s)
  | _ => orcI E g vs s
theorem orcF_ok {E : World} : OrcOK (pe E) (orcF E) := by
  intro g vs s t h
  unfold orcF at h
  split at h
  · rename_i l S
    split at h
    · rename_i t' ht
      cases h
      cases hl : wfP 4 l <;> rw [hl] at ht <;> simp only [cond_true, cond_false] at ht
      · cases ht
      · exact opA_ok hl ht
    · exact orcI_ok _ _ _ _ h
  · exact orcI_ok _ _ _ _ h
end Go.Proofs.Ytchebhjbcjjhpaa

