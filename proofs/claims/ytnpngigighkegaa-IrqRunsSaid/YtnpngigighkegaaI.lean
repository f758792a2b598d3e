import Derived.Test.YtnpngigighkegaaA
set_option linter.unusedVariables false
set_option linter.unusedSimpArgs false
namespace Go.Proofs.Ytnpngigighkegaa
open Go Go.Proofs Go.Proofs.Ytnpngigighkegaa.Ev
def rk (e r k : Nat → Bool) (w : Int) (m : Bool) : List C := [.b false (e 0), .b false (e 1), .b false (e 2), .b false (e 3), .b false (e 4), .b false (e 5), .b false (e 6), .b false (e 7), .b false (e 8), .b false (e 9), .b false (e 10), .b false (e 11), .b false (e 12), .b false (e 13), .b false (r 0), .b false (r 1), .b false (r 2), .b false (r 3), .b false (r 4), .b false (r 5), .b false (r 6), .b false (r 7), .b false (r 8), .b false (r 9), .b false (r 10), .b false (r 11), .b false (r 12), .b false (r 13), .b false (k 0), .b false (k 1), .b false (k 2), .b false (k 3), .b false (k 4), .b false (k 5), .b false (k 6), .b false (k 7), .b false (k 8), .b false (k 9), .i false .u16 w, .b false m]
def ck (en rq wa ky : Int) (m : Bool) : List C := [.i false .u16 en, .i false .u16 rq, .i false .u16 wa, .i false .u16 ky, .b false m]
def bt (x i : Int) : Bool := (x.fdiv (2 ^ min i.toNat 16)).tmod 2 == 1
theorem bit_p (E : World) (x : Int) (i : Int) :
    (conP (.c (.b false (bt x i))) (fnTree (pe E) (orcA E) (tabL fns) 20000 Try.f23 [.c (.i false .u16 x), .c (.i false .i64 i)] [])) =
    (decide ((0 : Int) ≤ i) = true ∧ ((x.fdiv ((2 : Int) ^ min i.toNat (16 : Nat))).tmod (2 : Int) == (1 : Int)) = bt x i) := by kernel_rfl
theorem bit_c (E : World) (l1 l2 : Bool) (x : Int) (i : Int) (s : SW) (h : decide (0 ≤ i) = true) : CallTree (pe E) 23 [.c (.i l1 .u16 x), .c (.i l2 .i64 i)] s (.leaf (.c (.b false (bt x i)), s)) := by
  refine CallTree.args (vs' := [.c (.i false .u16 x), .c (.i false .i64 i)]) ⟨⟨rfl, rfl⟩, ⟨rfl, rfl⟩⟩ ?_
  exact pure_contractH (fnTree_sound (P := pe E) orcA_ok tab_ok tab_sz mixed 20000 Try.func23 (by decide) [.c (.i false .u16 x), .c (.i false .i64 i)] []) (by simp [SV.ok, C.ok, okL]) (v := .c (.b false (bt x i))) rfl ⟨by rw [bit_p]; exact ⟨h, rfl⟩⟩ s
def orcB (E : World) : Orc := fun g vs s => match g, vs with
  | 23, [.c (.i _ .u16 x), .c (.i true .i64 i)] => cond (decide (0 ≤ i)) (some (.leaf (.c (.b false (bt x i)), s))) none
  | 23, [.c (.i _ .u16 x), .c (.i false .i64 i)] => some (.need (decide (0 ≤ i)) (.leaf (.c (.b false (bt x i)), s)))
  | g, vs => orcA E g vs s
theorem orcB_ok {E : World} : OrcOK (pe E) (orcB E) := by
  intro g vs s t h
  unfold orcB at h
  split at h
  · rename_i l x i
    cases hi : decide (0 ≤ i) <;> simp only [hi, cond_true, cond_false] at h
    · cases h
    · cases h
      exact bit_c E _ _ _ _ s hi
  · cases h
    exact CallTree.need fun hi => bit_c E _ _ _ _ s hi
  · exact orcA_ok _ _ _ _ h
/-- A way's end: its answer as it is wanted, and the memory. -/
def conF (r : SV × SW) : Tree (SV × SW) → Prop
  | .leaf p => SV.sim p.1 r.1 ∧ refS p.2 r.2
  | .node b t f => (b = true → conF r t) ∧ (b = false → conF r f)
  | .need b t => b = true ∧ conF r t
  | .fail => False
theorem conF_OK {r : SV × SW} : ∀ t : Tree (SV × SW), conF r t → t.OK fun p => SV.sim p.1 r.1 ∧ refS p.2 r.2 := by
  intro t
  induction t with
  | leaf x => exact id
  | node b t f iht ihf => exact fun h => ⟨fun hb => iht (h.1 hb), fun hb => ihf (h.2 hb)⟩
  | need b t ih => exact fun h => ⟨h.1, ih h.2⟩
  | fail => exact id
theorem call_conF {P : PE} {g : FuncId} {vs : List SV} {s s' : SW} {v : SV} {t : Tree (SV × SW)} (h : CallTree P g vs s t) (ht : conF (v, s') t) : CallTree P g vs s (.leaf (v, s')) := by
  intro W L ρ w post hI hok hp
  refine Calls.mono (h W L ρ w _ hI hok (conF_OK t ht)) ?_
  rintro e w' ⟨x, s1, ρ', rfl, hag, hle, hv, hI', hx, h1⟩
  simp only at h1 hx
  have hl := refS_len h1
  exact ⟨v, s', ρ', by rw [SV.sim_den hx], hag, hl ▸ hle, hl ▸ SV.sim_ok hx hv, hI'.ref h1, hp⟩
theorem C.sim_refl (x : C) : C.sim x x := by cases x <;> first | rfl | exact ⟨rfl, rfl⟩
theorem simL_refl : ∀ l : List C, simL C.sim l l
  | [] => trivial
  | [x] => C.sim_refl x
  | x :: y :: l => ⟨C.sim_refl x, simL_refl (y :: l)⟩
theorem blkSim_refl (l : List C) : blkSim l l := by cases l <;> first | trivial | exact simL_refl _
theorem refS_refl : ∀ s : SW, refS s s
  | [] => trivial
  | b :: s => ⟨⟨rfl, blkSim_refl _⟩, refS_refl s⟩
theorem refS_1 {X : Bl} {S : SW} {l l' : List C} {t : Nat} (h : blkSim l l') : refS (X :: ⟨l, t⟩ :: S) (X :: ⟨l', t⟩ :: S) := ⟨⟨rfl, blkSim_refl _⟩, ⟨rfl, h⟩, refS_refl S⟩
theorem refS_0 {S : SW} {l l' : List C} {t : Nat} (h : blkSim l l') : refS (⟨l, t⟩ :: S) (⟨l', t⟩ :: S) := ⟨⟨rfl, h⟩, refS_refl S⟩
def setB (b : Bool) (i : Nat) (r : Nat → Bool) (j : Nat) : Bool := cond (b && Nat.beq j i) true (r j)
def someN (w : Int) (k : Nat → Bool) : Nat → Bool
  | 0 => false
  | n + 1 => cond (bt w n) (cond (someN w k n) true (k n)) (someN w k n)
def allN (w : Int) (k : Nat → Bool) : Nat → Bool
  | 0 => true
  | n + 1 => cond (bt w n) (cond (allN w k n) (k n) false) (allN w k n)
def kpV (w : Int) (k : Nat → Bool) : Bool := bt w 14 && ((bt w 15 && allN w k 10) || (!bt w 15 && someN w k 10))
def kpT {α : Type} (w : Int) (k : Nat → Bool) (yes no : Tree α) : Tree α := .node (bt w 14) (.node (bt w 15) (.node (allN w k 10) yes (.node (!bt w 15) (.node (someN w k 10) yes no) no)) (.node (!bt w 15) (.node (someN w k 10) yes no) no)) no
theorem conF_kp {r : SV × SW} {w : Int} {k : Nat → Bool} {yes no : Tree (SV × SW)} (hy : kpV w k = true → conF r yes) (hn : kpV w k = false → conF r no) : conF r (kpT w k yes no) := by
  unfold kpV at hy hn
  unfold kpT
  refine ⟨fun a => ⟨fun b => ⟨fun c => hy (by simp [a, b, c]), fun c => ⟨fun d => by simp [b] at d, fun d => hn (by simp [a, b, c])⟩⟩, fun b => ⟨fun d => ⟨fun c => hy (by simp [a, b, c]), fun c => hn (by simp [a, b, c])⟩, fun d => by simp [b] at d⟩⟩, fun a => hn (by simp [a])⟩
theorem rk_congr {e e' r r' k k' : Nat → Bool} (w : Int) (m : Bool) (he : ∀ j, j < 14 → e j = e' j) (hr : ∀ j, j < 14 → r j = r' j) (hk : ∀ j, j < 10 → k j = k' j) : rk e r k w m = rk e' r' k' w m := by
  unfold rk
  rw [he 0 (by decide), he 1 (by decide), he 2 (by decide), he 3 (by decide), he 4 (by decide), he 5 (by decide), he 6 (by decide), he 7 (by decide), he 8 (by decide), he 9 (by decide), he 10 (by decide), he 11 (by decide), he 12 (by decide), he 13 (by decide), hr 0 (by decide), hr 1 (by decide), hr 2 (by decide), hr 3 (by decide), hr 4 (by decide), hr 5 (by decide), hr 6 (by decide), hr 7 (by decide), hr 8 (by decide), hr 9 (by decide), hr 10 (by decide), hr 11 (by decide), hr 12 (by decide), hr 13 (by decide), hk 0 (by decide), hk 1 (by decide), hk 2 (by decide), hk 3 (by decide), hk 4 (by decide), hk 5 (by decide), hk 6 (by decide), hk 7 (by decide), hk 8 (by decide), hk 9 (by decide)]
set_option maxRecDepth 100000 in
theorem kp_t (E : World) (X : Bl) (S : SW) (e r k : Nat → Bool) (w : Int) (m : Bool) : fnTree (pe E) (orcB E) (tabL fns) 20000 Try.f22 [.c (.p 1 0)] (X :: ⟨rk e r k w m, 31⟩ :: S) =
    kpT w k (.leaf (.t [], X :: ⟨(rk e r k w m).set 26 (.b true true), 31⟩ :: S)) (.leaf (.t [], X :: ⟨rk e r k w m, 31⟩ :: S)) := by kernel_rfl
theorem kp_c (E : World) (X : Bl) (S : SW) (e r k : Nat → Bool) (w : Int) (m : Bool) : CallTree (pe E) 22 [.c (.p 1 0)] (X :: ⟨rk e r k w m, 31⟩ :: S) (.leaf (.t [], X :: ⟨rk e (setB (kpV w k) 12 r) k w m, 31⟩ :: S)) := by
  refine call_conF (t := kpT w k (.leaf (.t [], X :: ⟨(rk e r k w m).set 26 (.b true true), 31⟩ :: S)) (.leaf (.t [], X :: ⟨rk e r k w m, 31⟩ :: S))) ?_ (conF_kp (fun h => by rw [h]; exact ⟨trivial, refS_1 (by repeat' first | exact rfl | exact ⟨rfl, rfl⟩ | apply And.intro)⟩) (fun h => by rw [h]; exact ⟨trivial, refS_refl _⟩))
  rw [← kp_t E]
  exact fnTree_sound (P := pe E) orcB_ok tab_ok tab_sz mixed 20000 Try.func22 (by decide) [.c (.p 1 0)] _
def bAt : List C → Nat → Bool
  | .b _ v :: _, 0 => v
  | _ :: l, j + 1 => bAt l j
  | _, _ => false
def iAt : List C → Nat → Int
  | .i _ _ v :: _, 0 => v
  | _ :: l, j + 1 => iAt l j
  | _, _ => 0
def eO (l : List C) (j : Nat) : Bool := bAt l j
def rO (l : List C) (j : Nat) : Bool := bAt l (14 + j)
def kO (l : List C) (j : Nat) : Bool := bAt l (28 + j)
def wfB : Nat → List C → Bool
  | 0, [.i false .u16 _, .b false _] => true
  | n + 1, .b false _ :: l => wfB n l
  | _, _ => false
theorem wfB_cons {n : Nat} {l : List C} (h : wfB (n + 1) l = true) : ∃ b l', l = .b false b :: l' ∧ wfB n l' = true := by
  cases l with
  | nil => simp [wfB] at h
  | cons x l =>
    cases x with
    | b lt v => cases lt with
      | false => exact ⟨v, l, rfl, by simpa [wfB] using h⟩
      | true => simp [wfB] at h
    | _ => simp [wfB] at h
theorem wfB_eq {l : List C} (h : wfB 38 l = true) : l = rk (eO l) (rO l) (kO l) (iAt l 38) (bAt l 39) := by
  obtain ⟨b0, l0, rfl, h0⟩ := wfB_cons h
  obtain ⟨b1, l1, rfl, h1⟩ := wfB_cons h0
  obtain ⟨b2, l2, rfl, h2⟩ := wfB_cons h1
  obtain ⟨b3, l3, rfl, h3⟩ := wfB_cons h2
  obtain ⟨b4, l4, rfl, h4⟩ := wfB_cons h3
  obtain ⟨b5, l5, rfl, h5⟩ := wfB_cons h4
  obtain ⟨b6, l6, rfl, h6⟩ := wfB_cons h5
  obtain ⟨b7, l7, rfl, h7⟩ := wfB_cons h6
  obtain ⟨b8, l8, rfl, h8⟩ := wfB_cons h7
  obtain ⟨b9, l9, rfl, h9⟩ := wfB_cons h8
  obtain ⟨b10, l10, rfl, h10⟩ := wfB_cons h9
  obtain ⟨b11, l11, rfl, h11⟩ := wfB_cons h10
  obtain ⟨b12, l12, rfl, h12⟩ := wfB_cons h11
  obtain ⟨b13, l13, rfl, h13⟩ := wfB_cons h12
  obtain ⟨b14, l14, rfl, h14⟩ := wfB_cons h13
  obtain ⟨b15, l15, rfl, h15⟩ := wfB_cons h14
  obtain ⟨b16, l16, rfl, h16⟩ := wfB_cons h15
  obtain ⟨b17, l17, rfl, h17⟩ := wfB_cons h16
  obtain ⟨b18, l18, rfl, h18⟩ := wfB_cons h17
  obtain ⟨b19, l19, rfl, h19⟩ := wfB_cons h18
  obtain ⟨b20, l20, rfl, h20⟩ := wfB_cons h19
  obtain ⟨b21, l21, rfl, h21⟩ := wfB_cons h20
  obtain ⟨b22, l22, rfl, h22⟩ := wfB_cons h21
  obtain ⟨b23, l23, rfl, h23⟩ := wfB_cons h22
  obtain ⟨b24, l24, rfl, h24⟩ := wfB_cons h23
  obtain ⟨b25, l25, rfl, h25⟩ := wfB_cons h24
  obtain ⟨b26, l26, rfl, h26⟩ := wfB_cons h25
  obtain ⟨b27, l27, rfl, h27⟩ := wfB_cons h26
  obtain ⟨b28, l28, rfl, h28⟩ := wfB_cons h27
  obtain ⟨b29, l29, rfl, h29⟩ := wfB_cons h28
  obtain ⟨b30, l30, rfl, h30⟩ := wfB_cons h29
  obtain ⟨b31, l31, rfl, h31⟩ := wfB_cons h30
  obtain ⟨b32, l32, rfl, h32⟩ := wfB_cons h31
  obtain ⟨b33, l33, rfl, h33⟩ := wfB_cons h32
  obtain ⟨b34, l34, rfl, h34⟩ := wfB_cons h33
  obtain ⟨b35, l35, rfl, h35⟩ := wfB_cons h34
  obtain ⟨b36, l36, rfl, h36⟩ := wfB_cons h35
  obtain ⟨b37, l37, rfl, h37⟩ := wfB_cons h36
  unfold wfB at h37
  split at h37
  · rfl
  · rename_i h0 _ _; cases h0
  · cases h37
def orcK (E : World) : Orc := fun g vs s => match g, vs, s with
  | 22, [.c (.p 1 0)], X :: ⟨l, 31⟩ :: S => cond (wfB 38 l) (some (.leaf (.t [], X :: ⟨rk (eO l) (setB (kpV (iAt l 38) (kO l)) 12 (rO l)) (kO l) (iAt l 38) (bAt l 39), 31⟩ :: S))) none
  | g, vs, s => orcB E g vs s
theorem orcK_ok {E : World} : OrcOK (pe E) (orcK E) := by
  intro g vs s t h
  unfold orcK at h
  split at h
  · rename_i X l S
    cases hl : wfB 38 l <;> simp only [hl, cond_true, cond_false] at h
    · cases h
    · cases h
      have K : ∀ e r k w m, l = rk e r k w m → CallTree (pe E) 22 [.c (.p 1 0)] (X :: ⟨l, 31⟩ :: S) (.leaf (.t [], X :: ⟨rk e (setB (kpV w k) 12 r) k w m, 31⟩ :: S)) := by
        intro e r k w m hh
        rw [hh]
        exact kp_c E X S e r k w m
      exact K _ _ _ _ _ (wfB_eq hl)
  · exact orcB_ok _ _ _ _ h
end Go.Proofs.Ytnpngigighkegaa

