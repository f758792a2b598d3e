import Derived.Test.YtkeinfmfkcgkhaaEv
import Derived.OrdersHeld
import Derived.WalkKit
import Derived.ProofKit
import Derived.OpenShut
import Derived.ReadAgain
import Derived.Below
import Derived.Lib.Repeat
import Derived.Lib.Join
/- A verified symbolic evaluator over the step machine: a function's body is run by the kernel on values that may be unknown; the run forks where a test is not known; the tree of its ends is sound for the machine. -/
set_option linter.unusedVariables false
set_option linter.unusedSimpArgs false
namespace Go.Proofs.Ytkeinfmfkcgkhaa.Ev
open Go

/-! ### 7. Trees of ends -/

inductive Tree (α : Type) where
  | leaf (x : α)
  | node (b : Bool) (t f : Tree α)
  | need (b : Bool) (t : Tree α)
  | fail

def Tree.OK {α : Type} (post : α → Prop) : Tree α → Prop
  | .leaf x => post x
  | .node b t f => (b = true → t.OK post) ∧ (b = false → f.OK post)
  | .need b t => b = true ∧ t.OK post
  | .fail => False

def Tree.bind {α β : Type} (k : α → Tree β) : Tree α → Tree β
  | .leaf x => k x
  | .node b t f => .node b (t.bind k) (f.bind k)
  | .need b t => .need b (t.bind k)
  | .fail => .fail

theorem Tree.OK_bind {α β : Type} {k : α → Tree β} {post : β → Prop} (t : Tree α) : (t.bind k).OK post → t.OK fun x => (k x).OK post := by
  induction t with
  | leaf x => exact id
  | node b t f iht ihf => exact fun h => ⟨fun hb => iht (h.1 hb), fun hb => ihf (h.2 hb)⟩
  | need b t ih => exact fun h => ⟨h.1, ih h.2⟩
  | fail => exact id
theorem Tree.OK_one {α : Type} {p : α → Prop} (t : Tree α) : t.OK p → ∃ x, p x ∧ t.OK fun y => y = x := by
  induction t with
  | leaf x => exact fun h => ⟨x, h, rfl⟩
  | node b t f iht ihf =>
    intro h
    cases b
    · obtain ⟨x, h1, h2⟩ := ihf (h.2 rfl)
      exact ⟨x, h1, ⟨(fun e => by cases e), fun _ => h2⟩⟩
    · obtain ⟨x, h1, h2⟩ := iht (h.1 rfl)
      exact ⟨x, h1, ⟨fun _ => h2, (fun e => by cases e)⟩⟩
  | need b t ih => exact fun h => let ⟨x, h1, h2⟩ := ih h.2; ⟨x, h1, h.1, h2⟩
  | fail => exact fun h => h.elim
theorem Tree.OK_mono {α : Type} {p q : α → Prop} (t : Tree α) (h : ∀ x, p x → q x) : t.OK p → t.OK q := by
  induction t with
  | leaf x => exact h x
  | node b t f iht ihf => exact fun h => ⟨fun hb => iht (h.1 hb), fun hb => ihf (h.2 hb)⟩
  | need b t ih => exact fun h => ⟨h.1, ih h.2⟩
  | fail => exact id

/-- One way for each place. -/
def chain {α : Type} (i : Int) (f : Nat → Tree α) : Nat → Nat → Tree α
  | 0, _ => .fail
  | m + 1, j => .node (i == (Int.ofNat j)) (f j) (chain i f m (j + 1))
theorem chain_OK {α : Type} {i : Int} {f : Nat → Tree α} {post : α → Prop} : ∀ {m j : Nat}, (chain i f m j).OK post → ∃ k, k < j + m ∧ i = Int.ofNat k ∧ (f k).OK post
  | 0, _, h => h.elim
  | m + 1, j, h => by
    by_cases e : i = Int.ofNat j
    · exact ⟨j, by omega, e, h.1 (by simpa using e)⟩
    · obtain ⟨k, h1, h2, h3⟩ := chain_OK (h.2 (by simpa using e))
      exact ⟨k, by omega, h2, h3⟩

def needsT {α : Type} : List Bool → Tree α → Tree α
  | [], t => t
  | b :: l, t => .need b (needsT l t)
theorem needsT_OK {α : Type} {post : α → Prop} : ∀ {l : List Bool} {t : Tree α}, (needsT l t).OK post → allT l ∧ t.OK post
  | [], _, h => ⟨(fun _ hb => nomatch hb), h⟩
  | b :: l, t, h => by
    have := needsT_OK (l := l) h.2
    exact ⟨fun c hc => (List.mem_cons.1 hc).elim (fun e => e ▸ h.1) (fun hc => this.1 c hc), this.2⟩

/-! ### 8. Regions -/

/-- How an operation of a region is gone through: in its turn alone; as one that looks at no memory; as one that reads. -/
inductive Fl where
  | loud | pure | load

/-- Going through a list of operations. -/
def SeqWp (P : Program) (ops : Array Oper) (Q : Exit → Act → World → Prop) : List (Nat × Fl) → Act → World → Prop
  | [], a, w => Q .normal a w
  | (i, .pure) :: r, a, w => ∃ o v, ops[i]? = some o ∧ Yields P ops o v a ∧ SeqWp P ops Q r (a.put o.dst v) w
  | (i, .load) :: r, a, w => ∃ o v, ops[i]? = some o ∧ YieldsIf P ops (fun w' => w' = w) o v a ∧ SeqWp P ops Q r (a.put o.dst v) w
  | (i, .loud) :: r, a, w => wpOp P ops Q i (SeqWp P ops Q r) a w

theorem SeqWp.ops {P : Program} {ops : Array Oper} {Q : Exit → Act → World → Prop} : ∀ (l : List Nat) (a : Act) (w : World),
    SeqWp P ops Q (l.map fun i => (i, .loud)) a w → wpOps P ops Q l a w
  | [], _, _, h => h
  | i :: l, a, w, h => by
    rw [wpOps_cons]
    exact wpOp_mono (fun a w => SeqWp.ops l a w) h

def kindPure : Op → Bool
  | .move _ | .assign _ | .pick .. | .binOp .. | .unOp .. | .convert .. | .fieldAddr .. | .field .. | .indexAddr .. | .index .. | .extract .. | .nilCheck _ | .makeFunc .. | .build .. | .slice .. | .makeInterface .. => true
  | .call { callee := .builtin .len, .. } => true
  | .call { callee := .builtin .min, .. } => true
  | .call { callee := .builtin .max, .. } => true
  | _ => false
def kindLoad : Op → Bool
  | .load .. => true
  | _ => false
def roAt (ops : Array Oper) (j : Nat) : Bool := match ops[j]? with | some o => kindPure o.op || kindLoad o.op | none => true

/-- Whatever order is picked, and what only reads leaves the world as it is. -/
def wpAnyR (P : Program) (ops : Array Oper) (Q : Exit → Act → World → Prop) : Nat → Array Bool → Act → World → Prop
  | 0, listed, a, w => Region.ready .any ops listed = [] ∧ Q .normal a w
  | fuel + 1, listed, a, w =>
    (Region.ready .any ops listed = [] → Q .normal a w) ∧
    ∀ i ∈ Region.ready .any ops listed, wpOp P ops Q i (fun a' w' => (roAt ops i = true → w' = w) ∧ wpAnyR P ops Q fuel (listed.setIfInBounds i true) a' w') a w

theorem wpAny_of_R {P : Program} {ops : Array Oper} {Q : Exit → Act → World → Prop} : ∀ (fuel : Nat) (listed : Array Bool) (a : Act) (w : World), wpAnyR P ops Q fuel listed a w → wpAny P .any ops Q fuel listed a w
  | 0, _, _, _, h => h
  | fuel + 1, _, _, _, h => ⟨h.1, fun i hi => wpOp_mono (fun a' w' h' => wpAny_of_R fuel _ a' w' h'.2) (h.2 i hi)⟩

/-- An operation may be taken first. 'T': those that wait for it. -/
theorem takeR {P : Program} {ops : Array Oper} {K : Act → World → Prop} {S : World → Prop} {i : Nat} {oi : Oper} {v : Value} (T : Nat → Bool) (hi : ops[i]? = some oi)
    (hsel : ∀ (j : Nat) (o : Oper) cs b, ops[j]? = some o → o.op ≠ .select cs b)
    (hTc : ∀ j oj, T j = true → ops[j]? = some oj → ∃ e ∈ oj.after, Region.binds .any e = true ∧ (e.on = i ∨ T e.on = true)) :
    ∀ (fuel : Nat) (listed : Array Bool) (a : Act) (w : World),
      (∀ j oj, ops[j]? = some oj → j ≠ i → listed.getD j true = false → T j = true ∨ (oi.apart ops oj = true ∧ (roAt ops j = true ∨ ∀ w, S w))) →
      (∀ j, T j = true → listed.getD j false = false) →
      i ∈ Region.ready .any ops listed → YieldsIf P ops S oi v a → S w → (roAt ops i = true) →
      wpAnyR P ops (Only K) fuel (listed.setIfInBounds i true) (a.put oi.dst v) w → wpAnyR P ops (Only K) (fuel + 1) listed a w := by
  intro fuel
  induction fuel with
  | zero =>
    intro listed a w _ _ hr hy hS hro H
    refine ⟨fun h => (by rw [h] at hr; cases hr), fun j hj => ?_⟩
    by_cases hji : j = i
    · subst hji; exact hy.wpOp hi hS ⟨fun _ => rfl, H⟩
    · have := ready_mono hj hji
      rw [H.1] at this
      cases this
  | succ fuel ih =>
    intro listed a w hfree hTu hr hy hS hro H
    refine ⟨fun h => (by rw [h] at hr; cases hr), fun j hj => ?_⟩
    by_cases hji : j = i
    · subst hji; exact hy.wpOp hi hS ⟨fun _ => rfl, H⟩
    · have h1 := H.2 j (ready_mono hj hji)
      obtain ⟨hjun, oj, hoj, hall⟩ := mem_ready.1 hj
      have hTj : T j = false := by
        cases hT : T j
        · rfl
        · obtain ⟨e, he, hb, hon⟩ := hTc j oj hT hoj
          have hl := hall e he hb
          rcases hon with hon | hon
          · rw [hon] at hl
            have h0 := (mem_ready.1 hr).1
            rcases Nat.lt_or_ge i listed.size with h' | h'
            · simp [h'] at h0 hl; rw [h0] at hl; cases hl
            · simp [Array.getElem?_eq_none h'] at hl
          · rw [hTu _ hon] at hl; cases hl
      have hap := (hfree j oj hoj hji hjun).resolve_left (by rw [hTj]; decide)
      have h2 := wpOp_putIf hoj hap.1 (fun cs b => hsel i oi cs b hi) (fun cs b => hsel j oj cs b hoj) (fun _ _ _ h => h) hy h1
      refine wpOp_mono (fun a' w' h3 => ⟨h3.2.1, ih (listed.setIfInBounds j true) a' w' ?_ ?_ (ready_mono hr (Ne.symm hji)) h3.1 ?_ hro ?_⟩) h2
      · intro k ok hk hki hun
        refine hfree k ok hk hki ?_
        by_cases hjk : j = k
        · subst hjk; exact hjun
        · rw [getD_set_ne true hjk] at hun; exact hun
      · intro k hk
        have : j ≠ k := fun e => by rw [← e, hTj] at hk; cases hk
        rw [getD_set_ne false this]; exact hTu k hk
      · rcases hap.2 with h4 | h4
        · rw [h3.2.1 h4]; exact hS
        · exact h4 w'
      · rw [Array.setIfInBounds_comm _ _ hji]
        exact h3.2.2

/-- Those that wait for operation i, in the text's order. -/
def waitGo (ops : Array Oper) (i : Nat) : List Nat → List Nat → List Nat
  | [], acc => acc
  | j :: r, acc => waitGo ops i r (cond (match ops[j]? with | some o => o.after.any fun e => Region.binds .any e && (Nat.beq e.on i || acc.any (Nat.beq e.on)) | none => false) (j :: acc) acc)
def waiters (ops : Array Oper) (i : Nat) : List Nat := waitGo ops i (List.range ops.size) []
def memN (l : List Nat) (j : Nat) : Bool := l.any (Nat.beq j)

/-- May a reading operation be taken first? -/
def loadOK (ops : Array Oper) (listed : Array Bool) (i : Nat) : Bool :=
  match ops[i]? with
  | none => false
  | some oi =>
    let T := waiters ops i
    (List.range ops.size).all (fun j => Nat.beq j i || listed.getD j true || memN T j || (match ops[j]? with | some oj => roAt ops j && oi.apart ops oj | none => true)) &&
    T.all (fun j => !(listed.getD j false)) &&
    T.all (fun j => match ops[j]? with | some o => o.after.any fun e => Region.binds .any e && (Nat.beq e.on i || memN T e.on) | none => true)

def firstPure (ops : Array Oper) (listed : Array Bool) : List Nat → Option Nat
  | [] => none
  | i :: r => cond ((match ops[i]? with | some o => kindPure o.op | none => false) && Region.free .any ops listed i) (some i) (firstPure ops listed r)
def firstLoad (ops : Array Oper) (listed : Array Bool) : List Nat → Option Nat
  | [] => none
  | i :: r => cond ((match ops[i]? with | some o => kindLoad o.op | none => false) && loadOK ops listed i) (some i) (firstLoad ops listed r)

/-- The order in which a region that draws its order is gone through. -/
def sched (ops : Array Oper) : Nat → Array Bool → Option (List (Nat × Fl))
  | 0, listed => (match Region.ready .any ops listed with | [] => some [] | _ => none)
  | n + 1, listed =>
    match Region.ready .any ops listed with
    | [] => some []
    | i0 :: rs => match firstPure ops listed (i0 :: rs) with
      | some i => (match sched ops n (listed.setIfInBounds i true) with | some l => some ((i, .pure) :: l) | none => none)
      | none => match firstLoad ops listed (i0 :: rs) with
        | some i => (match sched ops n (listed.setIfInBounds i true) with | some l => some ((i, .load) :: l) | none => none)
        | none => (match rs with
          | [] => (match sched ops n (listed.setIfInBounds i0 true) with | some l => cond (roAt ops i0) none (some ((i0, .loud) :: l)) | none => none)
          | _ => none)

theorem firstPure_spec {ops : Array Oper} {listed : Array Bool} : ∀ {l : List Nat} {i : Nat}, firstPure ops listed l = some i →
    i ∈ l ∧ (match ops[i]? with | some o => kindPure o.op | none => false) = true ∧ Region.free .any ops listed i = true
  | [], _, h => by simp [firstPure] at h
  | j :: r, i, h => by
    simp only [firstPure] at h
    cases hc : ((match ops[j]? with | some o => kindPure o.op | none => false) && Region.free .any ops listed j)
    · rw [hc] at h
      simp only [cond_false] at h
      have := firstPure_spec h
      exact ⟨List.mem_cons_of_mem _ this.1, this.2⟩
    · rw [hc] at h
      simp only [cond_true] at h
      simp at h; subst h
      simp only [Bool.and_eq_true] at hc
      exact ⟨List.mem_cons_self, hc.1, hc.2⟩
theorem firstLoad_spec {ops : Array Oper} {listed : Array Bool} : ∀ {l : List Nat} {i : Nat}, firstLoad ops listed l = some i →
    i ∈ l ∧ (match ops[i]? with | some o => kindLoad o.op | none => false) = true ∧ loadOK ops listed i = true
  | [], _, h => by simp [firstLoad] at h
  | j :: r, i, h => by
    simp only [firstLoad] at h
    cases hc : ((match ops[j]? with | some o => kindLoad o.op | none => false) && loadOK ops listed j)
    · rw [hc] at h
      simp only [cond_false] at h
      have := firstLoad_spec h
      exact ⟨List.mem_cons_of_mem _ this.1, this.2⟩
    · rw [hc] at h
      simp only [cond_true] at h
      simp at h; subst h
      simp only [Bool.and_eq_true] at hc
      exact ⟨List.mem_cons_self, hc.1, hc.2⟩

theorem memN_iff {l : List Nat} {j : Nat} : memN l j = true ↔ j ∈ l := by
  simp only [memN, List.any_eq_true]
  constructor
  · rintro ⟨x, hx, he⟩; rw [Nat.eq_of_beq_eq_true he]; exact hx
  · exact fun h => ⟨j, h, Nat.beq_refl j⟩

theorem take_pure {P : Program} {ops : Array Oper} {K : Act → World → Prop} {i : Nat} {oi : Oper} {v : Value} (hi : ops[i]? = some oi) (hs : Region.noSelect ops = true) {fuel : Nat} {listed : Array Bool} {a : Act} {w : World}
    (hr : i ∈ Region.ready .any ops listed) (hf : Region.free .any ops listed i = true) (hk : roAt ops i = true) (hy : Yields P ops oi v a)
    (h : wpAnyR P ops (Only K) fuel (listed.setIfInBounds i true) (a.put oi.dst v) w) : wpAnyR P ops (Only K) (fuel + 1) listed a w := by
  have hfs := Region.free_spec hi hf
  have hun : listed.getD i true = false := (mem_ready.1 hr).1
  have hil : i < listed.size ∧ listed.getD i false = false := by
    rcases Nat.lt_or_ge i listed.size with h' | h'
    · simp [h'] at hun ⊢; exact hun
    · simp [Array.getElem?_eq_none h'] at hun
  refine takeR (S := fun _ => True) (fun j => match ops[j]? with | some oj => oj.after.any (fun e => Region.binds .any e && (e.on == i)) && !(listed.getD j false) && j != i | none => false) hi (Region.noSelect_spec hs) ?_ fuel listed a w ?_ ?_ hr hy.yieldsIf trivial hk h
  · intro j oj hT hoj
    simp only [hoj, Bool.and_eq_true] at hT
    obtain ⟨e, he, hb⟩ := Array.any_eq_true'.1 hT.1.1
    simp only [Bool.and_eq_true, beq_iff_eq] at hb
    exact ⟨e, he, hb.1, .inl hb.2⟩
  · intro j oj hoj hne hjun
    simp only [hoj]
    by_cases hd : oj.after.any (fun e => Region.binds .any e && (e.on == i)) = true
    · refine .inl ?_
      have : listed.getD j false = false := by
        rcases Nat.lt_or_ge j listed.size with h' | h'
        · simp [h'] at hjun ⊢; exact hjun
        · simp [Array.getElem?_eq_none h']
      simp [hd, this, hne]
    · refine .inr ⟨hfs j oj hoj hne hjun fun e he hb heq => hd (Array.any_eq_true'.2 ⟨e, he, by simp [hb, heq]⟩), .inr fun _ => trivial⟩
  · intro j hT
    cases ho : ops[j]? with
    | none => simp [ho] at hT
    | some oj => simp only [ho, Bool.and_eq_true] at hT; simpa using hT.1.2

theorem take_load {P : Program} {ops : Array Oper} {K : Act → World → Prop} {i : Nat} {oi : Oper} {v : Value} (hi : ops[i]? = some oi) (hs : Region.noSelect ops = true) {fuel : Nat} {listed : Array Bool} {a : Act} {w : World}
    (hr : i ∈ Region.ready .any ops listed) (hf : loadOK ops listed i = true) (hk : roAt ops i = true) (hy : YieldsIf P ops (fun w' => w' = w) oi v a)
    (h : wpAnyR P ops (Only K) fuel (listed.setIfInBounds i true) (a.put oi.dst v) w) : wpAnyR P ops (Only K) (fuel + 1) listed a w := by
  simp only [loadOK, hi, Bool.and_eq_true] at hf
  obtain ⟨⟨h1, h2⟩, h3⟩ := hf
  refine takeR (S := fun w' => w' = w) (memN (waiters ops i)) hi (Region.noSelect_spec hs) ?_ fuel listed a w ?_ ?_ hr hy rfl hk h
  · intro j oj hT hoj
    have := List.all_eq_true.1 h3 j (memN_iff.1 hT)
    simp only [hoj] at this
    obtain ⟨e, he, hb⟩ := Array.any_eq_true'.1 this
    simp only [Bool.and_eq_true, Bool.or_eq_true] at hb
    exact ⟨e, he, hb.1, hb.2.imp Nat.eq_of_beq_eq_true id⟩
  · intro j oj hoj hne hjun
    have := List.all_eq_true.1 h1 j (List.mem_range.2 (Array.getElem?_eq_some_iff.1 hoj).1)
    have hb : Nat.beq j i = false := by
      cases hc : Nat.beq j i
      · rfl
      · exact absurd (Nat.eq_of_beq_eq_true hc) hne
    simp only [hoj, hb, hjun, Bool.false_or, Bool.or_eq_true, Bool.and_eq_true] at this
    rcases this with h4 | h4
    · exact .inl h4
    · exact .inr ⟨h4.2, .inl h4.1⟩
  · intro j hT
    have := List.all_eq_true.1 h2 j (memN_iff.1 hT)
    simpa using this

theorem sched_sound {P : Program} {ops : Array Oper} {K : Act → World → Prop} (hs : Region.noSelect ops = true) :
    ∀ (n : Nat) (listed : Array Bool) (l : List (Nat × Fl)) (a : Act) (w : World), sched ops n listed = some l → SeqWp P ops (Only K) l a w →
      wpAnyR P ops (Only K) n listed a w := by
  intro n
  induction n with
  | zero =>
    intro listed l a w h hw
    simp only [sched] at h
    split at h
    · rename_i hr; simp at h; subst h; exact ⟨hr, hw⟩
    · cases h
  | succ n ih =>
    intro listed l a w h hw
    simp only [sched] at h
    split at h
    · rename_i hr; simp at h; subst h; exact ⟨fun _ => hw, by rw [hr]; simp⟩
    · rename_i i0 rs hr
      split at h
      · rename_i i hf
        split at h
        · rename_i l' hl
          simp at h; subst h
          obtain ⟨o, v, ho, hy, hw'⟩ := hw
          have hsp := firstPure_spec hf
          have hk : roAt ops i = true := by have := hsp.2.1; simp only [ho] at this; simp [roAt, ho, this]
          exact take_pure ho hs (by rw [hr]; exact hsp.1) hsp.2.2 hk hy (ih _ _ _ _ hl hw')
        · cases h
      · split at h
        · rename_i i hf
          split at h
          · rename_i l' hl
            simp at h; subst h
            obtain ⟨o, v, ho, hy, hw'⟩ := hw
            have hsp := firstLoad_spec hf
            have hk : roAt ops i = true := by have := hsp.2.1; simp only [ho] at this; simp [roAt, ho, this]
            exact take_load ho hs (by rw [hr]; exact hsp.1) hsp.2.2 hk hy (ih _ _ _ _ hl hw')
          · cases h
        · split at h
          · split at h
            · rename_i l' hl
              cases hro : roAt ops i0 <;> simp only [hro, cond_true, cond_false] at h
              · simp at h; subst h
                refine ⟨fun h0 => (by rw [hr] at h0; cases h0), fun i hi => ?_⟩
                rw [hr] at hi
                simp at hi; subst hi
                exact wpOp_mono (fun a w h => ⟨(fun e => by rw [hro] at e; cases e), ih _ _ a w hl h⟩) hw
              · cases h
            · cases h
          · cases h

theorem sched_wp {P : Program} {ops : Array Oper} {K : Act → World → Prop} {id : Nat} {a : Act} {w : World} {l : List (Nat × Fl)}
    (hm : P.follows .mixedOrders = true) (hs : Region.noSelect ops = true) (h : sched ops ops.size (Array.replicate ops.size false) = some l)
    (hw : SeqWp P ops (Only K) l a { w with drawn := w.drawn + 1 }) : (Code.region id ops true).wp P (Only K) a w :=
  wp_region_any hm (wpAny_of_R _ _ _ _ (sched_sound hs _ _ _ _ _ h hw))

/-! ### 8b. Regions whose calls keep what the loads read -/
def changes : Op → Bool
  | .alloc _ | .box .. | .store .. | .buildSlice .. => true
  | .call { callee := .builtin .copy, .. } => true
  | .call { callee := .builtin .append, .. } => true
  | .makeSlice .. => true
  | _ => false
def makes : Op → Bool
  | .alloc _ | .box .. | .buildSlice .. => true
  | _ => false
/-- Is the operation one that keeps what the others read? -/
def mildAt (ops : Array Oper) (j : Nat) : Bool := match ops[j]? with | some o => !(changes o.op) || makes o.op | none => true

/-- What an operation gives, in whatever world of a kind. -/
def Gives (P : Program) (o : Oper) (v : Value) (S : World → Prop) (a : Act) : Prop :=
  ∀ w, S w → (execOp a.eval o).run P w = .ok (.value v) w ∨ ∃ f args, (execOp a.eval o).run P w = .ok (.enter f args) w ∧ Calls P f args w fun e w' => e = .returned v ∧ S w'
def YieldsX (P : Program) (ops : Array Oper) (C : (World → Prop) → Prop) (o : Oper) (v : Value) (a : Act) : Prop :=
  (Region.wanted o (yielded ops a.tmps) = true ∧ ∀ S, C S → Gives P o v S a) ∨ (Region.wanted o (yielded ops a.tmps) = false ∧ v = undef)
theorem YieldsX.of_same {P : Program} {ops : Array Oper} {C : (World → Prop) → Prop} {o : Oper} {v : Value} {a a' : Act} (hy : YieldsX P ops C o v a) (he : execOp a'.eval o = execOp a.eval o)
    (hw : Region.wanted o (yielded ops a'.tmps) = Region.wanted o (yielded ops a.tmps)) : YieldsX P ops C o v a' := by
  unfold YieldsX Gives at *
  rw [he, hw]
  exact hy
theorem YieldsX.sub {P : Program} {ops : Array Oper} {C C' : (World → Prop) → Prop} {o : Oper} {v : Value} {a : Act} (hy : YieldsX P ops C o v a) (h : ∀ S, C' S → C S) : YieldsX P ops C' o v a :=
  hy.imp (fun ⟨h1, h2⟩ => ⟨h1, fun S hS => h2 S (h S hS)⟩) id
theorem YieldsX.wpOp {P : Program} {ops : Array Oper} {Q : Exit → Act → World → Prop} {C : (World → Prop) → Prop} {i : Nat} {o : Oper} {v : Value} {a : Act} (hi : ops[i]? = some o) (hy : YieldsX P ops C o v a)
    {K : Act → World → Prop} {w : World} {S : World → Prop} (hS : C S) (hw : S w) (h : ∀ w', S w' → K (a.put o.dst v) w') : wpOp P ops Q i K a w := by
  unfold Go.wpOp
  simp only [hi]
  rcases hy with ⟨h1, h2⟩ | ⟨h1, rfl⟩
  · simp only [h1, if_true]
    refine .inl ?_
    unfold Oper.wp
    rcases h2 S hS w hw with hr | ⟨f, args, hr, hc⟩
    · rw [hr]; exact h w hw
    · rw [hr]
      refine Calls.mono hc ?_
      rintro e w' ⟨rfl, hw'⟩
      exact h w' hw'
  · simp only [h1, Bool.false_eq_true, if_false]; exact h w hw

/-- One operation 'oj', apart from 'oi', whose value is in its place already: as without it. -/
theorem wpOp_putX {P : Program} {ops : Array Oper} {Q : Exit → Act → World → Prop} {C : (World → Prop) → Prop} {j : Nat} {oi oj : Oper} {v : Value} (hj : ops[j]? = some oj) (hap : oi.apart ops oj = true)
    (hsi : ∀ cs b, oi.op ≠ .select cs b) (hsj : ∀ cs b, oj.op ≠ .select cs b)
    (hQ : ∀ c a w, Q (.panic c) (a.put oi.dst v) w → Q (.panic c) a w) {K : Act → World → Prop} {a : Act} {w : World}
    (hy : YieldsX P ops C oi v a) (h : wpOp P ops Q j K (a.put oi.dst v) w) :
    wpOp P ops Q j (fun a' w' => YieldsX P ops C oi v a' ∧ K (a'.put oi.dst v) w') a w := by
  obtain ⟨h1, h2, h3⟩ := Oper.apart_spec hap
  have keep : ∀ (a : Act), YieldsX P ops C oi v a → ∀ u, YieldsX P ops C oi v (a.put oj.dst u) := fun a hy u =>
    hy.of_same (execOp_put oi hsi a oj.dst u h3) (wanted_put oi a oj.dst u h3)
  have keepD : ∀ d, YieldsX P ops C oi v { a with defers := d :: a.defers } := fun d => hy.of_same rfl rfl
  unfold wpOp at *
  simp only [hj] at *
  rw [wanted_put oj a oi.dst v h1] at h
  split
  · rename_i hw
    simp only [hw, if_true] at h
    rcases h with h | ⟨hasks, hlets⟩
    case inr => exact .inr ⟨by unfold Oper.asks at *; rw [execOp_put oj hsj a oi.dst v h1] at hasks; exact hasks, hlets⟩
    refine .inl ?_
    unfold Oper.wp at *
    rw [execOp_put oj hsj a oi.dst v h1] at h
    generalize (execOp a.eval oj).run P w = r at *
    cases r with
    | ok n w' =>
      cases n <;> simp only [Oper.upon] at h ⊢
      case value u => exact ⟨keep a hy u, by rw [← Act.put_comm a v u h2]; exact h⟩
      case skip => exact ⟨keep a hy _, by rw [← Act.put_comm a v undef h2]; exact h⟩
      case defer d =>
        refine ⟨keep _ (keepD d) _, ?_⟩
        rw [← Act.put_comm _ v undef h2, ← Act.put_defers]
        exact h
      case enter f args =>
        refine Calls.mono h fun e w'' he => ?_
        cases e with
        | returned u => exact ⟨keep a hy u, by rw [← Act.put_comm a v u h2]; exact he⟩
        | panicked c => exact hQ _ _ _ he
        | outgrown => exact he
      case row row args => exact Rows.mono h fun u w'' he => ⟨keep a hy u, by rw [← Act.put_comm a v u h2]; exact he⟩
    | halt x w' =>
      cases x <;> simp only [Oper.upon] at h ⊢
      case panic u => exact hQ _ _ _ h
  · rename_i hw
    simp only [hw] at h
    exact ⟨keep a hy _, by rw [← Act.put_comm a v undef h2]; exact h⟩

/-- The same, but nothing new may be laid meanwhile. -/
def mildD (ops : Array Oper) (j : Nat) : Bool := match ops[j]? with | some o => !(changes o.op) | none => true
/-- Whatever order is picked, in every world of a class of kinds of them. -/
def makesAt (ops : Array Oper) (j : Nat) : Bool := match ops[j]? with | some o => makes o.op | none => false
/-- Kinds of worlds within those of a class. -/
def Down (C : (World → Prop) → Prop) (T : World → Prop) : Prop := ∃ S, C S ∧ ∀ w, T w → S w
theorem Down.self {C : (World → Prop) → Prop} {T : World → Prop} (h : C T) : Down C T := ⟨T, h, fun _ h => h⟩
theorem Down.mono {C C' : (World → Prop) → Prop} (h : ∀ T, C' T → Down C T) {T : World → Prop} (hT : Down C' T) : Down C T := by
  obtain ⟨S, hS, hTS⟩ := hT
  obtain ⟨S', hS', hSS⟩ := h S hS
  exact ⟨S', hS', fun w hw => hSS w (hTS w hw)⟩
def wpAnyX (md : Array Oper → Nat → Bool) (P : Program) (ops : Array Oper) (Q : Exit → Act → World → Prop) : Nat → ((World → Prop) → Prop) → Array Bool → Act → Prop
  | 0, C, listed, a => ∀ S, C S → ∀ w, S w → Region.ready .any ops listed = [] ∧ Q .normal a w
  | fuel + 1, C, listed, a => ∀ S, C S → ∀ w, S w →
    (Region.ready .any ops listed = [] → Q .normal a w) ∧
    ∀ i ∈ Region.ready .any ops listed, wpOp P ops Q i (fun a' w' => ∃ C' : (World → Prop) → Prop, (md ops i = true → ∀ T, C' T → C T) ∧ (makesAt ops i = true → ∀ T, C' T → Down C T) ∧ (∃ S', C' S' ∧ S' w') ∧ wpAnyX md P ops Q fuel C' (listed.setIfInBounds i true) a') a w

theorem wpAny_of_X {md : Array Oper → Nat → Bool} {P : Program} {ops : Array Oper} {Q : Exit → Act → World → Prop} : ∀ (fuel : Nat) (C : (World → Prop) → Prop) (listed : Array Bool) (a : Act) (w : World) (S : World → Prop), C S → S w → wpAnyX md P ops Q fuel C listed a → wpAny P .any ops Q fuel listed a w
  | 0, _, _, _, _, _, hS, hw, h => h _ hS _ hw
  | fuel + 1, _, _, _, _, _, hS, hw, h => ⟨(h _ hS _ hw).1, fun i hi => wpOp_mono (fun a' w' ⟨_, _, _, ⟨S', hS', hw'⟩, h'⟩ => wpAny_of_X fuel _ _ a' w' S' hS' hw' h') ((h _ hS _ hw).2 i hi)⟩

theorem takeX {md : Array Oper → Nat → Bool} {P : Program} {ops : Array Oper} {K : Act → World → Prop} {i : Nat} {oi : Oper} {v : Value} (T : Nat → Bool) (hi : ops[i]? = some oi)
    (hsel : ∀ (j : Nat) (o : Oper) cs b, ops[j]? = some o → o.op ≠ .select cs b)
    (hTc : ∀ j oj, T j = true → ops[j]? = some oj → ∃ e ∈ oj.after, Region.binds .any e = true ∧ (e.on = i ∨ T e.on = true)) :
    ∀ (fuel : Nat) (C : (World → Prop) → Prop) (listed : Array Bool) (a : Act),
      (∀ j oj, ops[j]? = some oj → j ≠ i → listed.getD j true = false → T j = true ∨ (oi.apart ops oj = true ∧ md ops j = true)) →
      (∀ j, T j = true → listed.getD j false = false) →
      i ∈ Region.ready .any ops listed → YieldsX P ops C oi v a →
      wpAnyX md P ops (Only K) fuel C (listed.setIfInBounds i true) (a.put oi.dst v) → wpAnyX md P ops (Only K) (fuel + 1) C listed a := by
  intro fuel
  induction fuel with
  | zero =>
    intro C listed a _ _ hr hy H S hS w hw
    refine ⟨fun h => (by rw [h] at hr; cases hr), fun j hj => ?_⟩
    by_cases hji : j = i
    · subst hji; exact hy.wpOp hi hS hw fun w' hw' => ⟨C, fun _ _ h => h, fun _ _ h => Down.self h, ⟨S, hS, hw'⟩, H⟩
    · have := ready_mono hj hji
      rw [(H S hS w hw).1] at this
      cases this
  | succ fuel ih =>
    intro C listed a hfree hTu hr hy H S hS w hw
    refine ⟨fun h => (by rw [h] at hr; cases hr), fun j hj => ?_⟩
    by_cases hji : j = i
    · subst hji; exact hy.wpOp hi hS hw fun w' hw' => ⟨C, fun _ _ h => h, fun _ _ h => Down.self h, ⟨S, hS, hw'⟩, H⟩
    · have h1 := (H S hS w hw).2 j (ready_mono hj hji)
      obtain ⟨hjun, oj, hoj, hall⟩ := mem_ready.1 hj
      have hTj : T j = false := by
        cases hT : T j
        · rfl
        · obtain ⟨e, he, hb, hon⟩ := hTc j oj hT hoj
          have hl := hall e he hb
          rcases hon with hon | hon
          · rw [hon] at hl
            have h0 := (mem_ready.1 hr).1
            rcases Nat.lt_or_ge i listed.size with h' | h'
            · simp [h'] at h0 hl; rw [h0] at hl; cases hl
            · simp [Array.getElem?_eq_none h'] at hl
          · rw [hTu _ hon] at hl; cases hl
      have hap := (hfree j oj hoj hji hjun).resolve_left (by rw [hTj]; decide)
      have h2 := wpOp_putX hoj hap.1 (fun cs b => hsel i oi cs b hi) (fun cs b => hsel j oj cs b hoj) (fun _ _ _ h => h) hy h1
      refine wpOp_mono (fun a' w' h3 => ?_) h2
      obtain ⟨hy', C', hC', hD', hw', hrest⟩ := h3
      have hsub := hC' hap.2
      refine ⟨C', fun _ => hsub, hD', hw', ih C' (listed.setIfInBounds j true) a' ?_ ?_ (ready_mono hr (Ne.symm hji)) (hy'.sub hsub) ?_⟩
      · intro k ok hk hki hun
        refine hfree k ok hk hki ?_
        by_cases hjk : j = k
        · subst hjk; exact hjun
        · rw [getD_set_ne true hjk] at hun; exact hun
      · intro k hk
        have : j ≠ k := fun e => by rw [← e, hTj] at hk; cases hk
        rw [getD_set_ne false this]; exact hTu k hk
      · rw [Array.setIfInBounds_comm _ _ hji]
        exact hrest

theorem takeL {md : Array Oper → Nat → Bool} {P : Program} {ops : Array Oper} {K : Act → World → Prop} {i : Nat} {oi : Oper} {v : Value} (T : Nat → Bool) (hi : ops[i]? = some oi)
    (hsel : ∀ (j : Nat) (o : Oper) cs b, ops[j]? = some o → o.op ≠ .select cs b)
    (hTc : ∀ j oj, T j = true → ops[j]? = some oj → ∃ e ∈ oj.after, Region.binds .any e = true ∧ (e.on = i ∨ T e.on = true)) :
    ∀ (fuel : Nat) (C : (World → Prop) → Prop) (listed : Array Bool) (a : Act),
      (∀ j oj, ops[j]? = some oj → j ≠ i → listed.getD j true = false → T j = true ∨ (oi.apart ops oj = true ∧ (md ops j = true ∨ makesAt ops j = true))) →
      (∀ j, T j = true → listed.getD j false = false) →
      i ∈ Region.ready .any ops listed → YieldsX P ops (Down C) oi v a →
      wpAnyX md P ops (Only K) fuel C (listed.setIfInBounds i true) (a.put oi.dst v) → wpAnyX md P ops (Only K) (fuel + 1) C listed a := by
  intro fuel
  induction fuel with
  | zero =>
    intro C listed a _ _ hr hy H S hS w hw
    refine ⟨fun h => (by rw [h] at hr; cases hr), fun j hj => ?_⟩
    by_cases hji : j = i
    · subst hji; exact (hy.sub fun _ h => Down.self h : YieldsX P ops C oi v a).wpOp hi hS hw fun w' hw' => ⟨C, fun _ _ h => h, fun _ _ h => Down.self h, ⟨S, hS, hw'⟩, H⟩
    · have := ready_mono hj hji
      rw [(H S hS w hw).1] at this
      cases this
  | succ fuel ih =>
    intro C listed a hfree hTu hr hy H S hS w hw
    refine ⟨fun h => (by rw [h] at hr; cases hr), fun j hj => ?_⟩
    by_cases hji : j = i
    · subst hji; exact (hy.sub fun _ h => Down.self h : YieldsX P ops C oi v a).wpOp hi hS hw fun w' hw' => ⟨C, fun _ _ h => h, fun _ _ h => Down.self h, ⟨S, hS, hw'⟩, H⟩
    · have h1 := (H S hS w hw).2 j (ready_mono hj hji)
      obtain ⟨hjun, oj, hoj, hall⟩ := mem_ready.1 hj
      have hTj : T j = false := by
        cases hT : T j
        · rfl
        · obtain ⟨e, he, hb, hon⟩ := hTc j oj hT hoj
          have hl := hall e he hb
          rcases hon with hon | hon
          · rw [hon] at hl
            have h0 := (mem_ready.1 hr).1
            rcases Nat.lt_or_ge i listed.size with h' | h'
            · simp [h'] at h0 hl; rw [h0] at hl; cases hl
            · simp [Array.getElem?_eq_none h'] at hl
          · rw [hTu _ hon] at hl; cases hl
      have hap := (hfree j oj hoj hji hjun).resolve_left (by rw [hTj]; decide)
      have h2 := wpOp_putX hoj hap.1 (fun cs b => hsel i oi cs b hi) (fun cs b => hsel j oj cs b hoj) (fun _ _ _ h => h) hy h1
      refine wpOp_mono (fun a' w' h3 => ?_) h2
      obtain ⟨hy', C', hC', hD', hw', hrest⟩ := h3
      have hsub : ∀ T, Down C' T → Down C T := fun T hT => Down.mono (fun T hT => hap.2.elim (fun h => Down.self (hC' h T hT)) (fun h => hD' h T hT)) hT
      refine ⟨C', hC', hD', hw', ih C' (listed.setIfInBounds j true) a' ?_ ?_ (ready_mono hr (Ne.symm hji)) (hy'.sub hsub) ?_⟩
      · intro k ok hk hki hun
        refine hfree k ok hk hki ?_
        by_cases hjk : j = k
        · subst hjk; exact hjun
        · rw [getD_set_ne true hjk] at hun; exact hun
      · intro k hk
        have : j ≠ k := fun e => by rw [← e, hTj] at hk; cases hk
        rw [getD_set_ne false this]; exact hTu k hk
      · rw [Array.setIfInBounds_comm _ _ hji]
        exact hrest

theorem takeP {md : Array Oper → Nat → Bool} {P : Program} {ops : Array Oper} {K : Act → World → Prop} {i : Nat} {oi : Oper} {v : Value} (T : Nat → Bool) (hi : ops[i]? = some oi)
    (hsel : ∀ (j : Nat) (o : Oper) cs b, ops[j]? = some o → o.op ≠ .select cs b)
    (hTc : ∀ j oj, T j = true → ops[j]? = some oj → ∃ e ∈ oj.after, Region.binds .any e = true ∧ (e.on = i ∨ T e.on = true)) :
    ∀ (fuel : Nat) (C : (World → Prop) → Prop) (listed : Array Bool) (a : Act),
      (∀ j oj, ops[j]? = some oj → j ≠ i → listed.getD j true = false → T j = true ∨ oi.apart ops oj = true) →
      (∀ j, T j = true → listed.getD j false = false) →
      i ∈ Region.ready .any ops listed → YieldsX P ops (fun _ => True) oi v a →
      wpAnyX md P ops (Only K) fuel C (listed.setIfInBounds i true) (a.put oi.dst v) → wpAnyX md P ops (Only K) (fuel + 1) C listed a := by
  intro fuel
  induction fuel with
  | zero =>
    intro C listed a _ _ hr hy H S hS w hw
    refine ⟨fun h => (by rw [h] at hr; cases hr), fun j hj => ?_⟩
    by_cases hji : j = i
    · subst hji; exact (hy.sub (C' := C) fun _ _ => trivial).wpOp hi hS hw fun w' hw' => ⟨C, fun _ _ h => h, fun _ _ h => Down.self h, ⟨S, hS, hw'⟩, H⟩
    · have := ready_mono hj hji
      rw [(H S hS w hw).1] at this
      cases this
  | succ fuel ih =>
    intro C listed a hfree hTu hr hy H S hS w hw
    refine ⟨fun h => (by rw [h] at hr; cases hr), fun j hj => ?_⟩
    by_cases hji : j = i
    · subst hji; exact (hy.sub (C' := C) fun _ _ => trivial).wpOp hi hS hw fun w' hw' => ⟨C, fun _ _ h => h, fun _ _ h => Down.self h, ⟨S, hS, hw'⟩, H⟩
    · have h1 := (H S hS w hw).2 j (ready_mono hj hji)
      obtain ⟨hjun, oj, hoj, hall⟩ := mem_ready.1 hj
      have hTj : T j = false := by
        cases hT : T j
        · rfl
        · obtain ⟨e, he, hb, hon⟩ := hTc j oj hT hoj
          have hl := hall e he hb
          rcases hon with hon | hon
          · rw [hon] at hl
            have h0 := (mem_ready.1 hr).1
            rcases Nat.lt_or_ge i listed.size with h' | h'
            · simp [h'] at h0 hl; rw [h0] at hl; cases hl
            · simp [Array.getElem?_eq_none h'] at hl
          · rw [hTu _ hon] at hl; cases hl
      have hap := (hfree j oj hoj hji hjun).resolve_left (by rw [hTj]; decide)
      have h2 := wpOp_putX hoj hap (fun cs b => hsel i oi cs b hi) (fun cs b => hsel j oj cs b hoj) (fun _ _ _ h => h) hy h1
      refine wpOp_mono (fun a' w' h3 => ?_) h2
      obtain ⟨hy', C', hC', hD', hw', hrest⟩ := h3
      refine ⟨C', hC', hD', hw', ih C' (listed.setIfInBounds j true) a' ?_ ?_ (ready_mono hr (Ne.symm hji)) hy' ?_⟩
      · intro k ok hk hki hun
        refine hfree k ok hk hki ?_
        by_cases hjk : j = k
        · subst hjk; exact hjun
        · rw [getD_set_ne true hjk] at hun; exact hun
      · intro k hk
        have : j ≠ k := fun e => by rw [← e, hTj] at hk; cases hk
        rw [getD_set_ne false this]; exact hTu k hk
      · rw [Array.setIfInBounds_comm _ _ hji]
        exact hrest

def pureOKC (ops : Array Oper) (listed : Array Bool) (i : Nat) : Bool :=
  match ops[i]? with
  | none => false
  | some oi =>
    let T := waiters ops i
    (List.range ops.size).all (fun j => Nat.beq j i || listed.getD j true || memN T j || (match ops[j]? with | some oj => oi.apart ops oj | none => true)) &&
    T.all (fun j => !(listed.getD j false)) &&
    T.all (fun j => match ops[j]? with | some o => o.after.any fun e => Region.binds .any e && (Nat.beq e.on i || memN T e.on) | none => true)
def pureC : Op → Bool
  | .convert .. => false
  | op => kindPure op
def firstPureC (ops : Array Oper) (listed : Array Bool) : List Nat → Option Nat
  | [] => none
  | i :: r => cond ((match ops[i]? with | some o => pureC o.op | none => false) && pureOKC ops listed i) (some i) (firstPureC ops listed r)
def loadOKC (md : Array Oper → Nat → Bool) (ops : Array Oper) (listed : Array Bool) (i : Nat) : Bool :=
  match ops[i]? with
  | none => false
  | some oi =>
    let T := waiters ops i
    (List.range ops.size).all (fun j => Nat.beq j i || listed.getD j true || memN T j || (match ops[j]? with | some oj => oi.apart ops oj && md ops j | none => true)) &&
    T.all (fun j => !(listed.getD j false)) &&
    T.all (fun j => match ops[j]? with | some o => o.after.any fun e => Region.binds .any e && (Nat.beq e.on i || memN T e.on) | none => true)
def mdM (md : Array Oper → Nat → Bool) (ops : Array Oper) (j : Nat) : Bool := md ops j || makesAt ops j
def firstLoadC (md : Array Oper → Nat → Bool) (ops : Array Oper) (listed : Array Bool) : List Nat → Option Nat
  | [] => none
  | i :: r => cond ((match ops[i]? with | some o => !(changes o.op) | none => false) && loadOKC md ops listed i) (some i)
      (cond ((match ops[i]? with | some o => kindLoad o.op | none => false) && loadOKC (mdM md) ops listed i) (some i) (firstLoadC md ops listed r))

/-- The order in which such a region is gone through. -/
def schedC (md : Array Oper → Nat → Bool) (ops : Array Oper) : Nat → Array Bool → Option (List (Nat × Fl))
  | 0, listed => (match Region.ready .any ops listed with | [] => some [] | _ => none)
  | n + 1, listed =>
    match Region.ready .any ops listed with
    | [] => some []
    | i0 :: rs => match firstPureC ops listed (i0 :: rs) with
      | some i => (match schedC md ops n (listed.setIfInBounds i true) with | some l => some ((i, .pure) :: l) | none => none)
      | none => match firstLoadC md ops listed (i0 :: rs) with
        | some i => (match schedC md ops n (listed.setIfInBounds i true) with | some l => some ((i, .load) :: l) | none => none)
        | none => (match rs with
          | [] => (match schedC md ops n (listed.setIfInBounds i0 true) with | some l => some ((i0, .loud) :: l) | none => none)
          | _ => none)

def SeqX (md : Array Oper → Nat → Bool) (P : Program) (ops : Array Oper) (Q : Exit → Act → World → Prop) : List (Nat × Fl) → ((World → Prop) → Prop) → Act → Prop
  | [], C, a => ∀ S, C S → ∀ w, S w → Q .normal a w
  | (i, .pure) :: r, C, a => ∃ o v, ops[i]? = some o ∧ YieldsX P ops (fun _ => True) o v a ∧ SeqX md P ops Q r C (a.put o.dst v)
  | (i, .load) :: r, C, a => ∃ o v, ops[i]? = some o ∧ YieldsX P ops C o v a ∧ (kindLoad o.op = true → YieldsX P ops (Down C) o v a) ∧ SeqX md P ops Q r C (a.put o.dst v)
  | (i, .loud) :: r, C, a => ∀ S, C S → ∀ w, S w → wpOp P ops Q i (fun a' w' => ∃ C' : (World → Prop) → Prop, (md ops i = true → ∀ T, C' T → C T) ∧ (makesAt ops i = true → ∀ T, C' T → Down C T) ∧ (∃ S', C' S' ∧ S' w') ∧ SeqX md P ops Q r C' a') a w

theorem firstLoadC_spec {md : Array Oper → Nat → Bool} {ops : Array Oper} {listed : Array Bool} : ∀ {l : List Nat} {i : Nat}, firstLoadC md ops listed l = some i →
    i ∈ l ∧ (loadOKC md ops listed i = true ∨ ((match ops[i]? with | some o => kindLoad o.op | none => false) = true ∧ loadOKC (mdM md) ops listed i = true))
  | [], _, h => by simp [firstLoadC] at h
  | j :: r, i, h => by
    simp only [firstLoadC] at h
    cases hc : ((match ops[j]? with | some o => !(changes o.op) | none => false) && loadOKC md ops listed j)
    · rw [hc] at h
      simp only [cond_false] at h
      cases hc2 : ((match ops[j]? with | some o => kindLoad o.op | none => false) && loadOKC (mdM md) ops listed j)
      · rw [hc2] at h
        simp only [cond_false] at h
        have := firstLoadC_spec h
        exact ⟨List.mem_cons_of_mem _ this.1, this.2⟩
      · rw [hc2] at h
        simp only [cond_true] at h
        simp at h; subst h
        simp only [Bool.and_eq_true] at hc2
        exact ⟨List.mem_cons_self, .inr hc2⟩
    · rw [hc] at h
      simp only [cond_true] at h
      simp at h; subst h
      simp only [Bool.and_eq_true] at hc
      exact ⟨List.mem_cons_self, .inl hc.2⟩

theorem firstPureC_spec {ops : Array Oper} {listed : Array Bool} : ∀ {l : List Nat} {i : Nat}, firstPureC ops listed l = some i →
    i ∈ l ∧ pureOKC ops listed i = true
  | [], _, h => by simp [firstPureC] at h
  | j :: r, i, h => by
    simp only [firstPureC] at h
    cases hc : ((match ops[j]? with | some o => pureC o.op | none => false) && pureOKC ops listed j)
    · rw [hc] at h
      simp only [cond_false] at h
      have := firstPureC_spec h
      exact ⟨List.mem_cons_of_mem _ this.1, this.2⟩
    · rw [hc] at h
      simp only [cond_true] at h
      simp at h; subst h
      simp only [Bool.and_eq_true] at hc
      exact ⟨List.mem_cons_self, hc.2⟩
theorem take_pureC {md : Array Oper → Nat → Bool} {P : Program} {ops : Array Oper} {K : Act → World → Prop} {C : (World → Prop) → Prop} {i : Nat} {oi : Oper} {v : Value} (hi : ops[i]? = some oi) (hs : Region.noSelect ops = true) {fuel : Nat} {listed : Array Bool} {a : Act}
    (hr : i ∈ Region.ready .any ops listed) (hf : pureOKC ops listed i = true) (hy : YieldsX P ops (fun _ => True) oi v a)
    (h : wpAnyX md P ops (Only K) fuel C (listed.setIfInBounds i true) (a.put oi.dst v)) : wpAnyX md P ops (Only K) (fuel + 1) C listed a := by
  simp only [pureOKC, hi, Bool.and_eq_true] at hf
  obtain ⟨⟨h1, h2⟩, h3⟩ := hf
  refine takeP (memN (waiters ops i)) hi (Region.noSelect_spec hs) ?_ fuel C listed a ?_ ?_ hr hy h
  · intro j oj hT hoj
    have := List.all_eq_true.1 h3 j (memN_iff.1 hT)
    simp only [hoj] at this
    obtain ⟨e, he, hb⟩ := Array.any_eq_true'.1 this
    simp only [Bool.and_eq_true, Bool.or_eq_true] at hb
    exact ⟨e, he, hb.1, hb.2.imp Nat.eq_of_beq_eq_true id⟩
  · intro j oj hoj hne hjun
    have := List.all_eq_true.1 h1 j (List.mem_range.2 (Array.getElem?_eq_some_iff.1 hoj).1)
    have hb : Nat.beq j i = false := by
      cases hc : Nat.beq j i
      · rfl
      · exact absurd (Nat.eq_of_beq_eq_true hc) hne
    simp only [hoj, hb, hjun, Bool.false_or, Bool.or_eq_true] at this
    exact this
  · intro j hT
    have := List.all_eq_true.1 h2 j (memN_iff.1 hT)
    simpa using this

theorem take_loadC {md : Array Oper → Nat → Bool} {P : Program} {ops : Array Oper} {K : Act → World → Prop} {C : (World → Prop) → Prop} {i : Nat} {oi : Oper} {v : Value} (hi : ops[i]? = some oi) (hs : Region.noSelect ops = true) {fuel : Nat} {listed : Array Bool} {a : Act}
    (hr : i ∈ Region.ready .any ops listed) (hf : loadOKC md ops listed i = true) (hy : YieldsX P ops C oi v a)
    (h : wpAnyX md P ops (Only K) fuel C (listed.setIfInBounds i true) (a.put oi.dst v)) : wpAnyX md P ops (Only K) (fuel + 1) C listed a := by
  simp only [loadOKC, hi, Bool.and_eq_true] at hf
  obtain ⟨⟨h1, h2⟩, h3⟩ := hf
  refine takeX (memN (waiters ops i)) hi (Region.noSelect_spec hs) ?_ fuel C listed a ?_ ?_ hr hy h
  · intro j oj hT hoj
    have := List.all_eq_true.1 h3 j (memN_iff.1 hT)
    simp only [hoj] at this
    obtain ⟨e, he, hb⟩ := Array.any_eq_true'.1 this
    simp only [Bool.and_eq_true, Bool.or_eq_true] at hb
    exact ⟨e, he, hb.1, hb.2.imp Nat.eq_of_beq_eq_true id⟩
  · intro j oj hoj hne hjun
    have := List.all_eq_true.1 h1 j (List.mem_range.2 (Array.getElem?_eq_some_iff.1 hoj).1)
    have hb : Nat.beq j i = false := by
      cases hc : Nat.beq j i
      · rfl
      · exact absurd (Nat.eq_of_beq_eq_true hc) hne
    simp only [hoj, hb, hjun, Bool.false_or, Bool.or_eq_true, Bool.and_eq_true] at this
    exact this
  · intro j hT
    have := List.all_eq_true.1 h2 j (memN_iff.1 hT)
    simpa using this

theorem take_loadL {md : Array Oper → Nat → Bool} {P : Program} {ops : Array Oper} {K : Act → World → Prop} {C : (World → Prop) → Prop} {i : Nat} {oi : Oper} {v : Value} (hi : ops[i]? = some oi) (hs : Region.noSelect ops = true) {fuel : Nat} {listed : Array Bool} {a : Act}
    (hr : i ∈ Region.ready .any ops listed) (hf : loadOKC (mdM md) ops listed i = true) (hy : YieldsX P ops (Down C) oi v a)
    (h : wpAnyX md P ops (Only K) fuel C (listed.setIfInBounds i true) (a.put oi.dst v)) : wpAnyX md P ops (Only K) (fuel + 1) C listed a := by
  simp only [loadOKC, hi, Bool.and_eq_true] at hf
  obtain ⟨⟨h1, h2⟩, h3⟩ := hf
  refine takeL (memN (waiters ops i)) hi (Region.noSelect_spec hs) ?_ fuel C listed a ?_ ?_ hr hy h
  · intro j oj hT hoj
    have := List.all_eq_true.1 h3 j (memN_iff.1 hT)
    simp only [hoj] at this
    obtain ⟨e, he, hb⟩ := Array.any_eq_true'.1 this
    simp only [Bool.and_eq_true, Bool.or_eq_true] at hb
    exact ⟨e, he, hb.1, hb.2.imp Nat.eq_of_beq_eq_true id⟩
  · intro j oj hoj hne hjun
    have := List.all_eq_true.1 h1 j (List.mem_range.2 (Array.getElem?_eq_some_iff.1 hoj).1)
    have hb : Nat.beq j i = false := by
      cases hc : Nat.beq j i
      · rfl
      · exact absurd (Nat.eq_of_beq_eq_true hc) hne
    simp only [hoj, hb, hjun, mdM, Bool.false_or, Bool.or_eq_true, Bool.and_eq_true] at this
    exact this
  · intro j hT
    have := List.all_eq_true.1 h2 j (memN_iff.1 hT)
    simpa using this

theorem schedC_sound {md : Array Oper → Nat → Bool} {P : Program} {ops : Array Oper} {K : Act → World → Prop} (hs : Region.noSelect ops = true) :
    ∀ (n : Nat) (C : (World → Prop) → Prop) (listed : Array Bool) (l : List (Nat × Fl)) (a : Act), schedC md ops n listed = some l → SeqX md P ops (Only K) l C a →
      wpAnyX md P ops (Only K) n C listed a := by
  intro n
  induction n with
  | zero =>
    intro C listed l a h hw S hS w hSw
    simp only [schedC] at h
    split at h
    · rename_i hr; simp at h; subst h; exact ⟨hr, hw S hS w hSw⟩
    · cases h
  | succ n ih =>
    intro C listed l a h hw
    simp only [schedC] at h
    split at h
    · rename_i hr; simp at h; subst h; exact fun S hS w hSw => ⟨fun _ => hw S hS w hSw, by rw [hr]; simp⟩
    · rename_i i0 rs hr
      split at h
      · rename_i i hf
        split at h
        · rename_i l' hl
          simp at h; subst h
          obtain ⟨o, v, ho, hy, hw'⟩ := hw
          have hsp := firstPureC_spec hf
          exact take_pureC ho hs (by rw [hr]; exact hsp.1) hsp.2 hy (ih _ _ _ _ hl hw')
        · cases h
      · split at h
        · rename_i i hf
          split at h
          · rename_i l' hl
            simp at h; subst h
            obtain ⟨o, v, ho, hy, hyL, hw'⟩ := hw
            have hsp := firstLoadC_spec hf
            rcases hsp.2 with h2 | ⟨h1, h2⟩
            · exact take_loadC ho hs (by rw [hr]; exact hsp.1) h2 hy (ih _ _ _ _ hl hw')
            · simp only [ho] at h1
              exact take_loadL ho hs (by rw [hr]; exact hsp.1) h2 (hyL h1) (ih _ _ _ _ hl hw')
          · cases h
        · split at h
          · split at h
            · rename_i l' hl
              simp at h; subst h
              intro S hS w hSw
              refine ⟨fun h0 => (by rw [hr] at h0; cases h0), fun i hi => ?_⟩
              rw [hr] at hi
              simp at hi; subst hi
              exact wpOp_mono (fun a w ⟨C', h1, hd, h2, h3⟩ => ⟨C', h1, hd, h2, ih _ _ _ a hl h3⟩) (hw S hS w hSw)
            · cases h
          · cases h

theorem schedC_wp {md : Array Oper → Nat → Bool} {P : Program} {ops : Array Oper} {C : (World → Prop) → Prop} {S : World → Prop} {K : Act → World → Prop} {id : Nat} {a : Act} {w : World} {l : List (Nat × Fl)}
    (hm : P.follows .mixedOrders = true) (hs : Region.noSelect ops = true) (h : schedC md ops ops.size (Array.replicate ops.size false) = some l)
    (hC : C S) (hS : S { w with drawn := w.drawn + 1 }) (hw : SeqX md P ops (Only K) l C a) : (Code.region id ops true).wp P (Only K) a w :=
  wp_region_any hm (wpAny_of_X _ _ _ _ _ _ hC hS (schedC_sound hs _ _ _ _ _ h hw))

/-! ### 9. The run -/
/-- A program, and the world at the start of the law. -/
structure PE extends Program where
  E : World
instance : CoeOut PE Program := ⟨PE.toProgram⟩


abbrev CallK (β : Type) := FuncId → List SV → SW → (SV → SW → Tree β) → Tree β

def Fr.ev (f : Fr) : Operand → Option SV
  | .tmp t => f.get t
  | .const v => some (ofVal v)
  | .func g => some (.c (.fn g))
  | .global _ => none

/-! Reading what was there at the start of a law. -/
inductive EK where
  | i (k : IntKind)
  | b
  | s
  | l
def flatEF (P : Program) (r : TypeId → Option (List EK)) : List Field → Nat → Option (List EK)
  | [], _ => some []
  | f :: fs, j => match r f.type with
    | none => none
    | some ks => cond (Nat.beq f.offset j && Nat.beq (P.cellsOf f.type) ks.length) (match flatEF P r fs (j + ks.length) with | some l => some (ks ++ l) | none => none) none
def repE {α : Type} (l : List α) : Nat → List α
  | 0 => []
  | n + 1 => l ++ repE l n
def flatE (P : Program) : Nat → TypeId → Option (List EK)
  | 0, _ => none
  | d + 1, t => match P.underlying t with
    | some (.int k) => some [.i k]
    | some .bool => some [.b]
    | some .string => some [.s]
    | some (.slice _) => some [.l]
    | some (.struct fs) => (match flatEF P (flatE P d) fs.toList 0 with | some ks => cond (Nat.beq (P.cellsOf t) ks.length) (some ks) none | none => none)
    | some (.array n e) => (match flatE P d e with | some ks => cond (Nat.beq (P.cellsOf t) (n * ks.length) && Nat.beq (P.cellsOf e) ks.length) (some (repE ks n)) none | none => none)
    | _ => none
def eCell (E : World) (a : Option Addr) (o : Nat) : Value := match a with | none => undef | some a => (match E.cell? (a.add o) with | some v => v | none => undef)
def eI (E : World) (a : Option Addr) (o : Nat) : Int := match eCell E a o with | .int _ n => n | _ => 0
def eB (E : World) (a : Option Addr) (o : Nat) : Bool := match eCell E a o with | .bool n => n | _ => false
def eS (E : World) (a : Option Addr) (o : Nat) : ByteArray := match eCell E a o with | .string n => n | _ => .empty
def eA (E : World) (a : Option Addr) (o : Nat) : Option Addr := match eCell E a o with | .slice n _ _ => n | _ => none
def eN (E : World) (a : Option Addr) (o : Nat) : Nat := match eCell E a o with | .slice _ n _ => n | _ => 0
def eM (E : World) (a : Option Addr) (o : Nat) : Nat := match eCell E a o with | .slice _ _ n => n | _ => 0
def eC (E : World) (a : Option Addr) (o : Nat) : EK → C
  | .i k => .i false k (eI E a o)
  | .b => .b false (eB E a o)
  | .s => .str false (eS E a o)
  | .l => .x (.slice (eA E a o) (eN E a o) (eM E a o))
/-- Is there a cell of a kind? -/
def eOk (E : World) (a : Option Addr) (o : Nat) : EK → Bool
  | .i k => (match eCell E a o with | .int k' n => k' == k && (Lit.int k n).wf | _ => false)
  | .b => (match eCell E a o with | .bool _ => true | _ => false)
  | .s => (match eCell E a o with | .string s => decide (s.size ≤ maxLen) | _ => false)
  | .l => (match eCell E a o with | .slice none 0 0 => true | .slice (some _) l c => decide (l ≤ c) && decide (c ≤ maxLen) | _ => false)
def eRow (E : World) (a : Option Addr) (o : Nat) : List EK → Bool
  | [] => true
  | k :: ks => eOk E a o k && eRow E a (o + 1) ks
def eCellsK {β : Type} (E : World) (a : Option Addr) (b o : Nat) : List EK → (List C → β) → β
  | [], K => K []
  | k :: ks, K => forceN (o + 1) fun o' => eCellsK E a b o' ks fun l => K (eC E a (b + o) k :: l)
def eCells (E : World) (a : Option Addr) (b o : Nat) : List EK → List C
  | [] => []
  | k :: ks => eC E a (b + o) k :: eCells E a b (o + 1) ks
theorem eCellsK_eq {β : Type} (E : World) (a : Option Addr) (b : Nat) : ∀ (ks : List EK) (o : Nat) (K : List C → β), eCellsK E a b o ks K = K (eCells E a b o ks)
  | [], _, _ => rfl
  | k :: ks, o, K => by simp only [eCellsK, forceN_eq, eCells]; exact eCellsK_eq E a b ks (o + 1) _
def extOp (P : Program) (E : World) (ev : Operand → Option SV) (op : Op) : Option R :=
  match op with
  | .load t x => (match ev x with
    | some (.c (.e a o sz i)) => (match P.underlying t, P.info? t, flatE P 9 t with
      | some d, some inf, some ks => cond (Nat.beq ks.length inf.size && Nat.blt 0 ks.length) (cond (aggB d)
          (eCellsK E a (i.toNat * sz) o ks fun l => some ⟨[eRow E a (i.toNat * sz + o) ks], .a l⟩)
          (match ks with
            | [k] => some ⟨[eRow E a (i.toNat * sz + o) [k]], .c (eC E a (i.toNat * sz + o) k)⟩
            | _ => none)) none
      | _, _, _ => none)
    | _ => none)
  | _ => none

theorem ext_cell {E w : World} {ρ : Rh} {n : Nat} (h : ExtI E ρ n w) {a : Addr} {v : Value} (hc : E.cell? a = some v) : w.cell? a = some v := by
  have hb : a.block < E.heap.size := by
    unfold World.cell? at hc
    rcases Nat.lt_or_ge a.block E.heap.size with h' | h'
    · exact h'
    · rw [Array.getElem?_eq_none h'] at hc; cases hc
  unfold World.cell? at hc ⊢
  rw [h.2.1 _ hb]; exact hc
theorem eOk_cell {E : World} {a : Option Addr} {o : Nat} {k : EK} (h : eOk E a o k = true) : ∃ a', a = some a' ∧ ∀ ρ, E.cell? (a'.add o) = some ((eC E a o k).den ρ) := by
  have key : ∀ v, eCell E a o = v → v ≠ undef → ∃ a', a = some a' ∧ E.cell? (a'.add o) = some v := by
    intro v hv hne
    unfold eCell at hv
    cases a with
    | none => exact absurd hv.symm hne
    | some a' =>
      refine ⟨a', rfl, ?_⟩
      simp only at hv
      split at hv
      · rename_i u hu; subst hv; exact hu
      · exact absurd hv.symm hne
  cases k with
  | i k =>
    simp only [eOk] at h
    split at h
    · rename_i k' m hm
      simp only [Bool.and_eq_true, beq_iff_eq] at h
      obtain ⟨a', ha, hc⟩ := key _ hm (by simp [undef])
      refine ⟨a', ha, fun ρ => ?_⟩
      rw [hc]; simp only [eC, C.den, eI, hm, h.1]
    · cases h
  | b =>
    simp only [eOk] at h
    split at h
    · rename_i m hm
      obtain ⟨a', ha, hc⟩ := key _ hm (by simp [undef])
      refine ⟨a', ha, fun ρ => ?_⟩
      rw [hc]; simp only [eC, C.den, eB, hm]
    · cases h
  | s =>
    simp only [eOk] at h
    split at h
    · rename_i m hm
      obtain ⟨a', ha, hc⟩ := key _ hm (by simp [undef])
      refine ⟨a', ha, fun ρ => ?_⟩
      rw [hc]; simp only [eC, C.den, eS, hm]
    · cases h
  | l =>
    simp only [eOk] at h
    split at h
    · rename_i hm
      obtain ⟨a', ha, hc⟩ := key _ hm (by simp [undef])
      refine ⟨a', ha, fun ρ => ?_⟩
      rw [hc]; simp only [eC, C.den, eA, eN, eM, hm]
    · rename_i x l c hm
      obtain ⟨a', ha, hc⟩ := key _ hm (by simp [undef])
      refine ⟨a', ha, fun ρ => ?_⟩
      rw [hc]; simp only [eC, C.den, eA, eN, eM, hm]
    · cases h
theorem eC_ok {E : World} {a : Option Addr} {o : Nat} {k : EK} (n : Nat) : (eC E a o k).ok n = true := by cases k <;> rfl
theorem eCells_ok {E : World} {a : Option Addr} {b : Nat} (n : Nat) : ∀ (ks : List EK) (o : Nat), okL n (eCells E a b o ks) = true
  | [], _ => rfl
  | k :: ks, o => by simp only [eCells, okL, List.all_cons, eC_ok, Bool.true_and]; exact eCells_ok n ks (o + 1)
theorem eCells_len {E : World} {a : Option Addr} {b : Nat} : ∀ (ks : List EK) (o : Nat), (eCells E a b o ks).length = ks.length
  | [], _ => rfl
  | k :: ks, o => by simp [eCells, eCells_len ks (o + 1)]
theorem eRow_cells {E : World} {a : Option Addr} {b : Nat} : ∀ (ks : List EK) (o : Nat), eRow E a (b + o) ks = true → ks ≠ [] → ∃ a', a = some a' ∧ ∀ j c, (eCells E a b o ks)[j]? = some c → ∀ ρ, E.cell? (a'.add (b + o + j)) = some (c.den ρ)
  | [], _, _, hne => absurd rfl hne
  | k :: ks, o, h, _ => by
    simp only [eRow, Bool.and_eq_true] at h
    obtain ⟨a', ha, hc⟩ := eOk_cell h.1
    refine ⟨a', ha, fun j c hj ρ => ?_⟩
    cases j with
    | zero => simp only [eCells, List.getElem?_cons_zero, Option.some.injEq] at hj; subst hj; exact hc ρ
    | succ j =>
      simp only [eCells, List.getElem?_cons_succ] at hj
      have hks : ks ≠ [] := by rintro rfl; simp [eCells] at hj
      obtain ⟨a'', ha', h'⟩ := eRow_cells (b := b) ks (o + 1) h.2 hks
      rw [ha] at ha'; cases ha'
      rw [show b + o + (j + 1) = b + (o + 1) + j by omega]
      exact h' j c hj ρ
section
variable {P : Program} {ρ : Rh} {E W : World} {L : Nat} {s : SW} {w : World}
theorem extOp_sound {n : Nat} (hI : ExtI E ρ n w) {ev : Operand → Option SV} {val : Operand → Value} {n' : Nat} (hv : ∀ x y, ev x = some y → val x = y.den ρ ∧ y.ok n' = true)
    {o : Oper} {r : R} (h : extOp P E ev o.op = some r) (hn : allT r.nd) : (execOp val o).run P w = .ok (.value (r.v.den ρ)) w ∧ ∀ m, r.v.ok m = true := by
  obtain ⟨dst, op, type, pos, after, guard⟩ := o
  unfold extOp at h
  simp only at h
  split at h
  · rename_i t x
    split at h
    · rename_i a o sz i hx
      have h1 := (hv _ _ hx).1
      split at h
      · rename_i d inf ks hd hi hk
        cases hl : (Nat.beq ks.length inf.size && Nat.blt 0 ks.length) <;> simp only [hl, cond_true, cond_false] at h
        · cases h
        simp only [Bool.and_eq_true] at hl
        have hl' := Nat.eq_of_beq_eq_true hl.1
        have hks : ks ≠ [] := by rintro rfl; exact absurd hl.2 (by decide)
        cases ha : aggB d <;> simp only [ha, cond_true, cond_false] at h
        · split at h
          · rename_i k
            simp at h; subst h
            have hrow := hn _ (List.mem_cons_self)
            simp only [eRow, Bool.and_true] at hrow
            obtain ⟨a', rfl, hc⟩ := eOk_cell hrow
            refine ⟨?_, fun m => eC_ok m⟩
            simp only [execOp, Sem.run_bind, h1, SV.den, C.den, Option.map_some, Instr.loadAt, Instr.sureAddr, Sem.run_pure, Result.andThen_ok, loadVar, run_isAgg hd, ha, Bool.false_eq_true, if_false, run_load_cell (ext_cell hI (hc ρ))]
          · cases h
        · rw [eCellsK_eq] at h
          simp at h; subst h
          have hrow := hn _ (List.mem_cons_self)
          obtain ⟨a', rfl, hc⟩ := eRow_cells ks o hrow hks
          refine ⟨?_, fun m => eCells_ok m ks o⟩
          simp only [execOp, Sem.run_bind, h1, SV.den, C.den, Option.map_some, Instr.loadAt, Instr.sureAddr, Sem.run_pure, Result.andThen_ok, loadVar, run_isAgg hd, ha, if_true, run_sizeOf hi, loadCells]
          rw [run_loadCellsFrom (w := w) (P := P) _ inf.size 0 #[] ((eCells E (some a') (i.toNat * sz) o ks).map (C.den ρ)) (by rw [List.length_map, eCells_len]; exact hl') (fun j u hj => by
            rw [List.getElem?_map] at hj
            cases hc' : (eCells E (some a') (i.toNat * sz) o ks)[j]? with
            | none => rw [hc'] at hj; simp at hj
            | some c =>
              rw [hc'] at hj; simp at hj; subst hj
              rw [Nat.zero_add, Addr.add_add]
              exact ext_cell hI (hc j c hc' ρ))]
          simp [denL]
      · cases h
    · cases h
  · cases h
end

/-- An index that is not known: one way for each place. -/
def idxK {β : Type} (P : PE) (op : Op) (fr : Fr) (s : SW) (K : SV → SW → Tree β) : Tree β :=
  match op with
  | .indexAddr t x ix => (match fr.ev x, fr.ev ix with
    | some x, some (.c (.i false k i)) => (match x, P.underlying t with
      | .c (.p _ _), some (.array len _) => chain i (fun j => (match indexAddrR P t x (.c (.i true k (Int.ofNat j))) with | some r => needsT r.nd (K r.v s) | none => .fail)) len 0
      | .c (.slc _ _ len _), some (.slice _) => chain i (fun j => (match indexAddrR P t x (.c (.i true k (Int.ofNat j))) with | some r => needsT r.nd (K r.v s) | none => .fail)) len 0
      | _, _ => .fail)
    | _, _ => .fail)
  | .index t x ix => (match fr.ev x, fr.ev ix with
    | some x, some (.c (.i false k i)) => (match x, P.underlying t with
      | .a _, some (.array len _) => chain i (fun j => (match indexR P t x (.c (.i true k (Int.ofNat j))) with | some r => needsT r.nd (K r.v s) | none => .fail)) len 0
      | _, _ => .fail)
    | _, _ => .fail)
  | _ => .fail

theorem run_callMethod {P : Program} {t : TypeId} {name : String} {g : FuncId} (h : methodS P t name = some g) (a : Addr) (args : Array Value) (w : World) :
    (callMethod (.iface t (.pointer (some a))) name args).run P w = (callFunc g (#[.pointer (some a)] ++ args)).run P w := by
  unfold methodS at h
  split at h
  · cases h
  rename_i inf hi
  split at h
  · cases h
  rename_i m hm
  cases hp : m.path.isEmpty <;> simp only [hp, cond_true, cond_false] at h
  · cases h
  split at h
  · rename_i f el hf hu
    simp at h; subst h
    have hpl : m.path.toList = [] := by simpa using hp
    have hmeth : ∀ n, (method (n + 1) t (.pointer (some a)) name).run P w = .ok (f, .pointer (some a)) w := by
      intro n
      simp only [method, Sem.run_bind, typeInfo, run_program, Result.andThen_ok, hi, Sem.run_pure, hm, hpl, follow, hf, receiverAt, run_underlying hu, Place.get]
    have hd : ∃ n, P.types.size + Made.depth = n + 1 := ⟨P.types.size + (Made.depth - 1), by unfold Made.depth; omega⟩
    obtain ⟨n, hd⟩ := hd
    simp only [callMethod, Sem.run_bind, run_program, Result.andThen_ok, hd, hmeth]
  · cases h
def operK {β : Type} (P : PE) (call : CallK β) (fl : Fl) (o : Oper) (fr : Fr) (s : SW) (K : SV → SW → Tree β) : Tree β :=
  match pureOp P fr.ev o.op with
  | some r => needsT r.nd (K r.v s)
  | none => match extOp P P.E fr.ev o.op with
  | some r => (match fl with | .pure => .fail | _ => needsT r.nd (K r.v s))
  | none => match fl with
    | .pure => .fail
    | .load => (match o.op with
      | .load t x => (match fr.ev x with | some v => (match loadS P s t v with | some (u, _) => K u s | none => .fail) | none => .fail)
      | _ => .fail)
    | .loud => (match heapOp P fr.ev s o.op with
      | some (v, s') => K v s'
      | none => match o.op with
        | .call { callee := .value f, args, .. } => (match fr.ev f, evs fr.ev args.toList with
            | some (.c (.fn g)), some vs => call g vs s K
            | some (.c (.clo g caps)), some vs => call g (vs ++ caps.map fun p => .c (.p p.1 p.2)) s K
            | _, _ => .fail)
        | .call { callee := .invoke recv name, args, .. } => (match fr.ev recv, evs fr.ev args.toList with
            | some (.c (.ifc t blk off)), some vs => (match methodS P t name with
              | some g => call g (.c (.p blk off) :: vs) s K
              | none => .fail)
            | _, _ => .fail)
        | op => idxK P op fr s K)

def guardK {β : Type} (ops : Array Oper) (o : Oper) (fr : Fr) (K : Bool → Fr → Tree β) : Tree β :=
  match o.guard with
  | none => K true fr
  | some (j, want) => match (ops[j]?).bind (·.dst) with
    | none => .fail
    | some d => match fr.get d with
      | some (.c (.b lit v)) => cond lit (K (v == want) fr)
          (.node v (fr.putK (some d) (.c (.b true true)) .fail fun fr' => K want fr') (fr.putK (some d) (.c (.b true false)) .fail fun fr' => K (!want) fr'))
      | some (.t []) => K false fr
      | _ => .fail

def opsK {β : Type} (P : PE) (call : CallK β) (ops : Array Oper) : List (Nat × Fl) → Fr → SW → (Fr → SW → Tree β) → Tree β
  | [], fr, s, K => K fr s
  | (i, p) :: r, fr, s, K => match ops[i]? with
    | none => .fail
    | some o => guardK ops o fr fun wanted fr =>
        cond wanted (operK P call p o fr s fun v s' => fr.putK o.dst v .fail fun fr' => opsK P call ops r fr' s' K)
          (fr.putK o.dst undefS .fail fun fr' => opsK P call ops r fr' s K)

abbrev CallC (β : Type) := FuncId → List SV → (SV → Tree β) → Tree β
def operC {β : Type} (P : PE) (call : CallC β) (o : Oper) (fr : Fr) (s : SW) (K : SV → Tree β) : Tree β :=
  match pureOp P fr.ev o.op with
  | some r => needsT r.nd (K r.v)
  | none => match extOp P P.E fr.ev o.op with
  | some r => needsT r.nd (K r.v)
  | none => match o.op with
      | .load t x => (match fr.ev x with | some v => (match loadS P s t v with | some (u, _) => K u | none => .fail) | none => .fail)
      | .call { callee := .value f, args, .. } => (match fr.ev f, evs fr.ev args.toList with
            | some (.c (.fn g)), some vs => cond (vs.all (SV.ok 0)) (call g vs K) .fail
            | _, _ => .fail)
      | _ => .fail
def isLoud : Fl → Bool | .loud => true | _ => false
def isPureF : Fl → Bool | .pure => true | _ => false
def opsC {β : Type} (P : PE) (call : CallC β) (ops : Array Oper) : List (Nat × Fl) → Fr → SW → (Fr → SW → Tree β) → Tree β
  | [], fr, s, K => K fr s
  | (i, p) :: r, fr, s, K => match ops[i]? with
    | none => .fail
    | some o => guardK ops o fr fun wanted fr =>
        cond wanted (cond (isLoud p)
            (cond (changes o.op) (match heapOp P fr.ev s o.op with
              | some (v, s') => fr.putK o.dst v .fail fun fr' => opsC P call ops r fr' s' K
              | none => .fail) .fail)
            (cond (isPureF p) (match pureOp P fr.ev o.op with | some rr => needsT rr.nd (fr.putK o.dst rr.v .fail fun fr' => opsC P call ops r fr' s K) | none => .fail)
              (operC P call o fr s fun v => fr.putK o.dst v .fail fun fr' => opsC P call ops r fr' s K)))
          (fr.putK o.dst undefS .fail fun fr' => opsC P call ops r fr' s K)

/-! Regions that draw their order, with calls that read the memory and keep it. -/
def xEq : Value → Value → Bool
  | .pointer none, .pointer none => true
  | .slice none a b, .slice none c d => Nat.beq a c && Nat.beq b d
  | .map none, .map none => true
  | .chan none, .chan none => true
  | .nilFunc, .nilFunc => true
  | .nilIface, .nilIface => true
  | _, _ => false
def eqC : C → C → Option (List Bool)
  | .b l a, .b l' b => cond (l && l') (cond (decide (a = b)) (some []) none) (some [decide (a = b)])
  | .i l k a, .i l' k' b => if k = k' then cond (l && l') (cond (decide (a = b)) (some []) none) (some [decide (a = b)]) else none
  | .str l a, .str l' b => cond (l && l') (cond (decide (a = b)) (some []) none) (some [decide (a = b)])
  | .p b o, .p b' o' => cond (Nat.beq b b' && Nat.beq o o') (some []) none
  | .slc b o n c, .slc b' o' n' c' => cond (Nat.beq b b' && Nat.beq o o' && Nat.beq n n' && Nat.beq c c') (some []) none
  | .sla b o n c, .sla b' o' n' c' => cond (Nat.beq b b' && Nat.beq o o' && Nat.beq n n' && Nat.beq c c') (some []) none
  | .fn f, .fn f' => cond (Nat.beq f f') (some []) none
  | .ifc t b o, .ifc t' b' o' => cond (Nat.beq t t' && Nat.beq b b' && Nat.beq o o') (some []) none
  | .mp b, .mp b' => cond (Nat.beq b b') (some []) none
  | .es a n c, .es a' n' c' => some [decide (a = a'), decide (n = n'), decide (c = c')]
  | .x v, .x u => cond (xEq v u) (some []) none
  | .strn _ a, .strn _ b => some [decide (a = b)]
  | _, _ => none
def keepCs : List C → List C → Option (List Bool)
  | [], [] => some []
  | x :: xs, y :: ys => match eqC x y with
    | none => none
    | some a => (match keepCs xs ys with | none => none | some b => some (a ++ b))
  | _, _ => none
/-- Is a memory the other one, and more? -/
def keepS : SW → SW → Option (List Bool)
  | _, [] => some []
  | b :: s, b0 :: s0 => cond (Nat.beq b.ty b0.ty) (match b0.cs with
    | [] => keepS s s0
    | c :: cs => (match keepCs b.cs (c :: cs) with
      | none => none
      | some l => (match keepS s s0 with | none => none | some l' => some (l ++ l')))) none
  | [], _ :: _ => none
def callD {β : Type} (call : CallK β) (g : FuncId) (vs : List SV) (s : SW) (K : SV → Tree β) : Tree β :=
  cond (vs.all (SV.ok 0)) (call g vs [] fun v _ => cond (v.ok 0) (K v) .fail)
    (call g vs s fun v s' => match keepS s' s with | some nd => needsT nd (cond (v.ok s.length) (K v) .fail) | none => .fail)
def operD {β : Type} (P : PE) (call : CallK β) (o : Oper) (fr : Fr) (s : SW) (K : SV → Tree β) : Tree β :=
  match pureOp P fr.ev o.op with
  | some r => needsT r.nd (K r.v)
  | none => match extOp P P.E fr.ev o.op with
  | some r => needsT r.nd (K r.v)
  | none => match o.op with
      | .load t x => (match fr.ev x with | some v => (match loadS P s t v with | some (u, _) => K u | none => .fail) | none => .fail)
      | .call { callee := .value f, args, .. } => (match fr.ev f, evs fr.ev args.toList with
            | some (.c (.fn g)), some vs => callD call g vs s K
            | _, _ => .fail)
      | _ => .fail
def opsD {β : Type} (P : PE) (call : CallK β) (ops : Array Oper) : List (Nat × Fl) → Fr → SW → (Fr → SW → Tree β) → Tree β
  | [], fr, s, K => K fr s
  | (i, p) :: r, fr, s, K => match ops[i]? with
    | none => .fail
    | some o => guardK ops o fr fun wanted fr =>
        cond wanted (cond (isLoud p)
            (cond (changes o.op) (match heapOp P fr.ev s o.op with
              | some (v, s') => fr.putK o.dst v .fail fun fr' => opsD P call ops r fr' s' K
              | none => .fail) .fail)
            (cond (isPureF p) (match pureOp P fr.ev o.op with | some rr => needsT rr.nd (fr.putK o.dst rr.v .fail fun fr' => opsD P call ops r fr' s K) | none => .fail)
              (operD P call o fr s fun v => fr.putK o.dst v .fail fun fr' => opsD P call ops r fr' s K)))
          (fr.putK o.dst undefS .fail fun fr' => opsD P call ops r fr' s K)
def hasMakes (ops : Array Oper) : Bool := ops.toList.any fun o => makes o.op

/-- A test that is not known: its slot is known behind it. -/
def forkK {β : Type} (fr : Fr) (c : Operand) (v : Bool) (Kt Kf : Fr → Tree β) : Tree β :=
  match c with
  | .tmp d => .node v (fr.putK (some d) (.c (.b true true)) .fail Kt) (fr.putK (some d) (.c (.b true false)) .fail Kf)
  | _ => .node v (Kt fr) (Kf fr)

structure Lf where
  todo : List Item
  ended : Bool
  fr : Fr
  s : SW

def resS (P : PE) (fr : Fr) (s : SW) : ResultVar → Option SV
  | .tmp t => fr.get t
  | .cell a t => (match fr.get a with | some v => (match loadS P s t v with | some (u, _) => some u | none => none) | none => none)

def resL (P : PE) (fr : Fr) (s : SW) : List ResultVar → Option (List SV)
  | [] => some []
  | r :: rs => match resS P fr s r with
    | none => none
    | some v => (match resL P fr s rs with | some vs => some (v :: vs) | none => none)

def s1L : List SV → Option (List S1)
  | [] => some []
  | v :: vs => match v.s1 with
    | none => none
    | some x => (match s1L vs with | some xs => some (x :: xs) | none => none)

def results1 (P : PE) (fn : Func) (fr : Fr) (s : SW) : Option SV :=
  match resL P fr s fn.results.toList with
  | none => none
  | some [v] => some v
  | some vs => (match s1L vs with | some xs => some (.t xs) | none => none)

def mkFrGo : Tr → Nat → List SV → Tr
  | t, _, [] => t
  | t, i, v :: vs => mkFrGo (t.set i v) (i + 1) vs
def mkFrK {β : Type} : Tr → Nat → List SV → (Tr → β) → β
  | t, _, [], K => K t
  | t, i, v :: vs, K => t.setK i v fun t' => mkFrK t' (i + 1) vs K

abbrev Orc := FuncId → List SV → SW → Option (Tree (SV × SW))
abbrev Tab := FuncId → Option Func

def run (P : PE) (orc : Orc) (tab : Tab) : Nat → Nat → List Item → Fr → SW → Tree Lf
  | 0, _, _, _, _ => .fail
  | n + 1, brk, todo, fr, s => match todo with
    | [] => .leaf ⟨[], true, fr, s⟩
    | .code .ret :: _ => .leaf ⟨[], true, fr, s⟩
    | .code .skip :: k => run P orc tab n brk k fr s
    | .code (.label _) :: k => run P orc tab n brk k fr s
    | .inBlock _ :: k => run P orc tab n brk k fr s
    | .inScope _ :: k => run P orc tab n brk k fr s
    | .code (.seq a b) :: k => run P orc tab n brk (.code a :: .code b :: k) fr s
    | .code (.scope c) :: k => run P orc tab n brk (.code c :: .inScope c :: k) fr s
    | .code (.block id c) :: k => run P orc tab n brk (.code c :: .inBlock id :: k) fr s
    | .code (.loop c) :: k => cond (Nat.beq (Nat.land 1 (Nat.shiftRight brk k.length)) 1) (.leaf ⟨.code c :: .inLoop c :: k, false, fr, s⟩) (run P orc tab n brk (.code c :: .inLoop c :: k) fr s)
    | .inLoop c :: k => cond (Nat.beq (Nat.land 1 (Nat.shiftRight brk k.length)) 1) (.leaf ⟨.code c :: .inLoop c :: k, false, fr, s⟩) (run P orc tab n brk (.code c :: .inLoop c :: k) fr s)
    | .code (.exit id) :: k => (match exitTo id k with | some k' => run P orc tab n brk k' fr s | none => .fail)
    | .code (.cond c x y) :: k => (match fr.ev c with
      | some (.c (.b lit v)) => cond lit (cond v (run P orc tab n brk (.code x :: k) fr s) (run P orc tab n brk (.code y :: k) fr s))
          (forkK fr c v (fun fr => run P orc tab n brk (.code x :: k) fr s) (fun fr => run P orc tab n brk (.code y :: k) fr s))
      | _ => .fail)
    | .code (.region _ ops draw) :: k =>
      let call : CallK Lf := fun g vs s K => match tab g with
        | none => .fail
        | some fn => match orc g vs s with
          | some t => t.bind fun r => K r.1 r.2
          | none => match fn.body with
            | none => .fail
            | some c => cond (Nat.ble vs.length fn.ntmps) (mkFrK (Tr.mk 12) 0 vs fun t =>
                (run P orc tab n 0 [.code c] ⟨fn.ntmps, t⟩ s).bind fun lf => cond lf.ended (match results1 P fn lf.fr lf.s with | some v => K v lf.s | none => .fail) .fail) .fail
      let callC : CallC Lf := fun g vs K => match tab g with
        | none => .fail
        | some fn => match orc g vs [] with
          | some t => t.bind fun r => cond (r.1.ok 0) (K r.1) .fail
          | none => match fn.body with
            | none => .fail
            | some c => cond (Nat.ble vs.length fn.ntmps) (mkFrK (Tr.mk 12) 0 vs fun t =>
                (run P orc tab n 0 [.code c] ⟨fn.ntmps, t⟩ []).bind fun lf => cond lf.ended (match results1 P fn lf.fr lf.s with | some v => cond (v.ok 0) (K v) .fail | none => .fail) .fail) .fail
      cond draw
        (cond (Region.noSelect ops) (match sched ops ops.size (Array.replicate ops.size false) with
          | some l => opsK P call ops l fr s fun fr' s' => run P orc tab n brk k fr' s'
          | none => match schedC mildD ops ops.size (Array.replicate ops.size false) with
            | some l => opsD P call ops l fr s fun fr' s' => run P orc tab n brk k fr' s'
            | none => match schedC mildAt ops ops.size (Array.replicate ops.size false) with
              | some l => opsC P callC ops l fr s fun fr' s' => run P orc tab n brk k fr' s'
              | none => .fail) .fail)
        (opsK P call ops ((List.range ops.size).map fun i => (i, .loud)) fr s fun fr' s' => run P orc tab n brk k fr' s')
    | _ => .fail
end Go.Proofs.Ytkeinfmfkcgkhaa.Ev

namespace Go.Proofs.Ytkeinfmfkcgkhaa.Ev
open Go
section
variable {P : PE} {W : World} {L : Nat}

/-- What is known of the state that is reached. -/
structure St (E W : World) (L : Nat) (n : Nat) (ρ0 ρ : Rh) (s : SW) (w : World) : Prop where
  agree : Agree n ρ0 ρ
  le : n ≤ s.length
  inv : Inv E W L ρ s w

theorem St.trans {E : World} {n : Nat} {ρ0 ρ ρ' : Rh} {s s' : SW} {w w' : World} (h : St E W L n ρ0 ρ s w) (hag : Agree s.length ρ ρ') (hle : s.length ≤ s'.length)
    (hI : Inv E W L ρ' s' w') : St E W L n ρ0 ρ' s' w' := ⟨h.agree.trans hag h.le, Nat.le_trans h.le hle, hI⟩

theorem FrRel.ev {n : Nat} {ρ : Rh} {f : Fr} {a : Act} (h : FrRel n ρ f a) (x : Operand) (y : SV) (hx : f.ev x = some y) : a.eval x = y.den ρ ∧ y.ok n = true := by
  cases x with
  | tmp t => exact ⟨(h.get hx).1, (h.get hx).2.1⟩
  | const v => simp [Fr.ev] at hx; subst hx; exact ⟨(ofVal_den ρ v).symm, ofVal_ok n v⟩
  | func g => simp [Fr.ev] at hx; subst hx; exact ⟨rfl, rfl⟩
  | global g => simp [Fr.ev] at hx

theorem putK_sound {β : Type} {n : Nat} {ρ : Rh} {f : Fr} {a : Act} (h : FrRel n ρ f a) {dst : Option Nat} {v : SV} {K : Fr → Tree β} {post : β → Prop} (hv : v.ok n = true)
    (ht : (f.putK dst v .fail K).OK post) : ∃ f', FrRel n ρ f' (a.put dst (v.den ρ)) ∧ (K f').OK post := by
  unfold Fr.putK at ht
  cases dst with
  | none => exact ⟨f, h, ht⟩
  | some d =>
    simp only at ht
    cases hc : Nat.blt d f.nt && f.tr.has d <;> simp only [hc, cond_true, cond_false] at ht
    · exact ht.elim
    · simp only [Bool.and_eq_true] at hc
      rw [Tr.setK_eq] at ht
      exact ⟨_, h.put (Nat.le_of_ble_eq_true hc.1) hc.2 hv, ht⟩

/-- What a call must be good for. -/
def CallOK (P : PE) (W : World) (L : Nat) {β : Type} (call : CallK β) : Prop :=
  ∀ (g : FuncId) (vs : List SV) (s : SW) (K : SV → SW → Tree β) (post : β → Prop) (ρ : Rh) (w : World),
    (call g vs s K).OK post → Inv P.E W L ρ s w → (∀ v ∈ vs, v.ok s.length = true) →
    (∀ w, (callFunc g ((vs.map (SV.den ρ)).toArray)).run P w = .ok (.enter g (vs.map (SV.den ρ)).toArray) w) ∧
    Calls P g (vs.map (SV.den ρ)).toArray w fun e w' => ∃ v s' ρ', e = .returned (v.den ρ') ∧ Agree s.length ρ ρ' ∧ s.length ≤ s'.length ∧ v.ok s'.length = true ∧
      Inv P.E W L ρ' s' w' ∧ (K v s').OK post

variable {β : Type} {post : β → Prop}

theorem wpOp_run {ops : Array Oper} {Q : Exit → Act → World → Prop} {i : Nat} {o : Oper} {K : Act → World → Prop} {a : Act} {w : World} (hi : ops[i]? = some o)
    (hw : Region.wanted o (yielded ops a.tmps) = true) (h : o.wp P a w K Q) : wpOp P ops Q i K a w := by
  unfold wpOp; simp only [hi, hw, if_true]; exact .inl h

theorem wpOp_skip {ops : Array Oper} {Q : Exit → Act → World → Prop} {i : Nat} {o : Oper} {K : Act → World → Prop} {a : Act} {w : World} (hi : ops[i]? = some o)
    (hw : Region.wanted o (yielded ops a.tmps) = false) (h : K (a.put o.dst undef) w) : wpOp P ops Q i K a w := by
  unfold wpOp; simp only [hi, hw, Bool.false_eq_true, if_false]; exact h

/-- One operation. -/
theorem operK_sound {call : CallK β} (hcall : CallOK P W L call) {o : Oper} {fr : Fr} {s : SW} {K : SV → SW → Tree β} {ρ : Rh} {a : Act} {w : World}
    (ht : (operK P call .loud o fr s K).OK post) (hf : FrRel s.length ρ fr a) (hI : Inv P.E W L ρ s w) {Kp : Act → World → Prop} {Q : Exit → Act → World → Prop}
    (hK : ∀ v s' ρ' w', (K v s').OK post → Agree s.length ρ ρ' → s.length ≤ s'.length → v.ok s'.length = true → Inv P.E W L ρ' s' w' → Kp (a.put o.dst (v.den ρ')) w') :
    o.wp P a w Kp Q := by
  have hev := fun x y h => FrRel.ev hf x y h
  unfold operK at ht
  split at ht
  · rename_i r hr
    have hn := needsT_OK ht
    have hp := pureOp_sound hev hr hn.1
    unfold Oper.wp
    rw [hp.1 w]
    exact hK _ _ _ _ hn.2 (Agree.refl _ _) (Nat.le_refl _) hp.2 hI
  split at ht
  · rename_i r hr
    simp only at ht
    have hn := needsT_OK ht
    have hp := extOp_sound hI.ext hev hr hn.1
    unfold Oper.wp
    rw [hp.1]
    exact hK _ _ _ _ hn.2 (Agree.refl _ _) (Nat.le_refl _) (hp.2 _) hI
  · simp only at ht
    split at ht
    · rename_i v s' hh
      obtain ⟨ρ', w', nx, hag, hle, hok, hrun, hI', hnx⟩ := heapOp_sound hI hev hh
      unfold Oper.wp
      rw [hrun]
      rcases hnx with rfl | ⟨rfl, rfl⟩
      · exact hK _ _ _ _ ht hag hle hok hI'
      · have := hK _ _ _ _ ht hag hle hok hI'
        rw [undefS_den] at this
        exact this
    · split at ht
      · rename_i f args argTypes ho
        split at ht
        · rename_i g vs hg hvs
          have h1 := hev _ _ hg
          have h2 := evs_sound hev _ _ hvs
          obtain ⟨hcf, hc⟩ := hcall g vs s K post ρ w ht hI h2.2
          have hargs : args.map a.eval = (vs.map (SV.den ρ)).toArray := Array.ext' (by rw [Array.toList_map, h2.1])
          unfold Oper.wp
          have hx : (execOp a.eval o).run P w = .ok (.enter g (vs.map (SV.den ρ)).toArray) w := by
            obtain ⟨dst, op, type, pos, after, guard⟩ := o
            simp only at ho
            subst ho
            have h1' : a.eval f = .func (.func g) #[] #[] := h1.1
            simp only [execOp, resolve, hargs, h1', Deferred.ofValue, Sem.run_bind, Sem.run_pure, Result.andThen_ok, invoke]
            simpa using hcf w
          rw [hx]
          refine Calls.mono hc ?_
          rintro e w' ⟨v, s', ρ', rfl, hag, hle, hok, hI', hk⟩
          exact hK _ _ _ _ hk hag hle hok hI'
        · rename_i g caps vs hg hvs
          have h1 := hev _ _ hg
          have h2 := evs_sound hev _ _ hvs
          have hok2 : ∀ v ∈ vs ++ caps.map (fun p => SV.c (.p p.1 p.2)), v.ok s.length = true := by
            intro v hv
            rcases List.mem_append.1 hv with hv | hv
            · exact h2.2 v hv
            · obtain ⟨p, hp, rfl⟩ := List.mem_map.1 hv
              exact List.all_eq_true.1 h1.2 p hp
          obtain ⟨hcf, hc⟩ := hcall g _ s K post ρ w ht hI hok2
          have hargs : args.map a.eval ++ (caps.map fun p => Value.pointer (some ⟨ρ p.1, p.2, none⟩)).toArray = ((vs ++ caps.map (fun p => SV.c (.p p.1 p.2))).map (SV.den ρ)).toArray := by
            apply Array.ext'
            simp only [Array.toList_append, Array.toList_map, h2.1, List.map_append, List.map_map]
            rfl
          unfold Oper.wp
          have hx : (execOp a.eval o).run P w = .ok (.enter g ((vs ++ caps.map (fun p => SV.c (.p p.1 p.2))).map (SV.den ρ)).toArray) w := by
            obtain ⟨dst, op, type, pos, after, guard⟩ := o
            simp only at ho
            subst ho
            have h1' : a.eval f = .func (.func g) #[] (caps.map fun p => Value.pointer (some ⟨ρ p.1, p.2, none⟩)).toArray := h1.1
            simp only [execOp, resolve, h1', Deferred.ofValue, Sem.run_bind, Sem.run_pure, Result.andThen_ok, invoke]
            rw [show (#[] ++ args.map a.eval : Array Value) = args.map a.eval by simp, hargs]
            exact hcf w
          rw [hx]
          refine Calls.mono hc ?_
          rintro e w' ⟨v, s', ρ', rfl, hag, hle, hok, hI', hk⟩
          exact hK _ _ _ _ hk hag hle hok hI'
        · exact ht.elim
      · rename_i recv name args argTypes ho
        split at ht
        · rename_i t blk off vs hg hvs
          split at ht
          · rename_i g hm
            have h1 := hev _ _ hg
            have h2 := evs_sound hev _ _ hvs
            have hok2 : ∀ v ∈ SV.c (.p blk off) :: vs, v.ok s.length = true := by
              intro v hv
              rcases List.mem_cons.1 hv with rfl | hv
              · exact h1.2
              · exact h2.2 v hv
            obtain ⟨hcf, hc⟩ := hcall g _ s K post ρ w ht hI hok2
            have hargs : args.map a.eval = (vs.map (SV.den ρ)).toArray := Array.ext' (by rw [Array.toList_map, h2.1])
            have hrecv : a.eval recv = .iface t (.pointer (some ⟨ρ blk, off, none⟩)) := h1.1
            unfold Oper.wp
            have hx : (execOp a.eval o).run P w = .ok (.enter g ((SV.c (.p blk off) :: vs).map (SV.den ρ)).toArray) w := by
              obtain ⟨dst, op, type, pos, after, guard⟩ := o
              simp only at ho
              subst ho
              simp only [execOp, resolve, hargs, hrecv, Sem.run_bind, Sem.run_pure, Result.andThen_ok, invoke]
              have e0 : (#[Value.iface t (.pointer (some ⟨ρ blk, off, none⟩))] ++ (vs.map (SV.den ρ)).toArray : Array Value)[0]? = some (.iface t (.pointer (some ⟨ρ blk, off, none⟩))) := by simp
              have e1 : (#[Value.iface t (.pointer (some ⟨ρ blk, off, none⟩))] ++ (vs.map (SV.den ρ)).toArray : Array Value).extract 1 (#[Value.iface t (.pointer (some ⟨ρ blk, off, none⟩))] ++ (vs.map (SV.den ρ)).toArray : Array Value).size = (vs.map (SV.den ρ)).toArray := by
                apply Array.ext'
                simp
                exact List.take_of_length_le (by simp)
              simp only [e0, e1, run_callMethod hm]
              have := hcf w
              simp only [List.map_cons] at this
              rw [show (#[Value.pointer (some ⟨ρ blk, off, none⟩)] ++ (vs.map (SV.den ρ)).toArray : Array Value) = (SV.den ρ (SV.c (.p blk off)) :: vs.map (SV.den ρ)).toArray by apply Array.ext'; simp [SV.den, C.den]]
              exact this
            rw [hx]
            refine Calls.mono hc ?_
            rintro e w' ⟨v, s', ρ', rfl, hag, hle, hok, hI', hk⟩
            exact hK _ _ _ _ hk hag hle hok hI'
          · exact ht.elim
        · exact ht.elim
      · unfold idxK at ht
        split at ht
        · rename_i t x ix ho
          split at ht
          · rename_i xv k i hx hix
            have h1 := hev _ _ hx
            have h2 := hev _ _ hix
            have fin : ∀ (len : Nat), (chain i (fun j => (match indexAddrR P t xv (.c (.i true k (Int.ofNat j))) with | some r => needsT r.nd (K r.v s) | none => .fail)) len 0).OK post → o.wp P a w Kp Q := by
              intro len ht
              obtain ⟨j, hj, hij, this⟩ := chain_OK ht
              split at this
              · rename_i r hr
                have hn := needsT_OK this
                have hp := indexAddrR_sound (ρ := ρ) hr hn.1 h1.2
                have hi' : (Int.ofNat j) = i := hij.symm
                unfold Oper.wp
                have hx : (execOp a.eval o).run P w = .ok (.value (r.v.den ρ)) w := by
                  obtain ⟨dst, op, type, pos, after, guard⟩ := o
                  simp only at ho
                  subst ho
                  simp only [execOp, h1.1, h2.1, Sem.run_bind]
                  have := hp.1 w
                  rw [hi'] at this
                  simp only [SV.den, C.den] at this ⊢
                  rw [this]; rfl
                rw [hx]
                exact hK _ _ _ _ hn.2 (Agree.refl _ _) (Nat.le_refl _) hp.2 hI
              · exact this.elim
            split at ht
            · exact fin _ ht
            · exact fin _ ht
            · exact ht.elim
          · exact ht.elim
        · rename_i t x ix ho
          split at ht
          · rename_i xv k i hx hix
            have h1 := hev _ _ hx
            have h2 := hev _ _ hix
            have fin : ∀ (len : Nat), (chain i (fun j => (match indexR P t xv (.c (.i true k (Int.ofNat j))) with | some r => needsT r.nd (K r.v s) | none => .fail)) len 0).OK post → o.wp P a w Kp Q := by
              intro len ht
              obtain ⟨j, hj, hij, this⟩ := chain_OK ht
              split at this
              · rename_i r hr
                have hn := needsT_OK this
                have hp := indexR_sound (ρ := ρ) hr hn.1 h1.2
                have hi' : (Int.ofNat j) = i := hij.symm
                unfold Oper.wp
                have hx : (execOp a.eval o).run P w = .ok (.value (r.v.den ρ)) w := by
                  obtain ⟨dst, op, type, pos, after, guard⟩ := o
                  simp only at ho
                  subst ho
                  simp only [execOp, h1.1, h2.1, Sem.run_bind]
                  have := hp.1 w
                  rw [hi'] at this
                  simp only [SV.den, C.den] at this ⊢
                  rw [this]; rfl
                rw [hx]
                exact hK _ _ _ _ hn.2 (Agree.refl _ _) (Nat.le_refl _) hp.2 hI
              · exact this.elim
            split at ht
            · exact fin _ ht
            · exact ht.elim
          · exact ht.elim
        · exact ht.elim

theorem same_slot {n : Nat} {ρ : Rh} {fr : Fr} {a : Act} (hf : FrRel n ρ fr a) {d : Nat} {lit v b : Bool} (hv : fr.get d = some (.c (.b lit v))) {K' : Fr → Tree β} (hb : v = b)
    (h : (fr.putK (some d) (.c (.b true b)) .fail K').OK post) : ∃ fr', FrRel n ρ fr' a ∧ (K' fr').OK post := by
  have h1 := hf.get hv
  obtain ⟨f', hf', hk⟩ := putK_sound hf (dst := some d) (v := .c (.b true b)) rfl h
  refine ⟨f', ?_, hk⟩
  have : a.put (some d) ((SV.c (.b true b)).den ρ) = a := by
    simp only [Act.put]
    have h2 : a.tmps[d]? = some ((SV.c (.b true b)).den ρ) := by rw [h1.2.2, hb]; rfl
    obtain ⟨hlt, he⟩ := Array.getElem?_eq_some_iff.1 h2
    have hset : a.tmps.setIfInBounds d ((SV.c (.b true b)).den ρ) = a.tmps := by
      apply Array.ext_getElem?
      intro j
      by_cases hj : d = j
      · subst hj
        rw [Array.getElem?_setIfInBounds_self, h2]
        simp [hlt]
      · rw [Array.getElem?_setIfInBounds_ne hj]
    rw [hset]
  rw [this] at hf'
  exact hf'

theorem forkK_sound {n : Nat} {ρ : Rh} {fr : Fr} {a : Act} (hf : FrRel n ρ fr a) {c : Operand} {lit v : Bool} (hv : fr.ev c = some (.c (.b lit v))) {Kt Kf : Fr → Tree β}
    (h : (forkK fr c v Kt Kf).OK post) : ∃ fr', FrRel n ρ fr' a ∧ (v = true → (Kt fr').OK post) ∧ (v = false → (Kf fr').OK post) := by
  unfold forkK at h
  split at h
  · rename_i d
    cases v
    · obtain ⟨f', h1, h2⟩ := same_slot hf hv rfl (h.2 rfl)
      exact ⟨f', h1, (fun e => nomatch e), fun _ => h2⟩
    · obtain ⟨f', h1, h2⟩ := same_slot hf hv rfl (h.1 rfl)
      exact ⟨f', h1, fun _ => h2, (fun e => nomatch e)⟩
  · exact ⟨fr, hf, h.1, h.2⟩

theorem guardK_sound {ops : Array Oper} {o : Oper} {fr : Fr} {K : Bool → Fr → Tree β} {n : Nat} {ρ : Rh} {a : Act} (ht : (guardK ops o fr K).OK post) (hf : FrRel n ρ fr a) :
    ∃ wanted fr', Region.wanted o (yielded ops a.tmps) = wanted ∧ FrRel n ρ fr' a ∧ (K wanted fr').OK post := by
  unfold guardK at ht
  split at ht
  · rename_i hg
    exact ⟨true, fr, by simp [Region.wanted, hg], hf, ht⟩
  · rename_i j want hg
    split at ht
    · exact ht.elim
    · rename_i d hd
      split at ht
      · rename_i lit v hv
        have h1 := hf.get hv
        have hy : yielded ops a.tmps j = some v := by
          unfold yielded
          rw [hd]
          simp only [Option.bind_some, h1.2.2]
          rfl
        have hw : Region.wanted o (yielded ops a.tmps) = (v == want) := by
          simp only [Region.wanted, hg, hy]
          cases v <;> cases want <;> rfl
        have same : ∀ (b : Bool) (K' : Fr → Tree β), v = b → (fr.putK (some d) (.c (.b true b)) .fail K').OK post → ∃ fr', FrRel n ρ fr' a ∧ (K' fr').OK post :=
          fun b K' hb h => same_slot hf hv hb h
        cases lit <;> simp only [cond_true, cond_false] at ht
        · cases v
          · obtain ⟨f', hf', hk⟩ := same false _ rfl (ht.2 rfl)
            exact ⟨!want, f', by rw [hw]; cases want <;> rfl, hf', hk⟩
          · obtain ⟨f', hf', hk⟩ := same true _ rfl (ht.1 rfl)
            exact ⟨want, f', by rw [hw]; cases want <;> rfl, hf', hk⟩
        · exact ⟨_, fr, hw, hf, ht⟩
      · rename_i hv
        have h1 := hf.get hv
        have hy : yielded ops a.tmps j = none := by
          unfold yielded
          rw [hd]
          simp only [Option.bind_some, h1.2.2]
          rfl
        have hw : Region.wanted o (yielded ops a.tmps) = false := by
          simp only [Region.wanted, hg, hy]
          cases want <;> rfl
        exact ⟨_, fr, hw, hf, ht⟩
      · exact ht.elim

theorem opsK_sound {call : CallK β} (hcall : CallOK P W L call) {ops : Array Oper} : ∀ (l : List (Nat × Fl)) {fr : Fr} {s : SW} {K : Fr → SW → Tree β} {ρ : Rh} {a : Act} {w : World},
    (opsK P call ops l fr s K).OK post → FrRel s.length ρ fr a → Inv P.E W L ρ s w → ∀ {Kp : Act → World → Prop},
    (∀ fr' s' ρ' a' w', (K fr' s').OK post → Agree s.length ρ ρ' → s.length ≤ s'.length → FrRel s'.length ρ' fr' a' → Inv P.E W L ρ' s' w' → Kp a' w') →
    SeqWp P ops (Only Kp) l a w
  | [], fr, s, K, ρ, a, w, ht, hf, hI, Kp, hK => hK _ _ _ _ _ ht (Agree.refl _ _) (Nat.le_refl _) hf hI
  | (i, p) :: r, fr, s, K, ρ, a, w, ht, hf, hI, Kp, hK => by
    simp only [opsK] at ht
    split at ht
    · exact ht.elim
    rename_i o ho
    obtain ⟨wanted, fr1, hw, hf1, ht⟩ := guardK_sound ht hf
    cases wanted <;> simp only [cond_true, cond_false] at ht
    · obtain ⟨fr2, hf2, ht⟩ := putK_sound hf1 (undefS_ok _) ht
      have ih := opsK_sound hcall r ht hf2 hI hK
      rw [undefS_den] at ih
      cases p
      · exact wpOp_skip ho hw ih
      · exact ⟨o, undef, ho, .inr ⟨hw, rfl⟩, ih⟩
      · exact ⟨o, undef, ho, .inr ⟨hw, rfl⟩, ih⟩
    · cases p
      · refine wpOp_run ho hw (operK_sound hcall ht hf1 hI ?_)
        intro v s' ρ' w' hk hag hle hok hI'
        obtain ⟨fr2, hf2, hk⟩ := putK_sound (hf1.agree hag hle) hok hk
        exact opsK_sound hcall r hk hf2 hI' fun fr'' s'' ρ'' a'' w'' hk hag' hle' hf'' hI'' =>
          hK _ _ _ _ _ hk (hag.trans hag' hle) (Nat.le_trans hle hle') hf'' hI''
      · unfold operK at ht
        split at ht
        · rename_i rr hr
          have hn := needsT_OK ht
          have hp := pureOp_sound (fun x y h => FrRel.ev hf1 x y h) hr hn.1
          obtain ⟨fr2, hf2, hk⟩ := putK_sound hf1 hp.2 hn.2
          exact ⟨o, rr.v.den ρ, ho, .inl ⟨hw, hp.1⟩, opsK_sound hcall r hk hf2 hI hK⟩
        · split at ht
          · exact ht.elim
          · exact ht.elim
      · unfold operK at ht
        split at ht
        · rename_i rr hr
          have hn := needsT_OK ht
          have hp := pureOp_sound (fun x y h => FrRel.ev hf1 x y h) hr hn.1
          obtain ⟨fr2, hf2, hk⟩ := putK_sound hf1 hp.2 hn.2
          exact ⟨o, rr.v.den ρ, ho, .inl ⟨hw, fun w' _ => hp.1 w'⟩, opsK_sound hcall r hk hf2 hI hK⟩
        split at ht
        · rename_i rr hr
          simp only at ht
          have hn := needsT_OK ht
          have hp := extOp_sound hI.ext (fun x y h => FrRel.ev hf1 x y h) hr hn.1
          obtain ⟨fr2, hf2, hk⟩ := putK_sound hf1 (hp.2 _) hn.2
          exact ⟨o, rr.v.den ρ, ho, .inl ⟨hw, fun w' hw' => by subst hw'; exact hp.1⟩, opsK_sound hcall r hk hf2 hI hK⟩
        · simp only at ht
          split at ht
          · rename_i t x hop
            split at ht
            · rename_i v hx
              split at ht
              · rename_i u s' hl
                have h1 := FrRel.ev hf1 _ _ hx
                obtain ⟨_, hok, hrun⟩ := loadS_sound (P := P) hI hl h1.2
                obtain ⟨fr2, hf2, hk⟩ := putK_sound hf1 hok ht
                refine ⟨o, u.den ρ, ho, .inl ⟨hw, fun w' hw' => ?_⟩, opsK_sound hcall r hk hf2 hI hK⟩
                subst hw'
                obtain ⟨dst, op, type, pos, after, guard⟩ := o
                simp only at hop
                subst hop
                simp only [execOp, Sem.run_bind, h1.1, hrun, Result.andThen_ok, Sem.run_pure]
              · exact ht.elim
            · exact ht.elim
          · exact ht.elim

/-- What a call that keeps the state must be good for. -/
def CallCOK (P : PE) {β : Type} (call : CallC β) : Prop :=
  ∀ (g : FuncId) (vs : List SV) (K : SV → Tree β) (post : β → Prop), (call g vs K).OK post → (∀ v ∈ vs, v.ok 0 = true) →
    ∃ v : SV, v.ok 0 = true ∧ (K v).OK post ∧
    (∀ (args : Array Value) w, (callFunc g args).run P w = .ok (.enter g args) w) ∧
    ∀ (W : World) (L : Nat) (ρ : Rh) (s : SW) (w : World), Inv P.E W L ρ s w →
      Calls P g (vs.map (SV.den ρ)).toArray w fun e w' => e = .returned (v.den ρ) ∧ Inv P.E W L ρ s w'

/-- A part of a memory. -/
theorem Inv.part {E : World} {ρ ρ' : Rh} {s : SW} {e : SW} {w : World} (h : Inv E W L ρ' (s ++ e) w) (hok : ∀ (i : Nat) (b : Bl), s[i]? = some b → okL s.length b.cs = true) (hL : L ≤ s.length) (hag : Agree s.length ρ ρ') :
    Inv E W L ρ s w := by
  have hlt : ∀ {i : Nat} {b : Bl}, s[i]? = some b → i < s.length := fun hb => (List.getElem?_eq_some_iff.1 hb).1
  have hup : ∀ i, live s i → live (s ++ e) i := by
    rintro i ⟨b, hb, hn⟩
    exact ⟨b, by rw [List.getElem?_append_left (hlt hb)]; exact hb, hn⟩
  refine ⟨fun i b hb => ?_, hok, fun i j hi hj hij => ?_, h.grow, fun b hb hn => ?_, fun i h1 h2 => ?_, h.frz, h.os, h.out, h.tape, h.len, ⟨h.ext.1, h.ext.2.1, fun i hi => by rw [← (hag i hi).1]; exact h.ext.2.2 i (by simp; omega)⟩⟩
  · exact (h.blk i b (by rw [List.getElem?_append_left (hlt hb)]; exact hb)).ren (hag i (hlt hb)).1.symm (hag i (hlt hb)).2.symm (map_agree hag (hok i b hb)).symm rfl
  · exact h.inj i j (hup i hi) (hup j hj) (by rw [(hag i hi.lt).1, (hag j hj.lt).1]; exact hij)
  · exact h.old b hb fun i hi => by rw [(hag i (Nat.lt_of_lt_of_le hi hL)).1]; exact hn i hi
  · rw [← (hag i h2).1]; exact h.fresh i h1 (by simp; omega)

/-- The worlds in which a memory is there. -/
def Kinds (E W : World) (L : Nat) (ρ : Rh) (s : SW) (S : World → Prop) : Prop :=
  ∃ ρ' s', S = Inv E W L ρ' s' ∧ ∀ w, S w → Inv E W L ρ s w
theorem Kinds.self {ρ : Rh} {s : SW} : Kinds P.E W L ρ s (Inv P.E W L ρ s) := ⟨ρ, s, rfl, fun _ h => h⟩

theorem newS_app {s : SW} {cs : List C} {ty : TypeId} {v : SV} {s' : SW} (h : newS s cs ty = some (v, s')) : ∃ e, s' = s ++ e := by
  unfold newS at h
  cases hty : Nat.blt ty MAPTY <;> simp only [hty, cond_true, cond_false] at h
  · cases h
  rw [forceN_eq, appLK_eq] at h
  simp at h
  exact ⟨_, h.2.symm⟩
theorem heapOp_makes {ev : Operand → Option SV} {s s' : SW} {op : Op} {v : SV} (hm : makes op = true) (h : heapOp P ev s op = some (v, s')) : ∃ e, s' = s ++ e := by
  unfold heapOp at h
  split at h
  rotate_left
  · exfalso
    split at h
    · rename_i hb
      unfold heapOpB at hb
      split at hb
      · cases hm
      · cases hm
      · cases hb
    · split at h
      · rename_i hb
        unfold heapOpC at hb
        split at hb
        · cases hm
        · cases hb
      · unfold heapOpD at h
        split at h
        · cases hm
        · cases hm
        · cases hm
        · cases h
  rename_i r hr
  simp at h; subst h
  have h := hr
  clear hr
  unfold heapOpA at h
  split at h
  · split at h
    · split at h
      · rw [cellsK_eq] at h; exact newS_app h
      · cases h
    · cases h
  · split at h
    · split at h
      · rename_i cs _
        cases hst : cs.all C.storable <;> simp only [hst, cond_true, cond_false] at h
        · cases h
        · exact newS_app h
      · cases h
    · cases h
  · cases hm
  · cases hm
  · split at h
    · split at h
      · rename_i len _ _ _ _ _ e _
        cases hz : (Nat.beq (len * e.size) 0 || Nat.blt (2 ^ 24) (len * e.size)) <;> simp only [hz, cond_true, cond_false] at h
        · split at h
          · rw [cellsOfK_eq] at h
            split at h
            · split at h
              · split at h
                · rename_i hn
                  simp at h; obtain ⟨rfl, rfl⟩ := h
                  exact newS_app hn
                · cases h
              · cases h
            · cases h
          · cases h
        · cases h
      · cases h
    · cases h
  · cases hm
  · cases h

theorem opsC_sound {call : CallC β} (hcall : CallCOK P call) {ops : Array Oper} : ∀ (l : List (Nat × Fl)) {fr : Fr} {s : SW} {ρ : Rh} {K : Fr → SW → Tree β} {a : Act} {w : World},
    (opsC P call ops l fr s K).OK post → FrRel s.length ρ fr a → Inv P.E W L ρ s w → ∀ {Kp : Act → World → Prop},
    (∀ fr' s' ρ' a' w', (K fr' s').OK post → Agree s.length ρ ρ' → s.length ≤ s'.length → FrRel s'.length ρ' fr' a' → Inv P.E W L ρ' s' w' → Kp a' w') →
    SeqX mildAt P ops (Only Kp) l (Kinds P.E W L ρ s) a
  | [], fr, s, ρ, K, a, w, ht, hf, hI, Kp, hK => fun S hS w' hw' => by
    obtain ⟨_, _, _, h⟩ := hS
    exact hK _ _ _ _ _ ht (Agree.refl _ _) (Nat.le_refl _) hf (h w' hw')
  | (i, p) :: r, fr, s, ρ, K, a, w, ht, hf, hI, Kp, hK => by
    simp only [opsC] at ht
    split at ht
    · exact ht.elim
    rename_i o ho
    obtain ⟨wanted, fr1, hw, hf1, ht2⟩ := guardK_sound ht hf
    clear ht
    have ht := ht2
    clear ht2
    have loud : ∀ (v : SV) (ih : SeqX mildAt P ops (Only Kp) r (Kinds P.E W L ρ s) (a.put o.dst (v.den ρ))), (isPureF p = true → YieldsX P ops (fun _ => True) o (v.den ρ) a) → (isPureF p = false → YieldsX P ops (Kinds P.E W L ρ s) o (v.den ρ) a) → (isPureF p = false → kindLoad o.op = true → YieldsX P ops (Down (Kinds P.E W L ρ s)) o (v.den ρ) a) →
        SeqX mildAt P ops (Only Kp) ((i, p) :: r) (Kinds P.E W L ρ s) a := by
      intro v ih hy1 hy hyL
      cases p
      · exact fun S hS w' hw' => (hy rfl).wpOp ho hS hw' fun w'' hw'' => ⟨_, fun _ _ h => h, fun _ _ h => Down.self h, ⟨S, hS, hw''⟩, ih⟩
      · exact ⟨o, _, ho, hy1 rfl, ih⟩
      · exact ⟨o, _, ho, hy rfl, hyL rfl, ih⟩
    cases wanted <;> simp only [cond_true, cond_false] at ht
    · obtain ⟨fr2, hf2, ht⟩ := putK_sound hf1 (undefS_ok _) ht
      exact loud undefS (opsC_sound hcall r ht hf2 hI hK) (fun _ => .inr ⟨hw, rfl⟩) (fun _ => .inr ⟨hw, rfl⟩) (fun _ _ => .inr ⟨hw, rfl⟩)
    · have hev := fun x y h => FrRel.ev hf1 x y h
      cases hp : isLoud p <;> simp only [hp, cond_true, cond_false] at ht
      · cases hpp : isPureF p <;> simp only [hpp, cond_true, cond_false] at ht
        rotate_left
        · split at ht
          · rename_i rr hr
            have hn := needsT_OK ht
            have hp := pureOp_sound hev hr hn.1
            obtain ⟨fr2, hf2, hk⟩ := putK_sound hf1 hp.2 hn.2
            exact loud _ (opsC_sound hcall r hk hf2 hI hK) (fun _ => .inl ⟨hw, fun S _ w' _ => .inl (hp.1 w')⟩) (fun _ => .inl ⟨hw, fun S _ w' _ => .inl (hp.1 w')⟩) (fun _ _ => .inl ⟨hw, fun S _ w' _ => .inl (hp.1 w')⟩)
          · exact ht.elim
        have loud := fun v ih hy hyL => loud v ih (fun h => by rw [hpp] at h; cases h) (fun _ => hy) (fun _ => hyL)
        unfold operC at ht
        split at ht
        · rename_i rr hr
          have hn := needsT_OK ht
          have hp := pureOp_sound hev hr hn.1
          obtain ⟨fr2, hf2, hk⟩ := putK_sound hf1 hp.2 hn.2
          exact loud _ (opsC_sound hcall r hk hf2 hI hK) (.inl ⟨hw, fun S _ w' _ => .inl (hp.1 w')⟩) (fun _ => .inl ⟨hw, fun S _ w' _ => .inl (hp.1 w')⟩)
        split at ht
        · rename_i rr hr
          have hn := needsT_OK ht
          have hp := extOp_sound hI.ext hev hr hn.1
          obtain ⟨fr2, hf2, hk⟩ := putK_sound hf1 (hp.2 _) hn.2
          have hall : ∀ w', Inv P.E W L ρ s w' → (execOp a.eval o).run P w' = .ok (.value _) w' := fun w' h => (extOp_sound h.ext hev hr hn.1).1
          exact loud _ (opsC_sound hcall r hk hf2 hI hK) (.inl ⟨hw, fun S hS w' hw' => .inl (by obtain ⟨_, _, _, hS⟩ := hS; exact hall w' (hS w' hw'))⟩) (fun _ => .inl ⟨hw, fun S hS w' hw' => .inl (by obtain ⟨_, ⟨_, _, _, hS⟩, hd⟩ := hS; exact hall w' (hS w' (hd w' hw')))⟩)
        · split at ht
          · rename_i t x hop
            split at ht
            · rename_i v hx
              split at ht
              · rename_i u s' hl
                have h1 := FrRel.ev hf1 _ _ hx
                obtain ⟨_, hok, _⟩ := loadS_sound (P := P) hI hl h1.2
                obtain ⟨fr2, hf2, hk⟩ := putK_sound hf1 hok ht
                have hall : ∀ w', Inv P.E W L ρ s w' → (execOp a.eval o).run P w' = .ok (.value (u.den ρ)) w' := by
                  intro w' hw'
                  obtain ⟨_, _, hrun⟩ := loadS_sound (P := P) hw' hl h1.2
                  obtain ⟨dst, op, type, pos, after, guard⟩ := o
                  simp only at hop
                  subst hop
                  simp only [execOp, Sem.run_bind, h1.1, hrun, Result.andThen_ok, Sem.run_pure]
                exact loud _ (opsC_sound hcall r hk hf2 hI hK) (.inl ⟨hw, fun S hS w' hw' => .inl (by obtain ⟨_, _, _, hS⟩ := hS; exact hall w' (hS w' hw'))⟩) (fun _ => .inl ⟨hw, fun S hS w' hw' => .inl (by obtain ⟨_, ⟨_, _, _, hS⟩, hd⟩ := hS; exact hall w' (hS w' (hd w' hw')))⟩)
              · exact ht.elim
            · exact ht.elim
          · rename_i f args argTypes hop
            split at ht
            · rename_i g vs hg hvs
              cases hall : vs.all (SV.ok 0) <;> simp only [hall, cond_true, cond_false] at ht
              · exact ht.elim
              have h1 := hev _ _ hg
              have h2 := evs_sound hev _ _ hvs
              obtain ⟨v, hv, hk, hcf, hc⟩ := hcall g vs _ post ht (List.all_eq_true.1 hall)
              obtain ⟨fr2, hf2, hk⟩ := putK_sound hf1 (SV.ok_mono (Nat.zero_le _) hv) hk
              refine loud v (opsC_sound hcall r hk hf2 hI hK) (.inl ⟨hw, fun S hS w' hw' => .inr ⟨g, (vs.map (SV.den ρ)).toArray, ?_, ?_⟩⟩) (fun h => by rw [hop] at h; cases h)
              · have hargs : args.map a.eval = (vs.map (SV.den ρ)).toArray := Array.ext' (by rw [Array.toList_map, h2.1])
                obtain ⟨dst, op, type, pos, after, guard⟩ := o
                simp only at hop
                subst hop
                have h1' : a.eval f = .func (.func g) #[] #[] := h1.1
                simp only [execOp, resolve, hargs, h1', Deferred.ofValue, Sem.run_bind, Sem.run_pure, Result.andThen_ok, invoke]
                simpa using hcf _ w'
              · obtain ⟨ρ', s', rfl, hS⟩ := hS
                have h0 : ∀ x : SV, x.ok 0 = true → x.den ρ' = x.den ρ := fun x hx => SV.den_agree (n := 0) (fun i hi => absurd hi (Nat.not_lt_zero _)) hx
                have := hc W L ρ' s' w' hw'
                rw [h0 v hv, show vs.map (SV.den ρ') = vs.map (SV.den ρ) from List.map_congr_left fun x hx => h0 x (List.all_eq_true.1 hall x hx)] at this
                exact this
            · exact ht.elim
          · exact ht.elim
      · have hpl : p = .loud := by cases p <;> simp_all [isLoud]
        clear hp
        subst hpl
        cases hch : changes o.op <;> simp only [hch, cond_true, cond_false] at ht
        · exact ht.elim
        split at ht
        · rename_i v s' hh
          intro S hS w0 hw0
          obtain ⟨_, _, _, hS⟩ := hS
          have hI0 := hS w0 hw0
          obtain ⟨ρ', w', nx, hag, hle, hok, hrun, hI', hnx⟩ := heapOp_sound hI0 hev hh
          obtain ⟨fr2, hf2, hk⟩ := putK_sound (hf1.agree hag hle) hok ht
          have ih := opsC_sound hcall r hk hf2 hI' (Kp := Kp) fun fr'' s'' ρ'' a'' w'' hk hag' hle' hf'' hI'' =>
            hK _ _ _ _ _ hk (hag.trans hag' hle) (Nat.le_trans hle hle') hf'' hI''
          have hsub : mildAt ops i = true → ∀ T, Kinds P.E W L ρ' s' T → Kinds P.E W L ρ s T := by
            intro hm T hT
            obtain ⟨ρ2, s2, rfl, hT⟩ := hT
            have hmk : makes o.op = true := by
              simp only [mildAt, ho, hch, Bool.not_true, Bool.false_or] at hm
              exact hm
            obtain ⟨e, rfl⟩ := heapOp_makes hmk hh
            exact ⟨ρ2, s2, rfl, fun w hw => (hT w hw).part hI0.okc (by have := hI0.len; omega) hag⟩
          have hD : makesAt ops i = true → ∀ T, Kinds P.E W L ρ' s' T → Down (Kinds P.E W L ρ s) T := fun hm T hT => Down.self (hsub (by simp only [makesAt, ho] at hm; simp only [mildAt, ho, hm, Bool.or_true]) T hT)
          refine wpOp_run ho hw ?_
          unfold Oper.wp
          rw [hrun]
          rcases hnx with rfl | ⟨rfl, rfl⟩
          · exact ⟨_, hsub, hD, ⟨_, Kinds.self, hI'⟩, ih⟩
          · rw [undefS_den] at ih
            exact ⟨_, hsub, hD, ⟨_, Kinds.self, hI'⟩, ih⟩
        · exact ht.elim

/-! The same, with calls that read the memory and keep it. -/
def CallDOK (P : PE) {β : Type} (call : CallK β) : Prop :=
  ∀ (g : FuncId) (vs : List SV) (s : SW) (K : SV → SW → Tree β) (post : β → Prop), (call g vs s K).OK post → (∀ v ∈ vs, v.ok s.length = true) →
    ∃ (v : SV) (s' : SW), (K v s').OK post ∧ (∀ (args : Array Value) w, (callFunc g args).run P w = .ok (.enter g args) w) ∧
    ∀ (W : World) (L : Nat) (ρ : Rh) (w : World), Inv P.E W L ρ s w →
      Calls P g (vs.map (SV.den ρ)).toArray w fun e w' => ∃ ρ', e = .returned (v.den ρ') ∧ Agree s.length ρ ρ' ∧ s.length ≤ s'.length ∧ v.ok s'.length = true ∧ Inv P.E W L ρ' s' w'
theorem xEq_spec {v u : Value} (h : xEq v u = true) : v = u := by
  unfold xEq at h
  split at h <;> first | rfl | cases h | skip
  simp only [Bool.and_eq_true] at h
  rw [Nat.eq_of_beq_eq_true h.1, Nat.eq_of_beq_eq_true h.2]
theorem litK_spec {l p : Bool} {nd : List Bool} (h : cond l (cond p (some []) none) (some [p]) = some nd) (hn : allT nd) : p = true := by
  cases l <;> simp at h
  · subst h; exact hn _ List.mem_cons_self
  · cases p <;> simp at h; rfl
theorem eqC_spec {x y : C} {nd : List Bool} (h : eqC x y = some nd) (hn : allT nd) (ρ : Rh) : x.den ρ = y.den ρ := by
  unfold eqC at h
  split at h
  · have := of_decide_eq_true (litK_spec h hn); subst this; rfl
  · split at h
    · rename_i hk
      have := of_decide_eq_true (litK_spec h hn); subst this; subst hk; rfl
    · cases h
  · have := of_decide_eq_true (litK_spec h hn); subst this; rfl
  · rename_i b o b' o'
    cases hc : (Nat.beq b b' && Nat.beq o o') <;> simp only [hc, cond_true, cond_false] at h
    · cases h
    simp only [Bool.and_eq_true] at hc
    rw [Nat.eq_of_beq_eq_true hc.1, Nat.eq_of_beq_eq_true hc.2]
  · rename_i b o n c b' o' n' c'
    cases hc : (Nat.beq b b' && Nat.beq o o' && Nat.beq n n' && Nat.beq c c') <;> simp only [hc, cond_true, cond_false] at h
    · cases h
    simp only [Bool.and_eq_true] at hc
    rw [Nat.eq_of_beq_eq_true hc.1.1.1, Nat.eq_of_beq_eq_true hc.1.1.2, Nat.eq_of_beq_eq_true hc.1.2, Nat.eq_of_beq_eq_true hc.2]
  · rename_i b o n c b' o' n' c'
    cases hc : (Nat.beq b b' && Nat.beq o o' && Nat.beq n n' && Nat.beq c c') <;> simp only [hc, cond_true, cond_false] at h
    · cases h
    simp only [Bool.and_eq_true] at hc
    rw [Nat.eq_of_beq_eq_true hc.1.1.1, Nat.eq_of_beq_eq_true hc.1.1.2, Nat.eq_of_beq_eq_true hc.1.2, Nat.eq_of_beq_eq_true hc.2]
  · rename_i f f'
    cases hc : Nat.beq f f' <;> simp only [hc, cond_true, cond_false] at h
    · cases h
    rw [Nat.eq_of_beq_eq_true hc]
  · rename_i t b o t' b' o'
    cases hc : (Nat.beq t t' && Nat.beq b b' && Nat.beq o o') <;> simp only [hc, cond_true, cond_false] at h
    · cases h
    simp only [Bool.and_eq_true] at hc
    rw [Nat.eq_of_beq_eq_true hc.1.1, Nat.eq_of_beq_eq_true hc.1.2, Nat.eq_of_beq_eq_true hc.2]
  · rename_i b b'
    cases hc : Nat.beq b b' <;> simp only [hc, cond_true, cond_false] at h
    · cases h
    rw [Nat.eq_of_beq_eq_true hc]
  · simp at h; subst h
    have h1 := of_decide_eq_true (hn _ List.mem_cons_self)
    have h2 := of_decide_eq_true (hn _ (List.mem_cons_of_mem _ List.mem_cons_self))
    have h3 := of_decide_eq_true (hn _ (List.mem_cons_of_mem _ (List.mem_cons_of_mem _ List.mem_cons_self)))
    rw [h1, h2, h3]
  · rename_i v u
    cases hc : xEq v u <;> simp only [hc, cond_true, cond_false] at h
    · cases h
    rw [xEq_spec hc]
  · simp at h; subst h
    have h1 := of_decide_eq_true (hn _ List.mem_cons_self)
    rw [h1]; rfl
  · cases h
theorem keepCs_spec : ∀ {xs ys : List C} {nd : List Bool}, keepCs xs ys = some nd → allT nd → ∀ ρ, xs.map (C.den ρ) = ys.map (C.den ρ)
  | [], [], _, _, _, _ => rfl
  | x :: xs, y :: ys, nd, h, hn, ρ => by
    simp only [keepCs] at h
    split at h
    · cases h
    rename_i a ha
    split at h
    · cases h
    rename_i b hb
    simp at h; subst h
    simp only [List.map_cons]
    rw [eqC_spec ha (fun c hc => hn c (List.mem_append_left _ hc)) ρ, keepCs_spec hb (fun c hc => hn c (List.mem_append_right _ hc)) ρ]
  | [], _ :: _, _, h, _, _ => by cases h
  | _ :: _, [], _, h, _, _ => by cases h
theorem keepS_spec : ∀ {s s0 : SW} {nd : List Bool}, keepS s s0 = some nd → allT nd → ∀ (i : Nat) (b0 : Bl), s0[i]? = some b0 →
    ∃ b, s[i]? = some b ∧ b.ty = b0.ty ∧ (b0.cs = [] ∨ ∀ ρ, b.cs.map (C.den ρ) = b0.cs.map (C.den ρ))
  | _, [], _, _, _, i, b0, hb => by simp at hb
  | [], _ :: _, _, h, _, _, _, _ => by cases h
  | b :: s, c0 :: s0, nd, h, hn, i, b0, hb => by
    simp only [keepS] at h
    cases ht : Nat.beq b.ty c0.ty <;> simp only [ht, cond_true, cond_false] at h
    · cases h
    have ht := Nat.eq_of_beq_eq_true ht
    split at h
    · rename_i hc
      cases i with
      | zero => simp at hb; subst hb; exact ⟨b, rfl, ht, .inl hc⟩
      | succ i => simp at hb ⊢; exact keepS_spec h hn i b0 hb
    · rename_i c cs hc
      split at h
      · cases h
      rename_i l hl
      split at h
      · cases h
      rename_i l' hl'
      simp at h; subst h
      cases i with
      | zero => simp at hb; subst hb; exact ⟨b, rfl, ht, .inr fun ρ => by rw [hc]; exact keepCs_spec hl (fun d hd => hn d (List.mem_append_left _ hd)) ρ⟩
      | succ i => simp at hb ⊢; exact keepS_spec hl' (fun d hd => hn d (List.mem_append_right _ hd)) i b0 hb
/-- Behind a call that keeps the memory the memory is there as it was. -/
theorem Inv.keep {E W : World} {L : Nat} {ρ ρ' : Rh} {s s' : SW} {w w' : World} {nd : List Bool} (hI : Inv E W L ρ s w) (h' : Inv E W L ρ' s' w') (hag : Agree s.length ρ ρ') (hle : s.length ≤ s'.length)
    (hk : keepS s' s = some nd) (hn : allT nd) : Inv E W L ρ s w' := by
  have hsp := keepS_spec hk hn
  have hlt : ∀ {i : Nat} {b : Bl}, s[i]? = some b → i < s.length := fun hb => (List.getElem?_eq_some_iff.1 hb).1
  have lv : ∀ i, live s i → live s' i := by
    rintro i ⟨b, hb, hne⟩
    obtain ⟨b', h1, hty, h3⟩ := hsp i b hb
    refine ⟨b', h1, ?_⟩
    rcases hne with hne | hm
    · refine .inl ?_
      rcases h3 with h3 | h3
      · exact absurd h3 hne
      · intro e
        have := h3 Rh0
        rw [e] at this
        simp at this
        exact hne this
    · exact .inr (by rw [hty]; exact hm)
  refine ⟨fun i b hb => ?_, hI.okc, fun i j hi hj hij => ?_, h'.grow, fun b hb hL => h'.old b hb (fun i hi => absurd hi (by have := h'.len; omega)), fun i h1 h2 => hI.fresh i h1 h2, h'.frz, h'.os, h'.out, h'.tape, h'.len, ⟨h'.ext.1, h'.ext.2.1, fun i hi => hI.ext.2.2 i hi⟩⟩
  · obtain ⟨b', h1, h2, h3⟩ := hsp i b hb
    have hi := hlt hb
    rcases h'.blk i b' h1 with ⟨ht, r, h5, h6⟩ | ⟨ht, hcs, h5⟩
    · rw [(hag i hi).1] at h5
      rw [(hag i hi).2] at h6
      rcases h3 with h3 | h3
      · refine .inl ⟨h2 ▸ ht, b'.cs.map (C.den ρ') ++ r, ?_, ?_⟩
        · rw [h3, ← h2]; simpa using h5
        · rw [h3, ← h6]; simp
      · have hm := h3 ρ'
        refine .inl ⟨h2 ▸ ht, r, ?_, ?_⟩
        · rw [← map_agree hag (hI.okc i b hb), ← hm, ← h2]; exact h5
        · have := congrArg List.length hm
          simp at this
          omega
    · rw [(hag i hi).1] at h5
      refine .inr ⟨h2 ▸ ht, ?_, by rw [← h2]; exact h5⟩
      rcases h3 with h3 | h3
      · exact h3
      · have := h3 ρ'
        rw [hcs] at this
        simp at this
        exact this
  · exact h'.inj i j (lv i hi) (lv j hj) (by rw [(hag i hi.lt).1, (hag j hj.lt).1]; exact hij)
theorem callD_sound {call : CallK β} (hcall : CallDOK P call) {g : FuncId} {vs : List SV} {s : SW} {K : SV → Tree β} (h : (callD call g vs s K).OK post) (hok : ∀ v ∈ vs, v.ok s.length = true) :
    ∃ v : SV, v.ok s.length = true ∧ (K v).OK post ∧ (∀ (args : Array Value) w, (callFunc g args).run P w = .ok (.enter g args) w) ∧
    ∀ (W : World) (L : Nat) (ρ : Rh) (w : World), Inv P.E W L ρ s w → Calls P g (vs.map (SV.den ρ)).toArray w fun e w' => e = .returned (v.den ρ) ∧ Inv P.E W L ρ s w' := by
  unfold callD at h
  cases hall : vs.all (SV.ok 0) <;> simp only [hall, cond_true, cond_false] at h
  · obtain ⟨v, s', hk, hen, hc⟩ := hcall g vs s _ post h hok
    split at hk
    · rename_i nd hnd
      have hn := needsT_OK hk
      have hk := hn.2
      cases hv : v.ok s.length <;> simp only [hv, cond_true, cond_false] at hk
      · exact hk.elim
      refine ⟨v, hv, hk, hen, fun W L ρ w hI => Calls.mono (hc W L ρ w hI) ?_⟩
      rintro e w' ⟨ρ', rfl, hag, hle, _, hI'⟩
      exact ⟨by rw [SV.den_agree hag hv], hI.keep hI' hag hle hnd hn.1⟩
    · exact hk.elim
  · have hok0 := List.all_eq_true.1 hall
    obtain ⟨v, s', hk, hen, hc⟩ := hcall g vs [] _ post h (fun v hv => hok0 v hv)
    cases hv : v.ok 0 <;> simp only [hv, cond_true, cond_false] at hk
    · exact hk.elim
    refine ⟨v, SV.ok_mono (Nat.zero_le _) hv, hk, hen, fun W L ρ w hI => ?_⟩
    have hargs : (vs.map (SV.den ρ)) = vs.map (SV.den Rh0) := List.map_congr_left fun x hx => SV.den_agree (n := 0) (fun i hi => absurd hi (Nat.not_lt_zero _)) (hok0 x hx)
    rw [hargs]
    refine Calls.mono (hc w 0 Rh0 w (Inv.start hI.ext)) ?_
    rintro e w' ⟨ρ', rfl, hag, hle, _, hI'⟩
    refine ⟨by rw [SV.den_agree (n := 0) (ρ := ρ) (ρ' := ρ') (fun i hi => absurd hi (Nat.not_lt_zero _)) hv], ?_⟩
    have hold : ∀ b, b < w.heap.size → w'.heap[b]? = w.heap[b]? := fun b hb => hI'.old b hb fun i hi => absurd hi (Nat.not_lt_zero _)
    refine ⟨fun i b hb => ?_, hI.okc, hI.inj, Nat.le_trans hI.grow hI'.grow, fun b hb hL => ?_, hI.fresh, trivial, hI'.os.trans hI.os, hI'.out.trans hI.out, hI'.tape.trans hI.tape, hI.len, ⟨hI'.ext.1, hI'.ext.2.1, hI.ext.2.2⟩⟩
    · exact (hI.blk i b hb).heap (hold _ (hI.lt (List.getElem?_eq_some_iff.1 hb).1))
    · rw [hold b (Nat.lt_of_lt_of_le hb hI.grow)]; exact hI.old b hb hL
def Just (E W : World) (L : Nat) (ρ : Rh) (s : SW) (S : World → Prop) : Prop := S = Inv E W L ρ s
theorem opsD_sound {call : CallK β} (hcall : CallDOK P call) {ops : Array Oper} : ∀ (l : List (Nat × Fl)) {fr : Fr} {s : SW} {ρ : Rh} {K : Fr → SW → Tree β} {a : Act} {w : World},
    (opsD P call ops l fr s K).OK post → FrRel s.length ρ fr a → Inv P.E W L ρ s w → ∀ {Kp : Act → World → Prop},
    (∀ fr' s' ρ' a' w', (K fr' s').OK post → Agree s.length ρ ρ' → s.length ≤ s'.length → FrRel s'.length ρ' fr' a' → Inv P.E W L ρ' s' w' → Kp a' w') →
    SeqX mildD P ops (Only Kp) l (Just P.E W L ρ s) a
  | [], fr, s, ρ, K, a, w, ht, hf, hI, Kp, hK => fun S hS w' hw' => by
    rw [hS] at hw'
    exact hK _ _ _ _ _ ht (Agree.refl _ _) (Nat.le_refl _) hf hw'
  | (i, p) :: r, fr, s, ρ, K, a, w, ht, hf, hI, Kp, hK => by
    simp only [opsD] at ht
    split at ht
    · exact ht.elim
    rename_i o ho
    obtain ⟨wanted, fr1, hw, hf1, ht2⟩ := guardK_sound ht hf
    clear ht
    have ht := ht2
    clear ht2
    have loud : ∀ (v : SV) (ih : SeqX mildD P ops (Only Kp) r (Just P.E W L ρ s) (a.put o.dst (v.den ρ))), (isPureF p = true → YieldsX P ops (fun _ => True) o (v.den ρ) a) → (isPureF p = false → YieldsX P ops (Just P.E W L ρ s) o (v.den ρ) a) → (isPureF p = false → kindLoad o.op = true → YieldsX P ops (Down (Just P.E W L ρ s)) o (v.den ρ) a) →
        SeqX mildD P ops (Only Kp) ((i, p) :: r) (Just P.E W L ρ s) a := by
      intro v ih hy1 hy hyL
      cases p
      · exact fun S hS w' hw' => (hy rfl).wpOp ho hS hw' fun w'' hw'' => ⟨_, fun _ _ h => h, fun _ _ h => Down.self h, ⟨S, hS, hw''⟩, ih⟩
      · exact ⟨o, _, ho, hy1 rfl, ih⟩
      · exact ⟨o, _, ho, hy rfl, hyL rfl, ih⟩
    cases wanted <;> simp only [cond_true, cond_false] at ht
    · obtain ⟨fr2, hf2, ht⟩ := putK_sound hf1 (undefS_ok _) ht
      exact loud undefS (opsD_sound hcall r ht hf2 hI hK) (fun _ => .inr ⟨hw, rfl⟩) (fun _ => .inr ⟨hw, rfl⟩) (fun _ _ => .inr ⟨hw, rfl⟩)
    · have hev := fun x y h => FrRel.ev hf1 x y h
      cases hp : isLoud p <;> simp only [hp, cond_true, cond_false] at ht
      · cases hpp : isPureF p <;> simp only [hpp, cond_true, cond_false] at ht
        rotate_left
        · split at ht
          · rename_i rr hr
            have hn := needsT_OK ht
            have hp := pureOp_sound hev hr hn.1
            obtain ⟨fr2, hf2, hk⟩ := putK_sound hf1 hp.2 hn.2
            exact loud _ (opsD_sound hcall r hk hf2 hI hK) (fun _ => .inl ⟨hw, fun S _ w' _ => .inl (hp.1 w')⟩) (fun _ => .inl ⟨hw, fun S _ w' _ => .inl (hp.1 w')⟩) (fun _ _ => .inl ⟨hw, fun S _ w' _ => .inl (hp.1 w')⟩)
          · exact ht.elim
        have loud := fun v ih hy hyL => loud v ih (fun h => by rw [hpp] at h; cases h) (fun _ => hy) (fun _ => hyL)
        unfold operD at ht
        split at ht
        · rename_i rr hr
          have hn := needsT_OK ht
          have hp := pureOp_sound hev hr hn.1
          obtain ⟨fr2, hf2, hk⟩ := putK_sound hf1 hp.2 hn.2
          exact loud _ (opsD_sound hcall r hk hf2 hI hK) (.inl ⟨hw, fun S _ w' _ => .inl (hp.1 w')⟩) (fun _ => .inl ⟨hw, fun S _ w' _ => .inl (hp.1 w')⟩)
        split at ht
        · rename_i rr hr
          have hn := needsT_OK ht
          have hp := extOp_sound hI.ext hev hr hn.1
          obtain ⟨fr2, hf2, hk⟩ := putK_sound hf1 (hp.2 _) hn.2
          have hall : ∀ w', Inv P.E W L ρ s w' → (execOp a.eval o).run P w' = .ok (.value _) w' := fun w' h => (extOp_sound h.ext hev hr hn.1).1
          exact loud _ (opsD_sound hcall r hk hf2 hI hK) (.inl ⟨hw, fun S hS w' hw' => .inl (by rw [hS] at hw'; exact hall w' hw')⟩) (fun _ => .inl ⟨hw, fun S hS w' hw' => .inl (by obtain ⟨_, hS, hd⟩ := hS; rw [hS] at hd; exact hall w' (hd w' hw'))⟩)
        · split at ht
          · rename_i t x hop
            split at ht
            · rename_i v hx
              split at ht
              · rename_i u s' hl
                have h1 := FrRel.ev hf1 _ _ hx
                obtain ⟨_, hok, _⟩ := loadS_sound (P := P) hI hl h1.2
                obtain ⟨fr2, hf2, hk⟩ := putK_sound hf1 hok ht
                have hall : ∀ w', Inv P.E W L ρ s w' → (execOp a.eval o).run P w' = .ok (.value (u.den ρ)) w' := by
                  intro w' hw'
                  obtain ⟨_, _, hrun⟩ := loadS_sound (P := P) hw' hl h1.2
                  obtain ⟨dst, op, type, pos, after, guard⟩ := o
                  simp only at hop
                  subst hop
                  simp only [execOp, Sem.run_bind, h1.1, hrun, Result.andThen_ok, Sem.run_pure]
                exact loud _ (opsD_sound hcall r hk hf2 hI hK) (.inl ⟨hw, fun S hS w' hw' => .inl (by rw [hS] at hw'; exact hall w' hw')⟩) (fun _ => .inl ⟨hw, fun S hS w' hw' => .inl (by obtain ⟨_, hS, hd⟩ := hS; rw [hS] at hd; exact hall w' (hd w' hw'))⟩)
              · exact ht.elim
            · exact ht.elim
          · rename_i f args argTypes hop
            split at ht
            · rename_i g vs hg hvs
              have h1 := hev _ _ hg
              have h2 := evs_sound hev _ _ hvs
              obtain ⟨v, hv, hk, hcf, hc⟩ := callD_sound hcall ht h2.2
              obtain ⟨fr2, hf2, hk⟩ := putK_sound hf1 hv hk
              refine loud v (opsD_sound hcall r hk hf2 hI hK) (.inl ⟨hw, fun S hS w' hw' => .inr ⟨g, (vs.map (SV.den ρ)).toArray, ?_, ?_⟩⟩) (fun h => by rw [hop] at h; cases h)
              · have hargs : args.map a.eval = (vs.map (SV.den ρ)).toArray := Array.ext' (by rw [Array.toList_map, h2.1])
                obtain ⟨dst, op, type, pos, after, guard⟩ := o
                simp only at hop
                subst hop
                have h1' : a.eval f = .func (.func g) #[] #[] := h1.1
                simp only [execOp, resolve, hargs, h1', Deferred.ofValue, Sem.run_bind, Sem.run_pure, Result.andThen_ok, invoke]
                simpa using hcf _ w'
              · rw [hS] at hw' ⊢
                exact hc W L ρ w' hw'
            · exact ht.elim
          · exact ht.elim
      · have hpl : p = .loud := by cases p <;> simp_all [isLoud]
        clear hp
        subst hpl
        cases hch : changes o.op <;> simp only [hch, cond_true, cond_false] at ht
        · exact ht.elim
        split at ht
        · rename_i v s' hh
          intro S hS w0 hw0
          rw [hS] at hw0
          obtain ⟨ρ', w', nx, hag, hle, hok, hrun, hI', hnx⟩ := heapOp_sound hw0 hev hh
          obtain ⟨fr2, hf2, hk⟩ := putK_sound (hf1.agree hag hle) hok ht
          have ih := opsD_sound hcall r hk hf2 hI' (Kp := Kp) fun fr'' s'' ρ'' a'' w'' hk hag' hle' hf'' hI'' =>
            hK _ _ _ _ _ hk (hag.trans hag' hle) (Nat.le_trans hle hle') hf'' hI''
          have hsub : mildD ops i = true → ∀ T, Just P.E W L ρ' s' T → Just P.E W L ρ s T := by
            intro hm
            simp only [mildD, ho, hch, Bool.not_true] at hm
            cases hm
          have hD : makesAt ops i = true → ∀ T, Just P.E W L ρ' s' T → Down (Just P.E W L ρ s) T := by
            intro hm T hT
            simp only [makesAt, ho] at hm
            obtain ⟨e, rfl⟩ := heapOp_makes hm hh
            exact ⟨_, rfl, fun w hw => by rw [hT] at hw; exact hw.part hw0.okc (by have := hw0.len; omega) hag⟩
          refine wpOp_run ho hw ?_
          unfold Oper.wp
          rw [hrun]
          rcases hnx with rfl | ⟨rfl, rfl⟩
          · exact ⟨_, hsub, hD, ⟨_, rfl, hI'⟩, ih⟩
          · rw [undefS_den] at ih
            exact ⟨_, hsub, hD, ⟨_, rfl, hI'⟩, ih⟩
        · exact ht.elim
end
end Go.Proofs.Ytkeinfmfkcgkhaa.Ev

namespace Go.Proofs.Ytkeinfmfkcgkhaa.Ev
open Go
section
variable {P : PE}

/-- What a tree says of a call. -/
def CallTree (P : PE) (g : FuncId) (vs : List SV) (s : SW) (t : Tree (SV × SW)) : Prop :=
  ∀ (W : World) (L : Nat) (ρ : Rh) (w : World) (post : SV × SW → Prop), Inv P.E W L ρ s w → (∀ v ∈ vs, v.ok s.length = true) → t.OK post →
    Calls P g (vs.map (SV.den ρ)).toArray w fun e w' => ∃ v s' ρ', e = .returned (v.den ρ') ∧ Agree s.length ρ ρ' ∧ s.length ≤ s'.length ∧ v.ok s'.length = true ∧
      Inv P.E W L ρ' s' w' ∧ post (v, s')

def OrcOK (P : PE) (orc : Orc) : Prop := ∀ g vs s t, orc g vs s = some t → CallTree P g vs s t
def TabOK (P : PE) (tab : Tab) : Prop := ∀ g fn, tab g = some fn → P.funcs[g]? = some fn ∧ (fn.name == "runtime.NumGoroutine") = false ∧ fn.body.isSome = true

theorem mkFrK_eq {β : Type} : ∀ (vs : List SV) (t : Tr) (i : Nat) (K : Tr → β), mkFrK t i vs K = K (mkFrGo t i vs)
  | [], _, _, _ => rfl
  | v :: vs, t, i, K => by simp only [mkFrK, mkFrGo, Tr.setK_eq]; exact mkFrK_eq vs _ _ K

theorem mkFrGo_get : ∀ (vs : List SV) (t : Tr) (i : Nat), (∀ j, i ≤ j → j < i + vs.length → t.has j = true) →
    ∀ j, (mkFrGo t i vs).get j = if i ≤ j ∧ j < i + vs.length then vs.getD (j - i) undefS else t.get j
  | [], t, i, _, j => by simp [mkFrGo]; intro h1 h2; omega
  | v :: vs, t, i, hh, j => by
    simp only [mkFrGo]
    rw [mkFrGo_get vs (t.set i v) (i + 1) (fun j h1 h2 => by rw [Tr.has_set]; exact hh j (by omega) (by simp; omega)) j]
    rw [Tr.get_set _ _ _ _ (hh i (Nat.le_refl _) (by simp))]
    by_cases h1 : j = i
    · subst h1; simp; intro h2; omega
    · by_cases h2 : i ≤ j ∧ j < i + (v :: vs).length
      · simp only [List.length_cons] at h2
        have h3 : i + 1 ≤ j ∧ j < i + 1 + vs.length := by omega
        rw [if_pos h3, if_pos (by simp; omega)]
        obtain ⟨m, hm⟩ : ∃ m, j - i = m + 1 := ⟨j - i - 1, by omega⟩
        have hm' : j - (i + 1) = m := by omega
        rw [hm, hm']; rfl
      · simp only [List.length_cons] at h2
        rw [if_neg (by omega), if_neg h1, if_neg (by simp; omega)]

theorem Tr.has_mk (d : Nat) : ∀ k, k + 1 < 2 ^ d → (Tr.mk d).has k = true := by
  induction d with
  | zero => intro k h; simp at h
  | succ d ih =>
    intro k h
    simp only [Tr.mk, Tr.has]
    by_cases hk : k = 0
    · subst hk; rfl
    · have hk0 : Nat.beq k 0 = false := by cases k <;> simp_all [Nat.beq]
      have hp : 2 ^ (d + 1) = 2 * 2 ^ d := by rw [Nat.pow_succ]; omega
      by_cases h1 : k % 2 = 1
      · have hp1 : Nat.beq (k % 2) 1 = true := by rw [h1]; rfl
        simp only [hk0, hp1, cond_false, cond_true]
        exact ih _ (by omega)
      · have hp1 : Nat.beq (k % 2) 1 = false := by
          have : k % 2 = 0 := by omega
          rw [this]; rfl
        simp only [hk0, hp1, cond_false]
        exact ih _ (by omega)

theorem mkFr_rel {n : Nat} {ρ : Rh} {vs : List SV} {nt : Nat} (hle : vs.length ≤ nt) (hnt : nt < 4095) (hok : ∀ v ∈ vs, v.ok n = true) :
    FrRel n ρ ⟨nt, mkFrGo (Tr.mk 12) 0 vs⟩ { tmps := (vs.map (SV.den ρ)).toArray ++ Array.replicate (nt - (vs.map (SV.den ρ)).toArray.size) undef, defers := [] } := by
  have hget := mkFrGo_get vs (Tr.mk 12) 0 (fun j _ h2 => Tr.has_mk 12 j (by simp at h2 ⊢; omega))
  refine ⟨by simp; omega, fun t ht _ => ?_, fun t ht => ?_, rfl⟩
  · simp only
    rw [hget t]
    by_cases h : t < vs.length
    · rw [if_pos (by omega)]
      rw [Array.getElem?_append_left (by simpa using h)]
      simp [h]
    · rw [if_neg (by omega), Tr.get_mk, undefS_den]
      simp only at ht
      rw [Array.getElem?_append_right (by simpa using h)]
      simp only [List.size_toArray, List.length_map]
      rw [Array.getElem?_replicate, if_pos (by omega)]
  · simp only
    rw [hget t]
    by_cases h : t < vs.length
    · rw [if_pos (by omega)]
      simp [h]
      exact hok _ (List.getElem_mem _)
    · rw [if_neg (by omega), Tr.get_mk]; rfl

def resSem (tmps : Array Value) : ResultVar → Sem Value
  | .tmp t => pure (tmps.getD t undef)
  | .cell b t => do loadVar t (← asAddr (tmps.getD b undef))
theorem results_eq (fn : Func) (tmps : Array Value) : results fn tmps = (do
  let vs ← fn.results.mapM (resSem tmps)
  pure (if h : vs.size = 1 then vs[0] else .tuple vs)) := rfl

theorem resL_sound {W : World} {L : Nat} {ρ : Rh} {s : SW} {w : World} {fr : Fr} {a : Act} (hI : Inv P.E W L ρ s w) (hf : FrRel s.length ρ fr a) :
    ∀ (rs : List ResultVar) (vs : List SV), resL P fr s rs = some vs →
      (rs.mapM (resSem a.tmps)).run P w = .ok (vs.map (SV.den ρ)) w ∧
      ∀ v ∈ vs, v.ok s.length = true
  | [], vs, h => by simp [resL] at h; subst h; simp
  | r :: rs, vs, h => by
    simp only [resL] at h
    split at h
    · cases h
    rename_i v hv
    split at h
    · rename_i vs' hvs
      simp at h; subst h
      obtain ⟨ih1, ih2⟩ := resL_sound hI hf rs vs' hvs
      have key : (resSem a.tmps r).run P w = .ok (v.den ρ) w ∧ v.ok s.length = true := by
        cases r with
        | tmp t =>
          simp only [resS] at hv
          exact ⟨by simp only [resSem]; rw [(hf.get hv).1]; rfl, (hf.get hv).2.1⟩
        | cell b t =>
          simp only [resS] at hv
          split at hv
          · rename_i u hu
            split at hv
            · rename_i u' s' hl
              simp at hv; subst hv
              obtain ⟨_, hok, hr⟩ := loadS_sound (P := P) hI hl (hf.get hu).2.1
              refine ⟨?_, hok⟩
              have h1 := (hf.get hu).1
              simp only [resSem, h1]
              cases u with
              | c x =>
                cases x with
                | p blk off =>
                  simp only [SV.den, C.den, asAddr, Sem.run_bind, Sem.run_pure, Result.andThen_ok]
                  simpa [Instr.loadAt, Instr.sureAddr, SV.den, C.den] using hr
                | q blk off m sz ix =>
                  simp only [SV.den, C.den, asAddr, Sem.run_bind, Sem.run_pure, Result.andThen_ok]
                  simpa [Instr.loadAt, Instr.sureAddr, SV.den, C.den] using hr
                | _ => simp [loadS] at hl
              | _ => simp [loadS] at hl
            · cases hv
          · cases hv
      refine ⟨?_, fun u hu => (List.mem_cons.1 hu).elim (fun e => e ▸ key.2) (ih2 u)⟩
      rw [List.mapM_cons]
      simp only [Sem.run_bind, key.1, Result.andThen_ok, ih1, Sem.run_pure, List.map_cons]
    · cases h

theorem s1L_sound {n : Nat} {ρ : Rh} : ∀ (vs : List SV) (xs : List S1), s1L vs = some xs → vs.map (SV.den ρ) = xs.map (S1.den ρ) ∧ ((∀ v ∈ vs, v.ok n = true) → xs.all (S1.ok n) = true) ∧ xs.length = vs.length
  | [], xs, h => by simp [s1L] at h; subst h; simp
  | v :: vs, xs, h => by
    simp only [s1L] at h
    split at h
    · cases h
    rename_i x hx
    split at h
    · rename_i xs' hxs
      simp at h; subst h
      obtain ⟨h1, h2, h3⟩ := s1L_sound (n := n) (ρ := ρ) vs xs' hxs
      have hd : v.den ρ = x.den ρ ∧ (v.ok n = true → x.ok n = true) := by
        cases v <;> simp [SV.s1] at hx <;> subst hx <;> exact ⟨rfl, id⟩
      refine ⟨by simp [hd.1, h1], fun hv => ?_, by simp [h3]⟩
      simp only [List.all_cons, Bool.and_eq_true]
      exact ⟨hd.2 (hv v List.mem_cons_self), h2 fun u hu => hv u (List.mem_cons_of_mem _ hu)⟩
    · cases h

theorem results1_sound {W : World} {L : Nat} {ρ : Rh} {s : SW} {w : World} {fr : Fr} {a : Act} {fn : Func} {v : SV} (hI : Inv P.E W L ρ s w) (hf : FrRel s.length ρ fr a)
    (h : results1 P fn fr s = some v) : (results fn a.tmps).run P w = .ok (v.den ρ) w ∧ v.ok s.length = true := by
  unfold results1 at h
  have hmap : ∀ vs, resL P fr s fn.results.toList = some vs → (fn.results.mapM (resSem a.tmps)).run P w = .ok (vs.map (SV.den ρ)).toArray w ∧ ∀ v ∈ vs, v.ok s.length = true := by
    intro vs hvs
    obtain ⟨h1, h2⟩ := resL_sound (P := P) hI hf _ _ hvs
    refine ⟨?_, h2⟩
    have : fn.results.mapM (resSem a.tmps) = List.toArray <$> fn.results.toList.mapM (resSem a.tmps) := by
      conv => lhs; rw [← Array.toArray_toList (xs := fn.results)]
      exact List.mapM_toArray
    rw [this]
    simp only [Sem.run_map, h1, Result.andThen_ok]
  split at h
  · cases h
  · rename_i v' hv'
    simp at h; subst h
    obtain ⟨h1, h2⟩ := hmap _ hv'
    refine ⟨?_, h2 _ (by simp)⟩
    rw [results_eq]
    simp only [Sem.run_bind, h1, Result.andThen_ok]
    simp
  · rename_i vs hne hvs
    split at h
    · rename_i xs hxs
      simp at h; subst h
      obtain ⟨h1, h2⟩ := hmap _ hvs
      obtain ⟨h3, h4, h5⟩ := s1L_sound (n := s.length) (ρ := ρ) _ _ hxs
      refine ⟨?_, h4 h2⟩
      rw [results_eq]
      simp only [Sem.run_bind, h1]
      have : (vs.map (SV.den ρ)).toArray.size ≠ 1 := by
        simp only [List.size_toArray, List.length_map]
        intro e
        obtain ⟨v, rfl⟩ := List.length_eq_one_iff.1 e
        exact hne v rfl
      simp only [Result.andThen_ok]
      rw [dif_neg this, h3]
      rfl
    · cases h
end
end Go.Proofs.Ytkeinfmfkcgkhaa.Ev

namespace Go.Proofs.Ytkeinfmfkcgkhaa.Ev
open Go
section
variable {P : PE}

theorem callFunc_run {g : FuncId} {fn : Func} (hf : P.funcs[g]? = some fn) (hn : (fn.name == "runtime.NumGoroutine") = false) (hb : fn.body.isSome = true) (args : Array Value) (w : World) :
    (callFunc g args).run P w = .ok (.enter g args) w := by
  unfold callFunc
  have : fn.body.isNone = false := by cases h : fn.body <;> simp_all
  simp only [Sem.run_bind, run_program, Result.andThen_ok, hf, hn, this, Bool.false_eq_true, if_false, Sem.run_pure]

/-- One call of a function whose body is run. -/
theorem callTree_of_wp {g : FuncId} {fn : Func} {c : Code} (hf : P.funcs[g]? = some fn) (hb : fn.body = some c) {vs : List SV} {ρ : Rh} {w : World} {R : Ending → World → Prop}
    (h : TodoWp P [.code c] (bodyPost P fn R) { tmps := (vs.map (SV.den ρ)).toArray ++ Array.replicate (fn.ntmps - (vs.map (SV.den ρ)).toArray.size) undef, defers := [] } w) :
    Calls P g (vs.map (SV.den ρ)).toArray w R := calls_of_wp hf hb h.wp

def LfQ (P : PE) (post : Lf → Prop) (W : World) (L n : Nat) (ρ0 : Rh) (Q : Exit → Act → World → Prop) : Prop :=
  ∀ lf a' w' ρ', post lf → Agree n ρ0 ρ' → n ≤ lf.s.length → FrRel lf.s.length ρ' lf.fr a' → Inv P.E W L ρ' lf.s w' →
    if lf.ended then Q .normal a' w' ∧ Q .ret a' w' else TodoWp P lf.todo Q a' w'

/-- What holds of a memory of its own holds beside any other. -/
theorem Inv.frame {E W : World} {L : Nat} {ρ ρ' : Rh} {s s' : SW} {w w' : World} (h : Inv E W L ρ s w) (h' : Inv E w 0 ρ' s' w') : Inv E W L ρ s w' := by
  have hold : ∀ b, b < w.heap.size → w'.heap[b]? = w.heap[b]? := fun b hb => h'.old b hb fun i hi => absurd hi (Nat.not_lt_zero _)
  refine ⟨fun i b hb => ?_, h.okc, h.inj, Nat.le_trans h.grow h'.grow, fun b hb hL => ?_, h.fresh, trivial, h'.os.trans h.os, h'.out.trans h.out, h'.tape.trans h.tape, h.len, ⟨h'.ext.1, h'.ext.2.1, h.ext.2.2⟩⟩
  · exact (h.blk i b hb).heap (hold _ (h.lt (List.getElem?_eq_some_iff.1 hb).1))
  · rw [hold b (Nat.lt_of_lt_of_le hb h.grow)]; exact h.old b hb hL

/-- How a call is run. -/
def callOf (P : PE) (orc : Orc) (tab : Tab) (n : Nat) : CallK Lf := fun g vs s K => match tab g with
  | none => .fail
  | some fn => match orc g vs s with
    | some t => t.bind fun r => K r.1 r.2
    | none => match fn.body with
      | none => .fail
      | some c => cond (Nat.ble vs.length fn.ntmps) (mkFrK (Tr.mk 12) 0 vs fun t =>
          (run P orc tab n 0 [.code c] ⟨fn.ntmps, t⟩ s).bind fun lf => cond lf.ended (match results1 P fn lf.fr lf.s with | some v => K v lf.s | none => .fail) .fail) .fail

def callOfC (P : PE) (orc : Orc) (tab : Tab) (n : Nat) : CallC Lf := fun g vs K => match tab g with
  | none => .fail
  | some fn => match orc g vs [] with
    | some t => t.bind fun r => cond (r.1.ok 0) (K r.1) .fail
    | none => match fn.body with
      | none => .fail
      | some c => cond (Nat.ble vs.length fn.ntmps) (mkFrK (Tr.mk 12) 0 vs fun t =>
          (run P orc tab n 0 [.code c] ⟨fn.ntmps, t⟩ []).bind fun lf => cond lf.ended (match results1 P fn lf.fr lf.s with | some v => cond (v.ok 0) (K v) .fail | none => .fail) .fail) .fail

theorem run_sound {orc : Orc} {tab : Tab} (ho : OrcOK P orc) (ht : TabOK P tab) (hsz : ∀ g fn, tab g = some fn → fn.ntmps < 4095) (hm : P.follows .mixedOrders = true) :
    ∀ (fuel brk : Nat) (todo : List Item) (fr : Fr) (s : SW) (W : World) (L : Nat) (ρ : Rh) (a : Act) (w : World) (post : Lf → Prop) (Q : Exit → Act → World → Prop),
      (run P orc tab fuel brk todo fr s).OK post → FrRel s.length ρ fr a → Inv P.E W L ρ s w → LfQ P post W L s.length ρ Q → TodoWp P todo Q a w := by
  intro fuel
  induction fuel with
  | zero => intro brk todo fr s W L ρ a w post Q h; exact h.elim
  | succ n ih =>
    intro brk todo fr s W L ρ a w post Q h hf hI hQ
    -- a call
    have hcall : ∀ (W : World) (L : Nat), CallOK P W L (callOf P orc tab n) := by
      intro W L g vs s K post ρ w h hI hok
      unfold callOf at h
      split at h
      · exact h.elim
      rename_i fn hfn
      obtain ⟨h1, h2, h3⟩ := ht g fn hfn
      refine ⟨fun w => callFunc_run h1 h2 h3 _ w, ?_⟩
      split at h
      · rename_i t ht'
        refine Calls.mono (ho g vs s t ht' W L ρ w _ hI hok (Tree.OK_bind t h)) ?_
        rintro e w' ⟨v, s', ρ', he, hag, hle, hv, hI', hp⟩
        exact ⟨v, s', ρ', he, hag, hle, hv, hI', hp⟩
      · split at h
        · exact h.elim
        rename_i c hc
        cases hb : Nat.ble vs.length fn.ntmps <;> simp only [hb, cond_true, cond_false] at h
        · exact h.elim
        rw [mkFrK_eq] at h
        have h := Tree.OK_bind _ h
        refine callTree_of_wp h1 hc ?_
        refine ih 0 _ _ s W L ρ _ w _ _ h (mkFr_rel (Nat.le_of_ble_eq_true hb) (hsz g fn hfn) hok) hI ?_
        intro lf a' w' ρ' hp hag hle hf' hI'
        cases he : lf.ended
        · simp only [he, cond_false] at hp
          exact hp.elim
        · simp only [he, cond_true] at hp
          simp only [if_true]
          split at hp
          · rename_i v hv
            have := results1_sound (P := P) hI' hf' hv
            exact ⟨⟨hf'.defers, _, this.1, v, lf.s, ρ', rfl, hag, hle, this.2, hI', hp⟩, ⟨hf'.defers, _, this.1, v, lf.s, ρ', rfl, hag, hle, this.2, hI', hp⟩⟩
          · exact hp.elim
    have hcallC : CallCOK P (callOfC P orc tab n) := by
      intro g vs K post h hok
      have hargs : ∀ ρ : Rh, (vs.map (SV.den ρ)) = vs.map (SV.den Rh0) := fun ρ => List.map_congr_left fun x hx => SV.den_agree (fun i hi => absurd hi (Nat.not_lt_zero _)) (hok x hx)
      have fin : ∀ (W : World) (L : Nat) (ρ : Rh) (s : SW) (w : World) (v : SV) (s' : SW) (ρ' : Rh) (w' : World), Inv P.E W L ρ s w → v.ok 0 = true → Inv P.E w 0 ρ' s' w' → v.den ρ' = v.den ρ ∧ Inv P.E W L ρ s w' :=
        fun W L ρ s w v s' ρ' w' hI hv hI' => ⟨(SV.den_agree (n := 0) (fun i hi => absurd hi (Nat.not_lt_zero _)) hv), hI.frame hI'⟩
      unfold callOfC at h
      split at h
      · exact h.elim
      rename_i fn hfn
      obtain ⟨h1, h2, h3⟩ := ht g fn hfn
      split at h
      · rename_i t ht'
        obtain ⟨r, hr, hone⟩ := Tree.OK_one t (Tree.OK_bind t h)
        cases hb : r.1.ok 0 <;> simp only [hb, cond_true, cond_false] at hr
        · exact hr.elim
        refine ⟨r.1, hb, hr, fun args w => callFunc_run h1 h2 h3 args w, fun W L ρ s w hI => ?_⟩
        rw [hargs ρ]
        refine Calls.mono (ho g vs [] t ht' w 0 (Rh0) w _ (Inv.start hI.ext) hok hone) ?_
        rintro e w' ⟨v, s', ρ', rfl, hag, hle, hv, hI', hp⟩
        subst hp
        obtain ⟨h4, h5⟩ := fin W L ρ s w v s' ρ' w' hI hb hI'
        exact ⟨by rw [h4], h5⟩
      · split at h
        · exact h.elim
        rename_i c hc
        cases hb : Nat.ble vs.length fn.ntmps <;> simp only [hb, cond_true, cond_false] at h
        · exact h.elim
        rw [mkFrK_eq] at h
        obtain ⟨lf, hlf, hone⟩ := Tree.OK_one _ (Tree.OK_bind _ h)
        cases he : lf.ended <;> simp only [he, cond_true, cond_false] at hlf
        · exact hlf.elim
        split at hlf
        · rename_i v hv
          cases hb' : v.ok 0 <;> simp only [hb', cond_true, cond_false] at hlf
          · exact hlf.elim
          refine ⟨v, hb', hlf, fun args w => callFunc_run h1 h2 h3 args w, fun W L ρ s w hI => ?_⟩
          rw [hargs ρ]
          refine callTree_of_wp h1 hc ?_
          refine ih 0 _ _ [] w 0 (Rh0) _ w _ _ hone (mkFr_rel (Nat.le_of_ble_eq_true hb) (hsz g fn hfn) hok) (Inv.start hI.ext) ?_
          intro lf' a' w' ρ' hp hag hle hf' hI'
          subst hp
          simp only [he, if_true]
          have := results1_sound (P := P) hI' hf' hv
          obtain ⟨h4, h5⟩ := fin W L ρ s w v lf'.s ρ' w' hI hb' hI'
          exact ⟨⟨hf'.defers, _, this.1, by rw [h4], h5⟩, ⟨hf'.defers, _, this.1, by rw [h4], h5⟩⟩
        · exact hlf.elim
    have hcallD : CallDOK P (callOf P orc tab n) := by
      intro g vs s K post h hok
      unfold callOf at h
      split at h
      · exact h.elim
      rename_i fn hfn
      obtain ⟨h1, h2, h3⟩ := ht g fn hfn
      split at h
      · rename_i t ht'
        obtain ⟨r, hr, hone⟩ := Tree.OK_one t (Tree.OK_bind t h)
        refine ⟨r.1, r.2, hr, fun args w => callFunc_run h1 h2 h3 args w, fun W L ρ w hI => ?_⟩
        refine Calls.mono (ho g vs s t ht' W L ρ w _ hI hok hone) ?_
        rintro e w' ⟨v, s', ρ', rfl, hag, hle, hv, hI', hp⟩
        subst hp
        exact ⟨ρ', rfl, hag, hle, hv, hI'⟩
      · split at h
        · exact h.elim
        rename_i c hc
        cases hb : Nat.ble vs.length fn.ntmps <;> simp only [hb, cond_true, cond_false] at h
        · exact h.elim
        rw [mkFrK_eq] at h
        obtain ⟨lf, hlf, hone⟩ := Tree.OK_one _ (Tree.OK_bind _ h)
        cases he : lf.ended <;> simp only [he, cond_true, cond_false] at hlf
        · exact hlf.elim
        split at hlf
        · rename_i v hv
          refine ⟨v, lf.s, hlf, fun args w => callFunc_run h1 h2 h3 args w, fun W L ρ w hI => ?_⟩
          refine callTree_of_wp h1 hc ?_
          refine ih 0 _ _ s W L ρ _ w _ _ hone (mkFr_rel (Nat.le_of_ble_eq_true hb) (hsz g fn hfn) hok) hI ?_
          intro lf' a' w' ρ' hp hag hle hf' hI'
          subst hp
          simp only [he, if_true]
          have := results1_sound (P := P) hI' hf' hv
          exact ⟨⟨hf'.defers, _, this.1, ρ', rfl, hag, hle, this.2, hI'⟩, ⟨hf'.defers, _, this.1, ρ', rfl, hag, hle, this.2, hI'⟩⟩
        · exact hlf.elim
    have again : ∀ todo', (run P orc tab n brk todo' fr s).OK post → TodoWp P todo' Q a w := fun todo' h => ih _ _ _ _ _ _ _ _ _ _ _ h hf hI hQ
    have stop : ∀ todo', post ⟨todo', false, fr, s⟩ → TodoWp P todo' Q a w := fun todo' h => by
      have := hQ _ a w ρ h (Agree.refl _ _) (Nat.le_refl _) hf hI
      simpa using this
    have done : post ⟨[], true, fr, s⟩ → Q .normal a w ∧ Q .ret a w := fun h => by
      have := hQ _ a w ρ h (Agree.refl _ _) (Nat.le_refl _) hf hI
      simpa using this
    have cont : ∀ (k : List Item) (fr' : Fr) (s' : SW) (ρ' : Rh) (a' : Act) (w' : World), (run P orc tab n brk k fr' s').OK post → Agree s.length ρ ρ' → s.length ≤ s'.length →
        FrRel s'.length ρ' fr' a' → Inv P.E W L ρ' s' w' → TodoWp P k Q a' w' := fun k fr' s' ρ' a' w' h hag hle hf' hI' =>
      ih _ _ _ _ _ _ _ _ _ _ _ h hf' hI' fun lf a'' w'' ρ'' hp hag' hle' hf'' hI'' =>
        hQ lf a'' w'' ρ'' hp (hag.trans hag' hle) (Nat.le_trans hle hle') hf'' hI''
    simp only [run] at h
    split at h
    · exact TodoWp.nil (done h).1
    · exact TodoWp.ret (done h).2
    · exact TodoWp.skip (again _ h)
    · exact TodoWp.label (again _ h)
    · exact TodoWp.inBlock (again _ h)
    · exact TodoWp.inScope (again _ h)
    · exact TodoWp.seq (again _ h)
    · exact TodoWp.scope (again _ h)
    · exact TodoWp.block (again _ h)
    · rename_i c k
      cases hb : Nat.beq (Nat.land 1 (Nat.shiftRight brk k.length)) 1 <;> simp only [hb, cond_true, cond_false] at h
      · exact TodoWp.loop (again _ h)
      · exact TodoWp.loop (stop _ h)
    · rename_i c k
      cases hb : Nat.beq (Nat.land 1 (Nat.shiftRight brk k.length)) 1 <;> simp only [hb, cond_true, cond_false] at h
      · exact TodoWp.inLoop (again _ h)
      · exact TodoWp.inLoop (stop _ h)
    · split at h
      · rename_i k' hk; exact TodoWp.exit hk (again _ h)
      · exact h.elim
    · split at h
      · rename_i lit v hv
        have h1 : a.eval _ = .bool v := (FrRel.ev hf _ _ hv).1
        cases lit <;> simp only [cond_true, cond_false] at h
        · obtain ⟨fr', hf', h2, h3⟩ := forkK_sound hf hv h
          cases v
          · exact TodoWp.cond h1 (ih _ _ _ _ _ _ _ _ _ _ _ (h3 rfl) hf' hI hQ)
          · exact TodoWp.cond h1 (ih _ _ _ _ _ _ _ _ _ _ _ (h2 rfl) hf' hI hQ)
        · cases v <;> simp only [cond_true, cond_false] at h
          · exact TodoWp.cond h1 (again _ h)
          · exact TodoWp.cond h1 (again _ h)
      · exact h.elim
    · rename_i id ops draw k
      cases draw <;> simp only [cond_true, cond_false] at h
      · refine TodoWp.code (wp_region (SeqWp.ops _ _ _ ?_))
        exact opsK_sound (hcall W L) _ h hf hI fun fr' s' ρ' a' w' h hag hle hf' hI' => cont _ _ _ _ _ _ h hag hle hf' hI'
      · cases hs : Region.noSelect ops <;> simp only [hs, cond_true, cond_false] at h
        · exact h.elim
        split at h
        · rename_i l hl
          refine TodoWp.code (sched_wp hm hs hl ?_)
          exact opsK_sound (hcall W L) _ h hf (hI.drawn _) fun fr' s' ρ' a' w' h hag hle hf' hI' => cont _ _ _ _ _ _ h hag hle hf' hI'
        · split at h
          · rename_i l hl
            refine TodoWp.code (schedC_wp hm hs hl (show Just P.E W L ρ s (Inv P.E W L ρ s) from rfl) (hI.drawn _) ?_)
            exact opsD_sound hcallD _ h hf hI fun fr' s' ρ' a' w' h hag hle hf' hI' => cont _ _ _ _ _ _ h hag hle hf' hI'
          · split at h
            · rename_i l hl
              refine TodoWp.code (schedC_wp hm hs hl Kinds.self (hI.drawn _) ?_)
              exact opsC_sound hcallC _ h hf hI fun fr' s' ρ' a' w' h hag hle hf' hI' => cont _ _ _ _ _ _ h hag hle hf' hI'
            · exact h.elim
    · exact h.elim

/-- The tree of a function: its body run, its results read. -/
def fnTree (P : PE) (orc : Orc) (tab : Tab) (fuel : Nat) (fn : Func) (vs : List SV) (s : SW) : Tree (SV × SW) :=
  match fn.body with
  | none => .fail
  | some c => cond (Nat.ble vs.length fn.ntmps) (mkFrK (Tr.mk 12) 0 vs fun t =>
      (run P orc tab fuel 0 [.code c] ⟨fn.ntmps, t⟩ s).bind fun lf => cond lf.ended (match results1 P fn lf.fr lf.s with | some v => .leaf (v, lf.s) | none => .fail) .fail) .fail

theorem fnTree_sound {orc : Orc} {tab : Tab} (ho : OrcOK P orc) (ht : TabOK P tab) (hsz : ∀ g fn, tab g = some fn → fn.ntmps < 4095) (hm : P.follows .mixedOrders = true)
    (fuel : Nat) {g : FuncId} {fn : Func} (hf : P.funcs[g]? = some fn) (hnt : fn.ntmps < 4095) (vs : List SV) (s : SW) : CallTree P g vs s (fnTree P orc tab fuel fn vs s) := by
  intro W L ρ w post hI hok h
  unfold fnTree at h
  split at h
  · exact h.elim
  rename_i c hc
  cases hb : Nat.ble vs.length fn.ntmps <;> simp only [hb, cond_true, cond_false] at h
  · exact h.elim
  rw [mkFrK_eq] at h
  have h := Tree.OK_bind _ h
  refine callTree_of_wp hf hc ?_
  refine run_sound ho ht hsz hm fuel 0 _ _ s W L ρ _ w _ _ h (mkFr_rel (Nat.le_of_ble_eq_true hb) hnt hok) hI ?_
  intro lf a' w' ρ' hp hag hle hf' hI'
  cases he : lf.ended
  · simp only [he, cond_false] at hp
    exact hp.elim
  · simp only [he, cond_true] at hp
    simp only [if_true]
    split at hp
    · rename_i v hv
      have := results1_sound (P := P) hI' hf' hv
      exact ⟨⟨hf'.defers, _, this.1, v, lf.s, ρ', rfl, hag, hle, this.2, hI', hp⟩, ⟨hf'.defers, _, this.1, v, lf.s, ρ', rfl, hag, hle, this.2, hI', hp⟩⟩
    · exact hp.elim

/-- A law: called with plain values it answers true, and nothing that was there has changed. -/
theorem law_of_tree {g : FuncId} {vs : List SV} {t : Tree (SV × SW)} (hc : CallTree P g vs [] t) (hok : ∀ v ∈ vs, v.ok 0 = true) (args : Array Value)
    (hargs : (vs.map (SV.den Rh0)).toArray = args) (ht : t.OK fun r => ∃ l, r.1 = .c (.b l true)) (w : World) (hE : P.E = w) :
    Calls P g args w fun e w' => e = .returned (.bool true) ∧ Grew w w' := by
  subst hargs
  refine Calls.mono (hc w 0 (Rh0) w _ (Inv.start (ρ := Rh0) (n := 0) (by rw [hE]; exact ExtI.refl w _)) hok ht) ?_
  rintro e w' ⟨v, s', ρ', rfl, _, _, _, hI, l, hv⟩
  simp only at hv
  subst hv
  exact ⟨rfl, hI.grown⟩

def orcNone : Orc := fun _ _ _ => none
theorem orcNone_ok : OrcOK P orcNone := fun _ _ _ _ h => nomatch h
/-- A table of functions, by a list. -/
def tabL : List (FuncId × Func) → Tab
  | [], _ => none
  | (i, f) :: r, g => cond (Nat.beq i g) (some f) (tabL r g)
def FnOK (P : Program) (p : FuncId × Func) : Prop := P.funcs[p.1]? = some p.2 ∧ (p.2.name == "runtime.NumGoroutine") = false ∧ p.2.body.isSome = true ∧ p.2.ntmps < 4095
theorem tabL_ok {l : List (FuncId × Func)} (h : ∀ p, p ∈ l → FnOK P.toProgram p) : TabOK P (tabL l) := by
  intro g fn hg
  induction l with
  | nil => cases hg
  | cons p r ih =>
    obtain ⟨i, f⟩ := p
    simp only [tabL] at hg
    cases hb : Nat.beq i g <;> simp only [hb, cond_true, cond_false] at hg
    · exact ih (fun q hq => h q (List.mem_cons_of_mem _ hq)) hg
    · simp at hg; subst hg
      have := Nat.eq_of_beq_eq_true hb
      subst this
      have := h (i, f) List.mem_cons_self
      exact ⟨this.1, this.2.1, this.2.2.1⟩
theorem tabL_sz {P : Program} {l : List (FuncId × Func)} (h : ∀ p, p ∈ l → FnOK P p) : ∀ g fn, tabL l g = some fn → fn.ntmps < 4095 := by
  intro g fn hg
  induction l with
  | nil => cases hg
  | cons p r ih =>
    obtain ⟨i, f⟩ := p
    simp only [tabL] at hg
    cases hb : Nat.beq i g <;> simp only [hb, cond_true, cond_false] at hg
    · exact ih (fun q hq => h q (List.mem_cons_of_mem _ hq)) hg
    · simp at hg; subst hg
      exact (h (i, f) List.mem_cons_self).2.2.2
theorem fn_cons {P : Program} {p : FuncId × Func} {l : List (FuncId × Func)} (hp : FnOK P p) (hl : ∀ q, q ∈ l → FnOK P q) : ∀ q, q ∈ p :: l → FnOK P q :=
  fun q hq => (List.mem_cons.1 hq).elim (fun e => e ▸ hp) (hl q)
theorem fn_nil {P : Program} : ∀ q, q ∈ ([] : List (FuncId × Func)) → FnOK P q := fun _ h => nomatch h
end
end Go.Proofs.Ytkeinfmfkcgkhaa.Ev

namespace Go.Proofs.Ytkeinfmfkcgkhaa.Ev
open Go

/-! ### 10. Laws and contracts -/

def isF : Tree (SV × SW) → Bool
  | .leaf (.c (.b true v), _) => !v
  | _ => false
/-- What is to be shown of a law. -/
def lawP : Tree (SV × SW) → Prop
  | .leaf (.c (.b _ v), _) => v = true
  | .leaf _ => False
  | .node b t f => cond (isF f) (b = true ∧ lawP t) (cond (isF t) (b = false ∧ lawP f) ((b = true → lawP t) ∧ (b = false → lawP f)))
  | .need b t => b = true ∧ lawP t
  | .fail => False

theorem lawP_OK : ∀ (t : Tree (SV × SW)), lawP t → t.OK fun r => ∃ l, r.1 = .c (.b l true) := by
  intro t
  induction t with
  | leaf x =>
    intro h
    obtain ⟨v, s⟩ := x
    cases v with
    | c x =>
      cases x with
      | b l v => simp only [lawP] at h; subst h; exact ⟨l, rfl⟩
      | _ => exact h.elim
    | _ => exact h.elim
  | node b t f iht ihf =>
    intro h
    simp only [lawP] at h
    cases h1 : isF f <;> simp only [h1, cond_true, cond_false] at h
    · cases h2 : isF t <;> simp only [h2, cond_true, cond_false] at h
      · exact ⟨fun hb => iht (h.1 hb), fun hb => ihf (h.2 hb)⟩
      · exact ⟨fun hb => absurd (h.1.symm.trans hb) (by decide), fun _ => ihf h.2⟩
    · exact ⟨fun _ => iht h.2, fun hb => absurd (h.1.symm.trans hb) (by decide)⟩
  | need b t ih => exact fun h => ⟨h.1, ih h.2⟩
  | fail => exact id

def C.sim : C → C → Prop
  | .b _ u, .b _ v => u = v
  | .i _ k u, .i _ k' v => k = k' ∧ u = v
  | .str _ u, .str _ v => u = v
  | .strn _ u, .str _ v => u = v
  | .str _ u, .strn _ v => u = v
  | .strn _ u, .strn _ v => u = v
  | u, v => u = v
def simL {α : Type} (r : α → α → Prop) : List α → List α → Prop
  | [], [] => True
  | [x], [y] => r x y
  | x :: xs, y :: ys => r x y ∧ simL r xs ys
  | _, _ => False
def S1.sim : S1 → S1 → Prop
  | .c u, .c v => C.sim u v
  | .a u, .a v => simL C.sim u v
  | _, _ => False
def SV.sim : SV → SV → Prop
  | .c u, .c v => C.sim u v
  | .a u, .a v => simL C.sim u v
  | .t u, .t v => simL S1.sim u v
  | _, _ => False

theorem C.sim_den {ρ : Rh} {x y : C} (h : x.sim y) : x.den ρ = y.den ρ := by
  cases x <;> cases y <;> simp only [C.sim, C.den] at h ⊢ <;> first | (cases h; done) | (cases h; rfl) | (obtain ⟨rfl, rfl⟩ := h; rfl)
theorem simL_map {α : Type} {r : α → α → Prop} {f : α → Value} (hr : ∀ x y, r x y → f x = f y) : ∀ (l l' : List α), simL r l l' → l.map f = l'.map f
  | [], [], _ => rfl
  | [x], [y], h => by simp only [List.map_cons, List.map_nil]; rw [hr _ _ h]
  | x :: x' :: xs, y :: ys, h => by
    have h : r x y ∧ simL r (x' :: xs) ys := by cases ys <;> exact h
    simp only [List.map_cons]; rw [hr _ _ h.1]
    have := simL_map hr (x' :: xs) ys h.2
    simp only [List.map_cons] at this
    rw [← this]
  | [x], y :: y' :: ys, h => by
    have h : r x y ∧ simL r [] (y' :: ys) := h
    exact h.2.elim
  | [], _ :: _, h => by cases h
  | _ :: _, [], h => by cases ‹List α› <;> cases h
theorem S1.sim_den {ρ : Rh} {x y : S1} (h : x.sim y) : x.den ρ = y.den ρ := by
  cases x <;> cases y <;> simp only [S1.sim, S1.den] at h ⊢
  · exact C.sim_den h
  · unfold denL; rw [simL_map (fun _ _ h => C.sim_den h) _ _ h]
theorem SV.sim_den {ρ : Rh} {x y : SV} (h : x.sim y) : x.den ρ = y.den ρ := by
  cases x <;> cases y <;> simp only [SV.sim, SV.den] at h ⊢
  · exact C.sim_den h
  · unfold denL; rw [simL_map (fun _ _ h => C.sim_den h) _ _ h]
  · rw [simL_map (fun _ _ h => S1.sim_den h) _ _ h]

section
variable {P : PE}

/-- A contract of a function of plain values. -/
theorem pure_contract {g : FuncId} {vs : List SV} {t : Tree (SV × SW)} (h : CallTree P g vs [] t) (hvs : ∀ v ∈ vs, v.ok 0 = true) {v : SV} (hv : v.ok 0 = true)
    (ht : t.OK fun r => r.1.sim v) (s : SW) : CallTree P g vs s (.leaf (v, s)) := by
  intro W L ρ w post hI _ hp
  have hag : Agree 0 (Rh0) ρ := fun i hi => absurd hi (Nat.not_lt_zero _)
  have hargs : (vs.map (SV.den ρ)) = vs.map (SV.den Rh0) := List.map_congr_left fun x hx => SV.den_agree hag (hvs x hx)
  rw [hargs]
  refine Calls.mono (h w 0 (Rh0) w _ (Inv.start hI.ext) hvs ht) ?_
  rintro e w' ⟨v', s', ρ', rfl, _, _, _, hI', hs⟩
  refine ⟨v, s, ρ, ?_, Agree.refl _ _, Nat.le_refl _, SV.ok_mono (Nat.zero_le _) hv, hI.frame hI', hp⟩
  have h1 : v'.den ρ' = v.den ρ' := SV.sim_den hs
  have h2 : v.den ρ' = v.den ρ := SV.den_agree (n := 0) (fun i hi => absurd hi (Nat.not_lt_zero _)) hv
  rw [h1, h2]

/-- What is to be shown of a contract. -/
def conP (v : SV) : Tree (SV × SW) → Prop
  | .leaf (u, _) => SV.sim u v
  | .node b t f => (b = true → conP v t) ∧ (b = false → conP v f)
  | .need b t => b = true ∧ conP v t
  | .fail => False
theorem conP_OK {v : SV} : ∀ (t : Tree (SV × SW)), conP v t → t.OK fun r => r.1.sim v := by
  intro t
  induction t with
  | leaf x => exact id
  | node b t f iht ihf => exact fun h => ⟨fun hb => iht (h.1 hb), fun hb => ihf (h.2 hb)⟩
  | need b t ih => exact fun h => ⟨h.1, ih h.2⟩
  | fail => exact id

theorem CallTree.need {g : FuncId} {vs : List SV} {s : SW} {t : Tree (SV × SW)} {b : Bool} (h : b = true → CallTree P g vs s t) : CallTree P g vs s (.need b t) :=
  fun W L ρ w post hI hok ht => h ht.1 W L ρ w post hI hok ht.2

/-- Two contracts in one. -/
def orcOr (a b : Orc) : Orc := fun g vs s => match a g vs s with | some t => some t | none => b g vs s
theorem orcOr_ok {a b : Orc} (ha : OrcOK P a) (hb : OrcOK P b) : OrcOK P (orcOr a b) := by
  intro g vs s t h
  unfold orcOr at h
  split at h
  · rename_i t' ht; simp at h; subst h; exact ha _ _ _ _ ht
  · exact hb _ _ _ _ h
end

/-! ### 11. Arithmetic -/
theorem wu8 (x : Int) : IntKind.u8.wrap x = x % 256 := by simp [IntKind.wrap, IntKind.bits, IntKind.signed]
theorem wu16 (x : Int) : IntKind.u16.wrap x = x % 65536 := by simp [IntKind.wrap, IntKind.bits, IntKind.signed]
theorem wu32 (x : Int) : IntKind.u32.wrap x = x % 4294967296 := by simp [IntKind.wrap, IntKind.bits, IntKind.signed]
theorem wu64 (x : Int) : IntKind.u64.wrap x = x % 18446744073709551616 := by simp [IntKind.wrap, IntKind.bits, IntKind.signed]
theorem wi8 (x : Int) : IntKind.i8.wrap x = (x + 128) % 256 - 128 := by
  simp [IntKind.wrap, IntKind.bits, IntKind.signed]; split <;> omega
theorem wi16 (x : Int) : IntKind.i16.wrap x = (x + 32768) % 65536 - 32768 := by
  simp [IntKind.wrap, IntKind.bits, IntKind.signed]; split <;> omega
theorem wi32 (x : Int) : IntKind.i32.wrap x = (x + 2147483648) % 4294967296 - 2147483648 := by
  simp [IntKind.wrap, IntKind.bits, IntKind.signed]; split <;> omega
theorem wi64 (x : Int) : IntKind.i64.wrap x = (x + 9223372036854775808) % 18446744073709551616 - 9223372036854775808 := by
  simp [IntKind.wrap, IntKind.bits, IntKind.signed]; split <;> omega
theorem fdiv_pow (x : Int) (n : Nat) : x.fdiv (2 ^ n) = x / 2 ^ n := by
  rw [Int.fdiv_eq_ediv_of_nonneg]; exact Int.le_of_lt (Int.pow_pos (by decide))
theorem fdiv_lit (x k : Int) (hk : 0 ≤ k) : x.fdiv k = x / k := Int.fdiv_eq_ediv_of_nonneg _ hk
theorem tmod_n (x k : Int) (hx : 0 ≤ x) : x.tmod k = x % k := Int.tmod_eq_emod_of_nonneg hx
theorem tdiv_n (x k : Int) (hx : 0 ≤ x) : x.tdiv k = x / k := Int.tdiv_eq_ediv_of_nonneg hx

/-- To mask off the lower m bits. -/
theorem and_mask (k : IntKind) (x : Int) (m : Nat) (hm : m < k.bits ∨ (k.signed = false ∧ m = k.bits)) : bits .and k x (2 ^ m - 1) = x % 2 ^ m := by
  have hmle : m ≤ k.bits := by rcases hm with h | h <;> omega
  have hp : (0 : Int) < 2 ^ m := Int.pow_pos (by decide)
  have h1 : ((BitVec.ofInt k.bits x &&& BitVec.ofInt k.bits (2 ^ m - 1)).toNat : Int) = x % 2 ^ m := by
    rw [BitVec.toNat_and, BitVec.toNat_ofInt, BitVec.toNat_ofInt]
    have e1 : ((2 ^ m - 1 : Int) % ((2 ^ k.bits : Nat) : Int)).toNat = 2 ^ m - 1 := by
      have : (2 : Int) ^ m ≤ 2 ^ k.bits := by exact_mod_cast Nat.pow_le_pow_right (by decide) hmle
      rw [Int.emod_eq_of_lt (by omega) (by push_cast; omega)]
      have : ((2 ^ m : Nat) : Int) = 2 ^ m := by push_cast; rfl
      omega
    rw [e1, Nat.and_two_pow_sub_one_eq_mod]
    have e2 : 0 ≤ x % ((2 ^ k.bits : Nat) : Int) := Int.emod_nonneg _ (by have := Nat.two_pow_pos k.bits; omega)
    rw [Int.natCast_emod, Int.toNat_of_nonneg e2]
    push_cast
    rw [Int.emod_emod_of_dvd]
    exact ⟨2 ^ (k.bits - m), by rw [← Int.pow_add, Nat.add_sub_cancel' hmle]⟩
  have hlt : x % 2 ^ m < 2 ^ m := Int.emod_lt_of_pos _ hp
  have hnn : 0 ≤ x % 2 ^ m := Int.emod_nonneg _ (by omega)
  unfold bits
  simp only [h1]
  have hb : ((2 : Int) ^ m) ≤ 2 ^ k.bits := by exact_mod_cast Nat.pow_le_pow_right (by decide) hmle
  unfold IntKind.wrap
  simp only []
  rw [Int.emod_eq_of_lt hnn (by omega)]
  rcases hm with h | h
  · have h2 : ((2 : Int) ^ m) ≤ 2 ^ (k.bits - 1) := by exact_mod_cast Nat.pow_le_pow_right (by decide) (by omega)
    rw [if_neg]
    simp only [Bool.and_eq_true, decide_eq_true_eq, not_and]
    intro _
    omega
  · rw [if_neg]
    simp [h.1]
end Go.Proofs.Ytkeinfmfkcgkhaa.Ev

namespace Go.Proofs.Ytkeinfmfkcgkhaa.Ev
open Go Go.ChangeShapes Go.WideShapes Go.ChangeAt Go.RowKit
section
variable {H : Type} {enc : TypeId × Value → H} {P : Program}

theorem grown_block {W W' : World} (h : Grew W W') {i : Nat} (hi : i < W.heap.size) : W'.heap[i]? = W.heap[i]? :=
  World.keptBut.block h.1 hi fun _ f => f.elim

theorem grown_sameAt {W W' : World} (h : Grew W W') {q : MemPlace} (hq : q.block < W.heap.size) : W.sameAt W' q := by
  cases q with
  | cell b off =>
    have := grown_block h (i := b) hq
    simp only [World.sameAt, World.cell?, this]
  | map b => exact grown_block h (i := b) hq

theorem trodAll_carry {W W' : World} {base : Nat} {sp : Nat → Bool} {held : Bool} : ∀ {ts : List TypeId} {vs : List Value} {ds : List (DataW H)} {ps : List MemPlace},
    DataW.TrodAll enc P W base sp held ts vs ds ps → (∀ q ∈ ps, W.sameAt W' q) → DataW.TrodAll enc P W' base sp held ts vs ds ps
  | [], [], [], _, h, _ => h
  | _ :: _, _ :: _, _ :: _, _, ⟨p, q, ⟨n, hn⟩, h2, e⟩, hs =>
    ⟨p, q, ⟨n, DataW.trod_carry n _ _ _ hn fun x hx => hs x (by rw [e]; exact List.mem_append_left _ hx)⟩, trodAll_carry h2 (fun x hx => hs x (by rw [e]; exact List.mem_append_right _ hx)), e⟩

/-- What is asked of a program's types: looked at once. -/
structure TypesOK (P : Program) : Prop where
  laid : laidOutB P = true
  maps : mapsRowed P = true
  full : ∀ t e, t < P.types.size → P.underlying t = some (.slice e) → 0 < P.cellsOf e

/-- Arguments read behind a law as they read before. -/
theorem args_again {W W' : World} {ts : List TypeId} {vs : List Value} {ds : List (DataW H)} {ps : List MemPlace} (hz : TypesOK P) (hts : ∀ t ∈ ts, t < P.types.size)
    (hA : DataW.TrodAll enc P W 0 (fun _ => true) true ts vs ds ps) (hg : Grew W W') (hlt : ∀ q ∈ ps, q.block < W.heap.size) (sp : Nat → Bool) (hs : ∀ q ∈ ps, sp q.block = true) :
    DataW.TrodAll enc P W' 0 sp true ts vs ds ps :=
  trodAll_carry (hA.respare (kids_rows hz.laid hz.maps) (fun t e h1 h2 => hz.full t e h1 h2) hts hs) fun q hq => grown_sameAt hg (hlt q hq)

theorem frozen_kept {W W' : World} (h : Grew W W') (a : Addr) (ha : a.block < W.heap.size) : W'.frozen? a = W.frozen? a := by
  have := grown_block h ha
  unfold World.frozen?
  rw [this]
theorem post_of_kept {f : Func} {s : ChangeSpec} {apart fresh handsOn again : Bool} {W W' : World} {args : Array Value} {v : Value} {ds gs : List (DataW H)} {before pa pv : List MemPlace}
    (hW : DataW.Whole enc P f.params.toList s.vars apart W args.toList ds gs before)
    (hres : ∀ (b : Nat) (sp : Nat → Bool) (hd : Bool), DataW.TrodAll enc P W' b sp hd f.resultTypes.toList (v.resultList f.resultTypes.size) (s.fn H (ds ++ gs)).results [])
    (hargs : ∀ sp : Nat → Bool, (∀ p ∈ before, sp p.block = true) → DataW.TrodAll enc P W' 0 sp true f.params.toList args.toList (s.fn H (ds ++ gs)).args pa)
    (hvars : ∀ sp : Nat → Bool, (∀ p ∈ before, sp p.block = true) → DataW.TrodVars enc P W' sp s.vars (s.fn H (ds ++ gs)).vars pv)
    (hps : before = pa ++ pv) (hk : W.keptBut W' (· ∈ before)) (hfz : ∀ a : Addr, a.block < W.heap.size → W'.frozen? a = W.frozen? a)
    (hok : ∀ (j : Nat) (t : TypeId) (r : Value), f.resultTypes[j]? = some t → (v.resultList f.resultTypes.size)[j]? = some r → Value.okWide P W' .any 0 t r) :
    s.post enc P f apart fresh handsOn again W args v W' := by
  have hold : ∀ p ∈ before, (fun b => decide (b < W.heap.size)) p.block = true := fun p hp => by simpa using hW.lt p hp
  have hlt := fun p hp => hW.lt p hp
  refine ⟨ds, gs, before, [], pa, pv, hW, hres _ _ _, hargs _ hold, hvars _ hold, World.keptBut_mono (fun p hp => ⟨hp, ?_⟩) hk, fun _ => ?_⟩
  · rw [hps, List.mem_append] at hp
    exact Or.inr hp
  · obtain ⟨_, _, _, _, _, hz, hn⟩ := hW
    refine ⟨hok, _, _, ([] ++ pa) ++ pv, ⟨[] ++ pa, pv, trodAll_append (hargs _ (fun _ _ => rfl)) (hres _ _ _), hvars _ (fun _ _ => rfl), rfl, ?_, ?_⟩, ?_⟩
    · intro b off hp
      have hp' : MemPlace.cell b off ∈ before := by rw [hps]; simpa using hp
      rw [hfz _ (hlt _ hp')]
      exact hz b off hp'
    · intro ha
      have := hn ha
      rw [hps] at this
      simpa using this
    · intro p hp _
      rw [hps]
      simpa using hp

/-- What a law leaves, whatever its arguments are. -/
theorem law_post {f : Func} {s : ChangeSpec} {W W' : World} {args : Array Value} {ds gs : List (DataW H)} {before : List MemPlace} {bt : TypeId}
    (hW : DataW.Whole enc P f.params.toList s.vars false W args.toList ds gs before) (hv : s.vars = []) (hz : TypesOK P) (hts : ∀ t ∈ f.params.toList, t < P.types.size)
    (hres : f.resultTypes = #[bt]) (hbt : P.underlying bt = some .bool) (hfn : (s.fn H (ds ++ gs)).results = [.lit (.bool true)]) (hfa : (s.fn H (ds ++ gs)).args = ds) (hfv : (s.fn H (ds ++ gs)).vars = [])
    (hg : Grew W W') : s.post enc P f false true false false W args (.bool true) W' := by
  have hW' := hW
  obtain ⟨p, q, hA, hV, rfl, hfz, hnd⟩ := hW
  rw [hv] at hV
  obtain ⟨rfl, rfl⟩ := trodVars_none hV
  refine post_of_kept (pa := p) (pv := []) hW' (fun _ _ _ => ?_) (fun sp hs => ?_) (fun sp _ => ?_) rfl (World.keptBut_mono (fun _ f => f.elim) hg.1) (fun a ha => frozen_kept hg a ha) ?_
  · rw [hres, hfn]
    exact trodAll_cons_mk (shut_bool hbt _) trodAll_mk0
  · rw [hfa]
    exact args_again hz hts hA hg (fun q hq => hW'.lt q (List.mem_append_left _ hq)) sp fun q hq => hs q (List.mem_append_left _ hq)
  · rw [hfv, hv]; rfl
  · exact ok_one hres rfl (okWide_bool_mk hbt _)

/-! A struct of numbers, bools and texts, opened. -/
inductive FK where
  | i (k : IntKind)
  | b
  | s
def flatB (P : Program) : List Field → List FK → Nat → Bool
  | [], [], _ => true
  | f :: fs, k :: ks, j => Nat.beq f.offset j && Nat.beq (P.cellsOf f.type) 1 && (match P.underlying f.type, k with
      | some (.int k'), .i k => k' == k
      | some .bool, .b => true
      | some .string, .s => true
      | _, _ => false) && flatB P fs ks (j + 1)
  | _, _, _ => false
def FlatV : List FK → List Value → Prop
  | [], [] => True
  | .i k :: ks, v :: vs => (∃ n, v = .int k n ∧ (Lit.int k n).wf = true) ∧ FlatV ks vs
  | .b :: ks, v :: vs => (∃ n, v = .bool n) ∧ FlatV ks vs
  | .s :: ks, v :: vs => (∃ n, v = .string n) ∧ FlatV ks vs
  | _, _ => False

theorem flat_go {w : World} {base : Nat} {sp : Nat → Bool} {held : Bool} {n : Nat} {cs : List Value} : ∀ (fs : List Field) (ks : List FK) (j : Nat), flatB P fs ks j = true →
    (∀ f ∈ fs, ∃ y, DataW.trod enc P w base sp held n f.type ((cs.drop f.offset).take (P.cellsOf f.type)) = some y) → cs.length = j + ks.length → FlatV ks (cs.drop j)
  | [], [], j, _, _, hl => by
    rw [List.drop_of_length_le (by simp at hl; omega)]; trivial
  | f :: fs, k :: ks, j, hb, hf, hl => by
    simp only [flatB, Bool.and_eq_true] at hb
    obtain ⟨⟨⟨h1, h2⟩, h3⟩, h4⟩ := hb
    have h1 := Nat.eq_of_beq_eq_true h1
    have h2 := Nat.eq_of_beq_eq_true h2
    have hj : j < cs.length := by simp at hl; omega
    have ih := flat_go fs ks (j + 1) h4 (fun f hf' => hf f (List.mem_cons_of_mem _ hf')) (by simp at hl; omega)
    obtain ⟨y, hy⟩ := hf f List.mem_cons_self
    rw [h1, h2, List.drop_eq_getElem_cons hj] at hy
    rw [List.drop_eq_getElem_cons hj]
    have hy : DataW.trod enc P w base sp held n f.type [cs[j]] = some y := hy
    split at h3
    · rename_i k' k hu
      have hk : k' = k := by simpa using h3
      subst hk
      obtain ⟨m, hm, _, hw⟩ := DataW.trod_int hu hy
      exact ⟨⟨m, by simpa using hm, hw⟩, ih⟩
    · rename_i hu
      obtain ⟨m, hm, _⟩ := DataW.trod_bool hu hy
      exact ⟨⟨m, by simpa using hm⟩, ih⟩
    · rename_i hu
      obtain ⟨m, hm, _⟩ := DataW.trod_string hu hy
      exact ⟨⟨m, by simpa using hm⟩, ih⟩
    · cases h3
  | [], _ :: _, _, hb, _, _ => by simp [flatB] at hb
  | _ :: _, [], _, hb, _, _ => by simp [flatB] at hb

theorem flat_open {w : World} {base : Nat} {sp : Nat → Bool} {held : Bool} {r : Reach} {b0 : Nat} {t : TypeId} {fs : Array Field} {v : Value} {d : DataW H} {p : List MemPlace} {ks : List FK}
    (hu : P.underlying t = some (.struct fs)) (hb : flatB P fs.toList ks 0 = true) (hc : P.cellsOf t = ks.length) (hv : Value.okWide P w r b0 t v)
    (h : DataW.Trod enc P w base sp held t v d p) : ∃ cs : List Value, v = .agg cs.toArray ∧ FlatV ks cs := by
  obtain ⟨cs, rfl, hsz⟩ := okWide_struct hu hv
  obtain ⟨n, hn⟩ := h
  obtain ⟨xs, m, rfl, _, hl, hxl, hf⟩ := DataW.trod_struct hu hn
  refine ⟨cs.toList, by simp, ?_⟩
  have := flat_go (enc := enc) (w := w) (base := base) (sp := sp) (held := held) (n := m) (cs := cs.toList) fs.toList ks 0 hb (fun f hf' => by
    obtain ⟨i, hi, he⟩ := List.getElem_of_mem hf'
    have h1 := hf i f (by rw [← he]; simp)
    have hi' : i < xs.length := by simpa [hxl] using hi
    exact ⟨xs[i], h1.trans (List.getElem?_eq_getElem hi')⟩) (by simpa [hc] using hsz)
  simpa using this
end
end Go.Proofs.Ytkeinfmfkcgkhaa.Ev

namespace Go.Proofs.Ytkeinfmfkcgkhaa.Ev
open Go

/-! ### 12. Loops -/

def Tr.mkA : Nat → Tr
  | 0 => .e
  | d + 1 => .n (Tr.mkA d) .any (Tr.mkA d)
theorem Tr.get_mkA (d : Nat) (hd : d ≠ 0) : ∀ k, k + 1 < 2 ^ d → (Tr.mkA d).get k = .any := by
  induction d with
  | zero => exact absurd rfl hd
  | succ d ih =>
    intro k hk
    simp only [Tr.mkA, Tr.get]
    by_cases h0 : k = 0
    · subst h0; rfl
    · have hk0 : Nat.beq k 0 = false := by cases k <;> simp_all [Nat.beq]
      have hp : 2 ^ (d + 1) = 2 * 2 ^ d := by rw [Nat.pow_succ]; omega
      have hd' : d ≠ 0 := by intro e; subst e; simp at hk; omega
      by_cases h1 : k % 2 = 1
      · have hp1 : Nat.beq (k % 2) 1 = true := by rw [h1]; rfl
        simp only [hk0, hp1, cond_false, cond_true]
        exact ih hd' _ (by omega)
      · have hp1 : Nat.beq (k % 2) 1 = false := by
          have : k % 2 = 0 := by omega
          rw [this]; rfl
        simp only [hk0, hp1, cond_false]
        exact ih hd' _ (by omega)
theorem Tr.has_mkA (d : Nat) : ∀ k, k + 1 < 2 ^ d → (Tr.mkA d).has k = true := by
  induction d with
  | zero => intro k h; simp at h
  | succ d ih =>
    intro k h
    simp only [Tr.mkA, Tr.has]
    by_cases hk : k = 0
    · subst hk; rfl
    · have hk0 : Nat.beq k 0 = false := by cases k <;> simp_all [Nat.beq]
      have hp : 2 ^ (d + 1) = 2 * 2 ^ d := by rw [Nat.pow_succ]; omega
      by_cases h1 : k % 2 = 1
      · have hp1 : Nat.beq (k % 2) 1 = true := by rw [h1]; rfl
        simp only [hk0, hp1, cond_false, cond_true]
        exact ih _ (by omega)
      · have hp1 : Nat.beq (k % 2) 1 = false := by
          have : k % 2 = 0 := by omega
          rw [this]; rfl
        simp only [hk0, hp1, cond_false]
        exact ih _ (by omega)

def setAll : Tr → List (Nat × SV) → Tr
  | t, [] => t
  | t, (k, v) :: r => setAll (t.set k v) r
def setAllK {β : Type} : Tr → List (Nat × SV) → (Tr → β) → β
  | t, [], K => K t
  | t, (k, v) :: r, K => t.setK k v fun t' => setAllK t' r K
theorem setAllK_eq {β : Type} : ∀ (l : List (Nat × SV)) (t : Tr) (K : Tr → β), setAllK t l K = K (setAll t l)
  | [], _, _ => rfl
  | (k, v) :: r, t, K => by simp only [setAllK, setAll, Tr.setK_eq]; exact setAllK_eq r _ K

/-- A frame of which only these slots are known. -/
def mkL (nt : Nat) (l : List (Nat × SV)) : Fr := setAllK (Tr.mkA 12) l fun t => ⟨nt, t⟩

theorem setAll_get : ∀ (l : List (Nat × SV)) (t : Tr) (k : Nat), (∀ p ∈ l, t.has p.1 = true) → (setAll t l).get k = t.get k ∨ ∃ v, (k, v) ∈ l ∧ (setAll t l).get k = v
  | [], _, _, _ => .inl rfl
  | (j, v) :: r, t, k, h => by
    have hr := setAll_get r (t.set j v) k (fun p hp => by rw [Tr.has_set]; exact h p (List.mem_cons_of_mem _ hp))
    simp only [setAll]
    rcases hr with hr | ⟨u, hu, he⟩
    · rw [hr, Tr.get_set _ _ _ _ (h (j, v) List.mem_cons_self)]
      by_cases e : k = j
      · subst e; exact .inr ⟨v, List.mem_cons_self, by simp⟩
      · exact .inl (by simp [e])
    · exact .inr ⟨u, List.mem_cons_of_mem _ hu, he⟩

def refP (f : Fr) : List (Nat × SV) → Prop
  | [] => True
  | [(t, v)] => (f.tr.get t).sim v
  | (t, v) :: r => (f.tr.get t).sim v ∧ refP f r
theorem refP_mem {f : Fr} : ∀ {l : List (Nat × SV)}, refP f l → ∀ p ∈ l, (f.tr.get p.1).sim p.2
  | [(t, v)], h, p, hp => by simp at hp; subst hp; exact h
  | (t, v) :: q :: r, h, p, hp => by
    have h : (f.tr.get t).sim v ∧ refP f (q :: r) := h
    rcases List.mem_cons.1 hp with rfl | hp
    · exact h.1
    · exact refP_mem h.2 p hp

theorem C.sim_ok {n : Nat} {x y : C} (h : x.sim y) (hx : x.ok n = true) : y.ok n = true := by
  cases x <;> cases y <;> simp only [C.sim] at h <;> first | (cases h; done) | rfl | (cases h; exact hx)
theorem simL_ok {α : Type} {r : α → α → Prop} {f : α → Bool} (hr : ∀ x y, r x y → f x = true → f y = true) : ∀ (l l' : List α), simL r l l' → l.all f = true → l'.all f = true
  | [], [], _, _ => rfl
  | [x], [y], h, hx => by simp only [List.all_cons, List.all_nil, Bool.and_true] at hx ⊢; exact hr _ _ h hx
  | x :: x' :: xs, y :: ys, h, hx => by
    have h : r x y ∧ simL r (x' :: xs) ys := by cases ys <;> exact h
    simp only [List.all_cons, Bool.and_eq_true] at hx ⊢
    exact ⟨hr _ _ h.1 hx.1, simL_ok hr (x' :: xs) ys h.2 (by simp only [List.all_cons, Bool.and_eq_true]; exact hx.2)⟩
  | [x], y :: y' :: ys, h, _ => by
    have h : r x y ∧ simL r [] (y' :: ys) := h
    exact h.2.elim
  | [], _ :: _, h, _ => by cases h
  | _ :: _, [], h, _ => by cases ‹List α› <;> cases h
theorem S1.sim_ok {n : Nat} {x y : S1} (h : x.sim y) (hx : x.ok n = true) : y.ok n = true := by
  cases x <;> cases y <;> simp only [S1.sim, S1.ok] at h hx ⊢
  · exact C.sim_ok h hx
  · exact simL_ok (fun _ _ h => C.sim_ok h) _ _ h hx
theorem SV.sim_ok {n : Nat} {x y : SV} (h : x.sim y) (hx : x.ok n = true) : y.ok n = true := by
  cases x <;> cases y <;> simp only [SV.sim, SV.ok] at h hx ⊢
  · exact C.sim_ok h hx
  · exact simL_ok (fun _ _ h => C.sim_ok h) _ _ h hx
  · exact simL_ok (fun _ _ h => S1.sim_ok h) _ _ h hx

theorem FrRel.ref {n : Nat} {ρ : Rh} {f : Fr} {a : Act} {l : List (Nat × SV)} (h : FrRel n ρ f a) (hr : refP f l) (hb : l.all (fun p => Nat.blt p.1 f.nt) = true) (hnt : f.nt < 4095) :
    FrRel n ρ (mkL f.nt l) a := by
  have hlt : ∀ p ∈ l, p.1 < f.nt := fun p hp => Nat.le_of_ble_eq_true (List.all_eq_true.1 hb p hp)
  have hget : ∀ t, t < f.nt → (setAll (Tr.mkA 12) l).get t = .any ∨ ∃ v, (t, v) ∈ l ∧ (setAll (Tr.mkA 12) l).get t = v := fun t ht => by
    rcases setAll_get l (Tr.mkA 12) t (fun p hp => Tr.has_mkA 12 _ (by have := hlt p hp; simp; omega)) with h1 | h1
    · exact .inl (h1.trans (Tr.get_mkA 12 (by decide) t (by simp; omega)))
    · exact .inr h1
  unfold mkL
  rw [setAllK_eq]
  refine ⟨h.size, fun t ht hna => ?_, fun t ht => ?_, h.defers⟩
  · simp only [] at ht hna ⊢
    rcases hget t ht with h1 | ⟨v, hv, h1⟩
    · rw [h1] at hna; cases hna
    · rw [h1]
      have hs := refP_mem hr _ hv
      have hna' : (f.tr.get t).isAny = false := by
        cases hc : f.tr.get t <;> first | rfl | (simp only [hc] at hs; cases hs)
      rw [h.val t ht hna', SV.sim_den hs]
  · simp only [] at ht ⊢
    rcases hget t ht with h1 | ⟨v, hv, h1⟩
    · rw [h1]; rfl
    · rw [h1]; exact SV.sim_ok (refP_mem hr _ hv) (h.ok t ht)

/-- The cells of two blocks alike, or nothing is said of them any more. -/
def blkSim (cs : List C) : List C → Prop
  | [] => True
  | v :: cs' => simL C.sim cs (v :: cs')
/-- Two memories alike. -/
def refS : SW → SW → Prop
  | [], [] => True
  | b :: s, b' :: s' => (b.ty = b'.ty ∧ blkSim b.cs b'.cs) ∧ refS s s'
  | _, _ => False
theorem refS_len : ∀ {s s' : SW}, refS s s' → s.length = s'.length
  | [], [], _ => rfl
  | _ :: s, _ :: s', h => by simp [refS_len h.2]
theorem refS_get : ∀ {s s' : SW}, refS s s' → ∀ (i : Nat) (b' : Bl), s'[i]? = some b' → ∃ b, s[i]? = some b ∧ b.ty = b'.ty ∧ blkSim b.cs b'.cs
  | [], [], _, i, b', h => by simp at h
  | b :: s, c :: s', h, i, b', hb => by
    cases i with
    | zero => simp at hb; subst hb; exact ⟨b, rfl, h.1⟩
    | succ i => simp at hb ⊢; exact refS_get h.2 i b' hb
theorem blkSim_or {cs cs' : List C} (h : blkSim cs cs') : cs' = [] ∨ (cs' ≠ [] ∧ simL C.sim cs cs') := by
  cases cs' with
  | nil => exact .inl rfl
  | cons v cs' => exact .inr ⟨by simp, h⟩
theorem Inv.ref {E W : World} {L : Nat} {ρ : Rh} {s s' : SW} {w : World} (h : Inv E W L ρ s w) (hr : refS s s') : Inv E W L ρ s' w := by
  have hl := refS_len hr
  have lv : ∀ i, live s' i → live s i := by
    rintro i ⟨b', hb', hn⟩
    obtain ⟨b, h1, ht, h3⟩ := refS_get hr i b' hb'
    rcases hn with hn | hn
    rotate_left
    · exact ⟨b, h1, .inr (by rw [ht]; exact hn)⟩
    rcases blkSim_or h3 with h4 | ⟨_, h4⟩
    · exact absurd h4 hn
    · refine ⟨b, h1, .inl fun e => hn ?_⟩
      rw [e] at h4
      have := congrArg List.length (simL_map (f := C.den Rh0) (fun _ _ h => C.sim_den h) _ _ h4)
      simp at this
      exact List.length_eq_zero_iff.1 this.symm
  refine ⟨fun i b' hb => ?_, fun i b' hb => ?_, fun i j hi hj => h.inj i j (lv i hi) (lv j hj), h.grow, h.old, fun i h1 h2 => h.fresh i h1 (hl ▸ h2), h.frz, h.os, h.out, h.tape, h.len, hl ▸ h.ext⟩
  · obtain ⟨b, h1, h2, h3⟩ := refS_get hr i b' hb
    rcases h.blk i b h1 with ⟨ht, r, h5, h6⟩ | ⟨ht, hcs, h5⟩
    · rcases blkSim_or h3 with h4 | ⟨_, h4⟩
      · refine .inl ⟨h2 ▸ ht, b.cs.map (C.den ρ) ++ r, ?_, ?_⟩
        · rw [h4, ← h2]; simpa using h5
        · rw [h4, ← h6]; simp
      · have hm := simL_map (f := C.den ρ) (fun _ _ h => C.sim_den h) _ _ h4
        refine .inl ⟨h2 ▸ ht, r, ?_, ?_⟩
        · rw [← hm, ← h2]; exact h5
        · have := congrArg List.length hm
          simp at this
          omega
    · refine .inr ⟨h2 ▸ ht, ?_, by rw [← h2]; exact h5⟩
      rcases blkSim_or h3 with h4 | ⟨_, h4⟩
      · exact h4
      · have hm := simL_map (f := C.den ρ) (fun _ _ h => C.sim_den h) _ _ h4
        rw [hcs] at hm
        simp at hm
        exact hm
  · obtain ⟨b, h1, h2, h3⟩ := refS_get hr i b' hb
    rcases blkSim_or h3 with h4 | ⟨_, h4⟩
    · rw [h4]; rfl
    · rw [← hl]
      exact simL_ok (fun _ _ h => C.sim_ok h) _ _ h4 (h.okc i b h1)

/-- What is to be shown of a way through a function with loops: at its end the results, at a loop's head that the state is one that is spoken of. -/
def loopP (P : PE) (fn : Func) (post : SV → SW → Prop) (I : List Item → Fr → SW → Prop) : Tree Lf → Prop
  | .leaf lf => cond lf.ended (match results1 P fn lf.fr lf.s with | some v => post v lf.s | none => False) (I lf.todo lf.fr lf.s)
  | .node b t f => (b = true → loopP P fn post I t) ∧ (b = false → loopP P fn post I f)
  | .need b t => b = true ∧ loopP P fn post I t
  | .fail => False
theorem loopP_OK {P : PE} {fn : Func} {post : SV → SW → Prop} {I : List Item → Fr → SW → Prop} : ∀ (t : Tree Lf), loopP P fn post I t →
    t.OK fun lf => cond lf.ended (match results1 P fn lf.fr lf.s with | some v => post v lf.s | none => False) (I lf.todo lf.fr lf.s) := by
  intro t
  induction t with
  | leaf x => exact id
  | node b t f iht ihf => exact fun h => ⟨fun hb => iht (h.1 hb), fun hb => ihf (h.2 hb)⟩
  | need b t ih => exact fun h => ⟨h.1, ih h.2⟩
  | fail => exact id

theorem run_nt {P : PE} : True := trivial

section
variable {P : PE}

/-- A function with loops: G tells the states at the loops' heads. -/
theorem calls_loop {orc : Orc} {tab : Tab} (ho : OrcOK P orc) (ht : TabOK P tab) (hsz : ∀ g fn, tab g = some fn → fn.ntmps < 4095) (hm : P.follows .mixedOrders = true)
    {g : FuncId} {fn : Func} {c : Code} (hf : P.funcs[g]? = some fn) (hc : fn.body = some c) (hnt : fn.ntmps < 4095) {vs : List SV} {s : SW} (hvs : vs.length ≤ fn.ntmps)
    (fuel brk : Nat) {G : Type} (H : G → Prop) (μ : G → Nat) (hd : G → List Item) (Lv : G → List (Nat × SV)) (Sv : G → SW) (hb : ∀ x, (Lv x).all (fun p => Nat.blt p.1 fn.ntmps) = true)
    (post : SV → SW → Prop)
    (pro : loopP P fn post (fun todo fr s' => ∃ x, H x ∧ todo = hd x ∧ fr.nt = fn.ntmps ∧ refP fr (Lv x) ∧ refS s' (Sv x)) (run P orc tab fuel brk [.code c] ⟨fn.ntmps, mkFrGo (Tr.mk 12) 0 vs⟩ s))
    (round : ∀ x, H x → loopP P fn post (fun todo fr s' => ∃ y, H y ∧ μ y < μ x ∧ todo = hd y ∧ fr.nt = fn.ntmps ∧ refP fr (Lv y) ∧ refS s' (Sv y)) (run P orc tab fuel brk (hd x) (mkL fn.ntmps (Lv x)) (Sv x)))
    (W : World) (L : Nat) (ρ : Rh) (w : World) (hI : Inv P.E W L ρ s w) (hok : ∀ v ∈ vs, v.ok s.length = true) :
    Calls P g (vs.map (SV.den ρ)).toArray w fun e w' => ∃ v s' ρ', e = .returned (v.den ρ') ∧ Agree s.length ρ ρ' ∧ s.length ≤ s'.length ∧ v.ok s'.length = true ∧ Inv P.E W L ρ' s' w' ∧ post v s' := by
  have fin : ∀ (n : Nat) (lf : Lf) (a' : Act) (w' : World) (ρ' : Rh), s.length ≤ n → Agree s.length ρ ρ' → n ≤ lf.s.length → FrRel lf.s.length ρ' lf.fr a' → Inv P.E W L ρ' lf.s w' →
      (match results1 P fn lf.fr lf.s with | some v => post v lf.s | none => False) →
      bodyPost P fn (fun e w' => ∃ v s' ρ', e = .returned (v.den ρ') ∧ Agree s.length ρ ρ' ∧ s.length ≤ s'.length ∧ v.ok s'.length = true ∧ Inv P.E W L ρ' s' w' ∧ post v s') .normal a' w' := by
    intro n lf a' w' ρ' hn hag hle hf' hI' hp
    split at hp
    · rename_i v hv
      have := results1_sound (P := P) hI' hf' hv
      exact ⟨hf'.defers, _, this.1, v, lf.s, ρ', rfl, hag, Nat.le_trans hn hle, this.2, hI', hp⟩
    · exact hp.elim
  have key : ∀ (m : Nat) (x : G), μ x = m → H x → ∀ (a : Act) (w : World) (ρ1 : Rh), s.length ≤ (Sv x).length → Agree s.length ρ ρ1 → FrRel (Sv x).length ρ1 (mkL fn.ntmps (Lv x)) a → Inv P.E W L ρ1 (Sv x) w →
      TodoWp P (hd x) (bodyPost P fn fun e w' => ∃ v s' ρ', e = .returned (v.den ρ') ∧ Agree s.length ρ ρ' ∧ s.length ≤ s'.length ∧ v.ok s'.length = true ∧ Inv P.E W L ρ' s' w' ∧ post v s') a w := by
    intro m
    induction m using Nat.strongRecOn with
    | _ m ih =>
      intro x hx hH a w ρ1 hlen hag1 hfr hI1
      refine run_sound ho ht hsz hm fuel brk _ _ _ W L ρ1 a w _ _ (loopP_OK _ (round x hH)) hfr hI1 ?_
      intro lf a' w' ρ' hp hag hle hf' hI'
      have hag' : Agree s.length ρ ρ' := hag1.trans hag hlen
      cases he : lf.ended
      · simp only [he, cond_false] at hp
        obtain ⟨y, hy, hmu, htodo, hnt', hr, hs⟩ := hp
        simp only [Bool.false_eq_true, if_false]
        rw [htodo]
        have hsl := refS_len hs
        have hfr' := FrRel.ref hf' hr (by rw [hnt']; exact hb y) (by rw [hnt']; exact hnt)
        rw [hnt', hsl] at hfr'
        exact ih (μ y) (hx ▸ hmu) y rfl hy a' w' ρ' (by omega) hag' hfr' (hI'.ref hs)
      · simp only [he, cond_true] at hp
        simp only [if_true]
        have := fin (Sv x).length lf a' w' ρ' hlen hag' hle hf' hI' hp
        exact ⟨this, this⟩
  refine callTree_of_wp hf hc ?_
  refine run_sound ho ht hsz hm fuel brk _ _ _ W L ρ _ w _ _ (loopP_OK _ pro) (mkFr_rel hvs hnt hok) hI ?_
  intro lf a' w' ρ' hp hag hle hf' hI'
  cases he : lf.ended
  · simp only [he, cond_false] at hp
    obtain ⟨y, hy, htodo, hnt', hr, hs⟩ := hp
    simp only [Bool.false_eq_true, if_false]
    rw [htodo]
    have hsl := refS_len hs
    have hfr' := FrRel.ref hf' hr (by rw [hnt']; exact hb y) (by rw [hnt']; exact hnt)
    rw [hnt', hsl] at hfr'
    exact key (μ y) y rfl hy a' w' ρ' (by omega) hag hfr' (hI'.ref hs)
  · simp only [he, cond_true] at hp
    simp only [if_true]
    have := fin s.length lf a' w' ρ' (Nat.le_refl _) hag hle hf' hI' hp
    exact ⟨this, this⟩

/-- The first head at which a run stops. -/
def stopAt : Tree Lf → List Item
  | .leaf lf => lf.todo
  | .node _ t _ => stopAt t
  | .need _ t => stopAt t
  | .fail => []

/-- A contract of a function of plain values with loops. -/
theorem pure_contract_loop {g : FuncId} {vs : List SV} (hvs : ∀ v ∈ vs, v.ok 0 = true) {v : SV} (hv : v.ok 0 = true)
    (h : ∀ (W : World), ExtI P.E (Rh0) 0 W → Calls P g (vs.map (SV.den Rh0)).toArray W fun e w' => ∃ (u : SV) (s' : SW) (ρ' : Rh), e = .returned (u.den ρ') ∧ Agree 0 (Rh0) ρ' ∧ 0 ≤ s'.length ∧ u.ok s'.length = true ∧
      Inv P.E W 0 ρ' s' w' ∧ u.sim v) (s : SW) : CallTree P g vs s (.leaf (v, s)) := by
  intro W L ρ w post hI _ hp
  have hag : Agree 0 (Rh0) ρ := fun i hi => absurd hi (Nat.not_lt_zero _)
  have hargs : (vs.map (SV.den ρ)) = vs.map (SV.den Rh0) := List.map_congr_left fun x hx => SV.den_agree hag (hvs x hx)
  rw [hargs]
  refine Calls.mono (h w (hI.ext.none _)) ?_
  rintro e w' ⟨v', s', ρ', rfl, _, _, _, hI', hs⟩
  refine ⟨v, s, ρ, ?_, Agree.refl _ _, Nat.le_refl _, SV.ok_mono (Nat.zero_le _) hv, hI.frame hI', hp⟩
  have h1 : v'.den ρ' = v.den ρ' := SV.sim_den hs
  have h2 : v.den ρ' = v.den ρ := SV.den_agree (n := 0) (fun i hi => absurd hi (Nat.not_lt_zero _)) hv
  rw [h1, h2]

theorem CallTree.args {g : FuncId} {vs vs' : List SV} {s : SW} {t : Tree (SV × SW)} (hs : simL SV.sim vs vs') (h : CallTree P g vs' s t) : CallTree P g vs s t := by
  intro W L ρ w post hI hok ht
  have e : vs.map (SV.den ρ) = vs'.map (SV.den ρ) := simL_map (fun _ _ h => SV.sim_den h) _ _ hs
  have hok' : ∀ v ∈ vs', v.ok s.length = true := List.all_eq_true.1 (simL_ok (fun _ _ h => SV.sim_ok h) _ _ hs (List.all_eq_true.2 hok))
  rw [e]
  exact h W L ρ w post hI hok' ht
end

theorem FlatV.cons_i {k : IntKind} {ks : List FK} {cs : List Value} (h : FlatV (.i k :: ks) cs) : ∃ n r, cs = .int k n :: r ∧ (Lit.int k n).wf = true ∧ FlatV ks r := by
  cases cs with
  | nil => exact h.elim
  | cons v vs => obtain ⟨⟨n, rfl, hw⟩, hr⟩ := h; exact ⟨n, vs, rfl, hw, hr⟩
theorem FlatV.cons_b {ks : List FK} {cs : List Value} (h : FlatV (.b :: ks) cs) : ∃ n r, cs = .bool n :: r ∧ FlatV ks r := by
  cases cs with
  | nil => exact h.elim
  | cons v vs => obtain ⟨⟨n, rfl⟩, hr⟩ := h; exact ⟨n, vs, rfl, hr⟩
theorem FlatV.cons_s {ks : List FK} {cs : List Value} (h : FlatV (.s :: ks) cs) : ∃ n r, cs = .string n :: r ∧ FlatV ks r := by
  cases cs with
  | nil => exact h.elim
  | cons v vs => obtain ⟨⟨n, rfl⟩, hr⟩ := h; exact ⟨n, vs, rfl, hr⟩
theorem FlatV.nil {cs : List Value} (h : FlatV [] cs) : cs = [] := by
  cases cs with
  | nil => rfl
  | cons v vs => exact h.elim
end Go.Proofs.Ytkeinfmfkcgkhaa.Ev

namespace Go.Proofs.Ytkeinfmfkcgkhaa.Ev
open Go Go.Proofs
/-! ### 15. Bits of unsigned numbers -/
theorem wrap_nat_u (k : IntKind) (hs : k.signed = false) (x : Nat) (hx : x < 2 ^ k.bits) : k.wrap (x : Int) = x := by
  unfold IntKind.wrap
  have : ((x : Int) % (2 : Int) ^ k.bits) = x := Int.emod_eq_of_lt (by omega) (by exact_mod_cast hx)
  simp [hs, this]
theorem ofInt_nat (w x : Nat) (hx : x < 2 ^ w) : (BitVec.ofInt w (x : Int)).toNat = x := by
  rw [BitVec.toNat_ofInt]
  have : ((x : Int) % ((2 ^ w : Nat) : Int)) = x := Int.emod_eq_of_lt (by omega) (by exact_mod_cast hx)
  rw [this]; simp
theorem bits_and_n (k : IntKind) (hs : k.signed = false) (x y : Nat) (hx : x < 2 ^ k.bits) (hy : y < 2 ^ k.bits) : bits .and k x y = ((x &&& y : Nat) : Int) := by
  unfold bits
  simp only []
  rw [BitVec.toNat_and, ofInt_nat _ _ hx, ofInt_nat _ _ hy, wrap_nat_u k hs _ (Nat.lt_of_le_of_lt Nat.and_le_left hx)]
theorem bits_or_n (k : IntKind) (hs : k.signed = false) (x y : Nat) (hx : x < 2 ^ k.bits) (hy : y < 2 ^ k.bits) : bits .or k x y = ((x ||| y : Nat) : Int) := by
  unfold bits
  simp only []
  rw [BitVec.toNat_or, ofInt_nat _ _ hx, ofInt_nat _ _ hy, wrap_nat_u k hs _ (Nat.or_lt_two_pow hx hy)]
theorem bits_xor_n (k : IntKind) (hs : k.signed = false) (x y : Nat) (hx : x < 2 ^ k.bits) (hy : y < 2 ^ k.bits) : bits .xor k x y = ((x ^^^ y : Nat) : Int) := by
  unfold bits
  simp only []
  rw [BitVec.toNat_xor, ofInt_nat _ _ hx, ofInt_nat _ _ hy, wrap_nat_u k hs _ (Nat.xor_lt_two_pow hx hy)]
theorem not_xor (w x : Nat) (hx : x < 2 ^ w) : (2 ^ w - 1) ^^^ x = 2 ^ w - 1 - x := by
  apply Nat.eq_of_testBit_eq
  intro i
  rw [Nat.testBit_xor, Nat.testBit_two_pow_sub_one]
  have h2 : 2 ^ w - 1 - x = 2 ^ w - (x + 1) := by omega
  rw [h2, Nat.testBit_two_pow_sub_succ hx]
  by_cases h : i < w
  · simp [h]
  · simp [h]
    exact Nat.testBit_lt_two_pow (Nat.lt_of_lt_of_le hx (Nat.pow_le_pow_right (by decide) (by omega)))
theorem bits_not_n (k : IntKind) (hs : k.signed = false) (x : Nat) (hx : x < 2 ^ k.bits) : bits .xor k ((2 ^ k.bits - 1 : Nat) : Int) x = ((2 ^ k.bits - 1 - x : Nat) : Int) := by
  rw [bits_xor_n k hs _ _ (by have := Nat.two_pow_pos k.bits; omega) hx, not_xor _ _ hx]
theorem not_u32 (x : Int) (h0 : 0 ≤ x) (h1 : x < 4294967296) : bits .xor .u32 4294967295 x = 4294967295 - x := by
  obtain ⟨n, rfl⟩ := Int.eq_ofNat_of_zero_le h0
  have := bits_not_n .u32 rfl n (by simp [IntKind.bits]; omega)
  simp [IntKind.bits] at this
  rw [this]; omega
/-- The top bit. -/
theorem top_bit (w x : Nat) (hx : x < 2 ^ (w + 1)) : x.testBit w = decide (2 ^ w ≤ x) := by
  rw [Nat.testBit_eq_decide_div_mod_eq]
  rw [Nat.pow_succ] at hx
  have h2 := Nat.two_pow_pos w
  by_cases h : 2 ^ w ≤ x
  · have : x / 2 ^ w = 1 := by
      apply Nat.div_eq_of_lt_le <;> omega
    simp [this, h]
  · have : x / 2 ^ w = 0 := Nat.div_eq_of_lt (by omega)
    simp [this, h]
theorem not_nat (w y : Nat) (hy : y < 2 ^ w) : ~~~(BitVec.ofInt w (y : Int)) = BitVec.ofInt w ((2 ^ w - 1 - y : Nat) : Int) := by
  apply BitVec.eq_of_toNat_eq
  rw [BitVec.toNat_not, ofInt_nat _ _ hy, ofInt_nat _ _ (by have := Nat.two_pow_pos w; omega)]
theorem bits_andNot_n (k : IntKind) (x : Int) (y : Nat) (hy : y < 2 ^ k.bits) : bits .andNot k x y = bits .and k x ((2 ^ k.bits - 1 - y : Nat) : Int) := by
  unfold bits
  simp only []
  rw [not_nat _ _ hy]
theorem andNot_u32 (a x : Int) (h0 : 0 ≤ x) (h1 : x < 4294967296) : bits .andNot .u32 a x = bits .and .u32 a (4294967295 - x) := by
  obtain ⟨n, rfl⟩ := Int.eq_ofNat_of_zero_le h0
  have := bits_andNot_n .u32 a n (by simp [IntKind.bits]; omega)
  simp [IntKind.bits] at this
  rw [this]; congr 1; omega
/-- What the bits' operations yield keeps to the kind. -/
theorem bits_bd (op : BinOp) (k : IntKind) (hs : k.signed = false) (x y : Int) : 0 ≤ bits op k x y ∧ bits op k x y < 2 ^ k.bits := by
  unfold bits
  unfold IntKind.wrap
  have hp : (0 : Int) < 2 ^ k.bits := Int.pow_pos (by decide)
  simp only [hs, Bool.false_and, Bool.false_eq_true, if_false]
  exact ⟨Int.emod_nonneg _ (by omega), Int.emod_lt_of_pos _ hp⟩
end Go.Proofs.Ytkeinfmfkcgkhaa.Ev

namespace Go.Proofs.Ytkeinfmfkcgkhaa.Ev
open Go Go.ChangeShapes Go.WideShapes Go.ChangeAt Go.RowKit
section
variable {H : Type} {enc : TypeId × Value → H} {P : Program}

/-! Structs and arrays of plain cells, however deep, opened. -/
def flatF (P : Program) (r : TypeId → Option (List FK)) : List Field → Nat → Option (List FK)
  | [], _ => some []
  | f :: fs, j => match r f.type with
    | none => none
    | some ks => cond (Nat.beq f.offset j && Nat.beq (P.cellsOf f.type) ks.length) (match flatF P r fs (j + ks.length) with | some l => some (ks ++ l) | none => none) none
def repL {α : Type} (l : List α) : Nat → List α
  | 0 => []
  | n + 1 => l ++ repL l n
def flatC (P : Program) : Nat → TypeId → Option (List FK)
  | 0, _ => none
  | d + 1, t => match P.underlying t with
    | some (.int k) => some [.i k]
    | some .bool => some [.b]
    | some .string => some [.s]
    | some (.struct fs) => (match flatF P (flatC P d) fs.toList 0 with | some ks => cond (Nat.beq (P.cellsOf t) ks.length) (some ks) none | none => none)
    | some (.array n e) => (match flatC P d e with | some ks => cond (Nat.beq (P.cellsOf t) (n * ks.length) && Nat.beq (P.cellsOf e) ks.length) (some (repL ks n)) none | none => none)
    | _ => none

theorem FlatV.length : ∀ {ks : List FK} {cs : List Value}, FlatV ks cs → cs.length = ks.length
  | [], [], _ => rfl
  | .i k :: ks, v :: vs, h => by simp [FlatV.length h.2]
  | .b :: ks, v :: vs, h => by simp [FlatV.length h.2]
  | .s :: ks, v :: vs, h => by simp [FlatV.length h.2]
  | [], _ :: _, h => h.elim
  | .i _ :: _, [], h => h.elim
  | .b :: _, [], h => h.elim
  | .s :: _, [], h => h.elim
theorem FlatV.append : ∀ {ks ks' : List FK} {cs cs' : List Value}, FlatV ks cs → FlatV ks' cs' → FlatV (ks ++ ks') (cs ++ cs')
  | [], _, [], _, _, h' => h'
  | .i k :: ks, _, v :: vs, _, h, h' => ⟨h.1, FlatV.append h.2 h'⟩
  | .b :: ks, _, v :: vs, _, h, h' => ⟨h.1, FlatV.append h.2 h'⟩
  | .s :: ks, _, v :: vs, _, h, h' => ⟨h.1, FlatV.append h.2 h'⟩
  | [], _, _ :: _, _, h, _ => h.elim
  | .i _ :: _, _, [], _, h, _ => h.elim
  | .b :: _, _, [], _, h, _ => h.elim
  | .s :: _, _, [], _, h, _ => h.elim

theorem flatF_sound {r : TypeId → Option (List FK)} {q : TypeId → List Value → Prop} (hr : ∀ t ks cs, r t = some ks → q t cs → FlatV ks cs) {cs : List Value} : ∀ (fs : List Field) (j : Nat) (ks : List FK),
    flatF P r fs j = some ks → (∀ f ∈ fs, q f.type ((cs.drop f.offset).take (P.cellsOf f.type))) → cs.length = j + ks.length → FlatV ks (cs.drop j)
  | [], j, ks, h, _, hl => by
    simp [flatF] at h; subst h
    rw [List.drop_of_length_le (by simp at hl; omega)]; trivial
  | f :: fs, j, ks, h, hf, hl => by
    simp only [flatF] at h
    split at h
    · cases h
    rename_i kf hk
    cases hc : (Nat.beq f.offset j && Nat.beq (P.cellsOf f.type) kf.length) <;> simp only [hc, cond_true, cond_false] at h
    · cases h
    simp only [Bool.and_eq_true] at hc
    have h1 := Nat.eq_of_beq_eq_true hc.1
    have h2 := Nat.eq_of_beq_eq_true hc.2
    split at h
    · rename_i l hl'
      simp at h; subst h
      have h3 := hr _ _ _ hk (hf f List.mem_cons_self)
      have h4 := flatF_sound hr fs (j + kf.length) l hl' (fun f hf' => hf f (List.mem_cons_of_mem _ hf')) (by simp at hl; omega)
      rw [h1, h2] at h3
      have := FlatV.append h3 h4
      rwa [← List.drop_drop, List.take_append_drop] at this
    · cases h

theorem repL_sound {ks : List FK} {m : Nat} {cs : List Value} (hm : m = ks.length) : ∀ (n j : Nat), cs.length = j * m + n * m → (∀ i, i < n → FlatV ks ((cs.drop ((j + i) * m)).take m)) → FlatV (repL ks n) (cs.drop (j * m))
  | 0, j, hl, _ => by
    rw [List.drop_of_length_le (by omega)]; trivial
  | n + 1, j, hl, h => by
    have h3 := h 0 (by omega)
    have hl' : cs.length = (j + 1) * m + n * m := by
      simp only [Nat.add_mul, Nat.one_mul] at hl ⊢; omega
    have h4 : FlatV (repL ks n) (cs.drop ((j + 1) * m)) := repL_sound hm n (j + 1) hl' (fun i hi => by
      have := h (i + 1) (by omega)
      rwa [show j + (i + 1) = j + 1 + i by omega] at this)
    simp only [Nat.add_zero] at h3
    have := FlatV.append h3 h4
    rw [Nat.add_mul, Nat.one_mul, ← List.drop_drop, List.take_append_drop] at this
    exact this

theorem flatC_sound {w : World} {base : Nat} {sp : Nat → Bool} {held : Bool} : ∀ (d : Nat) (t : TypeId) (ks : List FK) (n : Nat) (cs : List Value), flatC P d t = some ks →
    (∃ y, DataW.trod enc P w base sp held n t cs = some y) → FlatV ks cs := by
  intro d
  induction d with
  | zero => intro t ks n cs h; simp [flatC] at h
  | succ d ih =>
    intro t ks n cs h ⟨y, hy⟩
    simp only [flatC] at h
    split at h
    · rename_i k hu
      simp at h; subst h
      obtain ⟨m, rfl, _, hw⟩ := DataW.trod_int hu hy
      exact ⟨⟨m, rfl, hw⟩, trivial⟩
    · rename_i hu
      simp at h; subst h
      obtain ⟨m, rfl, _⟩ := DataW.trod_bool hu hy
      exact ⟨⟨m, rfl⟩, trivial⟩
    · rename_i hu
      simp at h; subst h
      obtain ⟨m, rfl, _⟩ := DataW.trod_string hu hy
      exact ⟨⟨m, rfl⟩, trivial⟩
    · rename_i fs hu
      split at h
      · rename_i ks' hk
        cases hc : Nat.beq (P.cellsOf t) ks'.length <;> simp only [hc, cond_true, cond_false] at h
        · cases h
        simp at h; subst h
        obtain ⟨xs, m, rfl, _, hl, hxl, hf⟩ := DataW.trod_struct hu hy
        have := flatF_sound (P := P) (q := fun t cs => ∃ y, DataW.trod enc P w base sp held m t cs = some y) (fun t ks cs h1 h2 => ih t ks m cs h1 h2) (cs := cs) fs.toList 0 ks' hk (fun f hf' => by
          obtain ⟨i, hi, he⟩ := List.getElem_of_mem hf'
          have h1 := hf i f (by rw [← he]; simp)
          have hi' : i < xs.length := by simpa [hxl] using hi
          exact ⟨xs[i], h1.trans (List.getElem?_eq_getElem hi')⟩) (by rw [hl, Nat.eq_of_beq_eq_true hc]; omega)
        simpa using this
      · cases h
    · rename_i len e hu
      split at h
      · rename_i ks' hk
        cases hc : (Nat.beq (P.cellsOf t) (len * ks'.length) && Nat.beq (P.cellsOf e) ks'.length) <;> simp only [hc, cond_true, cond_false] at h
        · cases h
        simp at h; subst h
        simp only [Bool.and_eq_true] at hc
        obtain ⟨xs, m, rfl, _, hl, hxl, hf⟩ := DataW.trod_array hu hy
        have h1 := Nat.eq_of_beq_eq_true hc.1
        have h2 := Nat.eq_of_beq_eq_true hc.2
        have := repL_sound (ks := ks') (cs := cs) h2 len 0 (by rw [hl, h1, h2]; omega) (fun i hi => by
          have h3 := hf i hi
          rw [Nat.zero_add]
          exact ih e ks' m _ hk ⟨xs[i]'(by omega), h3.trans (List.getElem?_eq_getElem (by omega))⟩)
        simpa using this
      · cases h
    · cases h

theorem deep_open {w : World} {base : Nat} {sp : Nat → Bool} {held : Bool} {r : Reach} {b0 : Nat} {t : TypeId} {fs : Array Field} {v : Value} {d : DataW H} {p : List MemPlace} {ks : List FK}
    (hu : P.underlying t = some (.struct fs)) (hb : flatC P 9 t = some ks) (hv : Value.okWide P w r b0 t v)
    (h : DataW.Trod enc P w base sp held t v d p) : ∃ cs : List Value, v = .agg cs.toArray ∧ FlatV ks cs := by
  obtain ⟨cs, rfl, hsz⟩ := okWide_struct hu hv
  obtain ⟨n, hn⟩ := h
  exact ⟨cs.toList, by simp, flatC_sound 9 t ks n _ hb ⟨_, hn⟩⟩
end
end Go.Proofs.Ytkeinfmfkcgkhaa.Ev

namespace Go.Proofs.Ytkeinfmfkcgkhaa.Ev
open Go Go.Proofs
/-! ### 17. Numbers within their kinds, and masks -/
theorem wu8_in (x : Int) (h0 : 0 ≤ x) (h1 : x < 256) : IntKind.u8.wrap x = x := by rw [wu8]; omega
theorem wi8_in (x : Int) (h0 : -128 ≤ x) (h1 : x < 128) : IntKind.i8.wrap x = x := by rw [wi8]; omega
theorem wu16_in (x : Int) (h0 : 0 ≤ x) (h1 : x < 65536) : IntKind.u16.wrap x = x := by rw [wu16]; omega
theorem wi16_in (x : Int) (h0 : -32768 ≤ x) (h1 : x < 32768) : IntKind.i16.wrap x = x := by rw [wi16]; omega
theorem wu32_in (x : Int) (h0 : 0 ≤ x) (h1 : x < 4294967296) : IntKind.u32.wrap x = x := by rw [wu32]; omega
theorem wi32_in (x : Int) (h0 : -2147483648 ≤ x) (h1 : x < 2147483648) : IntKind.i32.wrap x = x := by rw [wi32]; omega
theorem wu64_in (x : Int) (h0 : 0 ≤ x) (h1 : x < 18446744073709551616) : IntKind.u64.wrap x = x := by rw [wu64]; omega
theorem wi64_in (x : Int) (h0 : -9223372036854775808 ≤ x) (h1 : x < 9223372036854775808) : IntKind.i64.wrap x = x := by rw [wi64]; omega
theorem and_m1 (k : IntKind) (x : Int) (h : 1 < k.bits ∨ (k.signed = false ∧ 1 = k.bits)) : bits .and k x 1 = x % 2 := and_mask k x 1 h
theorem and_m2 (k : IntKind) (x : Int) (h : 2 < k.bits ∨ (k.signed = false ∧ 2 = k.bits)) : bits .and k x 3 = x % 4 := and_mask k x 2 h
theorem and_m3 (k : IntKind) (x : Int) (h : 3 < k.bits ∨ (k.signed = false ∧ 3 = k.bits)) : bits .and k x 7 = x % 8 := and_mask k x 3 h
theorem and_m4 (k : IntKind) (x : Int) (h : 4 < k.bits ∨ (k.signed = false ∧ 4 = k.bits)) : bits .and k x 15 = x % 16 := and_mask k x 4 h
theorem and_m5 (k : IntKind) (x : Int) (h : 5 < k.bits ∨ (k.signed = false ∧ 5 = k.bits)) : bits .and k x 31 = x % 32 := and_mask k x 5 h
theorem and_m6 (k : IntKind) (x : Int) (h : 6 < k.bits ∨ (k.signed = false ∧ 6 = k.bits)) : bits .and k x 63 = x % 64 := and_mask k x 6 h
theorem and_m7 (k : IntKind) (x : Int) (h : 7 < k.bits ∨ (k.signed = false ∧ 7 = k.bits)) : bits .and k x 127 = x % 128 := and_mask k x 7 h
theorem and_m8 (k : IntKind) (x : Int) (h : 8 < k.bits ∨ (k.signed = false ∧ 8 = k.bits)) : bits .and k x 255 = x % 256 := and_mask k x 8 h
theorem and_m9 (k : IntKind) (x : Int) (h : 9 < k.bits ∨ (k.signed = false ∧ 9 = k.bits)) : bits .and k x 511 = x % 512 := and_mask k x 9 h
theorem and_m10 (k : IntKind) (x : Int) (h : 10 < k.bits ∨ (k.signed = false ∧ 10 = k.bits)) : bits .and k x 1023 = x % 1024 := and_mask k x 10 h
theorem and_m11 (k : IntKind) (x : Int) (h : 11 < k.bits ∨ (k.signed = false ∧ 11 = k.bits)) : bits .and k x 2047 = x % 2048 := and_mask k x 11 h
theorem and_m12 (k : IntKind) (x : Int) (h : 12 < k.bits ∨ (k.signed = false ∧ 12 = k.bits)) : bits .and k x 4095 = x % 4096 := and_mask k x 12 h
theorem and_m13 (k : IntKind) (x : Int) (h : 13 < k.bits ∨ (k.signed = false ∧ 13 = k.bits)) : bits .and k x 8191 = x % 8192 := and_mask k x 13 h
theorem and_m14 (k : IntKind) (x : Int) (h : 14 < k.bits ∨ (k.signed = false ∧ 14 = k.bits)) : bits .and k x 16383 = x % 16384 := and_mask k x 14 h
theorem and_m15 (k : IntKind) (x : Int) (h : 15 < k.bits ∨ (k.signed = false ∧ 15 = k.bits)) : bits .and k x 32767 = x % 32768 := and_mask k x 15 h
theorem and_m16 (k : IntKind) (x : Int) (h : 16 < k.bits ∨ (k.signed = false ∧ 16 = k.bits)) : bits .and k x 65535 = x % 65536 := and_mask k x 16 h
theorem and_m17 (k : IntKind) (x : Int) (h : 17 < k.bits ∨ (k.signed = false ∧ 17 = k.bits)) : bits .and k x 131071 = x % 131072 := and_mask k x 17 h
theorem and_m18 (k : IntKind) (x : Int) (h : 18 < k.bits ∨ (k.signed = false ∧ 18 = k.bits)) : bits .and k x 262143 = x % 262144 := and_mask k x 18 h
theorem and_m19 (k : IntKind) (x : Int) (h : 19 < k.bits ∨ (k.signed = false ∧ 19 = k.bits)) : bits .and k x 524287 = x % 524288 := and_mask k x 19 h
theorem and_m20 (k : IntKind) (x : Int) (h : 20 < k.bits ∨ (k.signed = false ∧ 20 = k.bits)) : bits .and k x 1048575 = x % 1048576 := and_mask k x 20 h
theorem and_m21 (k : IntKind) (x : Int) (h : 21 < k.bits ∨ (k.signed = false ∧ 21 = k.bits)) : bits .and k x 2097151 = x % 2097152 := and_mask k x 21 h
theorem and_m22 (k : IntKind) (x : Int) (h : 22 < k.bits ∨ (k.signed = false ∧ 22 = k.bits)) : bits .and k x 4194303 = x % 4194304 := and_mask k x 22 h
theorem and_m23 (k : IntKind) (x : Int) (h : 23 < k.bits ∨ (k.signed = false ∧ 23 = k.bits)) : bits .and k x 8388607 = x % 8388608 := and_mask k x 23 h
theorem and_m24 (k : IntKind) (x : Int) (h : 24 < k.bits ∨ (k.signed = false ∧ 24 = k.bits)) : bits .and k x 16777215 = x % 16777216 := and_mask k x 24 h
theorem and_m25 (k : IntKind) (x : Int) (h : 25 < k.bits ∨ (k.signed = false ∧ 25 = k.bits)) : bits .and k x 33554431 = x % 33554432 := and_mask k x 25 h
theorem and_m26 (k : IntKind) (x : Int) (h : 26 < k.bits ∨ (k.signed = false ∧ 26 = k.bits)) : bits .and k x 67108863 = x % 67108864 := and_mask k x 26 h
theorem and_m27 (k : IntKind) (x : Int) (h : 27 < k.bits ∨ (k.signed = false ∧ 27 = k.bits)) : bits .and k x 134217727 = x % 134217728 := and_mask k x 27 h
theorem and_m28 (k : IntKind) (x : Int) (h : 28 < k.bits ∨ (k.signed = false ∧ 28 = k.bits)) : bits .and k x 268435455 = x % 268435456 := and_mask k x 28 h
theorem and_m29 (k : IntKind) (x : Int) (h : 29 < k.bits ∨ (k.signed = false ∧ 29 = k.bits)) : bits .and k x 536870911 = x % 536870912 := and_mask k x 29 h
theorem and_m30 (k : IntKind) (x : Int) (h : 30 < k.bits ∨ (k.signed = false ∧ 30 = k.bits)) : bits .and k x 1073741823 = x % 1073741824 := and_mask k x 30 h
theorem and_m31 (k : IntKind) (x : Int) (h : 31 < k.bits ∨ (k.signed = false ∧ 31 = k.bits)) : bits .and k x 2147483647 = x % 2147483648 := and_mask k x 31 h
theorem and_m32 (k : IntKind) (x : Int) (h : 32 < k.bits ∨ (k.signed = false ∧ 32 = k.bits)) : bits .and k x 4294967295 = x % 4294967296 := and_mask k x 32 h
theorem and_sh (k : IntKind) (hs : k.signed = false) (x : Int) (h0 : 0 ≤ x) (h1 : x < 2 ^ k.bits) (s m : Nat) (hm : s + m ≤ k.bits) : bits .and k x ((2 ^ m - 1) * 2 ^ s) = x / 2 ^ s % 2 ^ m * 2 ^ s := by
  obtain ⟨n, rfl⟩ := Int.eq_ofNat_of_zero_le h0
  have hn : n < 2 ^ k.bits := by exact_mod_cast h1
  have hp : 2 ^ m * 2 ^ s ≤ 2 ^ k.bits := by rw [← Nat.pow_add]; exact Nat.pow_le_pow_right (by decide) (by omega)
  have hm1 := Nat.two_pow_pos m
  have hs1 := Nat.two_pow_pos s
  have hc : ((2 : Int) ^ m - 1) * 2 ^ s = (((2 ^ m - 1) * 2 ^ s : Nat) : Int) := by
    rw [Int.natCast_mul, Int.natCast_sub hm1]; simp
  have hlt : (2 ^ m - 1) * 2 ^ s < 2 ^ k.bits := by
    have : (2 ^ m - 1) * 2 ^ s < 2 ^ m * 2 ^ s := Nat.mul_lt_mul_of_pos_right (by omega) hs1
    omega
  rw [hc, bits_and_n k hs n _ hn hlt]
  have h2 : n &&& ((2 ^ m - 1) * 2 ^ s) = n / 2 ^ s % 2 ^ m * 2 ^ s := by
    apply Nat.eq_of_testBit_eq
    intro i
    rw [Nat.testBit_and, Nat.testBit_mul_two_pow, Nat.testBit_mul_two_pow, Nat.testBit_two_pow_sub_one, Nat.testBit_mod_two_pow, Nat.testBit_div_two_pow]
    by_cases hi : s ≤ i
    · simp only [hi, decide_true, Bool.true_and]
      rw [Nat.sub_add_cancel hi, Bool.and_comm]
    · simp [hi]
  rw [h2]; simp
theorem bne0 (x y : Int) : (x != y) = decide (x ≠ y) := by by_cases h : x = y <;> simp [h]
theorem beqd (x y : Int) : (x == y) = decide (x = y) := by by_cases h : x = y <;> simp [h]
end Go.Proofs.Ytkeinfmfkcgkhaa.Ev

namespace Go.Proofs.Ytkeinfmfkcgkhaa.Ev
open Go Go.Proofs
/-! ### 18. Laws with loops -/
theorem law_of_calls {P : PE} {g : FuncId} {args : Array Value} {W : World} {ρ : Rh}
    (h : Calls P g args W fun e w' => ∃ (v : SV) (s' : SW) (ρ' : Rh), e = .returned (v.den ρ') ∧ Agree 0 ρ ρ' ∧ 0 ≤ s'.length ∧ v.ok s'.length = true ∧ Inv P.E W 0 ρ' s' w' ∧ SV.sim v (.c (.b false true))) :
    Calls P g args W fun e w' => e = .returned (.bool true) ∧ Grew W w' := by
  refine Calls.mono h ?_
  rintro e w' ⟨v, s', ρ', rfl, _, _, _, hI, hs⟩
  refine ⟨?_, hI.grown⟩
  rw [SV.sim_den hs]; rfl
/-- Another tree that is no weaker. -/
theorem CallTree.imp {P : PE} {g : FuncId} {vs : List SV} {s : SW} {t t' : Tree (SV × SW)} (h : CallTree P g vs s t) (hi : ∀ post, t'.OK post → t.OK post) : CallTree P g vs s t' :=
  fun W L ρ w post hI hok ht => h W L ρ w post hI hok (hi post ht)
theorem CallTree.ref {P : PE} {g : FuncId} {vs : List SV} {s s' : SW} {t : Tree (SV × SW)} (hr : refS s s') (h : CallTree P g vs s' t) : CallTree P g vs s t := by
  intro W L ρ w post hI hok ht
  have hl := refS_len hr
  have := h W L ρ w post (hI.ref hr) (by rw [← hl]; exact hok) ht
  rw [← hl] at this
  exact this
/-- What is to be shown of a contract with a memory. -/
def conH (v : SV) (s' : SW) : Tree (SV × SW) → Prop
  | .leaf (u, s) => SV.sim u v ∧ refS s s'
  | .node b t f => (b = true → conH v s' t) ∧ (b = false → conH v s' f)
  | .need b t => b = true ∧ conH v s' t
  | .fail => False
theorem conH_OK {v : SV} {s' : SW} : ∀ (t : Tree (SV × SW)), conH v s' t → t.OK fun r => SV.sim r.1 v ∧ refS r.2 s' := by
  intro t
  induction t with
  | leaf x => exact id
  | node b t f iht ihf => exact fun h => ⟨fun hb => iht (h.1 hb), fun hb => ihf (h.2 hb)⟩
  | need b t ih => exact fun h => ⟨h.1, ih h.2⟩
  | fail => exact id
theorem heap_contract {P : PE} {g : FuncId} {vs : List SV} {s s' : SW} {t : Tree (SV × SW)} {v : SV} (h : CallTree P g vs s t) (ht : conH v s' t) : CallTree P g vs s (.leaf (v, s')) := by
  intro W L ρ w post hI hok hp
  refine Calls.mono (h W L ρ w _ hI hok (conH_OK t ht)) ?_
  rintro e w' ⟨u, s1, ρ', rfl, hag, hle, hv, hI', hs, hr⟩
  have hl := refS_len hr
  exact ⟨v, s', ρ', by rw [SV.sim_den hs], hag, by rw [← hl]; exact hle, by rw [← hl]; exact SV.sim_ok hs hv, hI'.ref hr, hp⟩
theorem CallTree.ref2 {P : PE} {g : FuncId} {vs : List SV} {s s' s'' : SW} {v : SV} (hr : refS s' s'') (h : CallTree P g vs s (.leaf (v, s'))) : CallTree P g vs s (.leaf (v, s'')) := by
  intro W L ρ w post hI hok ht
  have hl := refS_len hr
  refine Calls.mono (h W L ρ w (fun r => r = (v, s')) hI hok rfl) ?_
  rintro e w' ⟨u, s1, ρ', rfl, hag, hle, hv, hI', hs⟩
  cases hs
  exact ⟨_, s'', ρ', rfl, hag, by rw [← hl]; exact hle, by rw [← hl]; exact hv, hI'.ref hr, ht⟩
/-- The first head of a loop at which a run stops. -/
def headOf : Tree Lf → List Item
  | .leaf lf => cond lf.ended [] lf.todo
  | .node _ t f => (match headOf t with | [] => headOf f | l => l)
  | .need _ t => headOf t
  | .fail => []
end Go.Proofs.Ytkeinfmfkcgkhaa.Ev

namespace Go.Proofs.Ytkeinfmfkcgkhaa.Ev
open Go Go.ChangeShapes Go.WideShapes Go.ChangeAt Go.RowKit
/-! ### 19. Slices among the arguments -/
section
variable {H : Type} {enc : TypeId × Value → H} {P : Program}
/-- Cells of some kinds. -/
def okE : EK → Value → Bool
  | .i k, .int k' n => k' == k && (Lit.int k n).wf
  | .b, .bool _ => true
  | .s, .string s => decide (s.size ≤ maxLen)
  | .l, .slice none 0 0 => true
  | .l, .slice (some _) l c => decide (l ≤ c) && decide (c ≤ maxLen)
  | _, _ => false
def okEs : List EK → List Value → Bool
  | [], [] => true
  | k :: ks, v :: vs => okE k v && okEs ks vs
  | _, _ => false
theorem okEs_len : ∀ {ks : List EK} {cs : List Value}, okEs ks cs = true → cs.length = ks.length
  | [], [], _ => rfl
  | k :: ks, v :: vs, h => by simp only [okEs, Bool.and_eq_true] at h; simp [okEs_len h.2]
  | [], _ :: _, h => by cases h
  | _ :: _, [], h => by cases h
theorem okEs_append : ∀ {ks ks' : List EK} {cs cs' : List Value}, okEs ks cs = true → okEs ks' cs' = true → okEs (ks ++ ks') (cs ++ cs') = true
  | [], _, [], _, _, h' => h'
  | k :: ks, _, v :: vs, _, h, h' => by
    simp only [okEs, Bool.and_eq_true, List.cons_append] at h ⊢
    exact ⟨h.1, okEs_append h.2 h'⟩
  | [], _, _ :: _, _, h, _ => by cases h
  | _ :: _, _, [], _, h, _ => by cases h
theorem flatEF_sound {r : TypeId → Option (List EK)} {q : TypeId → List Value → Prop} (hr : ∀ t ks cs, r t = some ks → q t cs → okEs ks cs = true) {cs : List Value} : ∀ (fs : List Field) (j : Nat) (ks : List EK),
    flatEF P r fs j = some ks → (∀ f ∈ fs, q f.type ((cs.drop f.offset).take (P.cellsOf f.type))) → cs.length = j + ks.length → okEs ks (cs.drop j) = true
  | [], j, ks, h, _, hl => by
    simp [flatEF] at h; subst h
    rw [List.drop_of_length_le (by simp at hl; omega)]; rfl
  | f :: fs, j, ks, h, hf, hl => by
    simp only [flatEF] at h
    split at h
    · cases h
    rename_i kf hk
    cases hc : (Nat.beq f.offset j && Nat.beq (P.cellsOf f.type) kf.length) <;> simp only [hc, cond_true, cond_false] at h
    · cases h
    simp only [Bool.and_eq_true] at hc
    have h1 := Nat.eq_of_beq_eq_true hc.1
    have h2 := Nat.eq_of_beq_eq_true hc.2
    split at h
    · rename_i l hl'
      simp at h; subst h
      have h3 := hr _ _ _ hk (hf f List.mem_cons_self)
      have h4 := flatEF_sound hr fs (j + kf.length) l hl' (fun f hf' => hf f (List.mem_cons_of_mem _ hf')) (by simp at hl; omega)
      rw [h1, h2] at h3
      have := okEs_append h3 h4
      rwa [← List.drop_drop, List.take_append_drop] at this
    · cases h
theorem repE_sound {ks : List EK} {m : Nat} {cs : List Value} (hm : m = ks.length) : ∀ (n j : Nat), cs.length = j * m + n * m → (∀ i, i < n → okEs ks ((cs.drop ((j + i) * m)).take m) = true) → okEs (repE ks n) (cs.drop (j * m)) = true
  | 0, j, hl, _ => by
    rw [List.drop_of_length_le (by omega)]; rfl
  | n + 1, j, hl, h => by
    have h3 := h 0 (by omega)
    have hl' : cs.length = (j + 1) * m + n * m := by
      simp only [Nat.add_mul, Nat.one_mul] at hl ⊢; omega
    have h4 : okEs (repE ks n) (cs.drop ((j + 1) * m)) = true := repE_sound hm n (j + 1) hl' (fun i hi => by
      have := h (i + 1) (by omega)
      rwa [show j + (i + 1) = j + 1 + i by omega] at this)
    simp only [Nat.add_zero] at h3
    have := okEs_append h3 h4
    rw [Nat.add_mul, Nat.one_mul, ← List.drop_drop, List.take_append_drop] at this
    exact this
theorem flatE_sound {w : World} {base : Nat} {sp : Nat → Bool} {held : Bool} : ∀ (d : Nat) (t : TypeId) (ks : List EK) (n : Nat) (cs : List Value), flatE P d t = some ks →
    (∃ y, DataW.trod enc P w base sp held n t cs = some y) → okEs ks cs = true := by
  intro d
  induction d with
  | zero => intro t ks n cs h; simp [flatE] at h
  | succ d ih =>
    intro t ks n cs h ⟨y, hy⟩
    simp only [flatE] at h
    split at h
    · rename_i k hu
      simp at h; subst h
      obtain ⟨m, rfl, _, hw⟩ := DataW.trod_int hu hy
      simp [okEs, okE, hw]
    · rename_i hu
      simp at h; subst h
      obtain ⟨m, rfl, _⟩ := DataW.trod_bool hu hy
      rfl
    · rename_i hu
      simp at h; subst h
      obtain ⟨m, rfl, hs⟩ := DataW.trod_string hu hy
      simp only [okEs, okE, Bool.and_true, decide_eq_true_eq]
      exact hs.2
    · rename_i e hu
      simp at h; subst h
      rcases DataW.trod_slice hu hy with ⟨rfl, _⟩ | ⟨a, len, cap, elems, rest, n', _, rfl, _, _, hl, hm, _⟩
      · rfl
      · simp [okEs, okE, hl, hm]
    · rename_i fs hu
      split at h
      · rename_i ks' hk
        cases hc : Nat.beq (P.cellsOf t) ks'.length <;> simp only [hc, cond_true, cond_false] at h
        · cases h
        simp at h; subst h
        obtain ⟨xs, m, rfl, _, hl, hxl, hf⟩ := DataW.trod_struct hu hy
        have := flatEF_sound (P := P) (q := fun t cs => ∃ y, DataW.trod enc P w base sp held m t cs = some y) (fun t ks cs h1 h2 => ih t ks m cs h1 h2) (cs := cs) fs.toList 0 ks' hk (fun f hf' => by
          obtain ⟨i, hi, he⟩ := List.getElem_of_mem hf'
          have h1 := hf i f (by rw [← he]; simp)
          have hi' : i < xs.length := by simpa [hxl] using hi
          exact ⟨xs[i], h1.trans (List.getElem?_eq_getElem hi')⟩) (by rw [hl, Nat.eq_of_beq_eq_true hc]; omega)
        simpa using this
      · cases h
    · rename_i len e hu
      split at h
      · rename_i ks' hk
        cases hc : (Nat.beq (P.cellsOf t) (len * ks'.length) && Nat.beq (P.cellsOf e) ks'.length) <;> simp only [hc, cond_true, cond_false] at h
        · cases h
        simp at h; subst h
        simp only [Bool.and_eq_true] at hc
        obtain ⟨xs, m, rfl, _, hl, hxl, hf⟩ := DataW.trod_array hu hy
        have h1 := Nat.eq_of_beq_eq_true hc.1
        have h2 := Nat.eq_of_beq_eq_true hc.2
        have := repE_sound (ks := ks') (cs := cs) h2 len 0 (by rw [hl, h1, h2]; omega) (fun i hi => by
          have h3 := hf i hi
          rw [Nat.zero_add]
          exact ih e ks' m _ hk ⟨xs[i]'(by omega), h3.trans (List.getElem?_eq_getElem (by omega))⟩)
        simpa using this
      · cases h
    · cases h
theorem okE_eOk {E : World} {a : Addr} {o : Nat} {k : EK} {v : Value} (h : okE k v = true) (hc : E.cell? (a.add o) = some v) : eOk E (some a) o k = true := by
  have hv : eCell E (some a) o = v := by simp only [eCell, hc]
  cases k with
  | i k => cases v <;> simp_all [okE, eOk]
  | b => cases v <;> simp_all [okE, eOk]
  | s => cases v <;> simp_all [okE, eOk]
  | l =>
    cases v with
    | slice x l c =>
      cases x with
      | none => cases l <;> cases c <;> simp_all [okE, eOk]
      | some x => simp_all [okE, eOk]
    | _ => simp [okE] at h
theorem eRow_of {E : World} {a : Addr} : ∀ (ks : List EK) (cs : List Value) (o : Nat), okEs ks cs = true → (∀ j v, cs[j]? = some v → E.cell? (a.add (o + j)) = some v) → eRow E (some a) o ks = true
  | [], _, _, _, _ => rfl
  | k :: ks, v :: vs, o, h, hc => by
    simp only [okEs, Bool.and_eq_true] at h
    simp only [eRow, Bool.and_eq_true]
    refine ⟨okE_eOk h.1 (hc 0 v rfl), eRow_of ks vs (o + 1) h.2 fun j u hj => ?_⟩
    have := hc (j + 1) u (by simpa using hj)
    rwa [show o + 1 + j = o + (j + 1) by omega]
  | _ :: _, [], _, h, _ => by cases h
/-- A slice among the arguments. -/
theorem open_row {w : World} {base : Nat} {sp : Nat → Bool} {held : Bool} {t e : TypeId} {v : Value} {d : DataW H} {p : List MemPlace} {ks : List EK} {r : Reach} {b0 : Nat}
    (hu : P.underlying t = some (.slice e)) (hb : flatE P 9 e = some ks) (hc : P.cellsOf e = ks.length) (hval : Value.okWide P w r b0 t v)
    (h : DataW.Trod enc P w base sp held t v d p) : ∃ (a : Option Addr) (len cap : Nat), v = .slice a len cap ∧ len ≤ cap ∧ cap ≤ maxLen ∧ (a = none → len = 0) ∧ ∀ j, j < len → eRow w a (j * ks.length) ks = true := by
  obtain ⟨a0, l0, c0, rfl⟩ := okWide_slice hu hval
  obtain ⟨n, hn⟩ := h
  have hcells : (Value.slice a0 l0 c0).cells.toList = [.slice a0 l0 c0] := rfl
  rw [hcells] at hn
  rcases DataW.trod_slice hu hn with ⟨h1, _⟩ | ⟨a, len, cap, elems, rest, n', _, h1, _, _, hl, hm, hlen, hel, _⟩
  · cases h1
    exact ⟨none, 0, 0, rfl, Nat.le_refl _, Nat.zero_le _, fun _ => rfl, fun j hj => absurd hj (Nat.not_lt_zero _)⟩
  · cases h1
    refine ⟨some a, l0, c0, rfl, hl, hm, (fun h => nomatch h), fun j hj => ?_⟩
    have h2 := hel j hj
    rw [List.getElem?_eq_getElem (by omega)] at h2
    rw [Option.bind_eq_some_iff] at h2
    obtain ⟨cs, hcs, hy⟩ := h2
    have h3 := flatE_sound 9 e ks n' cs hb ⟨_, hy⟩
    refine eRow_of ks cs _ h3 fun i u hi => ?_
    have h4 := (World.cells?_some hcs).2
    have h5 := h4.2 i (by rw [hc, ← okEs_len h3]; exact (List.getElem?_eq_some_iff.1 hi).1)
    rw [Addr.add_add, hc] at h5
    rw [h5]; exact hi
end
/-- What a row says of one of its numbers. -/
theorem eRow_get {E : World} {a : Option Addr} : ∀ (ks : List EK) (o j : Nat) (k : EK), eRow E a o ks = true → ks[j]? = some k → eOk E a (o + j) k = true
  | k :: ks, o, 0, k', h, hk => by
    simp only [eRow, Bool.and_eq_true] at h; simp at hk; subst hk; exact h.1
  | k :: ks, o, j + 1, k', h, hk => by
    simp only [eRow, Bool.and_eq_true] at h
    have := eRow_get ks (o + 1) j k' h.2 (by simpa using hk)
    rwa [show o + (j + 1) = o + 1 + j by omega]
  | [], _, _, _, _, hk => by simp at hk
theorem eOk_int {E : World} {a : Option Addr} {o : Nat} {k : IntKind} (h : eOk E a o (.i k) = true) : (Lit.int k (eI E a o)).wf = true := by
  simp only [eOk] at h
  split at h
  · rename_i k' n hn
    simp only [Bool.and_eq_true] at h
    simp only [eI, hn]; exact h.2
  · cases h
theorem eOk_row {E : World} {a : Option Addr} {o : Nat} {k : EK} (h : eOk E a o k = true) : eRow E a o [k] = true := by simp [eRow, h]
theorem some_of_lt {a : Option Addr} {n j : Nat} (h : a = none → n = 0) (hj : j < n) : a.isSome = true := by
  cases a with
  | none => have := h rfl; omega
  | some a => rfl
end Go.Proofs.Ytkeinfmfkcgkhaa.Ev

namespace Go.Proofs.Ytkeinfmfkcgkhaa.Ev
open Go
/-! ### 20. Memories of which a first part goes on -/
def okSW (s : SW) : Bool := s.all fun b => okL s.length b.cs
theorem C.sim_refl (x : C) : x.sim x := by cases x <;> simp [C.sim]
theorem simL_refl {α : Type} {r : α → α → Prop} (hr : ∀ x, r x x) : ∀ l : List α, simL r l l
  | [] => trivial
  | [x] => hr x
  | x :: y :: l => ⟨hr x, simL_refl hr (y :: l)⟩
theorem blkSim_refl (cs : List C) : blkSim cs cs := by
  cases cs with
  | nil => trivial
  | cons v cs => exact simL_refl C.sim_refl _
theorem refS_refl : ∀ s : SW, refS s s
  | [] => trivial
  | b :: s => ⟨⟨rfl, blkSim_refl b.cs⟩, refS_refl s⟩
theorem refS_append : ∀ {s s' : SW} (e : SW), refS s s' → refS (s ++ e) (s' ++ e)
  | [], [], e, _ => refS_refl e
  | _ :: _, _ :: _, e, h => ⟨h.1, refS_append e h.2⟩
  | [], _ :: _, _, h => h.elim
  | _ :: _, [], _, h => h.elim
/-- The first part of a memory is like another one. -/
def refT (s s0 : SW) : Prop := refS (s.take s0.length) s0
theorem refT_len {s s0 : SW} (h : refT s s0) : s0.length ≤ s.length := by
  have := refS_len h
  simp at this; omega
theorem Inv.trim {E W : World} {L : Nat} {ρ : Rh} {s s0 : SW} {w : World} (h : Inv E W L ρ s w) (hr : refT s s0) (hok : okSW s0 = true) (hL : L ≤ s0.length) : Inv E W L ρ s0 w := by
  have h1 : refS s (s0 ++ s.drop s0.length) := by
    have := refS_append (s.drop s0.length) hr
    rwa [List.take_append_drop] at this
  exact (h.ref h1).part (fun i b hb => List.all_eq_true.1 hok b (List.mem_of_getElem? hb)) hL (Agree.refl _ _)
theorem refP_okAll {f : Fr} {n : Nat} : ∀ {l : List (Nat × SV)}, l.all (fun p => p.2.ok n) = true → ∀ p ∈ l, p.2.ok n = true := fun h p hp => List.all_eq_true.1 h p hp
theorem FrRel.refT {n m : Nat} {ρ : Rh} {f : Fr} {a : Act} {l : List (Nat × SV)} (h : FrRel n ρ f a) (hr : refP f l) (hb : l.all (fun p => Nat.blt p.1 f.nt) = true) (hnt : f.nt < 4095)
    (hok : l.all (fun p => p.2.ok m) = true) : FrRel m ρ (mkL f.nt l) a := by
  have h1 := FrRel.ref h hr hb hnt
  have hlt : ∀ p ∈ l, p.1 < f.nt := fun p hp => Nat.le_of_ble_eq_true (List.all_eq_true.1 hb p hp)
  have htr : (mkL f.nt l).tr = setAll (Tr.mkA 12) l := by unfold mkL; rw [setAllK_eq]
  have hnt' : (mkL f.nt l).nt = f.nt := by unfold mkL; rw [setAllK_eq]
  refine ⟨h1.size, h1.val, fun t ht => ?_, h1.defers⟩
  rw [htr]
  rcases setAll_get l (Tr.mkA 12) t (fun p hp => Tr.has_mkA 12 _ (by have := hlt p hp; simp; omega)) with h2 | ⟨v, hv, h2⟩
  · rw [h2, Tr.get_mkA 12 (by decide) t (by rw [hnt'] at ht; simp; omega)]; rfl
  · rw [h2]; exact List.all_eq_true.1 hok _ hv
section
variable {P : PE}
/-- A function with loops: what is left behind unused is forgotten at the heads. -/
theorem calls_loopT {orc : Orc} {tab : Tab} (ho : OrcOK P orc) (ht : TabOK P tab) (hsz : ∀ g fn, tab g = some fn → fn.ntmps < 4095) (hm : P.follows .mixedOrders = true)
    {g : FuncId} {fn : Func} {c : Code} (hf : P.funcs[g]? = some fn) (hc : fn.body = some c) (hnt : fn.ntmps < 4095) {vs : List SV} {s : SW} (hvs : vs.length ≤ fn.ntmps)
    (fuel brk : Nat) {G : Type} (H : G → Prop) (μ : G → Nat) (hd : G → List Item) (Lv : G → List (Nat × SV)) (Sv : G → SW) (hb : ∀ x, (Lv x).all (fun p => Nat.blt p.1 fn.ntmps) = true)
    (hk : ∀ x, H x → (Lv x).all (fun p => p.2.ok (Sv x).length) = true ∧ okSW (Sv x) = true ∧ s.length ≤ (Sv x).length)
    (post : SV → SW → Prop)
    (pro : loopP P fn post (fun todo fr s' => ∃ x, H x ∧ todo = hd x ∧ fr.nt = fn.ntmps ∧ refP fr (Lv x) ∧ refT s' (Sv x)) (run P orc tab fuel brk [.code c] ⟨fn.ntmps, mkFrGo (Tr.mk 12) 0 vs⟩ s))
    (round : ∀ x, H x → loopP P fn post (fun todo fr s' => ∃ y, H y ∧ μ y < μ x ∧ todo = hd y ∧ fr.nt = fn.ntmps ∧ refP fr (Lv y) ∧ refT s' (Sv y)) (run P orc tab fuel brk (hd x) (mkL fn.ntmps (Lv x)) (Sv x)))
    (W : World) (L : Nat) (ρ : Rh) (w : World) (hI : Inv P.E W L ρ s w) (hok : ∀ v ∈ vs, v.ok s.length = true) :
    Calls P g (vs.map (SV.den ρ)).toArray w fun e w' => ∃ v s' ρ', e = .returned (v.den ρ') ∧ Agree s.length ρ ρ' ∧ s.length ≤ s'.length ∧ v.ok s'.length = true ∧ Inv P.E W L ρ' s' w' ∧ post v s' := by
  have fin : ∀ (n : Nat) (lf : Lf) (a' : Act) (w' : World) (ρ' : Rh), s.length ≤ n → Agree s.length ρ ρ' → n ≤ lf.s.length → FrRel lf.s.length ρ' lf.fr a' → Inv P.E W L ρ' lf.s w' →
      (match results1 P fn lf.fr lf.s with | some v => post v lf.s | none => False) →
      bodyPost P fn (fun e w' => ∃ v s' ρ', e = .returned (v.den ρ') ∧ Agree s.length ρ ρ' ∧ s.length ≤ s'.length ∧ v.ok s'.length = true ∧ Inv P.E W L ρ' s' w' ∧ post v s') .normal a' w' := by
    intro n lf a' w' ρ' hn hag hle hf' hI' hp
    split at hp
    · rename_i v hv
      have := results1_sound (P := P) hI' hf' hv
      exact ⟨hf'.defers, _, this.1, v, lf.s, ρ', rfl, hag, Nat.le_trans hn hle, this.2, hI', hp⟩
    · exact hp.elim
  have key : ∀ (m : Nat) (x : G), μ x = m → H x → ∀ (a : Act) (w : World) (ρ1 : Rh), s.length ≤ (Sv x).length → Agree s.length ρ ρ1 → FrRel (Sv x).length ρ1 (mkL fn.ntmps (Lv x)) a → Inv P.E W L ρ1 (Sv x) w →
      TodoWp P (hd x) (bodyPost P fn fun e w' => ∃ v s' ρ', e = .returned (v.den ρ') ∧ Agree s.length ρ ρ' ∧ s.length ≤ s'.length ∧ v.ok s'.length = true ∧ Inv P.E W L ρ' s' w' ∧ post v s') a w := by
    intro m
    induction m using Nat.strongRecOn with
    | _ m ih =>
      intro x hx hH a w ρ1 hlen hag1 hfr hI1
      refine run_sound ho ht hsz hm fuel brk _ _ _ W L ρ1 a w _ _ (loopP_OK _ (round x hH)) hfr hI1 ?_
      intro lf a' w' ρ' hp hag hle hf' hI'
      have hag' : Agree s.length ρ ρ' := hag1.trans hag hlen
      cases he : lf.ended
      · simp only [he, cond_false] at hp
        obtain ⟨y, hy, hmu, htodo, hnt', hr, hs⟩ := hp
        simp only [Bool.false_eq_true, if_false]
        rw [htodo]
        obtain ⟨k1, k2, k3⟩ := hk y hy
        have hfr' := FrRel.refT hf' hr (by rw [hnt']; exact hb y) (by rw [hnt']; exact hnt) k1
        rw [hnt'] at hfr'
        exact ih (μ y) (hx ▸ hmu) y rfl hy a' w' ρ' k3 hag' hfr' (hI'.trim hs k2 (by have := hI.len; omega))
      · simp only [he, cond_true] at hp
        simp only [if_true]
        have := fin (Sv x).length lf a' w' ρ' hlen hag' hle hf' hI' hp
        exact ⟨this, this⟩
  refine callTree_of_wp hf hc ?_
  refine run_sound ho ht hsz hm fuel brk _ _ _ W L ρ _ w _ _ (loopP_OK _ pro) (mkFr_rel hvs hnt hok) hI ?_
  intro lf a' w' ρ' hp hag hle hf' hI'
  cases he : lf.ended
  · simp only [he, cond_false] at hp
    obtain ⟨y, hy, htodo, hnt', hr, hs⟩ := hp
    simp only [Bool.false_eq_true, if_false]
    rw [htodo]
    obtain ⟨k1, k2, k3⟩ := hk y hy
    have hfr' := FrRel.refT hf' hr (by rw [hnt']; exact hb y) (by rw [hnt']; exact hnt) k1
    rw [hnt'] at hfr'
    exact key (μ y) y rfl hy a' w' ρ' k3 hag hfr' (hI'.trim hs k2 (by have := hI.len; omega))
  · simp only [he, cond_true] at hp
    simp only [if_true]
    have := fin s.length lf a' w' ρ' (Nat.le_refl _) hag hle hf' hI' hp
    exact ⟨this, this⟩

/-- What is to be shown of a contract with a memory, of which the first part goes on. -/
def conT (v : SV) (s' : SW) : Tree (SV × SW) → Prop
  | .leaf (u, s) => SV.sim u v ∧ refT s s'
  | .node b t f => (b = true → conT v s' t) ∧ (b = false → conT v s' f)
  | .need b t => b = true ∧ conT v s' t
  | .fail => False
theorem conT_OK {v : SV} {s' : SW} : ∀ (t : Tree (SV × SW)), conT v s' t → t.OK fun r => SV.sim r.1 v ∧ refT r.2 s' := by
  intro t
  induction t with
  | leaf x => exact id
  | node b t f iht ihf => exact fun h => ⟨fun hb => iht (h.1 hb), fun hb => ihf (h.2 hb)⟩
  | need b t ih => exact fun h => ⟨h.1, ih h.2⟩
  | fail => exact id
theorem heap_contractT {g : FuncId} {vs : List SV} {s s' : SW} {t : Tree (SV × SW)} {v : SV} (h : CallTree P g vs s t) (hl : s.length ≤ s'.length) (hv : v.ok s'.length = true) (hok : okSW s' = true) (ht : conT v s' t) :
    CallTree P g vs s (.leaf (v, s')) := by
  intro W L ρ w post hI hok' hp
  refine Calls.mono (h W L ρ w _ hI hok' (conT_OK t ht)) ?_
  rintro e w' ⟨u, s1, ρ', rfl, hag, hle, _, hI', hs, hr⟩
  exact ⟨v, s', ρ', by rw [SV.sim_den hs], hag, hl, hv, hI'.trim hr hok (by have := hI.len; omega), hp⟩
/-- A call after which the memory is one that is spoken of: what is to be shown of each of its ends. -/
def conE {G : Type} (H : G → Prop) (v : G → SV) (s' : G → SW) : Tree (SV × SW) → Prop
  | .leaf (u, s) => ∃ x, H x ∧ SV.sim u (v x) ∧ refT s (s' x)
  | .node b t f => (b = true → conE H v s' t) ∧ (b = false → conE H v s' f)
  | .need b t => b = true ∧ conE H v s' t
  | .fail => False
/-- A proposition that is not to be unfolded on the way. -/
structure Holds (p : Prop) : Prop where
  out : p
theorem pure_contractH {g : FuncId} {vs : List SV} {t : Tree (SV × SW)} (h : CallTree P g vs [] t) (hvs : ∀ v ∈ vs, v.ok 0 = true) {v : SV} (hv : v.ok 0 = true)
    (ht : Holds (conP v t)) (s : SW) : CallTree P g vs s (.leaf (v, s)) := pure_contract h hvs hv (conP_OK _ ht.out) s
theorem law_of_treeH {g : FuncId} {vs : List SV} {t : Tree (SV × SW)} (hc : CallTree P g vs [] t) (hok : ∀ v ∈ vs, v.ok 0 = true) (args : Array Value)
    (hargs : (vs.map (SV.den Rh0)).toArray = args) (ht : Holds (lawP t)) (w : World) (hE : P.E = w) :
    Calls P g args w fun e w' => e = .returned (.bool true) ∧ Grew w w' := law_of_tree hc hok args hargs (lawP_OK _ ht.out) w hE
theorem heap_contractTH {g : FuncId} {vs : List SV} {s s' : SW} {t : Tree (SV × SW)} {v : SV} (h : CallTree P g vs s t) (hl : s.length ≤ s'.length) (hv : v.ok s'.length = true) (hok : okSW s' = true)
    (ht : Holds (conT v s' t)) : CallTree P g vs s (.leaf (v, s')) := heap_contractT h hl hv hok ht.out
/-- A contract of a function that leaves the memory as it was. -/
def conS (v : SV) (s : SW) : Tree (SV × SW) → Prop
  | .leaf (u, s1) => SV.sim u v ∧ s1 = s
  | .node b t f => (b = true → conS v s t) ∧ (b = false → conS v s f)
  | .need b t => b = true ∧ conS v s t
  | .fail => False
theorem conS_OK {v : SV} {s : SW} : ∀ (t : Tree (SV × SW)), conS v s t → t.OK fun r => SV.sim r.1 v ∧ r.2 = s := by
  intro t
  induction t with
  | leaf x => exact id
  | node b t f iht ihf => exact fun h => ⟨fun hb => iht (h.1 hb), fun hb => ihf (h.2 hb)⟩
  | need b t ih => exact fun h => ⟨h.1, ih h.2⟩
  | fail => exact id
theorem heap_contractS {g : FuncId} {vs : List SV} {s : SW} {t : Tree (SV × SW)} {v : SV} (h : CallTree P g vs s t) (hv : v.ok 0 = true) (ht : Holds (conS v s t)) : CallTree P g vs s (.leaf (v, s)) := by
  intro W L ρ w post hI hok hp
  refine Calls.mono (h W L ρ w _ hI hok (conS_OK t ht.out)) ?_
  rintro e w' ⟨u, s1, ρ', rfl, hag, hle, _, hI', hs, hr⟩
  simp only at hr hs
  subst hr
  exact ⟨v, s1, ρ', by rw [SV.sim_den hs], hag, hle, SV.ok_mono (Nat.zero_le _) hv, hI', hp⟩
end
end Go.Proofs.Ytkeinfmfkcgkhaa.Ev

namespace Go.Proofs.Ytkeinfmfkcgkhaa.Ev
open Go
/-! ### 21. A pure function's answer as one value: its ways are put together by cond -/
def dflt : C := .b false false
def cInt : C → Int | .i _ _ n => n | _ => 0
def cBool : C → Bool | .b _ v => v | _ => false
def tInt : Tree (SV × SW) → Int
  | .leaf (.c x, _) => cInt x
  | .node b t f => cond b (tInt t) (tInt f)
  | .need _ t => tInt t
  | _ => 0
def tBool : Tree (SV × SW) → Bool
  | .leaf (.c x, _) => cBool x
  | .node b t f => cond b (tBool t) (tBool f)
  | .need _ t => tBool t
  | _ => false
def tIntAt (j : Nat) : Tree (SV × SW) → Int
  | .leaf (.a l, _) => cInt (l.getD j dflt)
  | .node b t f => cond b (tIntAt j t) (tIntAt j f)
  | .need _ t => tIntAt j t
  | _ => 0
def tBoolAt (j : Nat) : Tree (SV × SW) → Bool
  | .leaf (.a l, _) => cBool (l.getD j dflt)
  | .node b t f => cond b (tBoolAt j t) (tBoolAt j f)
  | .need _ t => tBoolAt j t
  | _ => false
def EK.has : EK → C → Bool | .i k, .i _ k' _ => decide (k' = k) | .b, .b _ _ => true | _, _ => false
def EK.hasL : List EK → List C → Bool | [], [] => true | k :: ks, c :: cs => EK.has k c && EK.hasL ks cs | _, _ => false
/-- What is needed on the way that is gone; is anything needed at all? -/
def tNeed : Tree (SV × SW) → Bool
  | .node b t f => cond b (tNeed t) (tNeed f)
  | .need b t => b && tNeed t
  | _ => true
def hasN : Tree (SV × SW) → Bool
  | .node _ t f => hasN t || hasN f
  | .need _ _ => true
  | _ => false
theorem tNeed_of : ∀ t : Tree (SV × SW), hasN t = false → tNeed t = true := by
  intro t
  induction t with
  | leaf x => intro _; rfl
  | node b t f iht ihf =>
    intro h
    simp only [hasN, Bool.or_eq_false_iff] at h
    cases b
    · exact ihf h.2
    · exact iht h.1
  | need b t ih => intro h; cases h
  | fail => intro _; rfl
/-- Every way ends in a number of this kind. -/
def shI (k : IntKind) : Tree (SV × SW) → Bool
  | .leaf (.c x, _) => EK.has (.i k) x
  | .node _ t f => shI k t && shI k f
  | .need _ t => shI k t
  | _ => false
def shB : Tree (SV × SW) → Bool
  | .leaf (.c x, _) => EK.has .b x
  | .node _ t f => shB t && shB f
  | .need _ t => shB t
  | _ => false
def shA (ks : List EK) : Tree (SV × SW) → Bool
  | .leaf (.a l, _) => EK.hasL ks l
  | .node _ t f => shA ks t && shA ks f
  | .need _ t => shA ks t
  | _ => false
theorem shI_con {k : IntKind} : ∀ t : Tree (SV × SW), shI k t = true → tNeed t = true → conP (.c (.i false k (tInt t))) t := by
  intro t
  induction t with
  | leaf x =>
    intro h _
    obtain ⟨v, s⟩ := x
    cases v with
    | c x => cases x <;> simp_all [shI, EK.has, conP, SV.sim, C.sim, tInt, cInt]
    | _ => simp [shI] at h
  | node b t f iht ihf =>
    intro h hn
    simp only [shI, Bool.and_eq_true] at h
    refine ⟨fun hb => ?_, fun hb => ?_⟩
    · subst hb; exact iht h.1 hn
    · subst hb; exact ihf h.2 hn
  | need b t ih =>
    intro h hn
    simp only [tNeed, Bool.and_eq_true] at hn
    exact ⟨hn.1, ih h hn.2⟩
  | fail => intro h; simp [shI] at h
theorem shB_con : ∀ t : Tree (SV × SW), shB t = true → tNeed t = true → conP (.c (.b false (tBool t))) t := by
  intro t
  induction t with
  | leaf x =>
    intro h _
    obtain ⟨v, s⟩ := x
    cases v with
    | c x => cases x <;> simp_all [shB, EK.has, conP, SV.sim, C.sim, tBool, cBool]
    | _ => simp [shB] at h
  | node b t f iht ihf =>
    intro h hn
    simp only [shB, Bool.and_eq_true] at h
    refine ⟨fun hb => ?_, fun hb => ?_⟩
    · subst hb; exact iht h.1 hn
    · subst hb; exact ihf h.2 hn
  | need b t ih =>
    intro h hn
    simp only [tNeed, Bool.and_eq_true] at hn
    exact ⟨hn.1, ih h hn.2⟩
  | fail => intro h; simp [shB] at h
/-- The cells j, j + 1, .. of these kinds. -/
def cellsT : List EK → (Nat → Int) → (Nat → Bool) → Nat → List C
  | [], _, _, _ => []
  | .i k :: ks, gi, gb, j => .i false k (gi j) :: cellsT ks gi gb (j + 1)
  | .b :: ks, gi, gb, j => .b false (gb j) :: cellsT ks gi gb (j + 1)
  | _ :: ks, gi, gb, j => .b false (gb j) :: cellsT ks gi gb (j + 1)
theorem simL_cons {x y : C} {xs ys : List C} (h : C.sim x y) (hs : simL C.sim xs ys) : simL C.sim (x :: xs) (y :: ys) := by
  cases xs <;> cases ys <;> first | exact h | exact ⟨h, hs⟩ | exact hs.elim
theorem cellsT_sim : ∀ (ks : List EK) (l pre : List C), EK.hasL ks l = true → simL C.sim l (cellsT ks (fun j => cInt ((pre ++ l).getD j dflt)) (fun j => cBool ((pre ++ l).getD j dflt)) pre.length)
  | [], [], _, _ => trivial
  | k :: ks, c :: cs, pre, h => by
    simp only [EK.hasL, Bool.and_eq_true] at h
    have ih := cellsT_sim ks cs (pre ++ [c]) h.2
    simp only [List.append_assoc, List.singleton_append, List.length_append, List.length_singleton] at ih
    have e : (pre ++ c :: cs).getD pre.length dflt = c := by simp [List.getD]
    cases k with
    | i k =>
      cases c with
      | i l k' n =>
        refine simL_cons ?_ ih
        have h1 := h.1
        simp only [EK.has, decide_eq_true_eq] at h1
        simp only [e, cInt, C.sim]
        exact ⟨h1, trivial⟩
      | _ => exact absurd h.1 (by simp [EK.has])
    | b =>
      cases c with
      | b l v =>
        refine simL_cons ?_ ih
        simp only [e, cBool, C.sim]
      | _ => exact absurd h.1 (by simp [EK.has])
    | _ => exact absurd h.1 (by simp [EK.has])
  | [], _ :: _, _, h => by cases h
  | _ :: _, [], _, h => by cases h
theorem shA_con {ks : List EK} : ∀ t : Tree (SV × SW), shA ks t = true → tNeed t = true → conP (.a (cellsT ks (fun j => tIntAt j t) (fun j => tBoolAt j t) 0)) t := by
  intro t
  induction t with
  | leaf x =>
    intro h _
    obtain ⟨v, s⟩ := x
    cases v with
    | a l => exact cellsT_sim ks l [] h
    | _ => simp [shA] at h
  | node b t f iht ihf =>
    intro h hn
    simp only [shA, Bool.and_eq_true] at h
    refine ⟨fun hb => ?_, fun hb => ?_⟩
    · subst hb; exact iht h.1 hn
    · subst hb; exact ihf h.2 hn
  | need b t ih =>
    intro h hn
    simp only [tNeed, Bool.and_eq_true] at hn
    exact ⟨hn.1, ih h hn.2⟩
  | fail => intro h; simp [shA] at h
/-- What a function's ways are put together to. -/
inductive Ans where | i (k : IntKind) | b | a (ks : List EK)
def Ans.sh : Ans → Tree (SV × SW) → Bool | .i k, t => shI k t | .b, t => shB t | .a ks, t => shA ks t
def Ans.val : Ans → Tree (SV × SW) → SV | .i k, t => .c (.i false k (tInt t)) | .b, t => .c (.b false (tBool t)) | .a ks, t => .a (cellsT ks (fun j => tIntAt j t) (fun j => tBoolAt j t) 0)
theorem cellsT_ok : ∀ (ks : List EK) (gi : Nat → Int) (gb : Nat → Bool) (j : Nat), okL 0 (cellsT ks gi gb j) = true
  | [], _, _, _ => rfl
  | .i k :: ks, gi, gb, j => by simp only [cellsT, okL, List.all_cons, Bool.and_eq_true]; exact ⟨rfl, cellsT_ok ks gi gb (j + 1)⟩
  | .b :: ks, gi, gb, j => by simp only [cellsT, okL, List.all_cons, Bool.and_eq_true]; exact ⟨rfl, cellsT_ok ks gi gb (j + 1)⟩
  | .s :: ks, gi, gb, j => by simp only [cellsT, okL, List.all_cons, Bool.and_eq_true]; exact ⟨rfl, cellsT_ok ks gi gb (j + 1)⟩
  | .l :: ks, gi, gb, j => by simp only [cellsT, okL, List.all_cons, Bool.and_eq_true]; exact ⟨rfl, cellsT_ok ks gi gb (j + 1)⟩
theorem Ans.val_ok (a : Ans) (t : Tree (SV × SW)) : (a.val t).ok 0 = true := by
  cases a with
  | i k => rfl
  | b => rfl
  | a ks => exact cellsT_ok ks _ _ 0
theorem Ans.con (a : Ans) (t : Tree (SV × SW)) (h : a.sh t = true) (hn : tNeed t = true) : conP (a.val t) t := by
  cases a with
  | i k => exact shI_con t h hn
  | b => exact shB_con t h hn
  | a ks => exact shA_con t h hn
def withN (t : Tree (SV × SW)) (x : Tree (SV × SW)) : Tree (SV × SW) := cond (hasN t) (.need (tNeed t) x) x
/-- Calls of f with plain arguments are answered by one value where all its ways have the shape; else as o says. -/
def autoO (P : PE) (o : Orc) (tab : Tab) (fuel : Nat) (f : FuncId) (fn : Func) (a : Ans) (p : List SV → Bool) (o' : Orc) : Orc := fun g vs s =>
  cond (Nat.beq g f && p vs && vs.all (SV.ok 0)) (cond (a.sh (fnTree P o tab fuel fn vs [])) (some (withN (fnTree P o tab fuel fn vs []) (.leaf (a.val (fnTree P o tab fuel fn vs []), s)))) (o' g vs s)) (o' g vs s)
theorem autoO_ok {P : PE} {o o' : Orc} {tab : Tab} (ho : OrcOK P o) (ho' : OrcOK P o') (ht : TabOK P tab) (hsz : ∀ g fn, tab g = some fn → fn.ntmps < 4095) (hm : P.follows .mixedOrders = true)
    (fuel : Nat) {f : FuncId} {fn : Func} (a : Ans) (p : List SV → Bool) (hf : P.funcs[f]? = some fn) (hnt : fn.ntmps < 4095) : OrcOK P (autoO P o tab fuel f fn a p o') := by
  intro g vs s t h
  unfold autoO at h
  cases h1 : (Nat.beq g f && p vs && vs.all (SV.ok 0)) with
  | false => rw [h1] at h; exact ho' g vs s t h
  | true =>
    rw [h1] at h
    simp only [cond_true] at h
    cases h2 : a.sh (fnTree P o tab fuel fn vs []) with
    | false => rw [h2] at h; exact ho' g vs s t h
    | true =>
      rw [h2] at h
      simp only [cond_true, Option.some.injEq] at h
      subst h
      simp only [Bool.and_eq_true, List.all_eq_true] at h1
      have hg : g = f := Nat.eq_of_beq_eq_true h1.1.1
      subst hg
      have key := fun hn => pure_contractH (fnTree_sound ho ht hsz hm fuel hf hnt vs []) (fun v hv => h1.2 v hv) (a.val_ok _) ⟨a.con _ h2 hn⟩ s
      unfold withN
      cases h3 : hasN (fnTree P o tab fuel fn vs []) with
      | false => exact key (tNeed_of _ h3)
      | true => exact CallTree.need key
end Go.Proofs.Ytkeinfmfkcgkhaa.Ev

namespace Go.Proofs.Ytkeinfmfkcgkhaa.Ev
open Go Go.RowKit
section
variable {P : PE}
theorem Inv.below {W : World} {L : Nat} {ρ : Rh} {s : SW} {w w' : World} (h : Inv P.E W L ρ s w) (hb : Below w.heap.size w w') : Inv P.E W L ρ s w' := by
  have hold : ∀ b, b < w.heap.size → w'.heap[b]? = w.heap[b]? := hb.block
  refine ⟨fun i b hi => ?_, h.okc, h.inj, Nat.le_trans h.grow hb.size, fun b hlt hL => ?_, h.fresh, trivial, hb.os.trans h.os, hb.output.trans h.out, hb.tape.trans h.tape, h.len, ⟨Nat.le_trans h.ext.1 hb.size, fun b hlt => ?_, h.ext.2.2⟩⟩
  · exact (h.blk i b hi).heap (hold _ (h.lt (List.getElem?_eq_some_iff.1 hi).1))
  · rw [hold b (Nat.lt_of_lt_of_le hlt h.grow)]; exact h.old b hlt hL
  · rw [hold b (Nat.lt_of_lt_of_le hlt h.ext.1)]; exact h.ext.2.1 b hlt
/-- A function of plain values that leaves what was there. -/
theorem calls_pure {g : FuncId} {vs : List SV} {v : SV} (hvs : ∀ v ∈ vs, v.ok 0 = true) (hv : v.ok 0 = true)
    (h : ∀ w, Calls P g (vs.map (SV.den Rh0)).toArray w fun e w' => e = .returned (v.den Rh0) ∧ Below w.heap.size w w') (s : SW) : CallTree P g vs s (.leaf (v, s)) := by
  intro W L ρ w post hI _ hp
  have hag : Agree 0 (Rh0) ρ := fun i hi => absurd hi (Nat.not_lt_zero _)
  have hargs : (vs.map (SV.den ρ)) = vs.map (SV.den Rh0) := List.map_congr_left fun x hx => SV.den_agree hag (hvs x hx)
  rw [hargs]
  refine Calls.mono (h w) ?_
  rintro e w' ⟨rfl, hb⟩
  refine ⟨v, s, ρ, ?_, Agree.refl _ _, Nat.le_refl _, SV.ok_mono (Nat.zero_le _) hv, hI.below hb, hp⟩
  rw [SV.den_agree hag hv]
end
/-! ### Copies of a text -/
def repB (s : ByteArray) (c : Int) : ByteArray := ⟨(Lib.repeatL s.data.toList c.toNat).toArray⟩
def repOK (s : ByteArray) (c : Int) : Bool := decide (0 ≤ c) && Nat.ble (s.size * c.toNat) 140737488355328 && decide (c ≤ 9223372036854775807)
theorem repB_size (s : ByteArray) (c : Int) : (repB s c).size = c.toNat * s.size := by
  unfold repB ByteArray.size
  simp [Lib.repeatL_length]
theorem calls_repeat {P : Program} {f : FuncId}
    (hmain : ∀ (s : ByteArray) (c : Nat) (w : World), 2 ≤ c → c ≤ 9223372036854775807 → s.size * c ≤ 140737488355328 → 0 < s.size →
      Calls P f #[.string s, .int .i64 c] w fun e w' => e = .returned (.string ⟨(Lib.repeatL s.data.toList c).toArray⟩) ∧ Below w.heap.size w w')
    (h0 : ∀ (s : ByteArray) (w : World), Calls P f #[.string s, .int .i64 0] w fun e w' => e = .returned (.string ⟨#[]⟩) ∧ w' = w)
    (h1 : ∀ (s : ByteArray) (w : World), Calls P f #[.string s, .int .i64 1] w fun e w' => e = .returned (.string s) ∧ w' = w)
    (hz : ∀ (s : ByteArray) (c : Nat) (w : World), 2 ≤ c → c ≤ 9223372036854775807 → s.size = 0 → Calls P f #[.string s, .int .i64 c] w fun e w' => e = .returned (.string ⟨#[]⟩) ∧ w' = w)
    (s : ByteArray) (c : Int) (h : repOK s c = true) (w : World) :
    Calls P f #[.string s, .int .i64 c] w fun e w' => e = .returned (.string (repB s c)) ∧ Below w.heap.size w w' := by
  simp only [repOK, Bool.and_eq_true, decide_eq_true_eq] at h
  obtain ⟨⟨h2, h3⟩, h4⟩ := h
  have h3 := Nat.le_of_ble_eq_true h3
  obtain ⟨n, rfl⟩ := Int.eq_ofNat_of_zero_le h2
  have e : ((n : Int)).toNat = n := rfl
  rw [e] at h3
  by_cases e0 : n = 0
  · subst e0
    exact Calls.mono (h0 s w) (by rintro e w' ⟨rfl, rfl⟩; exact ⟨rfl, Below.refl _ _⟩)
  by_cases e1 : n = 1
  · subst e1
    exact Calls.mono (h1 s w) (by
      rintro e w' ⟨rfl, rfl⟩
      refine ⟨?_, Below.refl _ _⟩
      have : repB s ((1 : Nat) : Int) = s := by
        unfold repB
        rw [show (((1 : Nat) : Int)).toNat = 1 from rfl, Lib.repeatL_one]
      rw [this])
  have hc : n ≤ 9223372036854775807 := by omega
  by_cases hs : s.size = 0
  · refine Calls.mono (hz s n w (by omega) hc hs) ?_
    rintro e w' ⟨rfl, rfl⟩
    refine ⟨?_, Below.refl _ _⟩
    have hd : s.data.toList = [] := by
      have : s.data.size = 0 := hs
      exact List.eq_nil_of_length_eq_zero (by simpa using this)
    unfold repB
    rw [hd, Lib.repeatL_nil]
  · exact hmain s n w (by omega) hc h3 (by omega)
end Go.Proofs.Ytkeinfmfkcgkhaa.Ev

namespace Go.Proofs.Ytkeinfmfkcgkhaa.Ev
open Go Go.RowKit
/-! ### Texts put together -/
/-- What is known of a text: that it is known, or its size. -/
inductive TK where
  | lit
  | sz (n : Nat)
  | un
def TK.join : TK → Nat → TK → TK
  | .lit, _, .lit => .lit
  | .lit, n, .sz m => .sz (n + m)
  | .sz n, _, .sz m => .sz (n + m)
  | _, _, _ => .un
def TK.size : TK → Nat → TK
  | .lit, n => .sz n
  | k, _ => k
def TK.mk : TK → ByteArray → C
  | .lit, s => .str true s
  | .sz n, s => .strn n s
  | .un, s => .str false s
theorem TK.mk_den (k : TK) (s : ByteArray) (ρ : Rh) : (k.mk s).den ρ = .string s := by cases k <;> rfl
theorem TK.mk_ok (k : TK) (s : ByteArray) (n : Nat) : (k.mk s).ok n = true := by cases k <;> rfl
/-- A text that is known, and not too long to be reckoned with. -/
def TK.fit (k : TK) (n : Nat) : TK := match k with | .lit => cond (Nat.ble n 1024) .lit (forceN n fun n => .sz n) | k => k
def strsK {γ : Type} : List C → (TK → Nat → List ByteArray → Option γ) → Option γ
  | [], K => K .lit 0 []
  | .str true x :: r, K => strsK r fun k n xs => (match k with | .lit => forceN (x.size + n) fun n => K .lit n (x :: xs) | .sz m => forceN (x.size + m) fun m => K (.sz m) 0 (x :: xs) | .un => K .un 0 (x :: xs))
  | .str false x :: r, K => strsK r fun _ _ xs => K .un 0 (x :: xs)
  | .strn m x :: r, K => strsK r fun k n xs => (match k with | .lit => forceN (m + n) fun n => K (.sz n) 0 (x :: xs) | .sz n => forceN (m + n) fun n => K (.sz n) 0 (x :: xs) | .un => K .un 0 (x :: xs))
  | _, _ => none
theorem strsK_spec {γ : Type} : ∀ (cs : List C) (K : TK → Nat → List ByteArray → Option γ) (r : γ), strsK cs K = some r → ∃ l n xs, K l n xs = some r ∧ xs.length = cs.length ∧ ∀ ρ, cs.map (C.den ρ) = xs.map Value.string
  | [], K, r, h => ⟨.lit, 0, [], h, rfl, fun _ => rfl⟩
  | c :: cs, K, r, h => by
    have fin : ∀ (x : ByteArray) (xs : List ByteArray) (k : TK) (n : Nat), (∀ ρ, c.den ρ = .string x) → xs.length = cs.length → (∀ ρ, cs.map (C.den ρ) = xs.map Value.string) → K k n (x :: xs) = some r →
        ∃ l n xs, K l n xs = some r ∧ xs.length = (c :: cs).length ∧ ∀ ρ, (c :: cs).map (C.den ρ) = xs.map Value.string :=
      fun x xs k n hc hl hx hk => ⟨k, n, x :: xs, hk, by simp [hl], fun ρ => by simp only [List.map_cons, hc ρ, hx ρ]⟩
    cases c with
    | str l x =>
      cases l <;> simp only [strsK] at h
      · obtain ⟨k, n, xs, h1, h2, h3⟩ := strsK_spec cs _ r h
        exact fin x xs _ _ (fun _ => rfl) h2 h3 h1
      · obtain ⟨k, n, xs, h1, h2, h3⟩ := strsK_spec cs _ r h
        cases k <;> simp only [forceN_eq] at h1 <;> exact fin x xs _ _ (fun _ => rfl) h2 h3 h1
    | strn m x =>
      simp only [strsK] at h
      obtain ⟨k, n, xs, h1, h2, h3⟩ := strsK_spec cs _ r h
      cases k <;> simp only [forceN_eq] at h1 <;> exact fin x xs _ _ (fun _ => rfl) h2 h3 h1
    | _ => cases h
def viewStr {γ : Type} (s : SW) (x : C) (K : TK → Nat → List ByteArray → Option γ) : Option γ :=
  match x with
  | .slc b o n cap => (match s[b]? with
    | none => none
    | some bl => takeLK n (bl.cs.drop o) fun l => cond (Nat.beq l.length n && Nat.ble n cap) (strsK l K) none)
  | .sla b o n sz => (match s[b]? with
    | none => none
    | some bl => takeLK n (bl.cs.drop o) fun l => cond (Nat.beq l.length n && Nat.beq sz 1 && Nat.ble (o + n) bl.cs.length) (strsK l K) none)
  | _ => none
section
variable {P : PE} {E W : World} {L : Nat} {ρ : Rh} {s : SW} {w : World}
theorem viewStr_spec {γ : Type} {x : C} {K : TK → Nat → List ByteArray → Option γ} {r : γ} (hI : Inv E W L ρ s w) (h : viewStr s x K = some r) :
    ∃ lt nn xs bk o c, K lt nn xs = some r ∧ x.den ρ = .slice (some ⟨bk, o, none⟩) xs.length c ∧ (∀ (j : Nat) y, xs[j]? = some y → w.cell? ⟨bk, o + j, none⟩ = some (.string y)) ∧ bk < w.heap.size ∧ xs.length ≤ c := by
  have key : ∀ (b o n : Nat) (bl : Bl), s[b]? = some bl → ((bl.cs.drop o).take n).length = n → strsK ((bl.cs.drop o).take n) K = some r →
      ∃ lt nn xs, K lt nn xs = some r ∧ xs.length = n ∧ (∀ (j : Nat) y, xs[j]? = some y → w.cell? ⟨ρ b, o + j, none⟩ = some (.string y)) ∧ ρ b < w.heap.size := by
    intro b o n bl hb hl h
    obtain ⟨lt, nn, xs, h1, h2, h3⟩ := strsK_spec _ _ _ h
    refine ⟨lt, nn, xs, h1, h2.trans hl, fun j y hy => ?_, hI.lt (List.getElem?_eq_some_iff.1 hb).1⟩
    have hj : (((bl.cs.drop o).take n).map (C.den ρ))[j]? = some (.string y) := by
      rw [h3 ρ, List.getElem?_map, hy]; rfl
    rw [List.getElem?_map] at hj
    cases hc : ((bl.cs.drop o).take n)[j]? with
    | none => rw [hc] at hj; simp at hj
    | some c =>
      rw [hc] at hj; simp at hj
      have hj' : j < n := by
        have := (List.getElem?_eq_some_iff.1 hc).1
        simp at this; omega
      rw [List.getElem?_take_of_lt hj', List.getElem?_drop] at hc
      rw [← hj]
      exact (hI.cell hb hc).1
  unfold viewStr at h
  split at h
  · rename_i b o n cap
    split at h
    · cases h
    rename_i bl hb
    rw [takeLK_eq] at h
    cases hc : (Nat.beq ((bl.cs.drop o).take n).length n && Nat.ble n cap) <;> simp only [hc, cond_true, cond_false] at h
    · cases h
    simp only [Bool.and_eq_true] at hc
    obtain ⟨lt, nn, xs, h1, h2, h3, h4⟩ := key b o n bl hb (Nat.eq_of_beq_eq_true hc.1) h
    exact ⟨lt, nn, xs, ρ b, o, cap, h1, by rw [h2]; rfl, h3, h4, by rw [h2]; exact Nat.le_of_ble_eq_true hc.2⟩
  · rename_i b o n sz
    split at h
    · cases h
    rename_i bl hb
    rw [takeLK_eq] at h
    cases hc : (Nat.beq ((bl.cs.drop o).take n).length n && Nat.beq sz 1 && Nat.ble (o + n) bl.cs.length) <;> simp only [hc, cond_true, cond_false] at h
    · cases h
    simp only [Bool.and_eq_true] at hc
    obtain ⟨lt, nn, xs, h1, h2, h3, h4⟩ := key b o n bl hb (Nat.eq_of_beq_eq_true hc.1.1) h
    obtain rfl := Nat.eq_of_beq_eq_true hc.1.2
    have hle := Nat.le_of_ble_eq_true hc.2
    refine ⟨lt, nn, xs, ρ b, o, ρ.c b / 1 - o / 1, h1, by rw [h2]; rfl, h3, h4, ?_⟩
    rw [h2, Nat.div_one, Nat.div_one]
    rcases hI.blk b bl hb with ⟨_, rest, _, hlen⟩ | ⟨_, he, _⟩
    · omega
    · rw [he] at hle; simp at hle; omega
  · cases h
def catL (xs : List ByteArray) : List UInt8 := (xs.map (·.data.toList)).flatten
def catB (xs : List ByteArray) : ByteArray := ⟨(catL xs).toArray⟩
def room (n : Nat) : Bool := Nat.ble n 140737488355328
/-- A function that puts texts together. -/
def orcCat (f : FuncId) : Orc := fun g vs s => cond (Nat.beq g f) (match vs with
  | [.c x] => viewStr s x fun k n xs => some (.need (room (catL xs).length && Nat.ble xs.length 1000000) (.leaf (.c ((k.fit n).mk (catB xs)), s)))
  | _ => none) none
theorem cat_tree {g : FuncId} {x : C} {s : SW} {t : Tree (SV × SW)} {kk : TK → Nat → TK} {k : List ByteArray → Bool × ByteArray} {mk : C → List SV}
    (h : viewStr s x (fun q n xs => some (Tree.need (k xs).1 (.leaf (SV.c ((kk q n).mk (k xs).2), s)))) = some t)
    (hc : ∀ (ρ : Rh) (bk o c : Nat) (xs : List ByteArray) (w : World), x.den ρ = .slice (some ⟨bk, o, none⟩) xs.length c → (∀ (j : Nat) y, xs[j]? = some y → w.cell? ⟨bk, o + j, none⟩ = some (.string y)) → bk < w.heap.size → xs.length ≤ c → (k xs).1 = true →
      Calls P g ((mk x).map (SV.den ρ)).toArray w fun e w' => e = .returned (.string (k xs).2) ∧ Below w.heap.size w w') :
    CallTree P g (mk x) s t := by
  intro W L ρ w post hI _ hp
  obtain ⟨lt, nn, xs, bk, o, c, h1, h2, h3, h4, h5⟩ := viewStr_spec hI h
  simp at h1; subst h1
  refine Calls.mono (hc ρ bk o c xs w h2 h3 h4 h5 hp.1) ?_
  rintro e w' ⟨rfl, hb⟩
  exact ⟨SV.c ((kk lt nn).mk (k xs).2), s, ρ, by rw [SV.den, TK.mk_den], Agree.refl _ _, Nat.le_refl _, TK.mk_ok _ _ _, hI.below hb, hp.2⟩
theorem orcCat_ok {f : FuncId} (hc : ∀ (bk o c : Nat) (xs : List ByteArray) (w : World), (∀ (j : Nat) y, xs[j]? = some y → w.cell? ⟨bk, o + j, none⟩ = some (.string y)) → bk < w.heap.size → xs.length ≤ 1000000 → xs.length ≤ c → (catL xs).length ≤ 140737488355328 →
    Calls P f #[.slice (some ⟨bk, o, none⟩) xs.length c] w fun e w' => e = .returned (.string (catB xs)) ∧ Below w.heap.size w w') : OrcOK P (orcCat f) := by
  intro g vs s t h
  unfold orcCat at h
  cases hg : Nat.beq g f <;> simp only [hg, cond_true, cond_false] at h
  · cases h
  obtain rfl := Nat.eq_of_beq_eq_true hg
  split at h
  · rename_i x
    refine cat_tree (P := P) (kk := TK.fit) (k := fun xs => (room (catL xs).length && Nat.ble xs.length 1000000, catB xs)) (mk := fun x => [.c x]) h ?_
    intro ρ bk o c xs w h2 h3 h4 h5 h6
    simp only [Bool.and_eq_true] at h6
    have := hc bk o c xs w h3 h4 (Nat.le_of_ble_eq_true h6.2) h5 (Nat.le_of_ble_eq_true h6.1)
    simpa [SV.den, h2] using this
  · cases h
def joinL (xs : List ByteArray) (sep : ByteArray) : List UInt8 := Lib.join (xs.map (·.data.toList)) sep.data.toList
def orcJoin (f : FuncId) : Orc := fun g vs s => cond (Nat.beq g f) (match vs with
  | [.c x, .c (.str true sep)] => viewStr s x fun k n xs => some (.need (room (joinL xs sep).length && room xs.length) (.leaf (.c ((cond (Nat.beq sep.size 0) (k.fit n) .un).mk ⟨(joinL xs sep).toArray⟩), s)))
  | _ => none) none
theorem orcJoin_ok {f : FuncId} (hc : ∀ (bk o c : Nat) (xs : List ByteArray) (sep : ByteArray) (w : World), (∀ (j : Nat) y, xs[j]? = some y → w.cell? ⟨bk, o + j, none⟩ = some (.string y)) → bk < w.heap.size → xs.length ≤ 140737488355328 → xs.length ≤ c →
    (Lib.join (xs.map (·.data.toList)) sep.data.toList).length ≤ 140737488355328 →
    Calls P f #[.slice (some ⟨bk, o, none⟩) xs.length c, .string sep] w fun e w' => e = .returned (.string ⟨(Lib.join (xs.map (·.data.toList)) sep.data.toList).toArray⟩) ∧ Below w.heap.size w w') : OrcOK P (orcJoin f) := by
  intro g vs s t h
  unfold orcJoin at h
  cases hg : Nat.beq g f <;> simp only [hg, cond_true, cond_false] at h
  · cases h
  obtain rfl := Nat.eq_of_beq_eq_true hg
  split at h
  · rename_i x sep
    refine cat_tree (P := P) (kk := fun k n => cond (Nat.beq sep.size 0) (k.fit n) .un) (k := fun xs => (room (joinL xs sep).length && room xs.length, ⟨(joinL xs sep).toArray⟩)) (mk := fun x => [.c x, .c (.str true sep)]) h ?_
    intro ρ bk o c xs w h2 h3 h4 h5 h6
    simp only [Bool.and_eq_true] at h6
    have := hc bk o c xs sep w h3 h4 (Nat.le_of_ble_eq_true h6.2) h5 (Nat.le_of_ble_eq_true h6.1)
    have e : (([SV.c x, SV.c (.str true sep)] : List SV).map (SV.den ρ)).toArray = #[.slice (some ⟨bk, o, none⟩) xs.length c, .string sep] := by
      show (#[x.den ρ, .string sep] : Array Value) = _
      rw [h2]
    rw [e]
    exact this
  · cases h
/-- Copies of a text, not to be reckoned by the kernel. -/
def repV (E : World) (x : ByteArray) (n : Int) : ByteArray := cond (Nat.beq E.heap.size 0) (repB x n) (repB x n)
theorem repV_eq (E : World) (x : ByteArray) (n : Int) : repV E x n = repB x n := by unfold repV; cases Nat.beq E.heap.size 0 <;> rfl
/-- Copies of a text. -/
def orcRep (f : FuncId) (E : World) : Orc := fun g vs s => cond (Nat.beq g f) (match vs with
  | [.c (.str l x), .c (.i l' .i64 n)] => some (.need (repOK x n) (.leaf (.c (cond (l && l') (cond (Nat.ble (x.size * n.toNat) 1024) (.str true (repB x n)) (forceN (x.size * n.toNat) fun m => .strn m (repV E x n))) (.str false (repV E x n))), s)))
  | _ => none) none
theorem orcRep_ok {f : FuncId} {E : World} (hc : ∀ (s : ByteArray) (c : Nat) (w : World), c ≤ 9223372036854775807 → s.size * c ≤ 140737488355328 →
    Calls P f #[.string s, .int .i64 c] w fun e w' => e = .returned (.string ⟨(Lib.repeatL s.data.toList c).toArray⟩) ∧ Below w.heap.size w w') : OrcOK P (orcRep f E) := by
  intro g vs s t h
  unfold orcRep at h
  cases hg : Nat.beq g f <;> simp only [hg, cond_true, cond_false] at h
  · cases h
  obtain rfl := Nat.eq_of_beq_eq_true hg
  split at h
  · rename_i l x l' n
    simp at h; subst h
    refine CallTree.need fun hn => ?_
    simp only [repOK, Bool.and_eq_true, decide_eq_true_eq] at hn
    obtain ⟨m, rfl⟩ := Int.eq_ofNat_of_zero_le hn.1.1
    have h3 := Nat.le_of_ble_eq_true hn.1.2
    have hd : ∀ (c : C), (∀ ρ, c.den ρ = .string (repB x (m : Int))) → c.ok 0 = true → CallTree P g [.c (.str l x), .c (.i l' .i64 (m : Int))] s (.leaf (.c c, s)) := by
      intro c hcd hok
      refine calls_pure (P := P) (v := .c c) (by simp [SV.ok, C.ok]) hok (fun w => ?_) s
      rw [show (SV.c c).den Rh0 = .string (repB x (m : Int)) from hcd Rh0]
      exact hc x m w (by omega) h3
    cases (l && l') <;> simp only [cond_true, cond_false]
    · exact hd _ (fun ρ => by simp only [C.den, repV_eq]) rfl
    · cases Nat.ble (x.size * ((m : Int)).toNat) 1024 <;> simp only [cond_true, cond_false, forceN_eq]
      · exact hd _ (fun ρ => by simp only [C.den, repV_eq]) rfl
      · exact hd _ (fun ρ => rfl) rfl
  · cases h
/-- Two oracles, the first one first. -/
theorem orcOr_ok' {a b : Orc} (ha : OrcOK P a) (hb : OrcOK P b) : OrcOK P (orcOr a b) := orcOr_ok ha hb
end
end Go.Proofs.Ytkeinfmfkcgkhaa.Ev

namespace Go.Proofs.Ytkeinfmfkcgkhaa.Ev
open Go Go.RowKit
/-! ### Texts as lists -/
def txt (s : ByteArray) : List UInt8 := s.data.toList
theorem txt_ext {a b : ByteArray} (h : txt a = txt b) : a = b := by
  cases a; cases b; simp only [txt] at h; congr; exact Array.ext' h
theorem size_txt (s : ByteArray) : s.size = (txt s).length := by
  show s.data.size = s.data.toList.length
  rw [Array.length_toList]
theorem txt_repB (s : ByteArray) (c : Int) : txt (repB s c) = Lib.repeatL (txt s) c.toNat := by simp [txt, repB]
theorem txt_strSl (s : ByteArray) (a b : Int) : txt (strSl s a b) = ((txt s).take b.toNat).drop a.toNat := by
  simp [txt, strSl, ByteArray.data_extract, Array.toList_extract, List.extract_eq_take_drop]
  rw [List.drop_take]
theorem txt_catB (xs : List ByteArray) : txt (catB xs) = (xs.map txt).flatten := by simp [txt, catB, catL]; rfl
theorem txt_append (a b : ByteArray) : txt (a ++ b) = txt a ++ txt b := by simp [txt]
theorem txt_bytesN (ns : List Int) : txt (bytesN ns) = ns.map fun n => UInt8.ofNat n.toNat := by simp [txt, bytesN]
theorem strB_txt (s : ByteArray) (i : Int) : strB s i = match (txt s)[i.toNat]? with | some b => (b.toNat : Int) | none => 0 := by
  unfold strB txt
  have : s[i.toNat]? = s.data.toList[i.toNat]? := by
    by_cases h : i.toNat < s.size
    · rw [getElem?_pos s i.toNat h, List.getElem?_eq_getElem (by simpa using h)]
      rfl
    · rw [getElem?_neg s i.toNat h, List.getElem?_eq_none (by simpa using Nat.le_of_not_lt h)]
  rw [this]
  rfl
theorem size_repB (s : ByteArray) (c : Int) : (repB s c).size = c.toNat * s.size := repB_size s c
theorem size_repV (E : World) (s : ByteArray) (c : Int) : (repV E s c).size = c.toNat * s.size := by rw [repV_eq, repB_size]
theorem size_strSl (s : ByteArray) (a b : Int) (h0 : 0 ≤ a) (h1 : a ≤ b) (h2 : b ≤ s.size) : ((strSl s a b).size : Int) = b - a := by
  rw [size_txt, txt_strSl, List.length_drop, List.length_take]
  rw [size_txt] at h2
  omega
theorem size_strSl' (s : ByteArray) (a b : Int) (n : Nat) (h0 : 0 ≤ a) (h1 : a ≤ b) (h2 : b ≤ s.size) (h : b - a = n) : (strSl s a b).size = n := by
  have := size_strSl s a b h0 h1 h2; omega
theorem size_append (a b : ByteArray) : (a ++ b).size = a.size + b.size := by simp [size_txt, txt_append]
theorem size_bytesN (ns : List Int) : (bytesN ns).size = ns.length := by simp [size_txt, txt_bytesN]
theorem size_catB (xs : List ByteArray) : (catB xs).size = (xs.map ByteArray.size).sum := by
  rw [size_txt, txt_catB, List.length_flatten, List.map_map]
  congr 1
  first | done | exact List.map_congr_left fun x _ => (size_txt x).symm
theorem len_catL (xs : List ByteArray) : (catL xs).length = (xs.map ByteArray.size).sum := by
  rw [← size_catB]; simp [catB, ByteArray.size]
theorem strB_strSl (s : ByteArray) (a b i : Int) (h0 : 0 ≤ a) (h2 : b ≤ s.size) (hi : 0 ≤ i) (hi2 : i < b - a) : strB (strSl s a b) i = strB s (a + i) := by
  rw [strB_txt, strB_txt, txt_strSl]
  rw [size_txt] at h2
  have e : (((txt s).take b.toNat).drop a.toNat)[i.toNat]? = (txt s)[(a + i).toNat]? := by
    rw [List.getElem?_drop, show a.toNat + i.toNat = (a + i).toNat by omega, List.getElem?_take_of_lt (by omega)]
  rw [e]
theorem strB_app_l (a b : ByteArray) (i : Int) (h : i.toNat < a.size) : strB (a ++ b) i = strB a i := by
  rw [strB_txt, strB_txt, txt_append]
  rw [size_txt] at h
  rw [List.getElem?_append_left h]
theorem strB_app_r (a b : ByteArray) (i : Int) (h0 : 0 ≤ i) (h : a.size ≤ i) : strB (a ++ b) i = strB b (i - a.size) := by
  rw [strB_txt, strB_txt, txt_append]
  rw [size_txt] at h ⊢
  rw [List.getElem?_append_right (by omega), show i.toNat - (txt a).length = (i - ((txt a).length : Nat)).toNat by omega]
theorem strB_bd (s : ByteArray) (i : Int) : 0 ≤ strB s i ∧ strB s i < 256 := by
  rw [strB_txt]
  split
  · rename_i b _
    have := b.toNat_lt
    omega
  · omega
theorem rep1 (c : UInt8) : ∀ n, Lib.repeatL [c] n = List.replicate n c
  | 0 => rfl
  | n + 1 => by rw [Lib.repeatL, rep1 c n, List.replicate_succ]; rfl
theorem strB_rep (c : UInt8) (n i : Int) (h0 : 0 ≤ i) (h1 : i < n) : strB (repB (ByteArray.mk #[c]) n) i = c.toNat := by
  rw [strB_txt, txt_repB, show txt (ByteArray.mk #[c]) = [c] from rfl, rep1]
  rw [List.getElem?_replicate_of_lt (by omega)]
theorem catB_cons (x : ByteArray) (xs : List ByteArray) : catB (x :: xs) = x ++ catB xs := txt_ext (by rw [txt_append, txt_catB, txt_catB]; simp)
theorem catB_nil : catB [] = ByteArray.empty := rfl
theorem app_empty (a : ByteArray) : a ++ ByteArray.empty = a := txt_ext (by rw [txt_append]; simp [txt])
theorem joinL_catL (xs : List ByteArray) : joinL xs ByteArray.empty = catL xs := by
  unfold joinL catL
  have : ∀ (ys : List (List UInt8)), Lib.join ys [] = ys.flatten := by
    intro ys
    unfold Lib.join
    simp [List.intercalate]
    induction ys with
    | nil => rfl
    | cons y ys ih =>
      cases ys with
      | nil => simp
      | cons z zs => simp [List.intersperse] at ih ⊢; exact ih
  exact this _
end Go.Proofs.Ytkeinfmfkcgkhaa.Ev
namespace Go.Proofs.Ytkeinfmfkcgkhaa.Ev
open Go
theorem CallTree.node {P : PE} {g : FuncId} {vs : List SV} {s : SW} {t f : Tree (SV × SW)} {b : Bool} (ht : b = true → CallTree P g vs s t) (hf : b = false → CallTree P g vs s f) : CallTree P g vs s (.node b t f) := by
  cases b
  · exact fun W L ρ w post hI hok h => hf rfl W L ρ w post hI hok (h.2 rfl)
  · exact fun W L ρ w post hI hok h => ht rfl W L ρ w post hI hok (h.1 rfl)
end Go.Proofs.Ytkeinfmfkcgkhaa.Ev
namespace Go.Proofs.Ytkeinfmfkcgkhaa.Ev
open Go
/-- A call that changes the first block of a memory: what is to be shown of its ends. -/
def conB (v : SV) (cs' : List C) (ty : Nat) (S : SW) : Tree (SV × SW) → Prop
  | .leaf (u, b :: S1) => SV.sim u v ∧ simL C.sim b.cs cs' ∧ b.ty = ty ∧ S1 = S
  | .leaf (_, []) => False
  | .node b t f => (b = true → conB v cs' ty S t) ∧ (b = false → conB v cs' ty S f)
  | .need b t => b = true ∧ conB v cs' ty S t
  | .fail => False
theorem conB_OK {v : SV} {cs' : List C} {ty : Nat} {S : SW} : ∀ (t : Tree (SV × SW)), conB v cs' ty S t → t.OK fun r => ∃ b, r.2 = b :: S ∧ SV.sim r.1 v ∧ simL C.sim b.cs cs' ∧ b.ty = ty := by
  intro t
  induction t with
  | leaf x =>
    obtain ⟨u, s⟩ := x
    cases s with
    | nil => exact fun h => h.elim
    | cons b S1 => exact fun h => ⟨b, by rw [h.2.2.2], h.1, h.2.1, h.2.2.1⟩
  | node b t f iht ihf => exact fun h => ⟨fun hb => iht (h.1 hb), fun hb => ihf (h.2 hb)⟩
  | need b t ih => exact fun h => ⟨h.1, ih h.2⟩
  | fail => exact id
theorem blkSim_of {cs cs' : List C} (h : simL C.sim cs cs') : blkSim cs cs' := by
  cases cs' with
  | nil => trivial
  | cons v r => exact h
theorem heap_contractB {P : PE} {g : FuncId} {vs : List SV} {cs cs' : List C} {ty : Nat} {S : SW} {t : Tree (SV × SW)} {v : SV} (h : CallTree P g vs (⟨cs, ty⟩ :: S) t) (hv : v.ok 0 = true)
    (ht : Holds (conB v cs' ty S t)) : CallTree P g vs (⟨cs, ty⟩ :: S) (.leaf (v, ⟨cs', ty⟩ :: S)) := by
  intro W L ρ w post hI hok hp
  refine Calls.mono (h W L ρ w _ hI hok (conB_OK t ht.out)) ?_
  rintro e w' ⟨u, s1, ρ', rfl, hag, hle, _, hI', b, hs, hu, hc, hty⟩
  simp only at hs hu
  subst hs
  refine ⟨v, ⟨cs', ty⟩ :: S, ρ', by rw [SV.sim_den hu], hag, by simp, SV.ok_mono (Nat.zero_le _) hv, ?_, hp⟩
  refine hI'.ref ⟨⟨hty, blkSim_of hc⟩, refS_refl S⟩
end Go.Proofs.Ytkeinfmfkcgkhaa.Ev

namespace Go.Proofs.Ytkeinfmfkcgkhaa.Ev
open Go
/-! ### 25. Loops after one another: where a run stops goes by the head it starts from -/
section
variable {P : PE}
/-- A function with loops: what is left behind unused is forgotten at the heads. -/
theorem calls_loopB {orc : Orc} {tab : Tab} (ho : OrcOK P orc) (ht : TabOK P tab) (hsz : ∀ g fn, tab g = some fn → fn.ntmps < 4095) (hm : P.follows .mixedOrders = true)
    {g : FuncId} {fn : Func} {c : Code} (hf : P.funcs[g]? = some fn) (hc : fn.body = some c) (hnt : fn.ntmps < 4095) {vs : List SV} {s : SW} (hvs : vs.length ≤ fn.ntmps)
    (fuel brk0 : Nat) {G : Type} (brk : G → Nat) (H : G → Prop) (μ : G → Nat) (hd : G → List Item) (Lv : G → List (Nat × SV)) (Sv : G → SW) (hb : ∀ x, (Lv x).all (fun p => Nat.blt p.1 fn.ntmps) = true)
    (hk : ∀ x, H x → (Lv x).all (fun p => p.2.ok (Sv x).length) = true ∧ okSW (Sv x) = true ∧ s.length ≤ (Sv x).length)
    (post : SV → SW → Prop)
    (pro : loopP P fn post (fun todo fr s' => ∃ x, H x ∧ todo = hd x ∧ fr.nt = fn.ntmps ∧ refP fr (Lv x) ∧ refT s' (Sv x)) (run P orc tab fuel brk0 [.code c] ⟨fn.ntmps, mkFrGo (Tr.mk 12) 0 vs⟩ s))
    (round : ∀ x, H x → loopP P fn post (fun todo fr s' => ∃ y, H y ∧ μ y < μ x ∧ todo = hd y ∧ fr.nt = fn.ntmps ∧ refP fr (Lv y) ∧ refT s' (Sv y)) (run P orc tab fuel (brk x) (hd x) (mkL fn.ntmps (Lv x)) (Sv x)))
    (W : World) (L : Nat) (ρ : Rh) (w : World) (hI : Inv P.E W L ρ s w) (hok : ∀ v ∈ vs, v.ok s.length = true) :
    Calls P g (vs.map (SV.den ρ)).toArray w fun e w' => ∃ v s' ρ', e = .returned (v.den ρ') ∧ Agree s.length ρ ρ' ∧ s.length ≤ s'.length ∧ v.ok s'.length = true ∧ Inv P.E W L ρ' s' w' ∧ post v s' := by
  have fin : ∀ (n : Nat) (lf : Lf) (a' : Act) (w' : World) (ρ' : Rh), s.length ≤ n → Agree s.length ρ ρ' → n ≤ lf.s.length → FrRel lf.s.length ρ' lf.fr a' → Inv P.E W L ρ' lf.s w' →
      (match results1 P fn lf.fr lf.s with | some v => post v lf.s | none => False) →
      bodyPost P fn (fun e w' => ∃ v s' ρ', e = .returned (v.den ρ') ∧ Agree s.length ρ ρ' ∧ s.length ≤ s'.length ∧ v.ok s'.length = true ∧ Inv P.E W L ρ' s' w' ∧ post v s') .normal a' w' := by
    intro n lf a' w' ρ' hn hag hle hf' hI' hp
    split at hp
    · rename_i v hv
      have := results1_sound (P := P) hI' hf' hv
      exact ⟨hf'.defers, _, this.1, v, lf.s, ρ', rfl, hag, Nat.le_trans hn hle, this.2, hI', hp⟩
    · exact hp.elim
  have key : ∀ (m : Nat) (x : G), μ x = m → H x → ∀ (a : Act) (w : World) (ρ1 : Rh), s.length ≤ (Sv x).length → Agree s.length ρ ρ1 → FrRel (Sv x).length ρ1 (mkL fn.ntmps (Lv x)) a → Inv P.E W L ρ1 (Sv x) w →
      TodoWp P (hd x) (bodyPost P fn fun e w' => ∃ v s' ρ', e = .returned (v.den ρ') ∧ Agree s.length ρ ρ' ∧ s.length ≤ s'.length ∧ v.ok s'.length = true ∧ Inv P.E W L ρ' s' w' ∧ post v s') a w := by
    intro m
    induction m using Nat.strongRecOn with
    | _ m ih =>
      intro x hx hH a w ρ1 hlen hag1 hfr hI1
      refine run_sound ho ht hsz hm fuel (brk x) _ _ _ W L ρ1 a w _ _ (loopP_OK _ (round x hH)) hfr hI1 ?_
      intro lf a' w' ρ' hp hag hle hf' hI'
      have hag' : Agree s.length ρ ρ' := hag1.trans hag hlen
      cases he : lf.ended
      · simp only [he, cond_false] at hp
        obtain ⟨y, hy, hmu, htodo, hnt', hr, hs⟩ := hp
        simp only [Bool.false_eq_true, if_false]
        rw [htodo]
        obtain ⟨k1, k2, k3⟩ := hk y hy
        have hfr' := FrRel.refT hf' hr (by rw [hnt']; exact hb y) (by rw [hnt']; exact hnt) k1
        rw [hnt'] at hfr'
        exact ih (μ y) (hx ▸ hmu) y rfl hy a' w' ρ' k3 hag' hfr' (hI'.trim hs k2 (by have := hI.len; omega))
      · simp only [he, cond_true] at hp
        simp only [if_true]
        have := fin (Sv x).length lf a' w' ρ' hlen hag' hle hf' hI' hp
        exact ⟨this, this⟩
  refine callTree_of_wp hf hc ?_
  refine run_sound ho ht hsz hm fuel brk0 _ _ _ W L ρ _ w _ _ (loopP_OK _ pro) (mkFr_rel hvs hnt hok) hI ?_
  intro lf a' w' ρ' hp hag hle hf' hI'
  cases he : lf.ended
  · simp only [he, cond_false] at hp
    obtain ⟨y, hy, htodo, hnt', hr, hs⟩ := hp
    simp only [Bool.false_eq_true, if_false]
    rw [htodo]
    obtain ⟨k1, k2, k3⟩ := hk y hy
    have hfr' := FrRel.refT hf' hr (by rw [hnt']; exact hb y) (by rw [hnt']; exact hnt) k1
    rw [hnt'] at hfr'
    exact key (μ y) y rfl hy a' w' ρ' k3 hag hfr' (hI'.trim hs k2 (by have := hI.len; omega))
  · simp only [he, cond_true] at hp
    simp only [if_true]
    have := fin s.length lf a' w' ρ' (Nat.le_refl _) hag hle hf' hI' hp
    exact ⟨this, this⟩

end
end Go.Proofs.Ytkeinfmfkcgkhaa.Ev
