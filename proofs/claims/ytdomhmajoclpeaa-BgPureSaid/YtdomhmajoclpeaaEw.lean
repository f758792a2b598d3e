import Derived.Test.YtdomhmajoclpeaaEv
import Derived.OrdersHeld
import Derived.Laws.IdiomStrings
/- A verified symbolic evaluator over the step machine: a function's body is run by the kernel on values that may be unknown; the run forks where a test is not known; the tree of its ends is sound for the machine. -/
set_option linter.unusedVariables false
set_option linter.unusedSimpArgs false
namespace Go.Proofs.Ytdomhmajoclpeaa.Ev
open Go


structure PX where
  n : Nat → Int
  b : Nat → Bool
  s : Nat → ByteArray
  l : Nat → List C
  a : Nat → Option Addr
  m : Nat → Nat
instance : Inhabited PX := ⟨⟨fun _ => 0, fun _ => false, fun _ => .empty, fun _ => [], fun _ => none, fun _ => 0⟩⟩

inductive Tree (α : Type) where
  | leaf (x : α)
  | pin (q : Prop) (p : PX → Prop) (x : q → Subtype p) (k : PX → Tree α)
  | node (b : Bool) (t f : Tree α)
  | need (b : Bool) (t : Tree α)
  | fail

noncomputable def Tree.OK {α : Type} (post : α → Prop) : Tree α → Prop
  | .leaf x => post x
  | .node b t f => (b = true → t.OK post) ∧ (b = false → f.OK post)
  | .need b t => b = true ∧ t.OK post
  | .pin q _ x k => ∃ h : q, (k (x h).1).OK post
  | .fail => False

noncomputable def Tree.bind {α β : Type} (k : α → Tree β) : Tree α → Tree β
  | .leaf x => k x
  | .node b t f => .node b (t.bind k) (f.bind k)
  | .need b t => .need b (t.bind k)
  | .pin q p x h => .pin q p x fun y => (h y).bind k
  | .fail => .fail

theorem Tree.OK_bind {α β : Type} {k : α → Tree β} {post : β → Prop} (t : Tree α) : (t.bind k).OK post → t.OK fun x => (k x).OK post := by
  induction t with
  | leaf x => exact id
  | node b t f iht ihf => exact fun h => ⟨fun hb => iht (h.1 hb), fun hb => ihf (h.2 hb)⟩
  | need b t ih => exact fun h => ⟨h.1, ih h.2⟩
  | pin q p x k ih => exact fun ⟨h, h2⟩ => ⟨h, ih _ h2⟩
  | fail => exact id
theorem Tree.OK_one {α : Type} {p : α → Prop} (t : Tree α) : t.OK p → ∃ x, p x ∧ t.OK fun y => y = x := by
  induction t with
  | leaf x => exact fun h => ⟨x, h, rfl⟩
  | node b t f iht ihf =>
    intro h
    cases b
    · obtain ⟨x, h1, h2⟩ := ihf (h.2 rfl)
      exact ⟨x, h1, ⟨(fun e => by cases e), fun _ => h2⟩⟩
    · obtain ⟨x, h1, h2⟩ := iht (h.1 rfl)
      exact ⟨x, h1, ⟨fun _ => h2, (fun e => by cases e)⟩⟩
  | need b t ih => exact fun h => let ⟨x, h1, h2⟩ := ih h.2; ⟨x, h1, h.1, h2⟩
  | pin q p x k ih => exact fun ⟨h, h2⟩ => let ⟨y, h3, h4⟩ := ih _ h2; ⟨y, h3, h, h4⟩
  | fail => exact fun h => h.elim
theorem Tree.OK_mono {α : Type} {p q : α → Prop} (t : Tree α) (h : ∀ x, p x → q x) : t.OK p → t.OK q := by
  induction t with
  | leaf x => exact h x
  | node b t f iht ihf => exact fun h => ⟨fun hb => iht (h.1 hb), fun hb => ihf (h.2 hb)⟩
  | need b t ih => exact fun h => ⟨h.1, ih h.2⟩
  | pin q p x k ih => exact fun ⟨h, h2⟩ => ⟨h, ih _ h2⟩
  | fail => exact id

noncomputable def chain {α : Type} (i : Int) (f : Nat → Tree α) : Nat → Nat → Tree α
  | 0, _ => .fail
  | m + 1, j => .node (i == (Int.ofNat j)) (f j) (chain i f m (j + 1))
theorem chain_OK {α : Type} {i : Int} {f : Nat → Tree α} {post : α → Prop} : ∀ {m j : Nat}, (chain i f m j).OK post → ∃ k, k < j + m ∧ i = Int.ofNat k ∧ (f k).OK post
  | 0, _, h => h.elim
  | m + 1, j, h => by
    by_cases e : i = Int.ofNat j
    · exact ⟨j, by omega, e, h.1 (by simpa using e)⟩
    · obtain ⟨k, h1, h2, h3⟩ := chain_OK (h.2 (by simpa using e))
      exact ⟨k, by omega, h2, h3⟩

noncomputable def needsT {α : Type} : List Bool → Tree α → Tree α
  | [], t => t
  | b :: l, t => .need b (needsT l t)
theorem needsT_OK {α : Type} {post : α → Prop} : ∀ {l : List Bool} {t : Tree α}, (needsT l t).OK post → allT l ∧ t.OK post
  | [], _, h => ⟨(fun _ hb => nomatch hb), h⟩
  | b :: l, t, h => by
    have := needsT_OK (l := l) h.2
    exact ⟨fun c hc => (List.mem_cons.1 hc).elim (fun e => e ▸ h.1) (fun hc => this.1 c hc), this.2⟩


inductive Fl where
  | loud | pure | load

noncomputable def SeqWp (P : Program) (ops : Array Oper) (Q : Exit → Act → World → Prop) : List (Nat × Fl) → Act → World → Prop
  | [], a, w => Q .normal a w
  | (i, .pure) :: r, a, w => ∃ o v, ops[i]? = some o ∧ Yields P ops o v a ∧ SeqWp P ops Q r (a.put o.dst v) w
  | (i, .load) :: r, a, w => ∃ o v, ops[i]? = some o ∧ YieldsIf P ops (fun w' => w' = w) o v a ∧ SeqWp P ops Q r (a.put o.dst v) w
  | (i, .loud) :: r, a, w => wpOp P ops Q i (SeqWp P ops Q r) a w

theorem SeqWp.ops {P : Program} {ops : Array Oper} {Q : Exit → Act → World → Prop} : ∀ (l : List Nat) (a : Act) (w : World),
    SeqWp P ops Q (l.map fun i => (i, .loud)) a w → wpOps P ops Q l a w
  | [], _, _, h => h
  | i :: l, a, w, h => by
    rw [wpOps_cons]
    exact wpOp_mono (fun a w => SeqWp.ops l a w) h

noncomputable def kindPure : Op → Bool
  | .move _ | .assign _ | .pick .. | .binOp .. | .unOp .. | .convert .. | .fieldAddr .. | .field .. | .indexAddr .. | .index .. | .extract .. | .nilCheck _ | .makeFunc .. | .build .. | .slice .. | .makeInterface .. => true
  | .call { callee := .builtin .len, .. } => true
  | .call { callee := .builtin .min, .. } => true
  | .call { callee := .builtin .max, .. } => true
  | _ => false
noncomputable def kindLoad : Op → Bool
  | .load .. => true
  | _ => false
noncomputable def roAt (ops : Array Oper) (j : Nat) : Bool := match ops[j]? with | some o => kindPure o.op || kindLoad o.op | none => true

noncomputable def wpAnyR (P : Program) (ops : Array Oper) (Q : Exit → Act → World → Prop) : Nat → Array Bool → Act → World → Prop
  | 0, listed, a, w => Region.ready .any ops listed = [] ∧ Q .normal a w
  | fuel + 1, listed, a, w =>
    (Region.ready .any ops listed = [] → Q .normal a w) ∧
    ∀ i ∈ Region.ready .any ops listed, wpOp P ops Q i (fun a' w' => (roAt ops i = true → w' = w) ∧ wpAnyR P ops Q fuel (listed.setIfInBounds i true) a' w') a w

theorem wpAny_of_R {P : Program} {ops : Array Oper} {Q : Exit → Act → World → Prop} : ∀ (fuel : Nat) (listed : Array Bool) (a : Act) (w : World), wpAnyR P ops Q fuel listed a w → wpAny P .any ops Q fuel listed a w
  | 0, _, _, _, h => h
  | fuel + 1, _, _, _, h => ⟨h.1, fun i hi => wpOp_mono (fun a' w' h' => wpAny_of_R fuel _ a' w' h'.2) (h.2 i hi)⟩

theorem takeR {P : Program} {ops : Array Oper} {K : Act → World → Prop} {S : World → Prop} {i : Nat} {oi : Oper} {v : Value} (T : Nat → Bool) (hi : ops[i]? = some oi)
    (hsel : ∀ (j : Nat) (o : Oper) cs b, ops[j]? = some o → o.op ≠ .select cs b)
    (hTc : ∀ j oj, T j = true → ops[j]? = some oj → ∃ e ∈ oj.after, Region.binds .any e = true ∧ (e.on = i ∨ T e.on = true)) :
    ∀ (fuel : Nat) (listed : Array Bool) (a : Act) (w : World),
      (∀ j oj, ops[j]? = some oj → j ≠ i → listed.getD j true = false → T j = true ∨ (oi.apart ops oj = true ∧ (roAt ops j = true ∨ ∀ w, S w))) →
      (∀ j, T j = true → listed.getD j false = false) →
      i ∈ Region.ready .any ops listed → YieldsIf P ops S oi v a → S w → (roAt ops i = true) →
      wpAnyR P ops (Only K) fuel (listed.setIfInBounds i true) (a.put oi.dst v) w → wpAnyR P ops (Only K) (fuel + 1) listed a w := by
  intro fuel
  induction fuel with
  | zero =>
    intro listed a w _ _ hr hy hS hro H
    refine ⟨fun h => (by rw [h] at hr; cases hr), fun j hj => ?_⟩
    by_cases hji : j = i
    · subst hji; exact hy.wpOp hi hS ⟨fun _ => rfl, H⟩
    · have := ready_mono hj hji
      rw [H.1] at this
      cases this
  | succ fuel ih =>
    intro listed a w hfree hTu hr hy hS hro H
    refine ⟨fun h => (by rw [h] at hr; cases hr), fun j hj => ?_⟩
    by_cases hji : j = i
    · subst hji; exact hy.wpOp hi hS ⟨fun _ => rfl, H⟩
    · have h1 := H.2 j (ready_mono hj hji)
      obtain ⟨hjun, oj, hoj, hall⟩ := mem_ready.1 hj
      have hTj : T j = false := by
        cases hT : T j
        · rfl
        · obtain ⟨e, he, hb, hon⟩ := hTc j oj hT hoj
          have hl := hall e he hb
          rcases hon with hon | hon
          · rw [hon] at hl
            have h0 := (mem_ready.1 hr).1
            rcases Nat.lt_or_ge i listed.size with h' | h'
            · simp [h'] at h0 hl; rw [h0] at hl; cases hl
            · simp [Array.getElem?_eq_none h'] at hl
          · rw [hTu _ hon] at hl; cases hl
      have hap := (hfree j oj hoj hji hjun).resolve_left (by rw [hTj]; decide)
      have h2 := wpOp_putIf hoj hap.1 (fun cs b => hsel i oi cs b hi) (fun cs b => hsel j oj cs b hoj) (fun _ _ _ h => h) hy h1
      refine wpOp_mono (fun a' w' h3 => ⟨h3.2.1, ih (listed.setIfInBounds j true) a' w' ?_ ?_ (ready_mono hr (Ne.symm hji)) h3.1 ?_ hro ?_⟩) h2
      · intro k ok hk hki hun
        refine hfree k ok hk hki ?_
        by_cases hjk : j = k
        · subst hjk; exact hjun
        · rw [getD_set_ne true hjk] at hun; exact hun
      · intro k hk
        have : j ≠ k := fun e => by rw [← e, hTj] at hk; cases hk
        rw [getD_set_ne false this]; exact hTu k hk
      · rcases hap.2 with h4 | h4
        · rw [h3.2.1 h4]; exact hS
        · exact h4 w'
      · rw [Array.setIfInBounds_comm _ _ hji]
        exact h3.2.2

noncomputable def waitGo (ops : Array Oper) (i : Nat) : List Nat → List Nat → List Nat
  | [], acc => acc
  | j :: r, acc => waitGo ops i r (cond (match ops[j]? with | some o => o.after.any fun e => Region.binds .any e && (Nat.beq e.on i || acc.any (Nat.beq e.on)) | none => false) (j :: acc) acc)
noncomputable def waiters (ops : Array Oper) (i : Nat) : List Nat := waitGo ops i (List.range ops.size) []
noncomputable def memN (l : List Nat) (j : Nat) : Bool := l.any (Nat.beq j)

noncomputable def loadOK (ops : Array Oper) (listed : Array Bool) (i : Nat) : Bool :=
  match ops[i]? with
  | none => false
  | some oi =>
    let T := waiters ops i
    (List.range ops.size).all (fun j => Nat.beq j i || listed.getD j true || memN T j || (match ops[j]? with | some oj => roAt ops j && oi.apart ops oj | none => true)) &&
    T.all (fun j => !(listed.getD j false)) &&
    T.all (fun j => match ops[j]? with | some o => o.after.any fun e => Region.binds .any e && (Nat.beq e.on i || memN T e.on) | none => true)

noncomputable def firstPure (ops : Array Oper) (listed : Array Bool) : List Nat → Option Nat
  | [] => none
  | i :: r => cond ((match ops[i]? with | some o => kindPure o.op | none => false) && Region.free .any ops listed i) (some i) (firstPure ops listed r)
noncomputable def firstLoad (ops : Array Oper) (listed : Array Bool) : List Nat → Option Nat
  | [] => none
  | i :: r => cond ((match ops[i]? with | some o => kindLoad o.op | none => false) && loadOK ops listed i) (some i) (firstLoad ops listed r)

noncomputable def sched (ops : Array Oper) : Nat → Array Bool → Option (List (Nat × Fl))
  | 0, listed => (match Region.ready .any ops listed with | [] => some [] | _ => none)
  | n + 1, listed =>
    match Region.ready .any ops listed with
    | [] => some []
    | i0 :: rs => match firstPure ops listed (i0 :: rs) with
      | some i => (match sched ops n (listed.setIfInBounds i true) with | some l => some ((i, .pure) :: l) | none => none)
      | none => match firstLoad ops listed (i0 :: rs) with
        | some i => (match sched ops n (listed.setIfInBounds i true) with | some l => some ((i, .load) :: l) | none => none)
        | none => (match rs with
          | [] => (match sched ops n (listed.setIfInBounds i0 true) with | some l => cond (roAt ops i0) none (some ((i0, .loud) :: l)) | none => none)
          | _ => none)

theorem firstPure_spec {ops : Array Oper} {listed : Array Bool} : ∀ {l : List Nat} {i : Nat}, firstPure ops listed l = some i →
    i ∈ l ∧ (match ops[i]? with | some o => kindPure o.op | none => false) = true ∧ Region.free .any ops listed i = true
  | [], _, h => by simp [firstPure] at h
  | j :: r, i, h => by
    simp only [firstPure] at h
    cases hc : ((match ops[j]? with | some o => kindPure o.op | none => false) && Region.free .any ops listed j)
    · rw [hc] at h
      simp only [cond_false] at h
      have := firstPure_spec h
      exact ⟨List.mem_cons_of_mem _ this.1, this.2⟩
    · rw [hc] at h
      simp only [cond_true] at h
      simp at h; subst h
      simp only [Bool.and_eq_true] at hc
      exact ⟨List.mem_cons_self, hc.1, hc.2⟩
theorem firstLoad_spec {ops : Array Oper} {listed : Array Bool} : ∀ {l : List Nat} {i : Nat}, firstLoad ops listed l = some i →
    i ∈ l ∧ (match ops[i]? with | some o => kindLoad o.op | none => false) = true ∧ loadOK ops listed i = true
  | [], _, h => by simp [firstLoad] at h
  | j :: r, i, h => by
    simp only [firstLoad] at h
    cases hc : ((match ops[j]? with | some o => kindLoad o.op | none => false) && loadOK ops listed j)
    · rw [hc] at h
      simp only [cond_false] at h
      have := firstLoad_spec h
      exact ⟨List.mem_cons_of_mem _ this.1, this.2⟩
    · rw [hc] at h
      simp only [cond_true] at h
      simp at h; subst h
      simp only [Bool.and_eq_true] at hc
      exact ⟨List.mem_cons_self, hc.1, hc.2⟩

theorem memN_iff {l : List Nat} {j : Nat} : memN l j = true ↔ j ∈ l := by
  simp only [memN, List.any_eq_true]
  constructor
  · rintro ⟨x, hx, he⟩; rw [Nat.eq_of_beq_eq_true he]; exact hx
  · exact fun h => ⟨j, h, Nat.beq_refl j⟩

theorem take_pure {P : Program} {ops : Array Oper} {K : Act → World → Prop} {i : Nat} {oi : Oper} {v : Value} (hi : ops[i]? = some oi) (hs : Region.noSelect ops = true) {fuel : Nat} {listed : Array Bool} {a : Act} {w : World}
    (hr : i ∈ Region.ready .any ops listed) (hf : Region.free .any ops listed i = true) (hk : roAt ops i = true) (hy : Yields P ops oi v a)
    (h : wpAnyR P ops (Only K) fuel (listed.setIfInBounds i true) (a.put oi.dst v) w) : wpAnyR P ops (Only K) (fuel + 1) listed a w := by
  have hfs := Region.free_spec hi hf
  have hun : listed.getD i true = false := (mem_ready.1 hr).1
  have hil : i < listed.size ∧ listed.getD i false = false := by
    rcases Nat.lt_or_ge i listed.size with h' | h'
    · simp [h'] at hun ⊢; exact hun
    · simp [Array.getElem?_eq_none h'] at hun
  refine takeR (S := fun _ => True) (fun j => match ops[j]? with | some oj => oj.after.any (fun e => Region.binds .any e && (e.on == i)) && !(listed.getD j false) && j != i | none => false) hi (Region.noSelect_spec hs) ?_ fuel listed a w ?_ ?_ hr hy.yieldsIf trivial hk h
  · intro j oj hT hoj
    simp only [hoj, Bool.and_eq_true] at hT
    obtain ⟨e, he, hb⟩ := Array.any_eq_true'.1 hT.1.1
    simp only [Bool.and_eq_true, beq_iff_eq] at hb
    exact ⟨e, he, hb.1, .inl hb.2⟩
  · intro j oj hoj hne hjun
    simp only [hoj]
    by_cases hd : oj.after.any (fun e => Region.binds .any e && (e.on == i)) = true
    · refine .inl ?_
      have : listed.getD j false = false := by
        rcases Nat.lt_or_ge j listed.size with h' | h'
        · simp [h'] at hjun ⊢; exact hjun
        · simp [Array.getElem?_eq_none h']
      simp [hd, this, hne]
    · refine .inr ⟨hfs j oj hoj hne hjun fun e he hb heq => hd (Array.any_eq_true'.2 ⟨e, he, by simp [hb, heq]⟩), .inr fun _ => trivial⟩
  · intro j hT
    cases ho : ops[j]? with
    | none => simp [ho] at hT
    | some oj => simp only [ho, Bool.and_eq_true] at hT; simpa using hT.1.2

theorem take_load {P : Program} {ops : Array Oper} {K : Act → World → Prop} {i : Nat} {oi : Oper} {v : Value} (hi : ops[i]? = some oi) (hs : Region.noSelect ops = true) {fuel : Nat} {listed : Array Bool} {a : Act} {w : World}
    (hr : i ∈ Region.ready .any ops listed) (hf : loadOK ops listed i = true) (hk : roAt ops i = true) (hy : YieldsIf P ops (fun w' => w' = w) oi v a)
    (h : wpAnyR P ops (Only K) fuel (listed.setIfInBounds i true) (a.put oi.dst v) w) : wpAnyR P ops (Only K) (fuel + 1) listed a w := by
  simp only [loadOK, hi, Bool.and_eq_true] at hf
  obtain ⟨⟨h1, h2⟩, h3⟩ := hf
  refine takeR (S := fun w' => w' = w) (memN (waiters ops i)) hi (Region.noSelect_spec hs) ?_ fuel listed a w ?_ ?_ hr hy rfl hk h
  · intro j oj hT hoj
    have := List.all_eq_true.1 h3 j (memN_iff.1 hT)
    simp only [hoj] at this
    obtain ⟨e, he, hb⟩ := Array.any_eq_true'.1 this
    simp only [Bool.and_eq_true, Bool.or_eq_true] at hb
    exact ⟨e, he, hb.1, hb.2.imp Nat.eq_of_beq_eq_true id⟩
  · intro j oj hoj hne hjun
    have := List.all_eq_true.1 h1 j (List.mem_range.2 (Array.getElem?_eq_some_iff.1 hoj).1)
    have hb : Nat.beq j i = false := by
      cases hc : Nat.beq j i
      · rfl
      · exact absurd (Nat.eq_of_beq_eq_true hc) hne
    simp only [hoj, hb, hjun, Bool.false_or, Bool.or_eq_true, Bool.and_eq_true] at this
    rcases this with h4 | h4
    · exact .inl h4
    · exact .inr ⟨h4.2, .inl h4.1⟩
  · intro j hT
    have := List.all_eq_true.1 h2 j (memN_iff.1 hT)
    simpa using this

theorem sched_sound {P : Program} {ops : Array Oper} {K : Act → World → Prop} (hs : Region.noSelect ops = true) :
    ∀ (n : Nat) (listed : Array Bool) (l : List (Nat × Fl)) (a : Act) (w : World), sched ops n listed = some l → SeqWp P ops (Only K) l a w →
      wpAnyR P ops (Only K) n listed a w := by
  intro n
  induction n with
  | zero =>
    intro listed l a w h hw
    simp only [sched] at h
    split at h
    · rename_i hr; simp at h; subst h; exact ⟨hr, hw⟩
    · cases h
  | succ n ih =>
    intro listed l a w h hw
    simp only [sched] at h
    split at h
    · rename_i hr; simp at h; subst h; exact ⟨fun _ => hw, by rw [hr]; simp⟩
    · rename_i i0 rs hr
      split at h
      · rename_i i hf
        split at h
        · rename_i l' hl
          simp at h; subst h
          obtain ⟨o, v, ho, hy, hw'⟩ := hw
          have hsp := firstPure_spec hf
          have hk : roAt ops i = true := by have := hsp.2.1; simp only [ho] at this; simp [roAt, ho, this]
          exact take_pure ho hs (by rw [hr]; exact hsp.1) hsp.2.2 hk hy (ih _ _ _ _ hl hw')
        · cases h
      · split at h
        · rename_i i hf
          split at h
          · rename_i l' hl
            simp at h; subst h
            obtain ⟨o, v, ho, hy, hw'⟩ := hw
            have hsp := firstLoad_spec hf
            have hk : roAt ops i = true := by have := hsp.2.1; simp only [ho] at this; simp [roAt, ho, this]
            exact take_load ho hs (by rw [hr]; exact hsp.1) hsp.2.2 hk hy (ih _ _ _ _ hl hw')
          · cases h
        · split at h
          · split at h
            · rename_i l' hl
              cases hro : roAt ops i0 <;> simp only [hro, cond_true, cond_false] at h
              · simp at h; subst h
                refine ⟨fun h0 => (by rw [hr] at h0; cases h0), fun i hi => ?_⟩
                rw [hr] at hi
                simp at hi; subst hi
                exact wpOp_mono (fun a w h => ⟨(fun e => by rw [hro] at e; cases e), ih _ _ a w hl h⟩) hw
              · cases h
            · cases h
          · cases h

theorem sched_wp {P : Program} {ops : Array Oper} {K : Act → World → Prop} {id : Nat} {a : Act} {w : World} {l : List (Nat × Fl)}
    (hm : P.follows .mixedOrders = true) (hs : Region.noSelect ops = true) (h : sched ops ops.size (Array.replicate ops.size false) = some l)
    (hw : SeqWp P ops (Only K) l a { w with drawn := w.drawn + 1 }) : (Code.region id ops true).wp P (Only K) a w :=
  wp_region_any hm (wpAny_of_R _ _ _ _ (sched_sound hs _ _ _ _ _ h hw))

noncomputable def changes : Op → Bool
  | .alloc _ | .box .. | .store .. | .buildSlice .. => true
  | .call { callee := .builtin .copy, .. } => true
  | .call { callee := .builtin .append, .. } => true
  | .makeSlice .. => true
  | _ => false
noncomputable def nilCst : Operand → Bool | .const (.slice none 0 0) => true | _ => false
noncomputable def makes : Op → Bool
  | .alloc _ | .box .. | .buildSlice .. | .makeSlice .. => true
  | .call { callee := .builtin .append, args, .. } => (match args.toList with | x :: _ => nilCst x | _ => false)
  | _ => false
noncomputable def mildAt (ops : Array Oper) (j : Nat) : Bool := match ops[j]? with | some o => !(changes o.op) || makes o.op | none => true

noncomputable def Gives (P : Program) (o : Oper) (v : Value) (S : World → Prop) (a : Act) : Prop :=
  ∀ w, S w → (execOp a.eval o).run P w = .ok (.value v) w ∨ ∃ f args, (execOp a.eval o).run P w = .ok (.enter f args) w ∧ Calls P f args w fun e w' => e = .returned v ∧ S w'
noncomputable def YieldsX (P : Program) (ops : Array Oper) (C : (World → Prop) → Prop) (o : Oper) (v : Value) (a : Act) : Prop :=
  (Region.wanted o (yielded ops a.tmps) = true ∧ ∀ S, C S → Gives P o v S a) ∨ (Region.wanted o (yielded ops a.tmps) = false ∧ v = undef)
theorem YieldsX.of_same {P : Program} {ops : Array Oper} {C : (World → Prop) → Prop} {o : Oper} {v : Value} {a a' : Act} (hy : YieldsX P ops C o v a) (he : execOp a'.eval o = execOp a.eval o)
    (hw : Region.wanted o (yielded ops a'.tmps) = Region.wanted o (yielded ops a.tmps)) : YieldsX P ops C o v a' := by
  unfold YieldsX Gives at *
  rw [he, hw]
  exact hy
theorem YieldsX.sub {P : Program} {ops : Array Oper} {C C' : (World → Prop) → Prop} {o : Oper} {v : Value} {a : Act} (hy : YieldsX P ops C o v a) (h : ∀ S, C' S → C S) : YieldsX P ops C' o v a :=
  hy.imp (fun ⟨h1, h2⟩ => ⟨h1, fun S hS => h2 S (h S hS)⟩) id
theorem YieldsX.wpOp {P : Program} {ops : Array Oper} {Q : Exit → Act → World → Prop} {C : (World → Prop) → Prop} {i : Nat} {o : Oper} {v : Value} {a : Act} (hi : ops[i]? = some o) (hy : YieldsX P ops C o v a)
    {K : Act → World → Prop} {w : World} {S : World → Prop} (hS : C S) (hw : S w) (h : ∀ w', S w' → K (a.put o.dst v) w') : wpOp P ops Q i K a w := by
  unfold Go.wpOp
  simp only [hi]
  rcases hy with ⟨h1, h2⟩ | ⟨h1, rfl⟩
  · simp only [h1, if_true]
    refine .inl ?_
    unfold Oper.wp
    rcases h2 S hS w hw with hr | ⟨f, args, hr, hc⟩
    · rw [hr]; exact h w hw
    · rw [hr]
      refine Calls.mono hc ?_
      rintro e w' ⟨rfl, hw'⟩
      exact h w' hw'
  · simp only [h1, Bool.false_eq_true, if_false]; exact h w hw

theorem wpOp_putX {P : Program} {ops : Array Oper} {Q : Exit → Act → World → Prop} {C : (World → Prop) → Prop} {j : Nat} {oi oj : Oper} {v : Value} (hj : ops[j]? = some oj) (hap : oi.apart ops oj = true)
    (hsi : ∀ cs b, oi.op ≠ .select cs b) (hsj : ∀ cs b, oj.op ≠ .select cs b)
    (hQ : ∀ c a w, Q (.panic c) (a.put oi.dst v) w → Q (.panic c) a w) {K : Act → World → Prop} {a : Act} {w : World}
    (hy : YieldsX P ops C oi v a) (h : wpOp P ops Q j K (a.put oi.dst v) w) :
    wpOp P ops Q j (fun a' w' => YieldsX P ops C oi v a' ∧ K (a'.put oi.dst v) w') a w := by
  obtain ⟨h1, h2, h3⟩ := Oper.apart_spec hap
  have keep : ∀ (a : Act), YieldsX P ops C oi v a → ∀ u, YieldsX P ops C oi v (a.put oj.dst u) := fun a hy u =>
    hy.of_same (execOp_put oi hsi a oj.dst u h3) (wanted_put oi a oj.dst u h3)
  have keepD : ∀ d, YieldsX P ops C oi v { a with defers := d :: a.defers } := fun d => hy.of_same rfl rfl
  unfold wpOp at *
  simp only [hj] at *
  rw [wanted_put oj a oi.dst v h1] at h
  split
  · rename_i hw
    simp only [hw, if_true] at h
    rcases h with h | ⟨hasks, hlets⟩
    case inr => exact .inr ⟨by unfold Oper.asks at *; rw [execOp_put oj hsj a oi.dst v h1] at hasks; exact hasks, hlets⟩
    refine .inl ?_
    unfold Oper.wp at *
    rw [execOp_put oj hsj a oi.dst v h1] at h
    generalize (execOp a.eval oj).run P w = r at *
    cases r with
    | ok n w' =>
      cases n <;> simp only [Oper.upon] at h ⊢
      case value u => exact ⟨keep a hy u, by rw [← Act.put_comm a v u h2]; exact h⟩
      case skip => exact ⟨keep a hy _, by rw [← Act.put_comm a v undef h2]; exact h⟩
      case defer d =>
        refine ⟨keep _ (keepD d) _, ?_⟩
        rw [← Act.put_comm _ v undef h2, ← Act.put_defers]
        exact h
      case enter f args =>
        refine Calls.mono h fun e w'' he => ?_
        cases e with
        | returned u => exact ⟨keep a hy u, by rw [← Act.put_comm a v u h2]; exact he⟩
        | panicked c => exact hQ _ _ _ he
        | outgrown => exact he
      case row row args => exact Rows.mono h fun u w'' he => ⟨keep a hy u, by rw [← Act.put_comm a v u h2]; exact he⟩
    | halt x w' =>
      cases x <;> simp only [Oper.upon] at h ⊢
      case panic u => exact hQ _ _ _ h
  · rename_i hw
    simp only [hw] at h
    exact ⟨keep a hy _, by rw [← Act.put_comm a v undef h2]; exact h⟩

noncomputable def mildD (ops : Array Oper) (j : Nat) : Bool := match ops[j]? with | some o => !(changes o.op) | none => true
noncomputable def makesAt (ops : Array Oper) (j : Nat) : Bool := match ops[j]? with | some o => makes o.op | none => false
noncomputable def Down (C : (World → Prop) → Prop) (T : World → Prop) : Prop := ∃ S, C S ∧ ∀ w, T w → S w
theorem Down.self {C : (World → Prop) → Prop} {T : World → Prop} (h : C T) : Down C T := ⟨T, h, fun _ h => h⟩
theorem Down.mono {C C' : (World → Prop) → Prop} (h : ∀ T, C' T → Down C T) {T : World → Prop} (hT : Down C' T) : Down C T := by
  obtain ⟨S, hS, hTS⟩ := hT
  obtain ⟨S', hS', hSS⟩ := h S hS
  exact ⟨S', hS', fun w hw => hSS w (hTS w hw)⟩
noncomputable def wpAnyX (md : Array Oper → Nat → Bool) (P : Program) (ops : Array Oper) (Q : Exit → Act → World → Prop) : Nat → ((World → Prop) → Prop) → Array Bool → Act → Prop
  | 0, C, listed, a => ∀ S, C S → ∀ w, S w → Region.ready .any ops listed = [] ∧ Q .normal a w
  | fuel + 1, C, listed, a => ∀ S, C S → ∀ w, S w →
    (Region.ready .any ops listed = [] → Q .normal a w) ∧
    ∀ i ∈ Region.ready .any ops listed, wpOp P ops Q i (fun a' w' => ∃ C' : (World → Prop) → Prop, (md ops i = true → ∀ T, C' T → C T) ∧ (makesAt ops i = true → ∀ T, C' T → Down C T) ∧ (∃ S', C' S' ∧ S' w') ∧ wpAnyX md P ops Q fuel C' (listed.setIfInBounds i true) a') a w

theorem wpAny_of_X {md : Array Oper → Nat → Bool} {P : Program} {ops : Array Oper} {Q : Exit → Act → World → Prop} : ∀ (fuel : Nat) (C : (World → Prop) → Prop) (listed : Array Bool) (a : Act) (w : World) (S : World → Prop), C S → S w → wpAnyX md P ops Q fuel C listed a → wpAny P .any ops Q fuel listed a w
  | 0, _, _, _, _, _, hS, hw, h => h _ hS _ hw
  | fuel + 1, _, _, _, _, _, hS, hw, h => ⟨(h _ hS _ hw).1, fun i hi => wpOp_mono (fun a' w' ⟨_, _, _, ⟨S', hS', hw'⟩, h'⟩ => wpAny_of_X fuel _ _ a' w' S' hS' hw' h') ((h _ hS _ hw).2 i hi)⟩

theorem takeX {md : Array Oper → Nat → Bool} {P : Program} {ops : Array Oper} {K : Act → World → Prop} {i : Nat} {oi : Oper} {v : Value} (T : Nat → Bool) (hi : ops[i]? = some oi)
    (hsel : ∀ (j : Nat) (o : Oper) cs b, ops[j]? = some o → o.op ≠ .select cs b)
    (hTc : ∀ j oj, T j = true → ops[j]? = some oj → ∃ e ∈ oj.after, Region.binds .any e = true ∧ (e.on = i ∨ T e.on = true)) :
    ∀ (fuel : Nat) (C : (World → Prop) → Prop) (listed : Array Bool) (a : Act),
      (∀ j oj, ops[j]? = some oj → j ≠ i → listed.getD j true = false → T j = true ∨ (oi.apart ops oj = true ∧ md ops j = true)) →
      (∀ j, T j = true → listed.getD j false = false) →
      i ∈ Region.ready .any ops listed → YieldsX P ops C oi v a →
      wpAnyX md P ops (Only K) fuel C (listed.setIfInBounds i true) (a.put oi.dst v) → wpAnyX md P ops (Only K) (fuel + 1) C listed a := by
  intro fuel
  induction fuel with
  | zero =>
    intro C listed a _ _ hr hy H S hS w hw
    refine ⟨fun h => (by rw [h] at hr; cases hr), fun j hj => ?_⟩
    by_cases hji : j = i
    · subst hji; exact hy.wpOp hi hS hw fun w' hw' => ⟨C, fun _ _ h => h, fun _ _ h => Down.self h, ⟨S, hS, hw'⟩, H⟩
    · have := ready_mono hj hji
      rw [(H S hS w hw).1] at this
      cases this
  | succ fuel ih =>
    intro C listed a hfree hTu hr hy H S hS w hw
    refine ⟨fun h => (by rw [h] at hr; cases hr), fun j hj => ?_⟩
    by_cases hji : j = i
    · subst hji; exact hy.wpOp hi hS hw fun w' hw' => ⟨C, fun _ _ h => h, fun _ _ h => Down.self h, ⟨S, hS, hw'⟩, H⟩
    · have h1 := (H S hS w hw).2 j (ready_mono hj hji)
      obtain ⟨hjun, oj, hoj, hall⟩ := mem_ready.1 hj
      have hTj : T j = false := by
        cases hT : T j
        · rfl
        · obtain ⟨e, he, hb, hon⟩ := hTc j oj hT hoj
          have hl := hall e he hb
          rcases hon with hon | hon
          · rw [hon] at hl
            have h0 := (mem_ready.1 hr).1
            rcases Nat.lt_or_ge i listed.size with h' | h'
            · simp [h'] at h0 hl; rw [h0] at hl; cases hl
            · simp [Array.getElem?_eq_none h'] at hl
          · rw [hTu _ hon] at hl; cases hl
      have hap := (hfree j oj hoj hji hjun).resolve_left (by rw [hTj]; decide)
      have h2 := wpOp_putX hoj hap.1 (fun cs b => hsel i oi cs b hi) (fun cs b => hsel j oj cs b hoj) (fun _ _ _ h => h) hy h1
      refine wpOp_mono (fun a' w' h3 => ?_) h2
      obtain ⟨hy', C', hC', hD', hw', hrest⟩ := h3
      have hsub := hC' hap.2
      refine ⟨C', fun _ => hsub, hD', hw', ih C' (listed.setIfInBounds j true) a' ?_ ?_ (ready_mono hr (Ne.symm hji)) (hy'.sub hsub) ?_⟩
      · intro k ok hk hki hun
        refine hfree k ok hk hki ?_
        by_cases hjk : j = k
        · subst hjk; exact hjun
        · rw [getD_set_ne true hjk] at hun; exact hun
      · intro k hk
        have : j ≠ k := fun e => by rw [← e, hTj] at hk; cases hk
        rw [getD_set_ne false this]; exact hTu k hk
      · rw [Array.setIfInBounds_comm _ _ hji]
        exact hrest

theorem takeL {md : Array Oper → Nat → Bool} {P : Program} {ops : Array Oper} {K : Act → World → Prop} {i : Nat} {oi : Oper} {v : Value} (T : Nat → Bool) (hi : ops[i]? = some oi)
    (hsel : ∀ (j : Nat) (o : Oper) cs b, ops[j]? = some o → o.op ≠ .select cs b)
    (hTc : ∀ j oj, T j = true → ops[j]? = some oj → ∃ e ∈ oj.after, Region.binds .any e = true ∧ (e.on = i ∨ T e.on = true)) :
    ∀ (fuel : Nat) (C : (World → Prop) → Prop) (listed : Array Bool) (a : Act),
      (∀ j oj, ops[j]? = some oj → j ≠ i → listed.getD j true = false → T j = true ∨ (oi.apart ops oj = true ∧ (md ops j = true ∨ makesAt ops j = true))) →
      (∀ j, T j = true → listed.getD j false = false) →
      i ∈ Region.ready .any ops listed → YieldsX P ops (Down C) oi v a →
      wpAnyX md P ops (Only K) fuel C (listed.setIfInBounds i true) (a.put oi.dst v) → wpAnyX md P ops (Only K) (fuel + 1) C listed a := by
  intro fuel
  induction fuel with
  | zero =>
    intro C listed a _ _ hr hy H S hS w hw
    refine ⟨fun h => (by rw [h] at hr; cases hr), fun j hj => ?_⟩
    by_cases hji : j = i
    · subst hji; exact (hy.sub fun _ h => Down.self h : YieldsX P ops C oi v a).wpOp hi hS hw fun w' hw' => ⟨C, fun _ _ h => h, fun _ _ h => Down.self h, ⟨S, hS, hw'⟩, H⟩
    · have := ready_mono hj hji
      rw [(H S hS w hw).1] at this
      cases this
  | succ fuel ih =>
    intro C listed a hfree hTu hr hy H S hS w hw
    refine ⟨fun h => (by rw [h] at hr; cases hr), fun j hj => ?_⟩
    by_cases hji : j = i
    · subst hji; exact (hy.sub fun _ h => Down.self h : YieldsX P ops C oi v a).wpOp hi hS hw fun w' hw' => ⟨C, fun _ _ h => h, fun _ _ h => Down.self h, ⟨S, hS, hw'⟩, H⟩
    · have h1 := (H S hS w hw).2 j (ready_mono hj hji)
      obtain ⟨hjun, oj, hoj, hall⟩ := mem_ready.1 hj
      have hTj : T j = false := by
        cases hT : T j
        · rfl
        · obtain ⟨e, he, hb, hon⟩ := hTc j oj hT hoj
          have hl := hall e he hb
          rcases hon with hon | hon
          · rw [hon] at hl
            have h0 := (mem_ready.1 hr).1
            rcases Nat.lt_or_ge i listed.size with h' | h'
            · simp [h'] at h0 hl; rw [h0] at hl; cases hl
            · simp [Array.getElem?_eq_none h'] at hl
          · rw [hTu _ hon] at hl; cases hl
      have hap := (hfree j oj hoj hji hjun).resolve_left (by rw [hTj]; decide)
      have h2 := wpOp_putX hoj hap.1 (fun cs b => hsel i oi cs b hi) (fun cs b => hsel j oj cs b hoj) (fun _ _ _ h => h) hy h1
      refine wpOp_mono (fun a' w' h3 => ?_) h2
      obtain ⟨hy', C', hC', hD', hw', hrest⟩ := h3
      have hsub : ∀ T, Down C' T → Down C T := fun T hT => Down.mono (fun T hT => hap.2.elim (fun h => Down.self (hC' h T hT)) (fun h => hD' h T hT)) hT
      refine ⟨C', hC', hD', hw', ih C' (listed.setIfInBounds j true) a' ?_ ?_ (ready_mono hr (Ne.symm hji)) (hy'.sub hsub) ?_⟩
      · intro k ok hk hki hun
        refine hfree k ok hk hki ?_
        by_cases hjk : j = k
        · subst hjk; exact hjun
        · rw [getD_set_ne true hjk] at hun; exact hun
      · intro k hk
        have : j ≠ k := fun e => by rw [← e, hTj] at hk; cases hk
        rw [getD_set_ne false this]; exact hTu k hk
      · rw [Array.setIfInBounds_comm _ _ hji]
        exact hrest

theorem takeP {md : Array Oper → Nat → Bool} {P : Program} {ops : Array Oper} {K : Act → World → Prop} {i : Nat} {oi : Oper} {v : Value} (T : Nat → Bool) (hi : ops[i]? = some oi)
    (hsel : ∀ (j : Nat) (o : Oper) cs b, ops[j]? = some o → o.op ≠ .select cs b)
    (hTc : ∀ j oj, T j = true → ops[j]? = some oj → ∃ e ∈ oj.after, Region.binds .any e = true ∧ (e.on = i ∨ T e.on = true)) :
    ∀ (fuel : Nat) (C : (World → Prop) → Prop) (listed : Array Bool) (a : Act),
      (∀ j oj, ops[j]? = some oj → j ≠ i → listed.getD j true = false → T j = true ∨ oi.apart ops oj = true) →
      (∀ j, T j = true → listed.getD j false = false) →
      i ∈ Region.ready .any ops listed → YieldsX P ops (fun _ => True) oi v a →
      wpAnyX md P ops (Only K) fuel C (listed.setIfInBounds i true) (a.put oi.dst v) → wpAnyX md P ops (Only K) (fuel + 1) C listed a := by
  intro fuel
  induction fuel with
  | zero =>
    intro C listed a _ _ hr hy H S hS w hw
    refine ⟨fun h => (by rw [h] at hr; cases hr), fun j hj => ?_⟩
    by_cases hji : j = i
    · subst hji; exact (hy.sub (C' := C) fun _ _ => trivial).wpOp hi hS hw fun w' hw' => ⟨C, fun _ _ h => h, fun _ _ h => Down.self h, ⟨S, hS, hw'⟩, H⟩
    · have := ready_mono hj hji
      rw [(H S hS w hw).1] at this
      cases this
  | succ fuel ih =>
    intro C listed a hfree hTu hr hy H S hS w hw
    refine ⟨fun h => (by rw [h] at hr; cases hr), fun j hj => ?_⟩
    by_cases hji : j = i
    · subst hji; exact (hy.sub (C' := C) fun _ _ => trivial).wpOp hi hS hw fun w' hw' => ⟨C, fun _ _ h => h, fun _ _ h => Down.self h, ⟨S, hS, hw'⟩, H⟩
    · have h1 := (H S hS w hw).2 j (ready_mono hj hji)
      obtain ⟨hjun, oj, hoj, hall⟩ := mem_ready.1 hj
      have hTj : T j = false := by
        cases hT : T j
        · rfl
        · obtain ⟨e, he, hb, hon⟩ := hTc j oj hT hoj
          have hl := hall e he hb
          rcases hon with hon | hon
          · rw [hon] at hl
            have h0 := (mem_ready.1 hr).1
            rcases Nat.lt_or_ge i listed.size with h' | h'
            · simp [h'] at h0 hl; rw [h0] at hl; cases hl
            · simp [Array.getElem?_eq_none h'] at hl
          · rw [hTu _ hon] at hl; cases hl
      have hap := (hfree j oj hoj hji hjun).resolve_left (by rw [hTj]; decide)
      have h2 := wpOp_putX hoj hap (fun cs b => hsel i oi cs b hi) (fun cs b => hsel j oj cs b hoj) (fun _ _ _ h => h) hy h1
      refine wpOp_mono (fun a' w' h3 => ?_) h2
      obtain ⟨hy', C', hC', hD', hw', hrest⟩ := h3
      refine ⟨C', hC', hD', hw', ih C' (listed.setIfInBounds j true) a' ?_ ?_ (ready_mono hr (Ne.symm hji)) hy' ?_⟩
      · intro k ok hk hki hun
        refine hfree k ok hk hki ?_
        by_cases hjk : j = k
        · subst hjk; exact hjun
        · rw [getD_set_ne true hjk] at hun; exact hun
      · intro k hk
        have : j ≠ k := fun e => by rw [← e, hTj] at hk; cases hk
        rw [getD_set_ne false this]; exact hTu k hk
      · rw [Array.setIfInBounds_comm _ _ hji]
        exact hrest

noncomputable def pureOKC (ops : Array Oper) (listed : Array Bool) (i : Nat) : Bool :=
  match ops[i]? with
  | none => false
  | some oi =>
    let T := waiters ops i
    (List.range ops.size).all (fun j => Nat.beq j i || listed.getD j true || memN T j || (match ops[j]? with | some oj => oi.apart ops oj | none => true)) &&
    T.all (fun j => !(listed.getD j false)) &&
    T.all (fun j => match ops[j]? with | some o => o.after.any fun e => Region.binds .any e && (Nat.beq e.on i || memN T e.on) | none => true)
noncomputable def pureC : Op → Bool
  | .convert .. => false
  | op => kindPure op
noncomputable def firstPureC (ops : Array Oper) (listed : Array Bool) : List Nat → Option Nat
  | [] => none
  | i :: r => cond ((match ops[i]? with | some o => pureC o.op | none => false) && pureOKC ops listed i) (some i) (firstPureC ops listed r)
noncomputable def loadOKC (md : Array Oper → Nat → Bool) (ops : Array Oper) (listed : Array Bool) (i : Nat) : Bool :=
  match ops[i]? with
  | none => false
  | some oi =>
    let T := waiters ops i
    (List.range ops.size).all (fun j => Nat.beq j i || listed.getD j true || memN T j || (match ops[j]? with | some oj => oi.apart ops oj && md ops j | none => true)) &&
    T.all (fun j => !(listed.getD j false)) &&
    T.all (fun j => match ops[j]? with | some o => o.after.any fun e => Region.binds .any e && (Nat.beq e.on i || memN T e.on) | none => true)
noncomputable def mdM (md : Array Oper → Nat → Bool) (ops : Array Oper) (j : Nat) : Bool := md ops j || makesAt ops j
noncomputable def firstLoadC (md : Array Oper → Nat → Bool) (ops : Array Oper) (listed : Array Bool) : List Nat → Option Nat
  | [] => none
  | i :: r => cond ((match ops[i]? with | some o => !(changes o.op) | none => false) && loadOKC md ops listed i) (some i)
      (cond ((match ops[i]? with | some o => kindLoad o.op | none => false) && loadOKC (mdM md) ops listed i) (some i) (firstLoadC md ops listed r))

noncomputable def isCallAt (ops : Array Oper) (i : Nat) : Bool := match ops[i]? with | some o => (match o.op with | .call { callee := .value _, .. } => true | _ => false) | none => false
noncomputable def lastCall (cl : Bool) (ops : Array Oper) (i0 : Nat) : List Nat → Bool | [] => cl && isCallAt ops i0 | _ => false
noncomputable def schedC (md : Array Oper → Nat → Bool) (ops : Array Oper) (cl : Bool) : Nat → Array Bool → Option (List (Nat × Fl))
  | 0, listed => (match Region.ready .any ops listed with | [] => some [] | _ => none)
  | n + 1, listed =>
    match Region.ready .any ops listed with
    | [] => some []
    | i0 :: rs => match firstPureC ops listed (i0 :: rs) with
      | some i => (match schedC md ops cl n (listed.setIfInBounds i true) with | some l => some ((i, .pure) :: l) | none => none)
      | none => match cond (lastCall cl ops i0 rs) none (firstLoadC md ops listed (i0 :: rs)) with
        | some i => (match schedC md ops cl n (listed.setIfInBounds i true) with | some l => some ((i, .load) :: l) | none => none)
        | none => (match rs with
          | [] => (match schedC md ops cl n (listed.setIfInBounds i0 true) with | some l => some ((i0, .loud) :: l) | none => none)
          | _ => none)

noncomputable def SeqXL (md : Array Oper → Nat → Bool) (P : Program) (ops : Array Oper) (Q : Exit → Act → World → Prop) (R : ((World → Prop) → Prop) → Act → Prop) : List (Nat × Fl) → ((World → Prop) → Prop) → Act → Prop
  | [], C, a => R C a
  | (i, .pure) :: r, C, a => ∃ o v, ops[i]? = some o ∧ YieldsX P ops (fun _ => True) o v a ∧ SeqXL md P ops Q R r C (a.put o.dst v)
  | (i, .load) :: r, C, a => ∃ o v, ops[i]? = some o ∧ YieldsX P ops C o v a ∧ (kindLoad o.op = true → YieldsX P ops (Down C) o v a) ∧ SeqXL md P ops Q R r C (a.put o.dst v)
  | (i, .loud) :: r, C, a => ∀ S, C S → ∀ w, S w → wpOp P ops Q i (fun a' w' => ∃ C' : (World → Prop) → Prop, (md ops i = true → ∀ T, C' T → C T) ∧ (makesAt ops i = true → ∀ T, C' T → Down C T) ∧ (∃ S', C' S' ∧ S' w') ∧ SeqXL md P ops Q R r C' a') a w
abbrev SeqX (md : Array Oper → Nat → Bool) (P : Program) (ops : Array Oper) (Q : Exit → Act → World → Prop) : List (Nat × Fl) → ((World → Prop) → Prop) → Act → Prop := SeqXL md P ops Q fun C a => ∀ S, C S → ∀ w, S w → Q .normal a w
noncomputable def schedH (md : Array Oper → Nat → Bool) (ops : Array Oper) : Nat → Array Bool → List (Nat × Fl) × Nat × Array Bool
  | 0, listed => ([], 0, listed)
  | n + 1, listed =>
    match Region.ready .any ops listed with
    | [] => ([], n + 1, listed)
    | i0 :: rs => match firstPureC ops listed (i0 :: rs) with
      | some i => (match schedH md ops n (listed.setIfInBounds i true) with | (l, r) => ((i, .pure) :: l, r))
      | none => match firstLoadC md ops listed (i0 :: rs) with
        | some i => (match schedH md ops n (listed.setIfInBounds i true) with | (l, r) => ((i, .load) :: l, r))
        | none => (match rs with
          | [] => (match schedH md ops n (listed.setIfInBounds i0 true) with | (l, r) => ((i0, .loud) :: l, r))
          | _ => ([], n + 1, listed))

theorem firstLoadC_spec {md : Array Oper → Nat → Bool} {ops : Array Oper} {listed : Array Bool} : ∀ {l : List Nat} {i : Nat}, firstLoadC md ops listed l = some i →
    i ∈ l ∧ (loadOKC md ops listed i = true ∨ ((match ops[i]? with | some o => kindLoad o.op | none => false) = true ∧ loadOKC (mdM md) ops listed i = true))
  | [], _, h => by simp [firstLoadC] at h
  | j :: r, i, h => by
    simp only [firstLoadC] at h
    cases hc : ((match ops[j]? with | some o => !(changes o.op) | none => false) && loadOKC md ops listed j)
    · rw [hc] at h
      simp only [cond_false] at h
      cases hc2 : ((match ops[j]? with | some o => kindLoad o.op | none => false) && loadOKC (mdM md) ops listed j)
      · rw [hc2] at h
        simp only [cond_false] at h
        have := firstLoadC_spec h
        exact ⟨List.mem_cons_of_mem _ this.1, this.2⟩
      · rw [hc2] at h
        simp only [cond_true] at h
        simp at h; subst h
        simp only [Bool.and_eq_true] at hc2
        exact ⟨List.mem_cons_self, .inr hc2⟩
    · rw [hc] at h
      simp only [cond_true] at h
      simp at h; subst h
      simp only [Bool.and_eq_true] at hc
      exact ⟨List.mem_cons_self, .inl hc.2⟩

theorem firstPureC_spec {ops : Array Oper} {listed : Array Bool} : ∀ {l : List Nat} {i : Nat}, firstPureC ops listed l = some i →
    i ∈ l ∧ pureOKC ops listed i = true
  | [], _, h => by simp [firstPureC] at h
  | j :: r, i, h => by
    simp only [firstPureC] at h
    cases hc : ((match ops[j]? with | some o => pureC o.op | none => false) && pureOKC ops listed j)
    · rw [hc] at h
      simp only [cond_false] at h
      have := firstPureC_spec h
      exact ⟨List.mem_cons_of_mem _ this.1, this.2⟩
    · rw [hc] at h
      simp only [cond_true] at h
      simp at h; subst h
      simp only [Bool.and_eq_true] at hc
      exact ⟨List.mem_cons_self, hc.2⟩
theorem take_pureC {md : Array Oper → Nat → Bool} {P : Program} {ops : Array Oper} {K : Act → World → Prop} {C : (World → Prop) → Prop} {i : Nat} {oi : Oper} {v : Value} (hi : ops[i]? = some oi) (hs : Region.noSelect ops = true) {fuel : Nat} {listed : Array Bool} {a : Act}
    (hr : i ∈ Region.ready .any ops listed) (hf : pureOKC ops listed i = true) (hy : YieldsX P ops (fun _ => True) oi v a)
    (h : wpAnyX md P ops (Only K) fuel C (listed.setIfInBounds i true) (a.put oi.dst v)) : wpAnyX md P ops (Only K) (fuel + 1) C listed a := by
  simp only [pureOKC, hi, Bool.and_eq_true] at hf
  obtain ⟨⟨h1, h2⟩, h3⟩ := hf
  refine takeP (memN (waiters ops i)) hi (Region.noSelect_spec hs) ?_ fuel C listed a ?_ ?_ hr hy h
  · intro j oj hT hoj
    have := List.all_eq_true.1 h3 j (memN_iff.1 hT)
    simp only [hoj] at this
    obtain ⟨e, he, hb⟩ := Array.any_eq_true'.1 this
    simp only [Bool.and_eq_true, Bool.or_eq_true] at hb
    exact ⟨e, he, hb.1, hb.2.imp Nat.eq_of_beq_eq_true id⟩
  · intro j oj hoj hne hjun
    have := List.all_eq_true.1 h1 j (List.mem_range.2 (Array.getElem?_eq_some_iff.1 hoj).1)
    have hb : Nat.beq j i = false := by
      cases hc : Nat.beq j i
      · rfl
      · exact absurd (Nat.eq_of_beq_eq_true hc) hne
    simp only [hoj, hb, hjun, Bool.false_or, Bool.or_eq_true] at this
    exact this
  · intro j hT
    have := List.all_eq_true.1 h2 j (memN_iff.1 hT)
    simpa using this

theorem take_loadC {md : Array Oper → Nat → Bool} {P : Program} {ops : Array Oper} {K : Act → World → Prop} {C : (World → Prop) → Prop} {i : Nat} {oi : Oper} {v : Value} (hi : ops[i]? = some oi) (hs : Region.noSelect ops = true) {fuel : Nat} {listed : Array Bool} {a : Act}
    (hr : i ∈ Region.ready .any ops listed) (hf : loadOKC md ops listed i = true) (hy : YieldsX P ops C oi v a)
    (h : wpAnyX md P ops (Only K) fuel C (listed.setIfInBounds i true) (a.put oi.dst v)) : wpAnyX md P ops (Only K) (fuel + 1) C listed a := by
  simp only [loadOKC, hi, Bool.and_eq_true] at hf
  obtain ⟨⟨h1, h2⟩, h3⟩ := hf
  refine takeX (memN (waiters ops i)) hi (Region.noSelect_spec hs) ?_ fuel C listed a ?_ ?_ hr hy h
  · intro j oj hT hoj
    have := List.all_eq_true.1 h3 j (memN_iff.1 hT)
    simp only [hoj] at this
    obtain ⟨e, he, hb⟩ := Array.any_eq_true'.1 this
    simp only [Bool.and_eq_true, Bool.or_eq_true] at hb
    exact ⟨e, he, hb.1, hb.2.imp Nat.eq_of_beq_eq_true id⟩
  · intro j oj hoj hne hjun
    have := List.all_eq_true.1 h1 j (List.mem_range.2 (Array.getElem?_eq_some_iff.1 hoj).1)
    have hb : Nat.beq j i = false := by
      cases hc : Nat.beq j i
      · rfl
      · exact absurd (Nat.eq_of_beq_eq_true hc) hne
    simp only [hoj, hb, hjun, Bool.false_or, Bool.or_eq_true, Bool.and_eq_true] at this
    exact this
  · intro j hT
    have := List.all_eq_true.1 h2 j (memN_iff.1 hT)
    simpa using this

theorem take_loadL {md : Array Oper → Nat → Bool} {P : Program} {ops : Array Oper} {K : Act → World → Prop} {C : (World → Prop) → Prop} {i : Nat} {oi : Oper} {v : Value} (hi : ops[i]? = some oi) (hs : Region.noSelect ops = true) {fuel : Nat} {listed : Array Bool} {a : Act}
    (hr : i ∈ Region.ready .any ops listed) (hf : loadOKC (mdM md) ops listed i = true) (hy : YieldsX P ops (Down C) oi v a)
    (h : wpAnyX md P ops (Only K) fuel C (listed.setIfInBounds i true) (a.put oi.dst v)) : wpAnyX md P ops (Only K) (fuel + 1) C listed a := by
  simp only [loadOKC, hi, Bool.and_eq_true] at hf
  obtain ⟨⟨h1, h2⟩, h3⟩ := hf
  refine takeL (memN (waiters ops i)) hi (Region.noSelect_spec hs) ?_ fuel C listed a ?_ ?_ hr hy h
  · intro j oj hT hoj
    have := List.all_eq_true.1 h3 j (memN_iff.1 hT)
    simp only [hoj] at this
    obtain ⟨e, he, hb⟩ := Array.any_eq_true'.1 this
    simp only [Bool.and_eq_true, Bool.or_eq_true] at hb
    exact ⟨e, he, hb.1, hb.2.imp Nat.eq_of_beq_eq_true id⟩
  · intro j oj hoj hne hjun
    have := List.all_eq_true.1 h1 j (List.mem_range.2 (Array.getElem?_eq_some_iff.1 hoj).1)
    have hb : Nat.beq j i = false := by
      cases hc : Nat.beq j i
      · rfl
      · exact absurd (Nat.eq_of_beq_eq_true hc) hne
    simp only [hoj, hb, hjun, mdM, Bool.false_or, Bool.or_eq_true, Bool.and_eq_true] at this
    exact this
  · intro j hT
    have := List.all_eq_true.1 h2 j (memN_iff.1 hT)
    simpa using this

theorem schedC_sound {md : Array Oper → Nat → Bool} {P : Program} {ops : Array Oper} {cl : Bool} {K : Act → World → Prop} (hs : Region.noSelect ops = true) :
    ∀ (n : Nat) (C : (World → Prop) → Prop) (listed : Array Bool) (l : List (Nat × Fl)) (a : Act), schedC md ops cl n listed = some l → SeqX md P ops (Only K) l C a →
      wpAnyX md P ops (Only K) n C listed a := by
  intro n
  induction n with
  | zero =>
    intro C listed l a h hw S hS w hSw
    simp only [schedC] at h
    split at h
    · rename_i hr; simp at h; subst h; exact ⟨hr, hw S hS w hSw⟩
    · cases h
  | succ n ih =>
    intro C listed l a h hw
    simp only [schedC] at h
    split at h
    · rename_i hr; simp at h; subst h; exact fun S hS w hSw => ⟨fun _ => hw S hS w hSw, by rw [hr]; simp⟩
    · rename_i i0 rs hr
      split at h
      · rename_i i hf
        split at h
        · rename_i l' hl
          simp at h; subst h
          obtain ⟨o, v, ho, hy, hw'⟩ := hw
          have hsp := firstPureC_spec hf
          exact take_pureC ho hs (by rw [hr]; exact hsp.1) hsp.2 hy (ih _ _ _ _ hl hw')
        · cases h
      · split at h
        · rename_i i hf
          split at h
          · rename_i l' hl
            simp at h; subst h
            obtain ⟨o, v, ho, hy, hyL, hw'⟩ := hw
            have hf : firstLoadC md ops listed (i0 :: rs) = some i := by
              cases hlc : lastCall cl ops i0 rs <;> rw [hlc] at hf
              · exact hf
              · cases hf
            have hsp := firstLoadC_spec hf
            rcases hsp.2 with h2 | ⟨h1, h2⟩
            · exact take_loadC ho hs (by rw [hr]; exact hsp.1) h2 hy (ih _ _ _ _ hl hw')
            · simp only [ho] at h1
              exact take_loadL ho hs (by rw [hr]; exact hsp.1) h2 (hyL h1) (ih _ _ _ _ hl hw')
          · cases h
        · split at h
          · split at h
            · rename_i l' hl
              simp at h; subst h
              intro S hS w hSw
              refine ⟨fun h0 => (by rw [hr] at h0; cases h0), fun i hi => ?_⟩
              rw [hr] at hi
              simp at hi; subst hi
              exact wpOp_mono (fun a w ⟨C', h1, hd, h2, h3⟩ => ⟨C', h1, hd, h2, ih _ _ _ a hl h3⟩) (hw S hS w hSw)
            · cases h
          · cases h

theorem schedH_sound {md : Array Oper → Nat → Bool} {P : Program} {ops : Array Oper} {K : Act → World → Prop} (hs : Region.noSelect ops = true) :
    ∀ (n : Nat) (C : (World → Prop) → Prop) (listed : Array Bool) (a : Act), SeqXL md P ops (Only K) (fun C a => wpAnyX md P ops (Only K) (schedH md ops n listed).2.1 C (schedH md ops n listed).2.2 a) (schedH md ops n listed).1 C a →
      wpAnyX md P ops (Only K) n C listed a := by
  intro n
  induction n with
  | zero => exact fun C listed a hw => hw
  | succ n ih =>
    intro C listed a hw
    unfold schedH at hw
    split at hw
    · exact hw
    · rename_i i0 rs hr
      split at hw
      · rename_i i hf
        obtain ⟨o, v, ho, hy, hw'⟩ := hw
        have hsp := firstPureC_spec hf
        exact take_pureC ho hs (by rw [hr]; exact hsp.1) hsp.2 hy (ih _ _ _ hw')
      · split at hw
        · rename_i i hf
          obtain ⟨o, v, ho, hy, hyL, hw'⟩ := hw
          have hsp := firstLoadC_spec hf
          rcases hsp.2 with h2 | ⟨h1, h2⟩
          · exact take_loadC ho hs (by rw [hr]; exact hsp.1) h2 hy (ih _ _ _ hw')
          · simp only [ho] at h1
            exact take_loadL ho hs (by rw [hr]; exact hsp.1) h2 (hyL h1) (ih _ _ _ hw')
        · split at hw
          · intro S hS w hSw
            refine ⟨fun h0 => (by rw [hr] at h0; cases h0), fun i hi => ?_⟩
            rw [hr] at hi
            simp at hi; subst hi
            exact wpOp_mono (fun a w ⟨C', h1, hd, h2, h3⟩ => ⟨C', h1, hd, h2, ih _ _ a h3⟩) (hw S hS w hSw)
          · exact hw

theorem schedC_wp {md : Array Oper → Nat → Bool} {P : Program} {ops : Array Oper} {cl : Bool} {C : (World → Prop) → Prop} {S : World → Prop} {K : Act → World → Prop} {id : Nat} {a : Act} {w : World} {l : List (Nat × Fl)}
    (hm : P.follows .mixedOrders = true) (hs : Region.noSelect ops = true) (h : schedC md ops cl ops.size (Array.replicate ops.size false) = some l)
    (hC : C S) (hS : S { w with drawn := w.drawn + 1 }) (hw : SeqX md P ops (Only K) l C a) : (Code.region id ops true).wp P (Only K) a w :=
  wp_region_any hm (wpAny_of_X _ _ _ _ _ _ hC hS (schedC_sound hs _ _ _ _ _ h hw))

noncomputable def wpAnyY (P : Program) (ops : Array Oper) (Q : Exit → Act → World → Prop) : Nat → (World → Prop) → (World → Prop) → Array Bool → Act → Prop
  | 0, _, S, listed, a => ∀ w, S w → Region.ready .any ops listed = [] ∧ Q .normal a w
  | n + 1, R, S, listed, a => ∀ w, S w → (Region.ready .any ops listed = [] → Q .normal a w) ∧
      ∀ i ∈ Region.ready .any ops listed, wpOp P ops Q i (fun a' w' => ∃ R' S' : World → Prop, (∀ w, R' w → R w) ∧ (∀ w, S' w → R' w) ∧ S' w' ∧ wpAnyY P ops Q n R' S' (listed.setIfInBounds i true) a') a w
theorem wpAny_of_Y {P : Program} {ops : Array Oper} {Q : Exit → Act → World → Prop} : ∀ (n : Nat) (R S : World → Prop) (listed : Array Bool) (a : Act) (w : World), S w → wpAnyY P ops Q n R S listed a → wpAny P .any ops Q n listed a w
  | 0, _, _, _, _, w, hS, h => h w hS
  | n + 1, _, _, _, _, w, hS, h => ⟨(h w hS).1, fun i hi => wpOp_mono (fun a' w' ⟨_, _, _, _, hw', h'⟩ => wpAny_of_Y n _ _ _ a' w' hw' h') ((h w hS).2 i hi)⟩
theorem takeY {P : Program} {ops : Array Oper} {K : Act → World → Prop} {i : Nat} {oi : Oper} {v : Value} (T : Nat → Bool) (hi : ops[i]? = some oi)
    (hsel : ∀ (j : Nat) (o : Oper) cs b, ops[j]? = some o → o.op ≠ .select cs b)
    (hTc : ∀ j oj, T j = true → ops[j]? = some oj → ∃ e ∈ oj.after, Region.binds .any e = true ∧ (e.on = i ∨ T e.on = true)) :
    ∀ (fuel : Nat) (R S : World → Prop) (listed : Array Bool) (a : Act), (∀ w, S w → R w) →
      (∀ j oj, ops[j]? = some oj → j ≠ i → listed.getD j true = false → T j = true ∨ oi.apart ops oj = true) →
      (∀ j, T j = true → listed.getD j false = false) →
      i ∈ Region.ready .any ops listed → YieldsIf P ops R oi v a →
      wpAnyY P ops (Only K) fuel R S (listed.setIfInBounds i true) (a.put oi.dst v) → wpAnyY P ops (Only K) (fuel + 1) R S listed a := by
  intro fuel
  induction fuel with
  | zero =>
    intro R S listed a hSR _ _ hr hy H w hw
    refine ⟨fun h => (by rw [h] at hr; cases hr), fun j hj => ?_⟩
    by_cases hji : j = i
    · subst hji; exact hy.wpOp hi (hSR w hw) ⟨R, S, fun _ h => h, hSR, hw, H⟩
    · have := ready_mono hj hji
      rw [(H w hw).1] at this
      cases this
  | succ fuel ih =>
    intro R S listed a hSR hfree hTu hr hy H w hw
    refine ⟨fun h => (by rw [h] at hr; cases hr), fun j hj => ?_⟩
    by_cases hji : j = i
    · subst hji; exact hy.wpOp hi (hSR w hw) ⟨R, S, fun _ h => h, hSR, hw, H⟩
    · have h1 := (H w hw).2 j (ready_mono hj hji)
      obtain ⟨hjun, oj, hoj, hall⟩ := mem_ready.1 hj
      have hTj : T j = false := by
        cases hT : T j
        · rfl
        · obtain ⟨e, he, hb, hon⟩ := hTc j oj hT hoj
          have hl := hall e he hb
          rcases hon with hon | hon
          · rw [hon] at hl
            have h0 := (mem_ready.1 hr).1
            rcases Nat.lt_or_ge i listed.size with h' | h'
            · simp [h'] at h0 hl; rw [h0] at hl; cases hl
            · simp [Array.getElem?_eq_none h'] at hl
          · rw [hTu _ hon] at hl; cases hl
      have hap := (hfree j oj hoj hji hjun).resolve_left (by rw [hTj]; decide)
      have h2 := wpOp_putIf hoj hap (fun cs b => hsel i oi cs b hi) (fun cs b => hsel j oj cs b hoj) (fun _ _ _ h => h) hy h1
      refine wpOp_mono (fun a' w' h3 => ?_) h2
      obtain ⟨hy', R', S', hR, hS', hw', hrest⟩ := h3
      refine ⟨R', S', hR, hS', hw', ih R' S' (listed.setIfInBounds j true) a' hS' ?_ ?_ (ready_mono hr (Ne.symm hji)) (hy'.imp (fun ⟨h1, h2⟩ => ⟨h1, fun w hw => h2 w (hR w hw)⟩) id) ?_⟩
      · intro k ok hk hki hun
        refine hfree k ok hk hki ?_
        by_cases hjk : j = k
        · subst hjk; exact hjun
        · rw [getD_set_ne true hjk] at hun; exact hun
      · intro k hk
        have : j ≠ k := fun e => by rw [← e, hTj] at hk; cases hk
        rw [getD_set_ne false this]; exact hTu k hk
      · rw [Array.setIfInBounds_comm _ _ hji]
        exact hrest
noncomputable def kindConv (cv : Bool) : Op → Bool
  | .convert .. => cv
  | _ => false
noncomputable def firstY (cv : Bool) (ops : Array Oper) (listed : Array Bool) : List Nat → Option Nat
  | [] => none
  | i :: r => cond ((match ops[i]? with | some o => pureC o.op || (kindLoad o.op || kindConv cv o.op) | none => false) && pureOKC ops listed i) (some i) (firstY cv ops listed r)
theorem firstY_spec {cv : Bool} {ops : Array Oper} {listed : Array Bool} : ∀ {l : List Nat} {i : Nat}, firstY cv ops listed l = some i → i ∈ l ∧ pureOKC ops listed i = true
  | [], _, h => by simp [firstY] at h
  | j :: r, i, h => by
    simp only [firstY] at h
    cases hc : ((match ops[j]? with | some o => pureC o.op || (kindLoad o.op || kindConv cv o.op) | none => false) && pureOKC ops listed j)
    · rw [hc] at h
      simp only [cond_false] at h
      have := firstY_spec h
      exact ⟨List.mem_cons_of_mem _ this.1, this.2⟩
    · rw [hc] at h
      simp only [cond_true] at h
      simp at h; subst h
      simp only [Bool.and_eq_true] at hc
      exact ⟨List.mem_cons_self, hc.2⟩
noncomputable def schedY (cv : Bool) (ops : Array Oper) : Nat → Array Bool → Option (List (Nat × Fl))
  | 0, listed => (match Region.ready .any ops listed with | [] => some [] | _ => none)
  | n + 1, listed =>
    match Region.ready .any ops listed with
    | [] => some []
    | i0 :: rs => match firstY cv ops listed (i0 :: rs) with
      | some i => (match schedY cv ops n (listed.setIfInBounds i true) with | some l => some ((i, .load) :: l) | none => none)
      | none => (match rs with
          | [] => (match schedY cv ops n (listed.setIfInBounds i0 true) with | some l => some ((i0, .loud) :: l) | none => none)
          | _ => none)
noncomputable def SeqY (P : Program) (ops : Array Oper) (Q : Exit → Act → World → Prop) : List (Nat × Fl) → (World → Prop) → (World → Prop) → Act → Prop
  | [], _, S, a => ∀ w, S w → Q .normal a w
  | (i, .loud) :: r, R, S, a => ∀ w, S w → wpOp P ops Q i (fun a' w' => ∃ R' S' : World → Prop, (∀ w, R' w → R w) ∧ (∀ w, S' w → R' w) ∧ S' w' ∧ SeqY P ops Q r R' S' a') a w
  | (i, _) :: r, R, S, a => ∃ o v, ops[i]? = some o ∧ YieldsIf P ops R o v a ∧ SeqY P ops Q r R S (a.put o.dst v)
theorem take_Y {P : Program} {ops : Array Oper} {K : Act → World → Prop} {R S : World → Prop} {i : Nat} {oi : Oper} {v : Value} (hi : ops[i]? = some oi) (hs : Region.noSelect ops = true) {fuel : Nat} {listed : Array Bool} {a : Act} (hSR : ∀ w, S w → R w)
    (hr : i ∈ Region.ready .any ops listed) (hf : pureOKC ops listed i = true) (hy : YieldsIf P ops R oi v a)
    (h : wpAnyY P ops (Only K) fuel R S (listed.setIfInBounds i true) (a.put oi.dst v)) : wpAnyY P ops (Only K) (fuel + 1) R S listed a := by
  simp only [pureOKC, hi, Bool.and_eq_true] at hf
  obtain ⟨⟨h1, h2⟩, h3⟩ := hf
  refine takeY (memN (waiters ops i)) hi (Region.noSelect_spec hs) ?_ fuel R S listed a hSR ?_ ?_ hr hy h
  · intro j oj hT hoj
    have := List.all_eq_true.1 h3 j (memN_iff.1 hT)
    simp only [hoj] at this
    obtain ⟨e, he, hb⟩ := Array.any_eq_true'.1 this
    simp only [Bool.and_eq_true, Bool.or_eq_true] at hb
    exact ⟨e, he, hb.1, hb.2.imp Nat.eq_of_beq_eq_true id⟩
  · intro j oj hoj hne hjun
    have := List.all_eq_true.1 h1 j (List.mem_range.2 (Array.getElem?_eq_some_iff.1 hoj).1)
    have hb : Nat.beq j i = false := by
      cases hc : Nat.beq j i
      · rfl
      · exact absurd (Nat.eq_of_beq_eq_true hc) hne
    simp only [hoj, hb, hjun, Bool.false_or, Bool.or_eq_true] at this
    exact this
  · intro j hT
    have := List.all_eq_true.1 h2 j (memN_iff.1 hT)
    simpa using this
theorem schedY_sound {cv : Bool} {P : Program} {ops : Array Oper} {K : Act → World → Prop} (hs : Region.noSelect ops = true) :
    ∀ (n : Nat) (R S : World → Prop) (listed : Array Bool) (l : List (Nat × Fl)) (a : Act), (∀ w, S w → R w) → schedY cv ops n listed = some l → SeqY P ops (Only K) l R S a → wpAnyY P ops (Only K) n R S listed a := by
  intro n
  induction n with
  | zero =>
    intro R S listed l a hSR h hw w hSw
    simp only [schedY] at h
    split at h
    · rename_i hr; simp at h; subst h; exact ⟨hr, hw w hSw⟩
    · cases h
  | succ n ih =>
    intro R S listed l a hSR h hw
    simp only [schedY] at h
    split at h
    · rename_i hr; simp at h; subst h; exact fun w hSw => ⟨fun _ => hw w hSw, by rw [hr]; simp⟩
    · rename_i i0 rs hr
      split at h
      · rename_i i hf
        split at h
        · rename_i l' hl
          simp at h; subst h
          obtain ⟨o, v, ho, hy, hw'⟩ := hw
          have hsp := firstY_spec hf
          exact take_Y ho hs hSR (by rw [hr]; exact hsp.1) hsp.2 hy (ih _ _ _ _ _ hSR hl hw')
        · cases h
      · split at h
        · split at h
          · rename_i l' hl
            simp at h; subst h
            intro w hSw
            refine ⟨fun h0 => (by rw [hr] at h0; cases h0), fun i hi => ?_⟩
            rw [hr] at hi
            simp at hi; subst hi
            exact wpOp_mono (fun a w ⟨R', S', h1, h2, h3, h4⟩ => ⟨R', S', h1, h2, h3, ih _ _ _ _ a h2 hl h4⟩) (hw w hSw)
          · cases h
        · cases h
theorem schedY_wp {cv : Bool} {P : Program} {ops : Array Oper} {R S : World → Prop} {K : Act → World → Prop} {id : Nat} {a : Act} {w : World} {l : List (Nat × Fl)}
    (hm : P.follows .mixedOrders = true) (hs : Region.noSelect ops = true) (h : schedY cv ops ops.size (Array.replicate ops.size false) = some l)
    (hSR : ∀ w, S w → R w) (hS : S { w with drawn := w.drawn + 1 }) (hw : SeqY P ops (Only K) l R S a) : (Code.region id ops true).wp P (Only K) a w :=
  wp_region_any hm (wpAny_of_Y _ _ _ _ _ _ hS (schedY_sound hs _ _ _ _ _ _ hSR h hw))

noncomputable def schedZ (cv : Bool) (ops : Array Oper) : Nat → Array Bool → List (Nat × Fl) × Nat × Array Bool
  | 0, listed => ([], 0, listed)
  | n + 1, listed =>
    match Region.ready .any ops listed with
    | [] => ([], n + 1, listed)
    | i0 :: rs => match firstY cv ops listed (i0 :: rs) with
      | some i => (match schedZ cv ops n (listed.setIfInBounds i true) with | (l, r) => ((i, .load) :: l, r))
      | none => (match rs with
          | [] => (match schedZ cv ops n (listed.setIfInBounds i0 true) with | (l, r) => ((i0, .loud) :: l, r))
          | _ => ([], n + 1, listed))
noncomputable def SeqYL (P : Program) (ops : Array Oper) (Q : Exit → Act → World → Prop) (Φ : (World → Prop) → (World → Prop) → Act → Prop) : List (Nat × Fl) → (World → Prop) → (World → Prop) → Act → Prop
  | [], R, S, a => Φ R S a
  | (i, .loud) :: r, R, S, a => ∀ w, S w → wpOp P ops Q i (fun a' w' => ∃ R' S' : World → Prop, (∀ w, R' w → R w) ∧ (∀ w, S' w → R' w) ∧ S' w' ∧ SeqYL P ops Q Φ r R' S' a') a w
  | (i, _) :: r, R, S, a => ∃ o v, ops[i]? = some o ∧ YieldsIf P ops R o v a ∧ SeqYL P ops Q Φ r R S (a.put o.dst v)
theorem schedZ_sound {cv : Bool} {P : Program} {ops : Array Oper} {K : Act → World → Prop} (hs : Region.noSelect ops = true) :
    ∀ (n : Nat) (R S : World → Prop) (listed : Array Bool) (a : Act), (∀ w, S w → R w) → SeqYL P ops (Only K) (fun R S a => wpAnyY P ops (Only K) (schedZ cv ops n listed).2.1 R S (schedZ cv ops n listed).2.2 a) (schedZ cv ops n listed).1 R S a → wpAnyY P ops (Only K) n R S listed a := by
  intro n
  induction n with
  | zero => exact fun R S listed a hSR hw => hw
  | succ n ih =>
    intro R S listed a hSR hw
    unfold schedZ at hw
    split at hw
    · exact hw
    · rename_i i0 rs hr
      split at hw
      · rename_i i hf
        obtain ⟨o, v, ho, hy, hw'⟩ := hw
        have hsp := firstY_spec hf
        exact take_Y ho hs hSR (by rw [hr]; exact hsp.1) hsp.2 hy (ih _ _ _ _ hSR hw')
      · split at hw
        · intro w hSw
          refine ⟨fun h0 => (by rw [hr] at h0; cases h0), fun i hi => ?_⟩
          rw [hr] at hi
          simp at hi; subst hi
          exact wpOp_mono (fun a w ⟨R', S', h1, h2, h3, h4⟩ => ⟨R', S', h1, h2, h3, ih _ _ _ a h2 h4⟩) (hw w hSw)
        · exact hw
theorem wpAnyY_mono {P : Program} {ops : Array Oper} {Q : Exit → Act → World → Prop} {R R' S : World → Prop} (h : ∀ w, R w → R' w) : ∀ {n : Nat} {listed : Array Bool} {a : Act}, wpAnyY P ops Q n R S listed a → wpAnyY P ops Q n R' S listed a
  | 0, _, _, hw => hw
  | n + 1, _, _, hw => fun w hS => ⟨(hw w hS).1, fun i hi => wpOp_mono (fun a' w' ⟨R1, S1, h1, h2, h3, h4⟩ => ⟨R1, S1, fun w hw => h w (h1 w hw), h2, h3, h4⟩) ((hw w hS).2 i hi)⟩

structure PE extends Program where
  E : World
  m : Bool
  h : List (Nat × Nat × Nat) := []
instance : CoeOut PE Program := ⟨PE.toProgram⟩


abbrev CallK (β : Type) := FuncId → List SV → SW → (SV → SW → Tree β) → Tree β

noncomputable def Fr.ev (f : Fr) : Operand → Option SV
  | .tmp t => f.get t
  | .const v => some (ofVal v)
  | .func g => some (.c (.fn g))
  | .global g => some (.c (.e (some ⟨g, 0, none⟩) 0 0 0))

inductive EK where
  | i (k : IntKind)
  | b
  | s
  | l
noncomputable def flatEF (P : Program) (r : TypeId → Option (List EK)) : List Field → Nat → Option (List EK)
  | [], _ => some []
  | f :: fs, j => match r f.type with
    | none => none
    | some ks => cond (Nat.beq f.offset j && Nat.beq (P.cellsOf f.type) ks.length) (match flatEF P r fs (j + ks.length) with | some l => some (ks ++ l) | none => none) none
noncomputable def repE {α : Type} (l : List α) : Nat → List α
  | 0 => []
  | n + 1 => l ++ repE l n
noncomputable def flatE (P : Program) : Nat → TypeId → Option (List EK)
  | 0, _ => none
  | d + 1, t => match P.underlying t with
    | some (.int k) => some [.i k]
    | some .bool => some [.b]
    | some .string => some [.s]
    | some (.slice _) => some [.l]
    | some (.struct fs) => (match flatEF P (flatE P d) fs.toList 0 with | some ks => cond (Nat.beq (P.cellsOf t) ks.length) (some ks) none | none => none)
    | some (.array n e) => (match flatE P d e with | some ks => cond (Nat.beq (P.cellsOf t) (n * ks.length) && Nat.beq (P.cellsOf e) ks.length) (some (repE ks n)) none | none => none)
    | _ => none
noncomputable def eCell (E : World) (a : Option Addr) (o : Nat) : Value := match a with | none => undef | some a => (match E.cell? (a.add o) with | some v => v | none => undef)
noncomputable def eI (E : World) (a : Option Addr) (o : Nat) : Int := match eCell E a o with | .int _ n => n | _ => 0
noncomputable def eB (E : World) (a : Option Addr) (o : Nat) : Bool := match eCell E a o with | .bool n => n | _ => false
noncomputable def eS (E : World) (a : Option Addr) (o : Nat) : ByteArray := match eCell E a o with | .string n => n | _ => .empty
noncomputable def eA (E : World) (a : Option Addr) (o : Nat) : Option Addr := match eCell E a o with | .slice n _ _ => n | _ => none
noncomputable def eN (E : World) (a : Option Addr) (o : Nat) : Nat := match eCell E a o with | .slice _ n _ => n | _ => 0
noncomputable def eM (E : World) (a : Option Addr) (o : Nat) : Nat := match eCell E a o with | .slice _ _ n => n | _ => 0
noncomputable def eC (E : World) (a : Option Addr) (o : Nat) : EK → C
  | .i k => .i false k (eI E a o)
  | .b => .b false (eB E a o)
  | .s => .str false (eS E a o)
  | .l => .es (eA E a o) (eN E a o) (eM E a o)
noncomputable def eOk (E : World) (a : Option Addr) (o : Nat) : EK → Bool
  | .i k => (match eCell E a o with | .int k' n => k' == k && (Lit.int k n).wf | _ => false)
  | .b => (match eCell E a o with | .bool _ => true | _ => false)
  | .s => (match eCell E a o with | .string s => decide (s.size ≤ maxLen) | _ => false)
  | .l => (match eCell E a o with | .slice none 0 0 => true | .slice (some _) l c => decide (l ≤ c) && decide (c ≤ maxLen) | _ => false)
noncomputable def eRow (E : World) (a : Option Addr) (o : Nat) : List EK → Bool
  | [] => true
  | k :: ks => eOk E a o k && eRow E a (o + 1) ks
noncomputable def eCellsK {β : Type} (E : World) (a : Option Addr) (b o : Nat) : List EK → (List C → β) → β
  | [], K => K []
  | k :: ks, K => forceN (o + 1) fun o' => eCellsK E a b o' ks fun l => K (eC E a (b + o) k :: l)
noncomputable def eCells (E : World) (a : Option Addr) (b o : Nat) : List EK → List C
  | [] => []
  | k :: ks => eC E a (b + o) k :: eCells E a b (o + 1) ks
theorem eCellsK_eq {β : Type} (E : World) (a : Option Addr) (b : Nat) : ∀ (ks : List EK) (o : Nat) (K : List C → β), eCellsK E a b o ks K = K (eCells E a b o ks)
  | [], _, _ => rfl
  | k :: ks, o, K => by simp only [eCellsK, forceN_eq, eCells]; exact eCellsK_eq E a b ks (o + 1) _
noncomputable def rAt (cs : List C) (p : Nat) : C := (cs[p]?).getD (.b true false)
noncomputable def rI (cs : List C) (p : Nat) : Int := match rAt cs p with | .i _ _ v => v | _ => 0
noncomputable def rB (cs : List C) (p : Nat) : Bool := match rAt cs p with | .b _ v => v | _ => false
noncomputable def rS (cs : List C) (p : Nat) : ByteArray := match rAt cs p with | .str _ v => v | .strn _ v => v | _ => .empty
noncomputable def rC (cs : List C) (p : Nat) : EK → C
  | .i k => .i false k (rI cs p)
  | .b => .b false (rB cs p)
  | .s => .str false (rS cs p)
  | .l => .b true false
noncomputable def rOk (cs : List C) (p : Nat) : EK → Bool
  | .i k => (match cs[p]? with | some (.i _ k' _) => k' == k | _ => false)
  | .b => (match cs[p]? with | some (.b _ _) => true | _ => false)
  | .s => (match cs[p]? with | some (.str _ _) => true | some (.strn _ _) => true | _ => false)
  | .l => false
noncomputable def rRow (cs : List C) (p : Nat) : List EK → Bool
  | [] => true
  | k :: ks => rOk cs p k && rRow cs (p + 1) ks
noncomputable def rCells (cs : List C) (b o : Nat) : List EK → List C
  | [] => []
  | k :: ks => rC cs (b + o) k :: rCells cs b (o + 1) ks
noncomputable def rCellsK {β : Type} (cs : List C) (b o : Nat) : List EK → (List C → β) → β
  | [], K => K []
  | k :: ks, K => forceN (o + 1) fun o' => rCellsK cs b o' ks fun l => K (rC cs (b + o) k :: l)
theorem rCellsK_eq {β : Type} (cs : List C) (b : Nat) : ∀ (ks : List EK) (o : Nat) (K : List C → β), rCellsK cs b o ks K = K (rCells cs b o ks)
  | [], _, _ => rfl
  | k :: ks, o, K => by simp only [rCellsK, forceN_eq, rCells]; exact rCellsK_eq cs b ks (o + 1) _
noncomputable def pbK {β : Type} (i : Int) (sz : Nat) (K : Nat → β) : β := @Bool.rec (fun _ => β) (K (i.toNat * sz)) (K i.toNat) (Nat.beq sz 1)
noncomputable def paK {β : Type} (b c : Nat) (K : Nat → β) : β := @Bool.rec (fun _ => β) (K (b + c)) (K b) (Nat.beq c 0)
theorem pbK_eq {β : Type} (i : Int) (sz : Nat) (K : Nat → β) : pbK i sz K = K (i.toNat * sz) := by
  unfold pbK
  cases h : Nat.beq sz 1
  · rfl
  · have := Nat.eq_of_beq_eq_true h
    subst this; simp
theorem paK_eq {β : Type} (b c : Nat) (K : Nat → β) : paK b c K = K (b + c) := by
  unfold paK
  cases h : Nat.beq c 0
  · rfl
  · have := Nat.eq_of_beq_eq_true h
    subst this; simp
theorem rOk_cell {cs : List C} {p : Nat} {k : EK} (h : rOk cs p k = true) : ∃ c, cs[p]? = some c ∧ ∀ ρ, c.den ρ = (rC cs p k).den ρ := by
  cases k with
  | i k =>
    simp only [rOk] at h
    split at h
    · rename_i l k' v hc
      have hk : k' = k := by simpa using h
      subst hk
      refine ⟨_, hc, fun ρ => ?_⟩
      simp only [rC, rI, rAt, hc, Option.getD_some, C.den]
    · cases h
  | b =>
    simp only [rOk] at h
    split at h
    · rename_i l v hc
      refine ⟨_, hc, fun ρ => ?_⟩
      simp only [rC, rB, rAt, hc, Option.getD_some, C.den]
    · cases h
  | s =>
    simp only [rOk] at h
    split at h
    · rename_i l v hc
      refine ⟨_, hc, fun ρ => ?_⟩
      simp only [rC, rS, rAt, hc, Option.getD_some, C.den]
    · rename_i l v hc
      refine ⟨_, hc, fun ρ => ?_⟩
      simp only [rC, rS, rAt, hc, Option.getD_some, C.den]
    · cases h
  | l => simp [rOk] at h
theorem rC_ok {cs : List C} {p : Nat} {k : EK} (n : Nat) : (rC cs p k).ok n = true := by cases k <;> rfl
theorem rCells_ok {cs : List C} {b : Nat} (n : Nat) : ∀ (ks : List EK) (o : Nat), okL n (rCells cs b o ks) = true
  | [], _ => rfl
  | k :: ks, o => by simp only [rCells, okL, List.all_cons, rC_ok, Bool.true_and]; exact rCells_ok n ks (o + 1)
theorem rCells_len {cs : List C} {b : Nat} : ∀ (ks : List EK) (o : Nat), (rCells cs b o ks).length = ks.length
  | [], _ => rfl
  | k :: ks, o => by simp [rCells, rCells_len ks (o + 1)]
theorem rRow_cells {cs : List C} {b : Nat} : ∀ (ks : List EK) (o : Nat), rRow cs (b + o) ks = true → ∀ j c, (rCells cs b o ks)[j]? = some c → ∃ c', cs[b + o + j]? = some c' ∧ ∀ ρ, c'.den ρ = c.den ρ
  | [], _, _, j, c, hj => by simp [rCells] at hj
  | k :: ks, o, h, j, c, hj => by
    simp only [rRow, Bool.and_eq_true] at h
    cases j with
    | zero =>
      simp only [rCells, List.getElem?_cons_zero, Option.some.injEq] at hj; subst hj
      exact rOk_cell h.1
    | succ j =>
      simp only [rCells, List.getElem?_cons_succ] at hj
      rw [show b + o + (j + 1) = b + (o + 1) + j by omega]
      exact rRow_cells (b := b) ks (o + 1) h.2 j c hj
noncomputable def rowLd (P : Program) (s : SW) (t : TypeId) (blk c sz : Nat) (i : Int) : Option R :=
  match s[blk]? with
  | none => none
  | some b => (match P.underlying t, P.info? t, flatE P 9 t with
      | some d, some inf, some ks => cond (Nat.beq ks.length inf.size && Nat.blt 0 ks.length) (pbK i sz fun q => cond (aggB d)
          (rCellsK b.cs q c ks fun l => some ⟨[rRow b.cs (q + c) ks], .a l⟩)
          (match ks with
            | [k] => paK q c fun p => some ⟨[rOk b.cs p k], .c (rC b.cs p k)⟩
            | _ => none)) none
      | _, _, _ => none)
structure RowU8 (cs : List C) (n : Nat) : Prop where
  l : n ≤ cs.length
  h : ∀ j, j < n → rOk cs j (.i .u8) = true
noncomputable def rowU8 (cs : List C) (n : Nat) : Bool := @decide (RowU8 cs n) (Classical.propDecidable _)
theorem rowU8_iff {cs : List C} {n : Nat} : rowU8 cs n = true ↔ RowU8 cs n := by unfold rowU8; exact @decide_eq_true_iff _ (Classical.propDecidable _)
theorem rowT_ex (cs : List C) (n : Nat) : ∃ b : ByteArray, b = bytesN ((List.range n).map (rI cs)) := ⟨_, rfl⟩
noncomputable def rowT (cs : List C) (n : Nat) : ByteArray := Classical.choose (rowT_ex cs n)
theorem rowT_eq (cs : List C) (n : Nat) : rowT cs n = bytesN ((List.range n).map (rI cs)) := Classical.choose_spec (rowT_ex cs n)
noncomputable def extOp (P : Program) (E : World) (s : SW) (ev : Operand → Option SV) (op : Op) : Option R :=
  match op with
  | .load t x => (match ev x with
    | some (.c (.e a o sz i)) => (match P.underlying t, P.info? t, flatE P 9 t with
      | some d, some inf, some ks => cond (Nat.beq ks.length inf.size && Nat.blt 0 ks.length) (cond (aggB d)
          (eCellsK E a (i.toNat * sz) o ks fun l => some ⟨[eRow E a (i.toNat * sz + o) ks], .a l⟩)
          (match ks with
            | [k] => some ⟨[eRow E a (i.toNat * sz + o) [k]], .c (eC E a (i.toNat * sz + o) k)⟩
            | _ => none)) none
      | _, _, _ => none)
    | some (.c (.rp blk c sz i)) => rowLd P s t blk c sz i
    | _ => none)
  | .convert src dst x => (match ev x, P.underlying src, P.underlying dst with
    | some (.c (.rs blk sz len)), some (.slice e), some .string => (match P.underlying e, s[blk]? with
      | some (.int .u8), some bl => cond (Nat.beq sz 1) (some ⟨[rowU8 bl.cs len], .c (.str false (rowT bl.cs len))⟩) none
      | _, _ => none)
    | _, _, _ => none)
  | _ => none

noncomputable def orD (x d : Option R) : Option R := @Option.rec R (fun _ => Option R) d (fun r => @some R r) x
noncomputable def ev1 (x : Option SV) (f : SV → Option R) (d : Option R) : Option R := @Option.rec SV (fun _ => Option R) d f x
noncomputable def evH (x : Option SV) (f : SV → Option (SV × SW)) : Option (SV × SW) := @Option.rec SV (fun _ => Option (SV × SW)) none f x
noncomputable def pureOpG (P : Program) (ev : Operand → Option SV) (op : Op) (d : Option R) : Option R := @Op.rec (fun _ => Option R) (fun x => optR (ev x)) (fun x => optR (ev x)) (fun _ _ _ => d) (fun _ => none) (fun _ _ => d) (fun _ _ => d) (fun _ _ _ => d) (fun _ _ _ _ => d) (fun _ _ => none) (fun _ _ _ => none) (fun _ => d) (fun _ => d) (fun x => ev1 (ev x) (fun u => orD (nilCheckR u) d) d) (fun bo t x y _ => ev1 (ev x) (fun u => ev1 (ev y) (fun v => orD (binR P bo t u v) d) d) d) (fun _ _ _ => d) (fun a b x => ev1 (ev x) (fun u => orD (convR P a b u) d) d) (fun _ _ => d) (fun _ _ => d) (fun _ _ _ => d) (fun _ _ => d) (fun _ _ => d) (fun _ _ _ => d) (fun _ _ _ _ _ => d) (fun s x f => ev1 (ev x) (fun u => orD (fieldAddrR P s u f) d) d) (fun _ _ _ => d) (fun t x i => ev1 (ev x) (fun u => ev1 (ev i) (fun v => orD (indexAddrR P t u v) d) d) d) (fun _ _ _ => d) (fun _ _ _ _ => d) (fun _ _ _ _ => d) (fun _ _ _ => d) (fun _ _ _ _ => d) (fun _ _ => d) (fun _ _ => d) (fun _ => d) (fun _ _ _ _ => d) (fun _ _ => d) (fun _ => d) (fun _ => d) (fun _ => d) (fun _ => d) (fun _ _ => d) (fun _ _ _ => d) (fun _ _ => d) op
noncomputable def pureOpF (P : Program) (ev : Operand → Option SV) (op : Op) : Option R := pureOpG P ev op (pureOp P ev op)
theorem pureOp_of_A {P : Program} {ev : Operand → Option SV} {op : Op} {r : R} (h : pureOpA P ev op = some r) : pureOp P ev op = some r := by unfold pureOp; rw [h]
theorem orD_eq {x d : Option R} (h : ∀ r, x = some r → d = some r) : orD x d = d := by
  cases x with
  | none => rfl
  | some r => exact (h r rfl).symm
theorem ev1_eq {x : Option SV} {f : SV → Option R} {d : Option R} (h : ∀ v, x = some v → f v = d) : ev1 x f d = d := by
  cases x with
  | none => rfl
  | some v => exact h v rfl
theorem pureOpF_eq (P : Program) (ev : Operand → Option SV) (op : Op) : pureOpF P ev op = pureOp P ev op := by
  unfold pureOpF
  cases op
  case move x => show optR (ev x) = (match optR (ev x) with | some r => some r | none => none); cases optR (ev x) <;> rfl
  case assign x => show optR (ev x) = (match optR (ev x) with | some r => some r | none => none); cases optR (ev x) <;> rfl
  case load => rfl
  case store => rfl
  case alloc => rfl
  case binOp bo t x y z => exact ev1_eq fun u hu => ev1_eq fun v hv => orD_eq fun r hr => pureOp_of_A (by simp only [pureOpA, hu, hv, hr])
  case fieldAddr t x f => exact ev1_eq fun u hu => orD_eq fun r hr => pureOp_of_A (by simp only [pureOpA, hu, hr])
  case indexAddr t x i => exact ev1_eq fun u hu => ev1_eq fun v hv => orD_eq fun r hr => pureOp_of_A (by simp only [pureOpA, hu, hv, hr])
  case convert a b x => exact ev1_eq fun u hu => orD_eq fun r hr => pureOp_of_A (by simp only [pureOpA, hu, hr])
  case nilCheck x => exact ev1_eq fun u hu => orD_eq fun r hr => pureOp_of_A (by simp only [pureOpA, hu, hr])
  all_goals rfl
noncomputable def heapOpG (P : Program) (ev : Operand → Option SV) (s : SW) (op : Op) (d : Option (SV × SW)) : Option (SV × SW) := @Op.rec (fun _ => Option (SV × SW)) (fun _ => d) (fun _ => d) (fun _ _ _ => d) (fun _ => d) (fun _ _ => d) (fun _ _ => d) (fun _ _ _ => d) (fun _ _ _ _ => d) (fun t x => evH (ev x) fun v => loadS P s t v) (fun t a x => evH (ev a) fun u => evH (ev x) fun v => storeS P s t u v) (fun _ => d) (fun _ => d) (fun _ => d) (fun _ _ _ _ _ => d) (fun _ _ _ => d) (fun _ _ _ => d) (fun _ _ => d) (fun _ _ => d) (fun _ _ _ => d) (fun _ _ => d) (fun _ _ => d) (fun _ _ _ => d) (fun _ _ _ _ _ => d) (fun _ _ _ => d) (fun _ _ _ => d) (fun _ _ _ => d) (fun _ _ _ => d) (fun _ _ _ _ => d) (fun _ _ _ _ => d) (fun _ _ _ => d) (fun _ _ _ _ => d) (fun _ _ => d) (fun _ _ => d) (fun _ => d) (fun _ _ _ _ => d) (fun _ _ => d) (fun _ => d) (fun _ => d) (fun _ => d) (fun _ => d) (fun _ _ => d) (fun _ _ _ => d) (fun _ _ => d) op
noncomputable def heapOpF (P : Program) (ev : Operand → Option SV) (s : SW) (op : Op) : Option (SV × SW) := heapOpG P ev s op (heapOp P ev s op)
theorem heapOpF_eq (P : Program) (ev : Operand → Option SV) (s : SW) (op : Op) : heapOpF P ev s op = heapOp P ev s op := by
  unfold heapOpF
  cases op
  case load t x =>
    show evH (ev x) (fun v => loadS P s t v) = heapOp P ev s (.load t x)
    simp only [heapOp, heapOpA, heapOpB, heapOpC, heapOpD]
    cases ev x with
    | none => rfl
    | some v => show loadS P s t v = (match loadS P s t v with | some r => some r | none => none); cases loadS P s t v <;> rfl
  case store t a x =>
    show evH (ev a) (fun u => evH (ev x) fun v => storeS P s t u v) = heapOp P ev s (.store t a x)
    simp only [heapOp, heapOpA, heapOpB, heapOpC, heapOpD]
    cases ev a with
    | none => rfl
    | some u =>
      cases ev x with
      | none => rfl
      | some v => show storeS P s t u v = (match storeS P s t u v with | some r => some r | none => none); cases storeS P s t u v <;> rfl
  all_goals rfl
noncomputable def extOpG (op : Op) (d : Option R) : Option R := (fun e : Option R => @Op.rec (fun _ => Option R) (fun _ => e) (fun _ => e) (fun _ _ _ => e) (fun _ => e) (fun _ _ => e) (fun _ _ => e) (fun _ _ _ => e) (fun _ _ _ _ => e) (fun _ _ => d) (fun _ _ _ => e) (fun _ => e) (fun _ => e) (fun _ => e) (fun _ _ _ _ _ => e) (fun _ _ _ => e) (fun _ _ _ => d) (fun _ _ => e) (fun _ _ => e) (fun _ _ _ => e) (fun _ _ => e) (fun _ _ => e) (fun _ _ _ => e) (fun _ _ _ _ _ => e) (fun _ _ _ => e) (fun _ _ _ => e) (fun _ _ _ => e) (fun _ _ _ => e) (fun _ _ _ _ => e) (fun _ _ _ _ => e) (fun _ _ _ => e) (fun _ _ _ _ => e) (fun _ _ => e) (fun _ _ => e) (fun _ => e) (fun _ _ _ _ => e) (fun _ _ => e) (fun _ => e) (fun _ => e) (fun _ => e) (fun _ => e) (fun _ _ => e) (fun _ _ _ => e) (fun _ _ => e) op) none
noncomputable def extOpF (P : Program) (E : World) (s : SW) (ev : Operand → Option SV) (op : Op) : Option R := extOpG op (extOp P E s ev op)
theorem extOpF_eq (P : Program) (E : World) (s : SW) (ev : Operand → Option SV) (op : Op) : extOpF P E s ev op = extOp P E s ev op := by cases op <;> rfl
theorem ext_cell {E w : World} {ρ : Rh} {n : Nat} (h : ExtI E ρ n w) {a : Addr} {v : Value} (hc : E.cell? a = some v) : w.cell? a = some v := by
  have hb : a.block < E.heap.size := by
    unfold World.cell? at hc
    rcases Nat.lt_or_ge a.block E.heap.size with h' | h'
    · exact h'
    · rw [Array.getElem?_eq_none h'] at hc; cases hc
  unfold World.cell? at hc ⊢
  rw [h.2.1 _ hb]; exact hc
theorem eOk_cell {E : World} {a : Option Addr} {o : Nat} {k : EK} (h : eOk E a o k = true) : ∃ a', a = some a' ∧ ∀ ρ, E.cell? (a'.add o) = some ((eC E a o k).den ρ) := by
  have key : ∀ v, eCell E a o = v → v ≠ undef → ∃ a', a = some a' ∧ E.cell? (a'.add o) = some v := by
    intro v hv hne
    unfold eCell at hv
    cases a with
    | none => exact absurd hv.symm hne
    | some a' =>
      refine ⟨a', rfl, ?_⟩
      simp only at hv
      split at hv
      · rename_i u hu; subst hv; exact hu
      · exact absurd hv.symm hne
  cases k with
  | i k =>
    simp only [eOk] at h
    split at h
    · rename_i k' m hm
      simp only [Bool.and_eq_true, beq_iff_eq] at h
      obtain ⟨a', ha, hc⟩ := key _ hm (by simp [undef])
      refine ⟨a', ha, fun ρ => ?_⟩
      rw [hc]; simp only [eC, C.den, eI, hm, h.1]
    · cases h
  | b =>
    simp only [eOk] at h
    split at h
    · rename_i m hm
      obtain ⟨a', ha, hc⟩ := key _ hm (by simp [undef])
      refine ⟨a', ha, fun ρ => ?_⟩
      rw [hc]; simp only [eC, C.den, eB, hm]
    · cases h
  | s =>
    simp only [eOk] at h
    split at h
    · rename_i m hm
      obtain ⟨a', ha, hc⟩ := key _ hm (by simp [undef])
      refine ⟨a', ha, fun ρ => ?_⟩
      rw [hc]; simp only [eC, C.den, eS, hm]
    · cases h
  | l =>
    simp only [eOk] at h
    split at h
    · rename_i hm
      obtain ⟨a', ha, hc⟩ := key _ hm (by simp [undef])
      refine ⟨a', ha, fun ρ => ?_⟩
      rw [hc]; simp only [eC, C.den, eA, eN, eM, hm]
    · rename_i x l c hm
      obtain ⟨a', ha, hc⟩ := key _ hm (by simp [undef])
      refine ⟨a', ha, fun ρ => ?_⟩
      rw [hc]; simp only [eC, C.den, eA, eN, eM, hm]
    · cases h
theorem eC_ok {E : World} {a : Option Addr} {o : Nat} {k : EK} (n : Nat) : (eC E a o k).ok n = true := by cases k <;> rfl
theorem eCells_ok {E : World} {a : Option Addr} {b : Nat} (n : Nat) : ∀ (ks : List EK) (o : Nat), okL n (eCells E a b o ks) = true
  | [], _ => rfl
  | k :: ks, o => by simp only [eCells, okL, List.all_cons, eC_ok, Bool.true_and]; exact eCells_ok n ks (o + 1)
theorem eCells_len {E : World} {a : Option Addr} {b : Nat} : ∀ (ks : List EK) (o : Nat), (eCells E a b o ks).length = ks.length
  | [], _ => rfl
  | k :: ks, o => by simp [eCells, eCells_len ks (o + 1)]
theorem eRow_cells {E : World} {a : Option Addr} {b : Nat} : ∀ (ks : List EK) (o : Nat), eRow E a (b + o) ks = true → ks ≠ [] → ∃ a', a = some a' ∧ ∀ j c, (eCells E a b o ks)[j]? = some c → ∀ ρ, E.cell? (a'.add (b + o + j)) = some (c.den ρ)
  | [], _, _, hne => absurd rfl hne
  | k :: ks, o, h, _ => by
    simp only [eRow, Bool.and_eq_true] at h
    obtain ⟨a', ha, hc⟩ := eOk_cell h.1
    refine ⟨a', ha, fun j c hj ρ => ?_⟩
    cases j with
    | zero => simp only [eCells, List.getElem?_cons_zero, Option.some.injEq] at hj; subst hj; exact hc ρ
    | succ j =>
      simp only [eCells, List.getElem?_cons_succ] at hj
      have hks : ks ≠ [] := by rintro rfl; simp [eCells] at hj
      obtain ⟨a'', ha', h'⟩ := eRow_cells (b := b) ks (o + 1) h.2 hks
      rw [ha] at ha'; cases ha'
      rw [show b + o + (j + 1) = b + (o + 1) + j by omega]
      exact h' j c hj ρ
section
variable {P : Program} {ρ : Rh} {E W : World} {L : Nat → Prop} {s : SW} {w : World}
theorem rowLd_sound (hJ : Inv E W L ρ s w) {t : TypeId} {blk c sz : Nat} {i : Int} {r : R} (h : rowLd P s t blk c sz i = some r) (hn : allT r.nd) :
    (Instr.loadAt t (.pointer (some ⟨ρ blk, i.toNat * sz + c, none⟩))).run P w = .ok (r.v.den ρ) w ∧ ∀ m, r.v.ok m = true := by
  unfold rowLd at h
  split at h
  · cases h
  rename_i b hb
  split at h
  · rename_i d inf ks hd hi hk
    cases hl : (Nat.beq ks.length inf.size && Nat.blt 0 ks.length) <;> simp only [hl, cond_true, cond_false] at h
    · cases h
    simp only [Bool.and_eq_true] at hl
    have hl' := Nat.eq_of_beq_eq_true hl.1
    rw [pbK_eq] at h
    cases ha : aggB d <;> simp only [ha, cond_true, cond_false] at h
    · split at h
      · rename_i k
        rw [paK_eq] at h
        simp at h; subst h
        have hrow := hn _ (List.mem_cons_self)
        obtain ⟨c', hc, hd'⟩ := rOk_cell hrow
        refine ⟨?_, fun m => rC_ok m⟩
        have hcell := (hJ.cell hb hc).1
        simp only [Instr.loadAt, Instr.sureAddr, Sem.run_bind, Sem.run_pure, Result.andThen_ok, loadVar, run_isAgg hd, ha, Bool.false_eq_true, if_false, run_load_cell hcell, SV.den, hd']
      · cases h
    · rw [rCellsK_eq] at h
      simp at h; subst h
      have hrow := hn _ (List.mem_cons_self)
      refine ⟨?_, fun m => rCells_ok m ks c⟩
      simp only [Instr.loadAt, Instr.sureAddr, Sem.run_bind, Sem.run_pure, Result.andThen_ok, loadVar, run_isAgg hd, ha, if_true, run_sizeOf hi, loadCells, SV.den]
      rw [run_loadCellsFrom (w := w) (P := P) _ inf.size 0 #[] ((rCells b.cs (i.toNat * sz) c ks).map (C.den ρ)) (by rw [List.length_map, rCells_len]; exact hl') (fun j u hj => by
        rw [List.getElem?_map] at hj
        cases hc' : (rCells b.cs (i.toNat * sz) c ks)[j]? with
        | none => rw [hc'] at hj; simp at hj
        | some c1 =>
          rw [hc'] at hj; simp at hj; subst hj
          obtain ⟨c2, h2, h3⟩ := rRow_cells ks c hrow j c1 hc'
          rw [Nat.zero_add, Addr.add_lit, ← h3 ρ]
          exact (hJ.cell hb h2).1)]
      simp [denL]
  · cases h
theorem rowStr {blk len c : Nat} {bl : Bl} {src dt e : TypeId} (hI : Inv E W L ρ s w) (hb : s[blk]? = some bl) (hu : RowU8 bl.cs len) (hs : P.underlying src = some (.slice e)) (he : P.underlying e = some (.int .u8)) (hd : P.underlying dt = some .string) :
    (convert src dt (.slice (some ⟨ρ blk, 0, none⟩) len c)).run P w = .ok (.string (rowT bl.cs len)) w := by
  rw [run_convert_bytes_string w src dt e _ _ _ hs he hd]
  have hload : (loadCells ⟨ρ blk, 0, none⟩ len).run P w = .ok (((List.range len).map (rI bl.cs)).map (Value.int .u8)).toArray w := by
    unfold loadCells
    rw [run_loadCellsFrom (w := w) (P := P) _ len 0 #[] (((List.range len).map (rI bl.cs)).map (Value.int .u8)) (by simp) (fun j u hj => by
      rw [List.getElem?_map, List.getElem?_map] at hj
      by_cases hl : j < len
      · rw [List.getElem?_range hl] at hj
        simp at hj; subst hj
        obtain ⟨c', hc, hd'⟩ := rOk_cell (hu.h j hl)
        have h9 := (hI.cell hb hc).1
        rw [hd'] at h9
        simp only [rC, C.den] at h9
        rw [Addr.add_lit]
        simpa using h9
      · rw [List.getElem?_eq_none (by simp; omega)] at hj; simp at hj)]
    simp
  rw [run_bytesToString w _ len c _ hload, foldl_push, rowT_eq]
  simp [bytesN, ByteArray.empty, ByteArray.emptyWithCapacity]
  try rfl
theorem extOp_sound (hJ : Inv E W L ρ s w) {ev : Operand → Option SV} {val : Operand → Value} {n' : Nat} (hv : ∀ x y, ev x = some y → val x = y.den ρ ∧ y.ok n' = true)
    {o : Oper} {r : R} (h : extOp P E s ev o.op = some r) (hn : allT r.nd) : (execOp val o).run P w = .ok (.value (r.v.den ρ)) w ∧ ∀ m, r.v.ok m = true := by
  have hI := hJ.ext
  obtain ⟨dst, op, type, pos, after, guard⟩ := o
  unfold extOp at h
  simp only at h
  split at h
  · rename_i t x
    split at h
    · rename_i a o sz i hx
      have h1 := (hv _ _ hx).1
      split at h
      · rename_i d inf ks hd hi hk
        cases hl : (Nat.beq ks.length inf.size && Nat.blt 0 ks.length) <;> simp only [hl, cond_true, cond_false] at h
        · cases h
        simp only [Bool.and_eq_true] at hl
        have hl' := Nat.eq_of_beq_eq_true hl.1
        have hks : ks ≠ [] := by rintro rfl; exact absurd hl.2 (by decide)
        cases ha : aggB d <;> simp only [ha, cond_true, cond_false] at h
        · split at h
          · rename_i k
            simp at h; subst h
            have hrow := hn _ (List.mem_cons_self)
            simp only [eRow, Bool.and_true] at hrow
            obtain ⟨a', rfl, hc⟩ := eOk_cell hrow
            refine ⟨?_, fun m => eC_ok m⟩
            simp only [execOp, Sem.run_bind, h1, SV.den, C.den, Option.map_some, Instr.loadAt, Instr.sureAddr, Sem.run_pure, Result.andThen_ok, loadVar, run_isAgg hd, ha, Bool.false_eq_true, if_false, run_load_cell (ext_cell hI (hc ρ))]
          · cases h
        · rw [eCellsK_eq] at h
          simp at h; subst h
          have hrow := hn _ (List.mem_cons_self)
          obtain ⟨a', rfl, hc⟩ := eRow_cells ks o hrow hks
          refine ⟨?_, fun m => eCells_ok m ks o⟩
          simp only [execOp, Sem.run_bind, h1, SV.den, C.den, Option.map_some, Instr.loadAt, Instr.sureAddr, Sem.run_pure, Result.andThen_ok, loadVar, run_isAgg hd, ha, if_true, run_sizeOf hi, loadCells]
          rw [run_loadCellsFrom (w := w) (P := P) _ inf.size 0 #[] ((eCells E (some a') (i.toNat * sz) o ks).map (C.den ρ)) (by rw [List.length_map, eCells_len]; exact hl') (fun j u hj => by
            rw [List.getElem?_map] at hj
            cases hc' : (eCells E (some a') (i.toNat * sz) o ks)[j]? with
            | none => rw [hc'] at hj; simp at hj
            | some c =>
              rw [hc'] at hj; simp at hj; subst hj
              rw [Nat.zero_add, Addr.add_add]
              exact ext_cell hI (hc j c hc' ρ))]
          simp [denL]
      · cases h
    · rename_i blk c sz i hx
      have h1 := (hv _ _ hx).1
      obtain ⟨h2, h3⟩ := rowLd_sound hJ h hn
      refine ⟨?_, h3⟩
      simp only [execOp, Sem.run_bind, h1, SV.den, C.den]
      rw [h2]; rfl
    · cases h
  · rename_i src dt x
    split at h
    · rename_i blk sz len e hx hs hd
      split at h
      · rename_i bl he hb
        cases hc : Nat.beq sz 1 <;> simp only [hc, cond_true, cond_false] at h
        · cases h
        obtain rfl := Nat.eq_of_beq_eq_true hc
        simp only [Option.some.injEq] at h
        subst h
        have hu : RowU8 bl.cs len := rowU8_iff.1 (hn _ (List.mem_cons_self))
        have hr := rowStr (c := ρ.c blk / 1) hJ hb hu hs he hd
        refine ⟨?_, fun m => rfl⟩
        simp only [execOp, (hv _ _ hx).1, SV.den, C.den, Sem.run_bind, hr, Result.andThen_ok, Sem.run_pure]
      · cases h
    · cases h
  · cases h
end

noncomputable def rSet (cs : List C) (p : Nat) (vs : List C) : List C := writeL cs p vs
noncomputable def rApp (cs : List C) (m : Nat) (vs : List C) : List C := cs.take m ++ vs
noncomputable def rRep (zs : List C) (n : Nat) : List C := (List.range (n * zs.length)).map fun i => rAt zs (i % zs.length)
noncomputable def litS : SV → SV
  | .c (.i _ k n) => .c (.i true k n)
  | v => v
theorem litS_den (ρ : Rh) (v : SV) : (litS v).den ρ = v.den ρ := by
  unfold litS; split <;> rfl
theorem litS_ok (n : Nat) (v : SV) : (litS v).ok n = v.ok n := by
  unfold litS; split <;> rfl
noncomputable def rowSt (P : Program) (s : SW) (t : TypeId) (blk c sz : Nat) (i : Int) (v : SV) : Option (List Bool × SV × SW) :=
  match s[blk]? with
  | none => none
  | some b => (match v.cells, P.info? t with
      | some vs, some inf => cond (Nat.beq vs.length inf.size && vs.all C.storable) (pbK i sz fun q => paK q c fun p => forceN vs.length fun m => setLK s blk ⟨rSet b.cs p vs, b.ty⟩ fun s' => some ([decide (p + m ≤ b.cs.length)], undefS, s')) none
      | _, _ => none)
noncomputable def rowAp (P : Program) (s : SW) (t : TypeId) (b sz len : Nat) (x : SV) : Option (List Bool × SV × SW) :=
  match P.underlying t with
  | some (.slice elem) => (match P.info? elem with
    | none => none
    | some e => (match e.zero with
      | none => none
      | some z => cond (Nat.beq z.cells.size e.size && Nat.blt 0 e.size && Nat.beq sz e.size && Nat.blt elem MAPTY) (match s[b]? with
          | none => none
          | some bl => cond (Nat.beq bl.ty elem) (viewK s e.size x fun n news => cond (news.all C.storable && Nat.blt 0 n)
              (forceN s.length fun m => forceN e.bytes fun eb => forceN n fun n => setLK s b ⟨[], bl.ty⟩ fun s1 => appLK s1 ⟨rApp bl.cs (len * sz) news, elem⟩ fun s' =>
                some ([decide (0 < len), decide (len * sz ≤ bl.cs.length), decide (len + n ≤ 1099511627776), decide ((len + n) * eb ≤ 1099511627776)], .c (.rs m sz (len + n)), s')) none) none) none))
  | _ => none
noncomputable def rowMk (P : Program) (s : SW) (t : TypeId) (l c : Int) : Option (List Bool × SV × SW) :=
  match P.underlying t with
  | some (.slice elem) => (match P.info? elem with
    | none => none
    | some e => (match e.zero with
      | none => none
      | some z => cond (Nat.beq z.cells.size e.size && Nat.blt 0 e.size && Nat.blt elem MAPTY)
        (cellsOfK z.cells.toList fun zs => forceN s.length fun m => forceN e.size fun sz => forceN e.bytes fun eb => appLK s ⟨rRep zs l.toNat, elem⟩ fun s' =>
          some ([decide (c = l), decide (0 ≤ l), decide (l ≤ 1073741824), decide (eb * l.toNat ≤ 1099511627776)], .c (.rs m sz l.toNat), s')) none))
  | _ => none
noncomputable def rowSl (P : Program) (s : SW) (t : TypeId) (blk sz len : Nat) (lo hi : Option (Option SV)) : Option (List Bool × SV × SW) :=
  match P.underlying t, s[blk]? with
  | some (.slice elem), some bl => (match P.info? elem with
    | none => none
    | some e => cond (Nat.beq e.size sz && Nat.blt 0 sz) (match lo with
      | none => (match hi with
        | none => some ([decide (len * sz ≤ bl.cs.length)], .c (.rs blk sz len), s)
        | some (some (.c (.i _ _ h))) => some ([decide (0 ≤ h), decide (h ≤ (len : Int)), decide (len * sz ≤ bl.cs.length)], .c (.rs blk sz h.toNat), s)
        | _ => none)
      | some (some (.c (.i true k 0))) => (match hi with
        | none => some ([decide (len * sz ≤ bl.cs.length)], .c (.rs blk sz len), s)
        | some (some (.c (.i _ _ h))) => some ([decide (0 ≤ h), decide (h ≤ (len : Int)), decide (len * sz ≤ bl.cs.length)], .c (.rs blk sz h.toNat), s)
        | _ => none)
      | _ => none) none)
  | _, _ => none
noncomputable def rTake (cs : List C) (n : Nat) : List C := cs.take n
noncomputable def plainK : EK → Bool | .l => false | _ => true
noncomputable def rEs (E : World) (a : Option Addr) (n sz : Nat) (ks : List EK) : List C := (List.range n).flatMap fun j => eCells E a (j * sz) 0 ks
noncomputable def eRows (E : World) (a : Option Addr) (n sz : Nat) (ks : List EK) : Bool := (List.range n).all fun j => eRow E a (j * sz) ks
noncomputable def stoR (l : List C) : Bool := l.all C.storable
noncomputable def srcRow (s : SW) (b sz n sz' : Nat) : Option (List Bool × Nat × List C) := match s[b]? with
  | none => none
  | some bl => cond (Nat.beq sz sz') (some ([decide (n * sz ≤ bl.cs.length), stoR (rTake bl.cs (n * sz))], n, rTake bl.cs (n * sz))) none
noncomputable def srcG (P : Program) (E : World) (s : SW) (elem : TypeId) (sz : Nat) (x : SV) : Option (List Bool × Nat × List C) := match x with
  | .c (.es a n _) => (match flatE P 9 elem with
    | some ks => cond (Nat.beq ks.length sz && Nat.blt 0 sz && ks.all plainK) (some ([eRows E a n sz ks], n, rEs E a n sz ks)) none
    | none => none)
  | .c (.rs b z n) => srcRow s b z n sz
  | .c (.rn b z n) => srcRow s b z n sz
  | x => viewK s sz x fun n news => cond (news.all C.storable && Nat.blt 0 n) (some ([], n, news)) none
noncomputable def rowAp2 (P : Program) (E : World) (s : SW) (t : TypeId) (v x : SV) : Option (List Bool × SV × SW) :=
  match P.underlying t with
  | some (.slice elem) => (match P.info? elem with
    | none => none
    | some e => (match e.zero with
      | none => none
      | some z => cond (Nat.beq z.cells.size e.size && Nat.blt 0 e.size && Nat.blt elem MAPTY) (forceN e.size fun sz => match srcG P E s elem sz x with
        | none => none
        | some (nd, n, news) => forceN s.length fun m => forceN e.bytes fun eb => (match v with
          | .c (.x (.slice none 0 0)) => cond (Nat.blt 0 s.length) (appLK s ⟨news, elem⟩ fun s' => some (decide (n ≤ 1099511627776) :: decide (n * eb ≤ 1099511627776) :: nd, .c (.rn m sz n), s')) none
          | .c (.rn b sz0 len) => (match s[b]? with
            | none => none
            | some bl => cond (Nat.beq bl.ty elem && Nat.beq sz0 sz) (setLK s b ⟨[], bl.ty⟩ fun s1 => appLK s1 ⟨rApp bl.cs (len * sz) news, elem⟩ fun s' =>
                some (decide (len * sz ≤ bl.cs.length) :: decide (len + n ≤ 1099511627776) :: decide ((len + n) * eb ≤ 1099511627776) :: nd, .c (.rn m sz (len + n)), s')) none)
          | _ => none)) none))
  | _ => none
theorem rOf_ex (s : ByteArray) : ∃ l : List C, l = s.data.toList.map fun b => C.i false .u8 b.toNat := ⟨_, rfl⟩
noncomputable def rOf (s : ByteArray) : List C := Classical.choose (rOf_ex s)
theorem rOf_eq (s : ByteArray) : rOf s = s.data.toList.map fun b => C.i false .u8 b.toNat := Classical.choose_spec (rOf_ex s)
noncomputable def strRow (P : Program) (s : SW) (dst : TypeId) (nd : List Bool) (t : ByteArray) (n : Nat) : Option (List Bool × SV × SW) := match P.underlying dst with
  | some (.slice e) => (match P.underlying e with
    | some (.int .u8) => cond (Nat.blt e MAPTY) (forceN s.length fun m => appLK s ⟨rOf t, e⟩ fun s' => some (nd, .c (.rs m 1 n), s')) none
    | _ => none)
  | _ => none
noncomputable def rowOp (P : Program) (E : World) (ev : Operand → Option SV) (s : SW) (op : Op) : Option (List Bool × SV × SW) :=
  match op with
  | .store t a x => (match ev a, ev x with
    | some (.c (.rp blk c sz i)), some v => rowSt P s t blk c sz i v
    | _, _ => none)
  | .call { callee := .builtin .append, args, argTypes } => (match evs ev args.toList, argTypes.toList with
    | some [.c (.rs b sz len), x], [t, t'] => cond (Nat.beq t t') (rowAp P s t b sz len x) none
    | some [v, x], [t, t'] => cond (Nat.beq t t') (rowAp2 P E s t v x) none
    | _, _ => none)
  | .makeSlice t l c => (match ev l, ev c with
    | some (.c (.i _ _ l)), some (.c (.i _ _ c)) => rowMk P s t l c
    | _, _ => none)
  | .slice t x lo hi none => (match ev x with
    | some (.c (.rs blk sz len)) => rowSl P s t blk sz len (lo.map ev) (hi.map ev)
    | some (.c (.rn blk sz len)) => (match rowSl P s t blk sz len (lo.map ev) (hi.map ev) with
      | some (nd, .c (.rs b z h), s') => some (decide (0 < len) :: decide (0 < h) :: nd, .c (.rn b z h), s')
      | _ => none)
    | _ => none)
  | .convert src dst x => (match ev x, P.underlying src, P.underlying dst with
    | some (.c (.rs blk sz len)), some (.slice e), some .string => (match P.underlying e, s[blk]? with
      | some (.int .u8), some bl => cond (Nat.beq sz 1) (some ([rowU8 bl.cs len], .c (.str false (rowT bl.cs len)), s)) none
      | _, _ => none)
    | some (.c (.str _ t)), some .string, some (.slice _) => strRow P s dst [] t t.size
    | some (.c (.strn n t)), some .string, some (.slice _) => strRow P s dst [decide (t.size = n)] t n
    | _, _, _ => none)
  | _ => none
theorem viewK_nat {γ : Type} (s : SW) (sz : Nat) (x : SV) (K : Nat → List C → Option γ) : viewK s sz x K = (viewK s sz x fun n l => some (n, l)).bind fun p => K p.1 p.2 := by
  have key : ∀ (b o n : Nat), (match s[b]? with
    | none => none
    | some bl => takeLK (n * sz) (bl.cs.drop o) fun l => cond (Nat.beq l.length (n * sz)) (K n l) none) = (match s[b]? with
    | none => none
    | some bl => takeLK (n * sz) (bl.cs.drop o) fun l => cond (Nat.beq l.length (n * sz)) (some (n, l)) none : Option (Nat × List C)).bind fun p => K p.1 p.2 := by
    intro b o n
    cases s[b]? with
    | none => rfl
    | some bl =>
      simp only [takeLK_eq]
      cases Nat.beq ((bl.cs.drop o).take (n * sz)).length (n * sz) <;> rfl
  unfold viewK
  split <;> first | exact key _ _ _ | rfl
section
variable {P : Program} {ρ : Rh} {E W : World} {L : Nat → Prop} {s : SW} {w : World}
theorem rRep_eq {z : Value} {e : TypeInfo} {n : Nat} (h : z.cells.size = e.size) (h0 : 0 < e.size) : rRep (z.cells.toList.map ofCell) n = ((List.range (n * e.size)).map fun i => z.cells[i % z.cells.size]!).map ofCell := by
  unfold rRep
  rw [List.length_map, Array.length_toList, h, List.map_map]
  refine List.map_congr_left fun i _ => ?_
  have hi : i % e.size < z.cells.size := by rw [h]; exact Nat.mod_lt _ h0
  simp [rAt, hi]
theorem eRow_cellsN {E : World} {a : Option Addr} {b : Nat} : ∀ (ks : List EK) (o : Nat), eRow E a (b + o) ks = true → (ks.all plainK) = true → ∀ (r : Nat) (c : C), (eCells E a b o ks)[r]? = some c → ∃ a', a = some a' ∧ ∀ ρ, E.cell? (a'.add (b + o + r)) = some (c.den ρ)
  | [], _, _, _, r, c, hc => by simp [eCells] at hc
  | k :: ks, o, h, hp, r, c, hc => by
    simp only [eRow, Bool.and_eq_true] at h
    simp only [List.all_cons, Bool.and_eq_true] at hp
    cases r with
    | succ r =>
      simp only [eCells, List.getElem?_cons_succ] at hc
      rw [show b + o + (r + 1) = b + (o + 1) + r by omega]
      exact eRow_cellsN (b := b) ks (o + 1) h.2 hp.2 r c hc
    | zero =>
      simp only [eCells, List.getElem?_cons_zero, Option.some.injEq] at hc; subst hc
      have h1 := h.1
      cases a with
      | none => cases k <;> simp [eOk, eCell, undef] at h1
      | some a =>
        refine ⟨a, rfl, fun ρ => ?_⟩
        rw [Nat.add_zero]
        cases hcell : E.cell? (a.add (b + o)) with
        | none => cases k <;> simp [eOk, eCell, hcell, undef] at h1
        | some v =>
          cases k with
          | i k =>
            cases v <;> simp [eOk, eCell, hcell] at h1
            obtain ⟨rfl, _⟩ := h1
            simp [eC, eI, eCell, hcell, C.den]
          | b => cases v <;> simp [eOk, eCell, hcell] at h1; simp [eC, eB, eCell, hcell, C.den]
          | s => cases v <;> simp [eOk, eCell, hcell] at h1; simp [eC, eS, eCell, hcell, C.den]
          | l => exact absurd hp.1 (by simp [plainK])
theorem flatMap_len {α : Type} {f : Nat → List α} {k : Nat} : ∀ (l : List Nat), (∀ j, (f j).length = k) → (l.flatMap f).length = l.length * k
  | [], _ => by simp
  | x :: l, h => by rw [List.flatMap_cons, List.length_append, h, flatMap_len l h, List.length_cons, Nat.add_mul, Nat.one_mul, Nat.add_comm]
theorem flatMap_get {α : Type} {f : Nat → List α} {k : Nat} (hk : 0 < k) (hf : ∀ j, (f j).length = k) : ∀ (l : List Nat) (p : Nat) (c : α), (l.flatMap f)[p]? = some c → ∃ x, l[p / k]? = some x ∧ (f x)[p % k]? = some c
  | [], p, c, h => by simp at h
  | x :: l, p, c, h => by
    rw [List.flatMap_cons] at h
    by_cases hp : p < k
    · rw [List.getElem?_append_left (by rw [hf]; exact hp)] at h
      exact ⟨x, by rw [Nat.div_eq_of_lt hp]; rfl, by rw [Nat.mod_eq_of_lt hp]; exact h⟩
    · rw [List.getElem?_append_right (by rw [hf]; omega), hf] at h
      obtain ⟨y, h1, h2⟩ := flatMap_get hk hf l _ c h
      obtain ⟨q, rfl⟩ : ∃ q, p = q + k := ⟨p - k, by omega⟩
      rw [Nat.add_sub_cancel] at h1 h2
      exact ⟨y, by rw [Nat.add_div_right _ hk, List.getElem?_cons_succ]; exact h1, by rw [Nat.add_mod_right]; exact h2⟩
theorem rEs_len (E : World) (a : Option Addr) (n : Nat) (ks : List EK) : (rEs E a n ks.length ks).length = n * ks.length := by
  unfold rEs
  rw [flatMap_len _ (fun j => eCells_len ks 0), List.length_range]
theorem rEs_get {E : World} {a : Option Addr} {n : Nat} {ks : List EK} (hk : 0 < ks.length) {p : Nat} {c : C} (h : (rEs E a n ks.length ks)[p]? = some c) :
    p / ks.length < n ∧ (eCells E a (p / ks.length * ks.length) 0 ks)[p % ks.length]? = some c := by
  obtain ⟨x, h1, h2⟩ := flatMap_get (f := fun j => eCells E a (j * ks.length) 0 ks) hk (fun j => eCells_len ks 0) _ p c h
  have hx := List.getElem?_eq_some_iff.1 h1
  obtain ⟨hlt, hx⟩ := hx
  rw [List.getElem_range] at hx
  subst hx
  exact ⟨by simpa using hlt, h2⟩
noncomputable def SrcP (ρ : Rh) (s : SW) (w : World) (sz : Nat) (x : Value) (n : Nat) (news : List C) : Prop :=
  news.length = n * sz ∧ okL s.length news = true ∧ news.all C.storable = true ∧ ((n = 0 ∧ ∃ A c, x = .slice A 0 c) ∨ (0 < n ∧ ∃ a c, x = .slice (some a) n c ∧ ∀ j u, (news.map (C.den ρ))[j]? = some u → w.cell? (a.add j) = some u))
theorem eC_sto {E : World} {a : Option Addr} {o : Nat} {k : EK} (h : plainK k = true) : (eC E a o k).storable = true := by cases k <;> first | rfl | cases h
theorem eCells_mem {E : World} {a : Option Addr} {b : Nat} : ∀ (ks : List EK) (o : Nat), (ks.all plainK) = true → ∀ c ∈ eCells E a b o ks, c.storable = true ∧ ∀ n, c.ok n = true
  | [], _, _, c, hc => by simp [eCells] at hc
  | k :: ks, o, h, c, hc => by
    simp only [List.all_cons, Bool.and_eq_true] at h
    simp only [eCells, List.mem_cons] at hc
    rcases hc with rfl | hc
    · exact ⟨eC_sto h.1, fun n => by cases k <;> rfl⟩
    · exact eCells_mem ks (o + 1) h.2 c hc
theorem srcRow_sound (hI : Inv E W L ρ s w) {b z n sz m : Nat} {nd : List Bool} {news : List C} {x : Value} (hx : n = 0 ∧ (∃ A c, x = .slice A 0 c) ∨ 0 < n ∧ ∃ c, x = .slice (some ⟨ρ b, 0, none⟩) n c) (h : srcRow s b z n sz = some (nd, m, news)) (hn : allT nd) : m = n ∧ SrcP ρ s w sz x n news := by
  unfold srcRow at h
  split at h
  · cases h
  rename_i bl hb
  cases hz : Nat.beq z sz <;> simp only [hz, cond_true, cond_false] at h
  · cases h
  obtain rfl := Nat.eq_of_beq_eq_true hz
  simp only [Option.some.injEq, Prod.mk.injEq] at h
  obtain ⟨rfl, rfl, rfl⟩ := h
  have h1 : n * z ≤ bl.cs.length := of_decide_eq_true (hn _ (List.mem_cons_self))
  have h2 : stoR (rTake bl.cs (n * z)) = true := hn _ (by simp)
  refine ⟨rfl, by unfold rTake; rw [List.length_take]; omega, List.all_eq_true.2 fun c hc => List.all_eq_true.1 (hI.okc b bl hb) c (List.mem_of_mem_take hc), h2, ?_⟩
  rcases hx with hx | ⟨h0, c, hx⟩
  · exact .inl hx
  · refine .inr ⟨h0, _, c, hx, fun j u hj => ?_⟩
    rw [List.getElem?_map] at hj
    cases hc : (rTake bl.cs (n * z))[j]? with
    | none => rw [hc] at hj; simp at hj
    | some q =>
      rw [hc] at hj; simp at hj; subst hj
      unfold rTake at hc
      have hj' : j < n * z := by
        have := (List.getElem?_eq_some_iff.1 hc).1
        simp at this; omega
      rw [List.getElem?_take_of_lt hj'] at hc
      rw [Addr.add_lit, Nat.zero_add]
      exact (hI.cell hb hc).1
theorem srcG_sound (hI : Inv E W L ρ s w) {elem : TypeId} {sz n : Nat} {x : SV} {nd : List Bool} {news : List C} (h : srcG P E s elem sz x = some (nd, n, news)) (hn : allT nd) : SrcP ρ s w sz (x.den ρ) n news := by
  unfold srcG at h
  split at h
  · rename_i a n0 cap
    split at h
    · rename_i ks hks
      cases hb : (Nat.beq ks.length sz && Nat.blt 0 sz && ks.all plainK) <;> simp only [hb, cond_true, cond_false] at h
      · cases h
      simp only [Bool.and_eq_true] at hb
      obtain ⟨⟨h1, h2⟩, h3⟩ := hb
      obtain rfl := Nat.eq_of_beq_eq_true h1
      have h2 : 0 < ks.length := Nat.le_of_ble_eq_true h2
      simp only [Option.some.injEq, Prod.mk.injEq] at h
      obtain ⟨rfl, rfl, rfl⟩ := h
      have hr : eRows E a n0 ks.length ks = true := hn _ (List.mem_cons_self)
      have hmem : ∀ c ∈ rEs E a n0 ks.length ks, c.storable = true ∧ ∀ n, c.ok n = true := by
        intro c hc
        unfold rEs at hc
        obtain ⟨j, _, hj⟩ := List.mem_flatMap.1 hc
        exact eCells_mem ks 0 h3 c hj
      refine ⟨rEs_len E a n0 ks, List.all_eq_true.2 fun c hc => (hmem c hc).2 _, List.all_eq_true.2 fun c hc => (hmem c hc).1, ?_⟩
      by_cases h0 : n0 = 0
      · subst h0; exact .inl ⟨rfl, _, _, rfl⟩
      have hrow : ∀ j, j < n0 → eRow E a (j * ks.length + 0) ks = true := fun j hj => List.all_eq_true.1 hr j (List.mem_range.2 hj)
      have hks0 : ∃ c, (eCells E a (0 * ks.length) 0 ks)[0]? = some c := by
        cases ks with
        | nil => simp at h2
        | cons k ks => exact ⟨_, rfl⟩
      obtain ⟨c0, hc0⟩ := hks0
      obtain ⟨a', rfl, _⟩ := eRow_cellsN (b := 0 * ks.length) ks 0 (hrow 0 (by omega)) h3 0 c0 hc0
      refine .inr ⟨by omega, a', cap, rfl, fun j u hj => ?_⟩
      rw [List.getElem?_map] at hj
      cases hc : (rEs E (some a') n0 ks.length ks)[j]? with
      | none => rw [hc] at hj; simp at hj
      | some q =>
        rw [hc] at hj; simp at hj; subst hj
        obtain ⟨q1, q2⟩ := rEs_get h2 hc
        obtain ⟨a2, ha2, q3⟩ := eRow_cellsN (b := j / ks.length * ks.length) ks 0 (hrow _ q1) h3 _ _ q2
        cases ha2
        have := q3 ρ
        rw [Nat.add_zero, Nat.div_add_mod'] at this
        exact ext_cell hI.ext this
    · cases h
  · rename_i b z n0
    obtain ⟨rfl, h1⟩ := srcRow_sound (x := (SV.c (.rs b z n0)).den ρ) hI (by
      by_cases h0 : n0 = 0
      · exact .inl ⟨h0, by subst h0; exact ⟨_, _, rfl⟩⟩
      · exact .inr ⟨by omega, _, rfl⟩) h hn
    exact h1
  · rename_i b z n0
    obtain ⟨rfl, h1⟩ := srcRow_sound (x := (SV.c (.rn b z n0)).den ρ) hI (by
      by_cases h0 : n0 = 0
      · exact .inl ⟨h0, by simp only [SV.den, C.den, h0, if_true]; exact ⟨_, _, rfl⟩⟩
      · exact .inr ⟨by omega, by simp only [SV.den, C.den, h0, if_false]; exact ⟨_, rfl⟩⟩) h hn
    exact h1
  · obtain ⟨n', l, a, c, hK, hxd, hnl, hnok, hnews⟩ := viewK_spec hI h
    cases hst : (l.all C.storable && Nat.blt 0 n') <;> simp only [hst, cond_true, cond_false] at hK
    · cases hK
    simp only [Option.some.injEq, Prod.mk.injEq] at hK
    obtain ⟨rfl, rfl, rfl⟩ := hK
    simp only [Bool.and_eq_true] at hst
    exact ⟨hnl, hnok, hst.1, .inr ⟨Nat.le_of_ble_eq_true hst.2, a, c, hxd, hnews w hI⟩⟩
theorem run_append_zero {t ty elem : TypeId} {e : TypeInfo} (ht : P.underlying t = some (.slice elem)) (he : P.info? elem = some e) (base A : Option Addr) (len cap c : Nat) (h : len ≤ cap) :
    (Builtin.append_ #[t, t] ty #[.slice base len cap, .slice A 0 c]).run P w = .ok (.slice base len cap) w := by
  have h0 : (Builtin.firstCells e.size 0 (.slice A 0 c)).run P w = .ok #[] w := by
    cases A
    · rfl
    · simp only [Builtin.firstCells, loadCells, Nat.zero_mul]; rfl
  cases base <;> simp [Builtin.append_, run_underlying ht, sizeOf, typeInfo, he, Builtin.lenOf, h, h0, storeCells] <;> rfl
theorem newA_eq {s : SW} {cs : List C} {ty : TypeId} {n sz : Nat} (h : Nat.blt ty MAPTY = true) : newA s cs ty n sz = some (.c (.sla s.length 0 n sz), s ++ [⟨cs, ty⟩]) := by
  simp only [newA, h, cond_true, forceN_eq, appLK_eq]
theorem appNil (hI : Inv E W L ρ s w) {t elem : TypeId} {e : TypeInfo} {z : Value} (ht : P.underlying t = some (.slice elem)) (he : P.info? elem = some e) (hz : e.zero = some z) (hzs : z.cells.size = e.size) (hsz : 0 < e.size) (hty : Nat.blt elem MAPTY = true)
    {x : Value} {n : Nat} {news : List C} (hx : SrcP ρ s w e.size x n news) (h2 : n ≤ 1099511627776) (h3 : n * e.bytes ≤ 1099511627776) (h0 : 0 < s.length) (ty : TypeId) :
    ∃ ρ' w', Agree s.length ρ ρ' ∧ (Builtin.append_ #[t, t] ty #[.slice none 0 0, x]).run P w = .ok ((SV.c (.rn s.length e.size n)).den ρ') w' ∧ Inv E W L ρ' (s ++ [⟨news, elem⟩]) w' := by
  obtain ⟨hnl, hnok, hst, ⟨rfl, A, c, rfl⟩ | ⟨hn0, a, c, rfl, hnews⟩⟩ := hx
  · have hnn : news = [] := List.eq_nil_of_length_eq_zero (by rw [hnl]; omega)
    subst hnn
    have hlt0 : elem < MAPTY := Nat.le_of_ble_eq_true hty
    have hA : Agree s.length ρ ⟨fun i => if i < s.length then ρ i else ρ 0, fun i => if i < s.length then ρ.c i else ρ.c 0⟩ := fun i hi => by simp [hi]
    refine ⟨_, w, hA, run_append_zero ht he none A 0 0 c (Nat.le_refl _), ?_⟩
    have hget : ∀ i (b : Bl), (s ++ [(⟨[], elem⟩ : Bl)])[i]? = some b → (i < s.length ∧ s[i]? = some b) ∨ (¬ i < s.length ∧ b = ⟨[], elem⟩) := by
      intro i b hb
      by_cases hi : i < s.length
      · rw [List.getElem?_append_left hi] at hb; exact .inl ⟨hi, hb⟩
      · rw [List.getElem?_append_right (by omega)] at hb
        refine .inr ⟨hi, ?_⟩
        have := List.mem_of_getElem? hb
        simpa using this
    have lv : ∀ i, live (s ++ [(⟨[], elem⟩ : Bl)]) i → live s i := by
      rintro i ⟨b, hb, hn⟩
      rcases hget i b hb with ⟨_, h⟩ | ⟨_, rfl⟩
      · exact ⟨b, h, hn⟩
      · exact (hn.elim (fun h => h rfl) (fun h => absurd hlt0 (Nat.not_lt_of_le h))).elim
    refine ⟨fun i b hb => ?_, fun i b hb => ?_, fun i j hi hj e => ?_, hI.grow, hI.old, fun i hi hlt => ?_, trivial, hI.os, hI.out, hI.tape, ⟨hI.ext.1, hI.ext.2.1, fun i _ => ?_⟩⟩
    · rcases hget i b hb with ⟨hi, h⟩ | ⟨hi, rfl⟩
      · exact (hI.blk i b h).ren (hA i hi).1 (hA i hi).2 (map_agree hA (hI.okc i b h)) rfl
      · exact .inr (.inr ⟨hlt0, rfl, by show (if i < s.length then ρ i else ρ 0) < _; rw [if_neg hi]; exact hI.lt h0⟩)
    · rcases hget i b hb with ⟨hi, h⟩ | ⟨hi, rfl⟩
      · exact okL_mono (by simp) (hI.okc i b h)
      · rfl
    · rw [(hA i (lv i hi).lt).1, (hA j (lv j hj).lt).1] at e
      exact hI.inj i j (lv i hi) (lv j hj) e
    · rw [(hA i (lv i hi).lt).1] at hlt ⊢
      exact hI.fresh i (lv i hi) hlt
    · show E.heap.size ≤ (if i < s.length then ρ i else ρ 0)
      split
      · rename_i h; exact hI.ext.2.2 i h
      · exact hI.ext.2.2 0 h0
  · have hnl' : (news.map (C.den ρ)).length = n * e.size := by simp [hnl]
    have hr := run_append_nil (P := P) w t ty elem e z ht he hz a n c (news.map (C.den ρ)) hnl' hnews hn0 (by omega) (by omega)
    obtain ⟨ρ', hag, hle, hok, hd, hI'⟩ := newA_sound hI (newA_eq (n := n) (sz := e.size) hty) hnok hsz hnl hzs (grownCap_ge w n 0 elem)
    refine ⟨ρ', _, hag, ?_, hI'⟩
    rw [hr]
    have e1 : (SV.c (.rn s.length e.size n)).den ρ' = (SV.c (.sla s.length 0 n e.size)).den ρ' := by
      simp only [SV.den, C.den, if_neg (Nat.ne_of_gt hn0), Nat.zero_div, Nat.sub_zero]
    rw [e1, hd]
theorem Inv.cut (hI : Inv E W L ρ s w) {b : Nat} {bl : Bl} (hb : s[b]? = some bl) (hbt : bl.ty < MAPTY) (k : Nat) : Inv E W L ρ (s.set b ⟨bl.cs.take k, bl.ty⟩) w := by
  have hlt : b < s.length := (List.getElem?_eq_some_iff.1 hb).1
  have hget : ∀ i (c : Bl), (s.set b ⟨bl.cs.take k, bl.ty⟩)[i]? = some c → (i = b ∧ c = ⟨bl.cs.take k, bl.ty⟩) ∨ (i ≠ b ∧ s[i]? = some c) := by
    intro i c hc
    by_cases e : b = i
    · subst e
      rw [List.getElem?_set_self hlt] at hc
      simp at hc; exact .inl ⟨rfl, hc.symm⟩
    · rw [List.getElem?_set_ne e] at hc; exact .inr ⟨fun h => e h.symm, hc⟩
  have lv : ∀ i, live (s.set b ⟨bl.cs.take k, bl.ty⟩) i → live s i := by
    rintro i ⟨c, hc, hn⟩
    rcases hget i c hc with ⟨rfl, rfl⟩ | ⟨_, h⟩
    · exact ⟨bl, hb, hn.imp (fun h h' => h (by simp [h'])) id⟩
    · exact ⟨c, h, hn⟩
  refine ⟨fun i c hc => ?_, fun i c hc => ?_, fun i j hi hj => hI.inj i j (lv i hi) (lv j hj), hI.grow, hI.old, fun i h1 => hI.fresh i (lv i h1), trivial, hI.os, hI.out, hI.tape, by rw [List.length_set]; exact hI.ext⟩
  · rcases hget i c hc with ⟨rfl, rfl⟩ | ⟨_, h⟩
    · rcases hI.blk i bl hb with ⟨h1, h2, rest, h3, h4⟩ | ⟨h1, _⟩ | ⟨h1, h2, h3⟩
      · by_cases h0 : bl.cs.take k = []
        · exact .inr (.inr ⟨hbt, h0, hI.lt hlt⟩)
        · refine .inl ⟨hbt, h0, (bl.cs.drop k).map (C.den ρ) ++ rest, ?_, ?_⟩
          · rw [← List.append_assoc, ← List.map_append, List.take_append_drop]; exact h3
          · rw [← h4, List.length_append, List.length_map, ← Nat.add_assoc, ← List.length_append, List.take_append_drop]
      · exact absurd hbt (Nat.not_lt_of_le h1)
      · exact .inr (.inr ⟨hbt, by rw [h2]; simp, h3⟩)
    · exact hI.blk i c h
  · rw [List.length_set]
    rcases hget i c hc with ⟨rfl, rfl⟩ | ⟨_, h⟩
    · exact List.all_eq_true.2 fun q hq => List.all_eq_true.1 (hI.okc i bl hb) q (List.mem_of_mem_take hq)
    · exact hI.okc i c h
theorem appRow (hI : Inv E W L ρ s w) {t elem : TypeId} {e : TypeInfo} {z : Value} (ht : P.underlying t = some (.slice elem)) (he : P.info? elem = some e) (hz : e.zero = some z) (hzs : z.cells.size = e.size) (hsz : 0 < e.size) (hty : Nat.blt elem MAPTY = true)
    {x : Value} {n : Nat} {news : List C} (hx : SrcP ρ s w e.size x n news) {b len : Nat} {bl : Bl} (hb : s[b]? = some bl) (hbt : bl.ty = elem) (h1 : len * e.size ≤ bl.cs.length) (h2 : len + n ≤ 1099511627776) (h3 : (len + n) * e.bytes ≤ 1099511627776) (ty : TypeId) :
    ∃ ρ' w', Agree s.length ρ ρ' ∧ (Builtin.append_ #[t, t] ty #[(SV.c (.rn b e.size len)).den ρ, x]).run P w = .ok ((SV.c (.rn s.length e.size (len + n))).den ρ') w' ∧ Inv E W L ρ' (s.set b ⟨[], bl.ty⟩ ++ [⟨rApp bl.cs (len * e.size) news, elem⟩]) w' := by
  have hlt0 : bl.ty < MAPTY := by rw [hbt]; exact Nat.le_of_ble_eq_true hty
  have hlt : b < s.length := (List.getElem?_eq_some_iff.1 hb).1
  by_cases hl0 : len = 0
  · subst hl0
    obtain ⟨ρ', w', g1, g2, g3⟩ := appNil (P := P) hI ht he hz hzs hsz hty hx (by omega) (by simpa using h3) (by omega) ty
    refine ⟨ρ', w', g1, ?_, ?_⟩
    · rw [Nat.zero_add]
      simpa only [SV.den, C.den, if_true] using g2
    · have := g3.forget (b := b) (bl := bl) (by rw [List.getElem?_append_left hlt]; exact hb) hlt0
      rw [List.set_append_left _ _ hlt] at this
      simpa [rApp] using this
  · have hd : (SV.c (.rn b e.size len)).den ρ = .slice (some ⟨ρ b, 0, none⟩) len (ρ.c b / e.size) := by simp only [SV.den, C.den, if_neg hl0]
    have hta : (bl.cs.take (len * e.size)).length = len * e.size := by rw [List.length_take]; omega
    rw [hd]
    obtain ⟨hnl, hnok, hst, ⟨rfl, A, c, rfl⟩ | ⟨hn0, a, c, rfl, hnews⟩⟩ := hx
    · have hnn : news = [] := List.eq_nil_of_length_eq_zero (by rw [hnl]; omega)
      subst hnn
      have hne : bl.cs ≠ [] := by
        intro e0
        rw [e0] at h1
        have := Nat.mul_pos (show 0 < len by omega) hsz
        simp at h1; omega
      obtain ⟨_, rest, _, hcc⟩ := (hI.blk b bl hb).cells hne
      have hcap : len ≤ ρ.c b / e.size := by rw [Nat.le_div_iff_mul_le hsz]; omega
      have hm := hI.move hb hlt0 elem hbt.symm
      have hc := Inv.cut hm (b := s.length) (bl := ⟨bl.cs, elem⟩) (by rw [List.getElem?_append_right (by simp)]; simp) (by show elem < MAPTY; rw [← hbt]; exact hlt0) (len * e.size)
      refine ⟨⟨fun i => if i = s.length then ρ b else ρ i, fun i => if i = s.length then ρ.c b else ρ.c i⟩, w, fun i hi => by simp [Nat.ne_of_lt hi], by rw [run_append_zero ht he _ A len _ c hcap]; simp [SV.den, C.den, hl0], ?_⟩
      rw [List.set_append_right _ _ (by simp)] at hc
      simpa [rApp] using hc
    · obtain ⟨ρ', w', k1, k2, k3, k4, k5⟩ := appSla (P := P) hI ht he hz hzs hsz (c := c) hnl hnok hnews hst hn0 hb hta hbt (by omega) (by have e40 : (2:Nat) ^ 40 = 1099511627776 := (by decide); omega) (by have e40 : (2:Nat) ^ 40 = 1099511627776 := (by decide); omega) (newA_eq hty) ty
      rw [List.length_set] at k4
      refine ⟨ρ', w', k1, ?_, k5⟩
      rw [k4]
      have hne : len + n ≠ 0 := by omega
      simp only [SV.den, C.den, if_neg hne, Nat.zero_div, Nat.sub_zero]
theorem rowSl_sound (hI : Inv E W L ρ s w) {ev : Operand → Option SV} {val : Operand → Value} (hv : ∀ x y, ev x = some y → val x = y.den ρ ∧ y.ok s.length = true)
    {dst type pos after guard} {t : TypeId} {x : Operand} {lo hi : Option Operand} {blk sz len : Nat} (hx1 : val x = (SV.c (.rs blk sz len)).den ρ) (hx2 : (SV.c (.rs blk sz len)).ok s.length = true) {nd : List Bool} {v : SV} {s' : SW}
    (h : rowSl P s t blk sz len (lo.map ev) (hi.map ev) = some (nd, v, s')) (hn : allT nd) :
    ∃ ρ' w' nx, Agree s.length ρ ρ' ∧ s.length ≤ s'.length ∧ v.ok s'.length = true ∧ (execOp val ⟨dst, .slice t x lo hi none, type, pos, after, guard⟩).run P w = .ok nx w' ∧ Inv E W L ρ' s' w' ∧
      (nx = .value (v.den ρ') ∨ (nx = .skip ∧ v = undefS)) := by
  have h1 : val x = (SV.c (.rs blk sz len)).den ρ ∧ (SV.c (.rs blk sz len)).ok s.length = true := ⟨hx1, hx2⟩
  unfold rowSl at h
  split at h
  rotate_left
  · cases h
  rename_i elem bl ht hbl
  split at h
  · cases h
  rename_i e he
  cases hc0 : (Nat.beq e.size sz && Nat.blt 0 sz) <;> simp only [hc0, cond_true, cond_false] at h
  · cases h
  simp only [Bool.and_eq_true] at hc0
  obtain rfl := Nat.eq_of_beq_eq_true hc0.1
  have hsz : 0 < e.size := Nat.le_of_ble_eq_true hc0.2
  have hv' : ∀ x y, ((ev x).map litS) = some y → val x = y.den ρ ∧ y.ok s.length = true := by
    intro x y hy
    cases he' : ev x with
    | none => rw [he'] at hy; cases hy
    | some u =>
      rw [he'] at hy
      simp only [Option.map_some, Option.some.injEq] at hy
      subst hy
      rw [litS_den, litS_ok]
      exact hv _ _ he'
  have hcap : len * e.size ≤ bl.cs.length → len ≤ ρ.c blk / e.size := by
    intro hle
    rw [Nat.le_div_iff_mul_le hsz]
    by_cases hne : bl.cs = []
    · rw [hne] at hle
      have h0 : len * e.size = 0 := by simpa using hle
      rw [h0]; exact Nat.zero_le _
    · obtain ⟨_, rest, _, hcc⟩ := (hI.blk blk bl hbl).cells hne
      omega
  have fin : ∀ (lo' hi' : Option (Option SV)) (hh : Nat), lo.map (fun o => (ev o).map litS) = lo' → hi.map (fun o => (ev o).map litS) = hi' → len * e.size ≤ bl.cs.length →
      bndR hi' len (ρ.c blk / e.size) = some hh → bndR lo' 0 hh = some 0 →
      (execOp val ⟨dst, .slice t x lo hi none, type, pos, after, guard⟩).run P w = .ok (.value ((SV.c (.rs blk e.size hh)).den ρ)) w := by
    intro lo' hi' hh e1 e2 hle b1 b2
    have hr : sliceR P t (.c (.slc blk 0 len (ρ.c blk / e.size))) (lo.map fun o => (ev o).map litS) (hi.map fun o => (ev o).map litS) = some ⟨[], .c (.slc blk 0 hh (ρ.c blk / e.size))⟩ := by
      unfold sliceR
      simp only [ht, he, e1, e2, b1, b2, forceN_eq, okR, Nat.zero_mul, Nat.add_zero, Nat.sub_zero]
      cases Nat.beq (ρ.c blk / e.size) 0 <;> rfl
    have hg := (sliceR_sound (n := s.length) hv' hr (by simpa [SV.ok, C.ok] using h1.2)).1 w
    have hxd : val x = (SV.c (.slc blk 0 len (ρ.c blk / e.size))).den ρ := by rw [h1.1]; simp [SV.den, C.den]
    simp only [SV.den, C.den] at hg
    simp only [execOp, hxd, Sem.run_bind, SV.den, C.den, Option.map_none, hg, Result.andThen_ok, Sem.run_pure]
  have mapL : ∀ (q : Option Operand) (y : Option (Option SV)), q.map ev = y → q.map (fun o => (ev o).map litS) = y.map (fun z => z.map litS) := by
    intro q y hq
    subst hq
    cases q <;> rfl
  have hi0 : ∀ (k : IntKind) (l : Bool) (hh : Int), 0 ≤ hh → hh ≤ (len : Int) → len ≤ ρ.c blk / e.size → bndR (some (some (litS (.c (.i l k hh))))) len (ρ.c blk / e.size) = some hh.toNat := by
    intro k l hh a1 a2 a3
    simp only [bndR, litS, litN]
    have : (decide (0 ≤ hh) && decide (hh ≤ ((ρ.c blk / e.size : Nat) : Int))) = true := by
      simp only [Bool.and_eq_true, decide_eq_true_eq]
      exact ⟨a1, by have : (len : Int) ≤ ((ρ.c blk / e.size : Nat) : Int) := by exact_mod_cast a3
                    omega⟩
    rw [this]; rfl
  have lo0 : ∀ (k : IntKind) (hh : Nat), bndR (some (some (litS (.c (.i true k 0))))) 0 hh = some 0 := by
    intro k hh
    simp only [bndR, litS, litN]
    have : (decide ((0 : Int) ≤ 0) && decide ((0 : Int) ≤ (hh : Int))) = true := by
      simp only [Bool.and_eq_true, decide_eq_true_eq]; omega
    rw [this]; rfl
  have okk : ∀ hh, (SV.c (.rs blk e.size hh)).ok s.length = true := fun hh => by simpa [SV.ok, C.ok] using h1.2
  split at h
  · rename_i hlo
    split at h
    · rename_i hhi
      simp only [Option.some.injEq, Prod.mk.injEq] at h
      obtain ⟨rfl, rfl, rfl⟩ := h
      have hle : len * e.size ≤ bl.cs.length := of_decide_eq_true (hn _ (List.mem_cons_self))
      exact ⟨ρ, w, _, Agree.refl _ _, Nat.le_refl _, okk _, fin _ _ len (mapL _ _ hlo) (mapL _ _ hhi) hle rfl rfl, hI, .inl rfl⟩
    · rename_i l k hh hhi
      simp only [Option.some.injEq, Prod.mk.injEq] at h
      obtain ⟨rfl, rfl, rfl⟩ := h
      have a1 : 0 ≤ hh := of_decide_eq_true (hn _ (List.mem_cons_self))
      have a2 : hh ≤ (len : Int) := of_decide_eq_true (hn (decide (hh ≤ (len : Int))) (by simp))
      have hle : len * e.size ≤ bl.cs.length := of_decide_eq_true (hn (decide (len * e.size ≤ bl.cs.length)) (by simp))
      exact ⟨ρ, w, _, Agree.refl _ _, Nat.le_refl _, okk _, fin _ _ hh.toNat (mapL _ _ hlo) (mapL _ _ hhi) hle (hi0 k l hh a1 a2 (hcap hle)) rfl, hI, .inl rfl⟩
    · cases h
  · rename_i k hlo
    split at h
    · rename_i hhi
      simp only [Option.some.injEq, Prod.mk.injEq] at h
      obtain ⟨rfl, rfl, rfl⟩ := h
      have hle : len * e.size ≤ bl.cs.length := of_decide_eq_true (hn _ (List.mem_cons_self))
      exact ⟨ρ, w, _, Agree.refl _ _, Nat.le_refl _, okk _, fin _ _ len (mapL _ _ hlo) (mapL _ _ hhi) hle rfl (lo0 k len), hI, .inl rfl⟩
    · rename_i l k' hh hhi
      simp only [Option.some.injEq, Prod.mk.injEq] at h
      obtain ⟨rfl, rfl, rfl⟩ := h
      have a1 : 0 ≤ hh := of_decide_eq_true (hn _ (List.mem_cons_self))
      have a2 : hh ≤ (len : Int) := of_decide_eq_true (hn (decide (hh ≤ (len : Int))) (by simp))
      have hle : len * e.size ≤ bl.cs.length := of_decide_eq_true (hn (decide (len * e.size ≤ bl.cs.length)) (by simp))
      exact ⟨ρ, w, _, Agree.refl _ _, Nat.le_refl _, okk _, fin _ _ hh.toNat (mapL _ _ hlo) (mapL _ _ hhi) hle (hi0 k' l hh a1 a2 (hcap hle)) (lo0 k _), hI, .inl rfl⟩
    · cases h
  · cases h
theorem strRow_sound (hI : Inv E W L ρ s w) {src dst : TypeId} {nd nd' : List Bool} {t : ByteArray} {n : Nat} {v : SV} {s' : SW} (hs : P.underlying src = some .string) (h : strRow P s dst nd t n = some (nd', v, s')) (hn : t.size = n) :
    nd' = nd ∧ ∃ ρ' w', Agree s.length ρ ρ' ∧ s.length ≤ s'.length ∧ v.ok s'.length = true ∧ (convert src dst (.string t)).run P w = .ok (v.den ρ') w' ∧ Inv E W L ρ' s' w' := by
  unfold strRow at h
  split at h
  · rename_i e hd
    split at h
    · rename_i he
      cases hty : Nat.blt e MAPTY <;> simp only [hty, cond_true, cond_false] at h
      · cases h
      rw [forceN_eq, appLK_eq] at h
      simp only [Option.some.injEq, Prod.mk.injEq] at h
      obtain ⟨rfl, rfl, rfl⟩ := h
      subst hn
      have hcap := grownCap_ge w t.size 0 e
      have hrow : (bytesRow t (grownCap w t.size 0 e)) = ((rOf t).map (C.den ρ) ++ List.replicate (grownCap w t.size 0 e - t.size) (Value.int .u8 0)).toArray := by
        unfold bytesRow
        rw [rOf_eq]
        apply Array.ext'
        simp [C.den, Function.comp_def]
      have hlen : (rOf t).length + (List.replicate (grownCap w t.size 0 e - t.size) (Value.int .u8 0)).length = grownCap w t.size 0 e := by
        rw [rOf_eq, List.length_map, Array.length_toList, List.length_replicate]
        have : t.data.size = t.size := rfl
        omega
      have hokr : okL s.length (rOf t) = true := by
        rw [rOf_eq]
        refine List.all_eq_true.2 fun x hx => ?_
        obtain ⟨b, _, rfl⟩ := List.mem_map.1 hx
        rfl
      obtain ⟨ρ', hag, hn', hc, hI'⟩ := hI.drew.allocRF (rOf t) (List.replicate (grownCap w t.size 0 e - t.size) (Value.int .u8 0)) e hty hokr
        ((bytesRow t (grownCap w t.size 0 e)).size, (bytesRow t (grownCap w t.size 0 e)).size + 1) (.inr (by rw [hlen, hrow]; simp only [List.size_toArray, List.length_append, List.length_map]; omega))
      refine ⟨rfl, ρ', _, hag, by simp, by simp [SV.ok, C.ok], ?_, hI'⟩
      rw [run_bytes_of_string w src dst e t hs hd he, ← hrow]
      simp only [SV.den, C.den, hn', hc, Nat.div_one, hlen]
      rfl
    · cases h
  · cases h
theorem rowOp_sound (hI : Inv E W L ρ s w) {ev : Operand → Option SV} {val : Operand → Value} (hv : ∀ x y, ev x = some y → val x = y.den ρ ∧ y.ok s.length = true)
    {o : Oper} {nd : List Bool} {v : SV} {s' : SW} (h : rowOp P E ev s o.op = some (nd, v, s')) (hn : allT nd) :
    ∃ ρ' w' nx, Agree s.length ρ ρ' ∧ s.length ≤ s'.length ∧ v.ok s'.length = true ∧ (execOp val o).run P w = .ok nx w' ∧ Inv E W L ρ' s' w' ∧
      (nx = .value (v.den ρ') ∨ (nx = .skip ∧ v = undefS)) := by
  obtain ⟨dst, op, type, pos, after, guard⟩ := o
  unfold rowOp at h
  simp only at h
  split at h
  · -- store
    rename_i t a x
    split at h
    · rename_i blk c sz i u ha hx
      have h1 := hv _ _ ha
      have h2 := hv _ _ hx
      unfold rowSt at h
      split at h
      · cases h
      rename_i b hb
      split at h
      · rename_i vs inf hvs hinf
        cases hc : (Nat.beq vs.length inf.size && vs.all C.storable) <;> simp only [hc, cond_true, cond_false] at h
        · cases h
        rw [pbK_eq, paK_eq, forceN_eq, setLK_eq] at h
        simp only [Option.some.injEq, Prod.mk.injEq] at h
        obtain ⟨rfl, rfl, rfl⟩ := h
        have hlen : i.toNat * sz + c + vs.length ≤ b.cs.length := of_decide_eq_true (hn _ (List.mem_cons_self))
        have hst : storeS P s t (.c (.p blk (i.toNat * sz + c))) u = some (undefS, s.set blk ⟨rSet b.cs (i.toNat * sz + c) vs, b.ty⟩) := by
          unfold storeS
          simp only [hb, hvs, hinf, lenOK_eq, hc, Bool.true_and, Nat.ble_eq_true_of_le hlen, cond_true, writeLK_eq, setLK_eq, rSet]
        obtain ⟨_, hl, w', hr, hI'⟩ := storeS_sound hI hst h1.2 h2.2
        refine ⟨ρ, w', .skip, Agree.refl _ _, by rw [hl]; exact Nat.le_refl _, undefS_ok _, ?_, hI', .inr ⟨rfl, rfl⟩⟩
        simp only [SV.den, C.den] at hr
        simp only [execOp, h1.1, h2.1, SV.den, C.den, Sem.run_bind]
        rw [hr]; rfl
      · cases h
    · cases h
  · -- append
    rename_i args argTypes
    split at h
    · rename_i b sz len x t t' hargs hat
      cases hb : Nat.beq t t' <;> simp only [hb, cond_true, cond_false] at h
      · cases h
      obtain rfl := Nat.eq_of_beq_eq_true hb
      obtain ⟨ha, hok⟩ := evs_sound hv _ _ hargs
      have hat' : argTypes = #[t, t] := Array.ext' hat
      have hav : args.map val = #[(SV.c (.rs b sz len)).den ρ, x.den ρ] := by
        apply Array.ext'
        rw [Array.toList_map, ha]; rfl
      unfold rowAp at h
      split at h
      rotate_left
      · cases h
      rename_i elem ht
      split at h
      · cases h
      rename_i e he
      split at h
      · cases h
      rename_i z hz
      cases hc : (Nat.beq z.cells.size e.size && Nat.blt 0 e.size && Nat.beq sz e.size && Nat.blt elem MAPTY) <;> simp only [hc, cond_true, cond_false] at h
      · cases h
      split at h
      · cases h
      rename_i bl hbl
      cases hty : Nat.beq bl.ty elem <;> simp only [hty, cond_true, cond_false] at h
      · cases h
      rw [viewK_nat] at h
      cases hvw : (viewK s e.size x fun n l => some (n, l)) with
      | none => rw [hvw] at h; cases h
      | some p =>
        rw [hvw] at h
        obtain ⟨n, news⟩ := p
        simp only [Option.bind_some] at h
        cases hst : (news.all C.storable && Nat.blt 0 n) <;> simp only [hst, cond_true, cond_false] at h
        · cases h
        rw [forceN_eq, forceN_eq, forceN_eq, setLK_eq, appLK_eq] at h
        simp only [Option.some.injEq, Prod.mk.injEq] at h
        obtain ⟨rfl, rfl, rfl⟩ := h
        simp only [Bool.and_eq_true] at hc
        obtain ⟨⟨⟨c1, c2⟩, c3⟩, c4⟩ := hc
        obtain rfl := Nat.eq_of_beq_eq_true c3
        have n1 : 0 < len := of_decide_eq_true (hn _ (by simp))
        have n2 : len * e.size ≤ bl.cs.length := of_decide_eq_true (hn (decide (len * e.size ≤ bl.cs.length)) (by simp))
        have n3 : len + n ≤ 1099511627776 := of_decide_eq_true (hn (decide (len + n ≤ 1099511627776)) (by simp))
        have n4 : (len + n) * e.bytes ≤ 1099511627776 := of_decide_eq_true (hn (decide ((len + n) * e.bytes ≤ 1099511627776)) (by simp))
        have hta : (bl.cs.take (len * e.size)).length = len * e.size := by rw [List.length_take]; omega
        have happ : appendS P s t (.c (.sla b 0 len e.size)) x = some (.c (.sla s.length 0 (len + n) e.size), s.set b ⟨[], bl.ty⟩ ++ [⟨rApp bl.cs (len * e.size) news, elem⟩]) := by
          unfold appendS
          simp only [ht, he, hz, c1, c2, Bool.and_self, cond_true]
          rw [viewK_nat, hvw]
          simp only [Option.bind_some, hst, cond_true, hbl, takeLK_eq]
          have hb2 : (Nat.beq 0 0 && Nat.beq e.size e.size && Nat.beq (bl.cs.take (len * e.size)).length (len * e.size) && Nat.beq bl.ty elem && Nat.blt 0 len && Nat.ble (len + n) (2 ^ 40) && Nat.ble ((len + n) * e.bytes) (2 ^ 40)) = true := by
            simp only [Bool.and_eq_true]
            refine ⟨⟨⟨⟨⟨⟨rfl, by simp⟩, by rw [hta]; simp⟩, hty⟩, Nat.ble_eq_true_of_le n1⟩, Nat.ble_eq_true_of_le (Nat.le_trans n3 (by decide))⟩, Nat.ble_eq_true_of_le (Nat.le_trans n4 (by decide))⟩
          simp only [hb2, cond_true, appLLK_eq, setLK_eq, newA, c4, forceN_eq, appLK_eq, List.length_set, rApp]
        have hx := hok x (by simp)
        have hsla : (SV.c (.sla b 0 len e.size)).ok s.length = true := hok (.c (.rs b e.size len)) (by simp)
        obtain ⟨ρ', w', hag, hle, hok', hr, hI'⟩ := appendS_sound hI happ hsla hx type
        have hd0 : (SV.c (.rs b e.size len)).den ρ = (SV.c (.sla b 0 len e.size)).den ρ := by simp [SV.den, C.den]
        have hd1 : (SV.c (.rs s.length e.size (len + n))).den ρ' = (SV.c (.sla s.length 0 (len + n) e.size)).den ρ' := by simp [SV.den, C.den]
        refine ⟨ρ', w', _, hag, hle, hok', ?_, hI', .inl rfl⟩
        rw [hd1]
        simp only [execOp, resolve, Sem.run_bind, Sem.run_pure, Result.andThen_ok, invoke, hav, hat', builtin, hd0, hr]
    · rename_i v0 x t t' hno hargs hat
      cases hb : Nat.beq t t' <;> simp only [hb, cond_true, cond_false] at h
      · cases h
      obtain rfl := Nat.eq_of_beq_eq_true hb
      obtain ⟨ha, hok⟩ := evs_sound hv _ _ hargs
      have hat' : argTypes = #[t, t] := Array.ext' hat
      have hav : args.map val = #[v0.den ρ, x.den ρ] := by
        apply Array.ext'
        rw [Array.toList_map, ha]; rfl
      unfold rowAp2 at h
      split at h
      rotate_left
      · cases h
      rename_i elem ht
      split at h
      · cases h
      rename_i e he
      split at h
      · cases h
      rename_i z hz
      cases hc : (Nat.beq z.cells.size e.size && Nat.blt 0 e.size && Nat.blt elem MAPTY) <;> simp only [hc, cond_true, cond_false] at h
      · cases h
      simp only [Bool.and_eq_true] at hc
      obtain ⟨⟨c1, c2⟩, c3⟩ := hc
      have c1 := Nat.eq_of_beq_eq_true c1
      have c2 : 0 < e.size := Nat.le_of_ble_eq_true c2
      rw [forceN_eq] at h
      split at h
      · cases h
      rename_i nds n news hsrc
      rw [forceN_eq, forceN_eq] at h
      split at h
      · cases h0 : Nat.blt 0 s.length <;> simp only [h0, cond_true, cond_false] at h
        · cases h
        rw [appLK_eq] at h
        simp only [Option.some.injEq, Prod.mk.injEq] at h
        obtain ⟨rfl, rfl, rfl⟩ := h
        have n1 : n ≤ 1099511627776 := of_decide_eq_true (hn _ (List.mem_cons_self))
        have n2 : n * e.bytes ≤ 1099511627776 := of_decide_eq_true (hn (decide (n * e.bytes ≤ 1099511627776)) (by simp))
        have hx := srcG_sound hI hsrc (fun q hq => hn q (by simp [hq]))
        obtain ⟨ρ', w', g1, g2, g3⟩ := appNil (P := P) hI ht he hz c1 c2 c3 hx n1 n2 (Nat.le_of_ble_eq_true h0) type
        refine ⟨ρ', w', _, g1, by simp, by simp [SV.ok, C.ok], ?_, g3, .inl rfl⟩
        simp only [SV.den, C.den] at g2 hav ⊢
        simp only [execOp, resolve, Sem.run_bind, Sem.run_pure, Result.andThen_ok, invoke, hav, hat', builtin, g2]
      · rename_i b sz0 len
        split at h
        · cases h
        rename_i bl hbl
        cases hq : (Nat.beq bl.ty elem && Nat.beq sz0 e.size) <;> simp only [hq, cond_true, cond_false] at h
        · cases h
        simp only [Bool.and_eq_true] at hq
        obtain rfl := Nat.eq_of_beq_eq_true hq.2
        rw [setLK_eq, appLK_eq] at h
        simp only [Option.some.injEq, Prod.mk.injEq] at h
        obtain ⟨rfl, rfl, rfl⟩ := h
        have n1 : len * e.size ≤ bl.cs.length := of_decide_eq_true (hn _ (List.mem_cons_self))
        have n2 : len + n ≤ 1099511627776 := of_decide_eq_true (hn (decide (len + n ≤ 1099511627776)) (by simp))
        have n3 : (len + n) * e.bytes ≤ 1099511627776 := of_decide_eq_true (hn (decide ((len + n) * e.bytes ≤ 1099511627776)) (by simp))
        have hx := srcG_sound hI hsrc (fun q hq => hn q (by simp [hq]))
        obtain ⟨ρ', w', g1, g2, g3⟩ := appRow (P := P) hI ht he hz c1 c2 c3 hx hbl (Nat.eq_of_beq_eq_true hq.1) n1 n2 n3 type
        refine ⟨ρ', w', _, g1, by simp, by simp [SV.ok, C.ok], ?_, g3, .inl rfl⟩
        simp only [execOp, resolve, Sem.run_bind, Sem.run_pure, Result.andThen_ok, invoke, hav, hat', builtin, g2]
      · cases h
    · cases h
  · -- make
    rename_i t l c
    split at h
    · rename_i ll kl lv lc kc cv hl hc
      unfold rowMk at h
      split at h
      rotate_left
      · cases h
      rename_i elem ht
      split at h
      · cases h
      rename_i e he
      split at h
      · cases h
      rename_i z hz
      cases hc0 : (Nat.beq z.cells.size e.size && Nat.blt 0 e.size && Nat.blt elem MAPTY) <;> simp only [hc0, cond_true, cond_false] at h
      · cases h
      rw [cellsOfK_eq, forceN_eq, forceN_eq, forceN_eq, appLK_eq] at h
      simp only [Option.some.injEq, Prod.mk.injEq] at h
      obtain ⟨rfl, rfl, rfl⟩ := h
      simp only [Bool.and_eq_true] at hc0
      obtain ⟨⟨c1, c2⟩, c3⟩ := hc0
      have c1 := Nat.eq_of_beq_eq_true c1
      have c2' : 0 < e.size := Nat.le_of_ble_eq_true c2
      obtain rfl : cv = lv := of_decide_eq_true (hn _ (List.mem_cons_self))
      have n1 : 0 ≤ cv := of_decide_eq_true (hn (decide (0 ≤ cv)) (by simp))
      have n2 : cv ≤ 1073741824 := of_decide_eq_true (hn (decide (cv ≤ 1073741824)) (by simp))
      have n3 : e.bytes * cv.toNat ≤ 1099511627776 := of_decide_eq_true (hn (decide (e.bytes * cv.toNat ≤ 1099511627776)) (by simp))
      have hmk : makeS P s t (.c (.i true kl cv)) (.c (.i true kc cv)) = some (.c (.slc s.length 0 cv.toNat cv.toNat), s ++ [⟨rRep (z.cells.toList.map ofCell) cv.toNat, elem⟩]) := by
        unfold makeS
        simp only [ht, he, hz]
        have hb : (decide (0 ≤ cv) && decide (cv ≤ cv) && decide (cv ≤ 2 ^ 30) && Nat.ble (e.bytes * cv.toNat) (2 ^ 40) && Nat.blt 0 e.size && Nat.blt elem MAPTY) = true := by
          simp only [Bool.and_eq_true, decide_eq_true_eq]
          exact ⟨⟨⟨⟨⟨n1, Int.le_refl _⟩, n2⟩, Nat.ble_eq_true_of_le (Nat.le_trans n3 (by decide))⟩, c2⟩, c3⟩
        simp only [hb, cond_true, forceN_eq, cellsOfK_eq, appLK_eq]
        rw [rRep_eq c1 c2']
      obtain ⟨ρ', w', hcc, hag, hle, hok, hr, hI'⟩ := makeS_soundC hI hmk
      have hcc' := hcc elem e kc cv ht he rfl
      have hd : (SV.c (.rs s.length e.size cv.toNat)).den ρ' = (SV.c (.slc s.length 0 cv.toNat cv.toNat)).den ρ' := by
        simp only [SV.den, C.den, hcc', Nat.mul_div_cancel _ c2']
      refine ⟨ρ', w', _, hag, hle, hok, ?_, hI', .inl rfl⟩
      rw [hd]
      have e1 : val l = (SV.c (.i true kl cv)).den ρ := (hv _ _ hl).1
      have e2 : val c = (SV.c (.i true kc cv)).den ρ := (hv _ _ hc).1
      simp only [execOp, e1, e2, Sem.run_bind, hr, Result.andThen_ok, Sem.run_pure]
    · cases h
  · -- slice
    rename_i t x lo hi
    split at h
    · rename_i blk sz len hx
      exact rowSl_sound hI hv (hv _ _ hx).1 (hv _ _ hx).2 h hn
    · rename_i blk sz len hx
      split at h
      · rename_i nd0 b0 z0 h0 s0 hs0
        simp only [Option.some.injEq, Prod.mk.injEq] at h
        obtain ⟨rfl, rfl, rfl⟩ := h
        have n1 : 0 < len := of_decide_eq_true (hn _ (List.mem_cons_self))
        have n2 : 0 < h0 := of_decide_eq_true (hn (decide (0 < h0)) (by simp))
        have e1 : val x = (SV.c (.rs blk sz len)).den ρ := by rw [(hv _ _ hx).1]; simp only [SV.den, C.den, if_neg (Nat.ne_of_gt n1)]
        have e2 : (SV.c (.rs blk sz len)).ok s.length = true := by
          have := (hv _ _ hx).2
          simp only [SV.ok, C.ok, Bool.or_eq_true, Nat.beq_eq] at this ⊢
          exact this.resolve_right (by omega)
        obtain ⟨ρ', w', nx, g1, g2, g3, g4, g5, g6⟩ := rowSl_sound (dst := dst) (type := type) (pos := pos) (after := after) (guard := guard) hI hv e1 e2 hs0 (fun q hq => hn q (by simp [hq]))
        have e3 : (SV.c (.rn b0 z0 h0)).den ρ' = (SV.c (.rs b0 z0 h0)).den ρ' := by simp only [SV.den, C.den, if_neg (Nat.ne_of_gt n2)]
        refine ⟨ρ', w', nx, g1, g2, ?_, g4, g5, .inl ?_⟩
        · simp only [SV.ok, C.ok, Bool.or_eq_true] at g3 ⊢; exact .inl g3
        · rcases g6 with g6 | g6
          · rw [e3]; exact g6
          · cases g6.2
      · cases h
    · cases h
  · -- text
    rename_i src dt x
    split at h
    · rename_i blk sz len e hx hs hd
      split at h
      · rename_i bl he hb
        cases hc : Nat.beq sz 1 <;> simp only [hc, cond_true, cond_false] at h
        · cases h
        obtain rfl := Nat.eq_of_beq_eq_true hc
        simp only [Option.some.injEq, Prod.mk.injEq] at h
        obtain ⟨rfl, rfl, rfl⟩ := h
        have hu : RowU8 bl.cs len := rowU8_iff.1 (hn _ (List.mem_cons_self))
        have hr := rowStr (c := ρ.c blk / 1) hI hb hu hs he hd
        refine ⟨ρ, w, _, Agree.refl _ _, Nat.le_refl _, rfl, ?_, hI, .inl rfl⟩
        simp only [execOp, (hv _ _ hx).1, SV.den, C.den, Sem.run_bind, hr, Result.andThen_ok, Sem.run_pure]
      · cases h
    · rename_i l t e hx hs hd
      obtain ⟨rfl, ρ', w', g1, g2, g3, g4, g5⟩ := strRow_sound hI hs h rfl
      refine ⟨ρ', w', _, g1, g2, g3, ?_, g5, .inl rfl⟩
      simp only [execOp, (hv _ _ hx).1, SV.den, C.den, Sem.run_bind, g4, Result.andThen_ok, Sem.run_pure]
    · rename_i n t e hx hs hd
      have hnd : nd = [decide (t.size = n)] := by
        unfold strRow at h
        split at h
        · rename_i e1 hd1
          split at h
          · rename_i he1
            cases hty : Nat.blt e1 MAPTY <;> simp only [hty, cond_true, cond_false] at h
            · cases h
            rw [forceN_eq, appLK_eq] at h
            simp only [Option.some.injEq, Prod.mk.injEq] at h
            exact h.1.symm
          · cases h
        · cases h
      obtain ⟨_, ρ', w', g1, g2, g3, g4, g5⟩ := strRow_sound hI hs h (of_decide_eq_true (hn _ (by rw [hnd]; simp)))
      refine ⟨ρ', w', _, g1, g2, g3, ?_, g5, .inl rfl⟩
      simp only [execOp, (hv _ _ hx).1, SV.den, C.den, Sem.run_bind, g4, Result.andThen_ok, Sem.run_pure]
    · cases h
  · cases h
end

noncomputable def idxK {β : Type} (P : PE) (op : Op) (fr : Fr) (s : SW) (K : SV → SW → Tree β) : Tree β :=
  match op with
  | .indexAddr t x ix => (match fr.ev x, fr.ev ix with
    | some x, some (.c (.i false k i)) => (match x, P.underlying t with
      | .c (.p _ _), some (.array len _) => chain i (fun j => (match indexAddrR P t x (.c (.i true k (Int.ofNat j))) with | some r => needsT r.nd (K r.v s) | none => .fail)) len 0
      | .c (.slc _ _ len _), some (.slice _) => chain i (fun j => (match indexAddrR P t x (.c (.i true k (Int.ofNat j))) with | some r => needsT r.nd (K r.v s) | none => .fail)) len 0
      | _, _ => .fail)
    | _, _ => .fail)
  | .index t x ix => (match fr.ev x, fr.ev ix with
    | some x, some (.c (.i false k i)) => (match x, P.underlying t with
      | .a _, some (.array len _) => chain i (fun j => (match indexR P t x (.c (.i true k (Int.ofNat j))) with | some r => needsT r.nd (K r.v s) | none => .fail)) len 0
      | _, _ => .fail)
    | _, _ => .fail)
  | _ => .fail

noncomputable def rowNilO (P : Program) (E : World) (ev : Operand → Option SV) (s : SW) (op : Op) : Option (SV × SW × List Bool) := match op with
  | .call { callee := .builtin .append, args, argTypes } => (match rowOp P E ev s (.call { callee := .builtin .append, args, argTypes }) with | some (nd, v, s') => some (v, s', nd) | none => none)
  | _ => none
theorem rowNilO_eq {P : Program} {E : World} {ev : Operand → Option SV} {s : SW} {op : Op} {v : SV} {s' : SW} {nd : List Bool} (h : rowNilO P E ev s op = some (v, s', nd)) : rowOp P E ev s op = some (nd, v, s') ∧ ∃ args argTypes, op = .call { callee := .builtin .append, args, argTypes } := by
  unfold rowNilO at h
  split at h
  · split at h
    · rename_i hr; simp only [Option.some.injEq, Prod.mk.injEq] at h; obtain ⟨rfl, rfl, rfl⟩ := h; exact ⟨hr, _, _, rfl⟩
    · cases h
  · cases h
noncomputable def rowMkO (P : Program) (E : World) (ev : Operand → Option SV) (s : SW) (op : Op) : Option (SV × SW × List Bool) := match op with
  | .makeSlice t l c => (match rowOp P E ev s (.makeSlice t l c) with | some (nd, v, s') => some (v, s', nd) | none => none)
  | _ => none
theorem rowMkO_eq {P : Program} {E : World} {ev : Operand → Option SV} {s : SW} {op : Op} {v : SV} {s' : SW} {nd : List Bool} (h : rowMkO P E ev s op = some (v, s', nd)) : rowOp P E ev s op = some (nd, v, s') ∧ ∃ t l c, op = .makeSlice t l c := by
  unfold rowMkO at h
  split at h
  · split at h
    · rename_i hr; simp only [Option.some.injEq, Prod.mk.injEq] at h; obtain ⟨rfl, rfl, rfl⟩ := h; exact ⟨hr, _, _, _, rfl⟩
    · cases h
  · cases h
theorem rowMkO_app {P : Program} {E : World} {ev : Operand → Option SV} {t : TypeId} {l c : Operand} {s s' : SW} {nd : List Bool} {v : SV} (h : rowOp P E ev s (.makeSlice t l c) = some (nd, v, s')) : ∃ e, s' = s ++ e := by
  simp only [rowOp] at h
  split at h
  · unfold rowMk at h
    split at h
    rotate_left
    · cases h
    rename_i elem ht
    split at h
    · cases h
    rename_i e he
    split at h
    · cases h
    rename_i z hz
    cases hc0 : (Nat.beq z.cells.size e.size && Nat.blt 0 e.size && Nat.blt elem MAPTY) <;> simp only [hc0, cond_true, cond_false] at h
    · cases h
    rw [cellsOfK_eq, forceN_eq, forceN_eq, forceN_eq, appLK_eq] at h
    simp only [Option.some.injEq, Prod.mk.injEq] at h
    exact ⟨_, h.2.2.symm⟩
  · cases h
noncomputable def restK {β : Type} (P : PE) (op : Op) (fr : Fr) (s : SW) (K : SV → SW → Tree β) : Tree β :=
  match rowOp P P.E fr.ev s op with
  | some (nd, v, s') => needsT nd (K v s')
  | none => idxK P op fr s K

theorem run_callMethod {P : Program} {t : TypeId} {name : String} {g : FuncId} (h : methodS P t name = some g) (a : Addr) (args : Array Value) (w : World) :
    (callMethod (.iface t (.pointer (some a))) name args).run P w = (callFunc g (#[.pointer (some a)] ++ args)).run P w := by
  unfold methodS at h
  split at h
  · cases h
  rename_i inf hi
  split at h
  · cases h
  rename_i m hm
  cases hp : m.path.isEmpty <;> simp only [hp, cond_true, cond_false] at h
  · cases h
  split at h
  · rename_i f el hf hu
    simp at h; subst h
    have hpl : m.path.toList = [] := by simpa using hp
    have hmeth : ∀ n, (method (n + 1) t (.pointer (some a)) name).run P w = .ok (f, .pointer (some a)) w := by
      intro n
      simp only [method, Sem.run_bind, typeInfo, run_program, Result.andThen_ok, hi, Sem.run_pure, hm, hpl, follow, hf, receiverAt, run_underlying hu, Place.get]
    have hd : ∃ n, P.types.size + Made.depth = n + 1 := ⟨P.types.size + (Made.depth - 1), by unfold Made.depth; omega⟩
    obtain ⟨n, hd⟩ := hd
    simp only [callMethod, Sem.run_bind, run_program, Result.andThen_ok, hd, hmeth]
  · cases h
theorem run_wrapnil {P : Program} (xt : TypeId) (a : Addr) (name : String) (w : World) : (Builtin.ssaWrapNilChk_ #[xt] xt #[.pointer (some a), strVal "", strVal name]).run P w = .ok (.pointer (some a)) w := rfl
theorem run_callMethodV {P : Program} {t : TypeId} {name : String} {g : FuncId} {el : TypeId} (h : methodV P t name = some (g, el)) (a : Addr) (v : Value) (args : Array Value) (w : World) (hl : (loadVar el a).run P w = .ok v w) :
    (callMethod (.iface t (.pointer (some a))) name args).run P w = (callFunc g (#[v] ++ args)).run P w := by
  unfold methodV at h
  split at h
  · cases h
  rename_i inf hi
  split at h
  · cases h
  rename_i m hm
  cases hp : m.path.isEmpty <;> simp only [hp, cond_true, cond_false] at h
  · cases h
  split at h
  · rename_i f el' hf hu
    simp at h
    obtain ⟨rfl, rfl⟩ := h
    have hpl : m.path.toList = [] := by simpa using hp
    have hmeth : ∀ n, (method (n + 1) t (.pointer (some a)) name).run P w = .ok (f, v) w := by
      intro n
      simp only [method, Sem.run_bind, typeInfo, run_program, Result.andThen_ok, hi, Sem.run_pure, hm, hpl, follow, hf, receiverAt, run_underlying hu, Place.get, hp, if_true, run_wrapnil, asAddr, hl]
    have hd : ∃ n, P.types.size + Made.depth = n + 1 := ⟨P.types.size + (Made.depth - 1), by unfold Made.depth; omega⟩
    obtain ⟨n, hd⟩ := hd
    simp only [callMethod, Sem.run_bind, run_program, Result.andThen_ok, hd, hmeth]
  · cases h
noncomputable def hintOf : List (Nat × Nat × Nat) → Nat → Nat → Option Nat
  | [], _, _ => none
  | (a, b, n) :: r, nt, d => cond (Nat.beq a nt && Nat.beq b d) (some n) (hintOf r nt d)
noncomputable def splitV {β : Type} (n : Nat) (v : SV) (K : SV → Tree β) : Tree β :=
  match v with
  | .c (.i false k i) => chain i (fun j => K (.c (.i true k (Int.ofNat j)))) n 0
  | .c (.b false q) => .node q (K (.c (.b true true))) (K (.c (.b true false)))
  | v => K v
noncomputable def splitK {β : Type} (h : List (Nat × Nat × Nat)) (nt : Nat) (dst : Option Nat) (v : SV) (K : SV → Tree β) : Tree β :=
  @List.rec (Nat × Nat × Nat) (fun _ => Tree β) (K v) (fun _ _ _ => match dst with
    | none => K v
    | some d => match hintOf h nt d with
      | none => K v
      | some n => splitV n v K) h
noncomputable def splitF {β : Type} (fl : Fl) (h : List (Nat × Nat × Nat)) (nt : Nat) (dst : Option Nat) (v : SV) (K : SV → Tree β) : Tree β :=
  match fl with
  | .loud => splitK h nt dst v K
  | _ => K v
theorem splitV_OK {β : Type} {post : β → Prop} {n : Nat} {v : SV} {K : SV → Tree β} (h : (splitV n v K).OK post) : ∃ v', (∀ ρ, v'.den ρ = v.den ρ) ∧ (∀ m, v.ok m = true → v'.ok m = true) ∧ (K v').OK post := by
  unfold splitV at h
  split at h
  · rename_i k i
    obtain ⟨j, _, hj, h⟩ := chain_OK h
    exact ⟨_, fun ρ => by rw [hj]; rfl, fun _ _ => rfl, h⟩
  · rename_i q
    cases q
    · exact ⟨.c (.b true false), fun ρ => rfl, fun _ _ => rfl, h.2 rfl⟩
    · exact ⟨.c (.b true true), fun ρ => rfl, fun _ _ => rfl, h.1 rfl⟩
  · exact ⟨_, fun _ => rfl, fun _ h => h, h⟩
theorem splitK_OK {β : Type} {post : β → Prop} {hs : List (Nat × Nat × Nat)} {nt : Nat} {dst : Option Nat} {v : SV} {K : SV → Tree β} (h : (splitK hs nt dst v K).OK post) : ∃ v', (∀ ρ, v'.den ρ = v.den ρ) ∧ (∀ m, v.ok m = true → v'.ok m = true) ∧ (K v').OK post := by
  cases hs with
  | nil => exact ⟨_, fun _ => rfl, fun _ h => h, h⟩
  | cons x r =>
    cases dst with
    | none => exact ⟨_, fun _ => rfl, fun _ h => h, h⟩
    | some d =>
      have h' : (match hintOf (x :: r) nt d with
        | none => K v
        | some n => splitV n v K : Tree β).OK post := h
      cases hh : hintOf (x :: r) nt d with
      | none => rw [hh] at h'; exact ⟨_, fun _ => rfl, fun _ h => h, h'⟩
      | some n => rw [hh] at h'; exact splitV_OK h'
noncomputable def operK {β : Type} (P : PE) (call : CallK β) (fl : Fl) (o : Oper) (fr : Fr) (s : SW) (K : SV → SW → Tree β) : Tree β :=
  match pureOp P fr.ev o.op with
  | some r => needsT r.nd (splitF fl P.h fr.nt o.dst r.v fun v => K v s)
  | none => match extOp P P.E s fr.ev o.op with
  | some r => (match fl with | .pure => .fail | _ => needsT r.nd (K r.v s))
  | none => match fl with
    | .pure => .fail
    | .load => (match o.op with
      | .load t x => (match fr.ev x with | some v => (match loadS P s t v with | some (u, _) => splitK P.h fr.nt o.dst u fun u => K u s | none => .fail) | none => .fail)
      | _ => .fail)
    | .loud => (match heapOp P fr.ev s o.op with
      | some (v, s') => K v s'
      | none => match o.op with
        | .call { callee := .value f, args, .. } => (match fr.ev f, evs fr.ev args.toList with
            | some (.c (.fn g)), some vs => call g vs s K
            | some (.c (.clo g caps)), some vs => cond (Nat.blt g CLOB) (call g (vs ++ caps.map fun p => .c (.p p.1 p.2)) s K) (call (decC g) ((caps.map fun p => .c (.p p.1 p.2)) ++ vs) s K)
            | _, _ => .fail)
        | .call { callee := .invoke recv name, args, .. } => (match fr.ev recv, evs fr.ev args.toList with
            | some (.c (.ifc t blk off)), some vs => (match methodS P t name with
              | some g => call g (.c (.p blk off) :: vs) s K
              | none => match methodV P t name with
                | some (g, el) => (match loadS P s el (.c (.p blk off)) with | some (u, _) => call g (u :: vs) s K | none => .fail)
                | none => .fail)
            | _, _ => .fail)
        | op => restK P op fr s K)

noncomputable def guardK {β : Type} (ops : Array Oper) (o : Oper) (fr : Fr) (K : Bool → Fr → Tree β) : Tree β :=
  match o.guard with
  | none => K true fr
  | some (j, want) => match (ops[j]?).bind (·.dst) with
    | none => .fail
    | some d => match fr.get d with
      | some (.c (.b lit v)) => cond lit (K (v == want) fr)
          (.node v (fr.putK (some d) (.c (.b true true)) .fail fun fr' => K want fr') (fr.putK (some d) (.c (.b true false)) .fail fun fr' => K (!want) fr'))
      | some (.t []) => K false fr
      | _ => .fail

noncomputable def opsK {β : Type} (P : PE) (call : CallK β) (ops : Array Oper) : List (Nat × Fl) → Fr → SW → (Fr → SW → Tree β) → Tree β
  | [], fr, s, K => K fr s
  | (i, p) :: r, fr, s, K => match ops[i]? with
    | none => .fail
    | some o => guardK ops o fr fun wanted fr =>
        cond wanted (operK P call p o fr s fun v s' => fr.putK o.dst v .fail fun fr' => opsK P call ops r fr' s' K)
          (fr.putK o.dst undefS .fail fun fr' => opsK P call ops r fr' s K)

abbrev CallC (β : Type) := FuncId → List SV → (SV → Tree β) → Tree β
noncomputable def operC {β : Type} (P : PE) (call : CallC β) (o : Oper) (fr : Fr) (s : SW) (K : SV → Tree β) : Tree β :=
  match pureOpF P.toProgram fr.ev o.op with
  | some r => needsT r.nd (K r.v)
  | none => match extOpF P.toProgram P.E s fr.ev o.op with
  | some r => needsT r.nd (K r.v)
  | none => match o.op with
      | .load t x => (match fr.ev x with | some v => (match loadS P s t v with | some (u, _) => K u | none => .fail) | none => .fail)
      | .call { callee := .value f, args, .. } => (match fr.ev f, evs fr.ev args.toList with
            | some (.c (.fn g)), some vs => cond (vs.all (SV.ok 0)) (call g vs K) .fail
            | _, _ => .fail)
      | .convert src dst x => (match heapOpC P.toProgram fr.ev s (.convert src dst x) with | some (u, _) => K u | none => .fail)
      | _ => .fail
noncomputable def isLoud : Fl → Bool | .loud => true | _ => false
noncomputable def isPureF : Fl → Bool | .pure => true | _ => false
noncomputable def xEq : Value → Value → Bool
  | .pointer none, .pointer none => true
  | .slice none a b, .slice none c d => Nat.beq a c && Nat.beq b d
  | .map none, .map none => true
  | .chan none, .chan none => true
  | .nilFunc, .nilFunc => true
  | .nilIface, .nilIface => true
  | _, _ => false
noncomputable def eqC : C → C → Option (List Bool)
  | .b l a, .b l' b => cond (l && l') (cond (decide (a = b)) (some []) none) (some [decide (a = b)])
  | .i l k a, .i l' k' b => if k = k' then cond (l && l') (cond (decide (a = b)) (some []) none) (some [decide (a = b)]) else none
  | .str l a, .str l' b => cond (l && l') (cond (decide (a = b)) (some []) none) (some [decide (a = b)])
  | .p b o, .p b' o' => cond (Nat.beq b b' && Nat.beq o o') (some []) none
  | .slc b o n c, .slc b' o' n' c' => cond (Nat.beq b b' && Nat.beq o o' && Nat.beq n n' && Nat.beq c c') (some []) none
  | .sla b o n c, .sla b' o' n' c' => cond (Nat.beq b b' && Nat.beq o o' && Nat.beq n n' && Nat.beq c c') (some []) none
  | .fn f, .fn f' => cond (Nat.beq f f') (some []) none
  | .ifc t b o, .ifc t' b' o' => cond (Nat.beq t t' && Nat.beq b b' && Nat.beq o o') (some []) none
  | .mp b, .mp b' => cond (Nat.beq b b') (some []) none
  | .es a n c, .es a' n' c' => some [decide (a = a'), decide (n = n'), decide (c = c')]
  | .x v, .x u => cond (xEq v u) (some []) none
  | .strn _ a, .strn _ b => some [decide (a = b)]
  | .rn b z n, .rn b' z' n' => cond (Nat.beq b b' && Nat.beq z z') (some [decide (n = n')]) none
  | .rs b z n, .rs b' z' n' => cond (Nat.beq b b' && Nat.beq z z') (some [decide (n = n')]) none
  | _, _ => none
noncomputable def keepCs : List C → List C → Option (List Bool)
  | [], [] => some []
  | x :: xs, y :: ys => match eqC x y with
    | none => none
    | some a => (match keepCs xs ys with | none => none | some b => some (a ++ b))
  | _, _ => none
noncomputable def rowTy (h : List (Nat × Nat × Nat)) (ty : Nat) : Bool := (hintOf h 0 (1000 + ty)).isSome
noncomputable def sameB (b b' : Bl) : Bool := @decide (b.cs = b'.cs) (Classical.propDecidable _)
theorem sameB_self (b : Bl) : sameB b b = true := by simp [sameB]
noncomputable def keepS (rt : Nat → Bool) : SW → SW → Option (List Bool)
  | _, [] => some []
  | b :: s, b0 :: s0 => cond (rt b0.ty) (cond (Nat.beq b.ty b0.ty) (match keepS rt s s0 with | none => none | some l => some (sameB b b0 :: l)) none)
    (match b0.cs with
    | [] => cond (Nat.beq b.ty b0.ty || Nat.blt b0.ty MAPTY) (keepS rt s s0) none
    | c :: cs => cond (Nat.beq b.ty b0.ty) (match keepCs b.cs (c :: cs) with
      | none => none
      | some l => (match keepS rt s s0 with | none => none | some l' => some (l ++ l'))) none)
  | [], _ :: _ => none
noncomputable def callD {β : Type} (rt : Nat → Bool) (call : CallK β) (g : FuncId) (vs : List SV) (s : SW) (K : SV → Tree β) : Tree β :=
  cond (vs.all (SV.ok 0)) (call g vs [] fun v _ => cond (v.ok 0) (K v) .fail)
    (call g vs s fun v s' => match keepS rt s' s with | some nd => needsT nd (cond (v.ok s.length) (K v) .fail) | none => .fail)
noncomputable def opsC {β : Type} (P : PE) (call : CallC β) (callK : CallK β) (ops : Array Oper) : List (Nat × Fl) → Fr → SW → (Fr → SW → Tree β) → Tree β
  | [], fr, s, K => K fr s
  | (i, p) :: r, fr, s, K => match ops[i]? with
    | none => .fail
    | some o => guardK ops o fr fun wanted fr =>
        cond wanted (cond (isLoud p)
            (cond (changes o.op) (match heapOpF P.toProgram fr.ev s o.op with
              | some (v, s') => fr.putK o.dst v .fail fun fr' => opsC P call callK ops r fr' s' K
              | none => (match rowNilO P.toProgram P.E fr.ev s o.op with
                | some (v, s', nd) => needsT nd (fr.putK o.dst v .fail fun fr' => opsC P call callK ops r fr' s' K)
                | none => .fail))
              (match o.op with
                | .call { callee := .value f, args, .. } => (match fr.ev f, evs fr.ev args.toList with
                  | some (.c (.fn g)), some vs => callD (rowTy P.h) callK g vs s fun v => fr.putK o.dst v .fail fun fr' => opsC P call callK ops r fr' s K
                  | _, _ => .fail)
                | _ => .fail))
            (cond (isPureF p) (match pureOpF P.toProgram fr.ev o.op with | some rr => needsT rr.nd (fr.putK o.dst rr.v .fail fun fr' => opsC P call callK ops r fr' s K) | none => .fail)
              (operC P call o fr s fun v => fr.putK o.dst v .fail fun fr' => opsC P call callK ops r fr' s K)))
          (fr.putK o.dst undefS .fail fun fr' => opsC P call callK ops r fr' s K)

noncomputable def operD {β : Type} (P : PE) (call : CallK β) (o : Oper) (fr : Fr) (s : SW) (K : SV → Tree β) : Tree β :=
  match pureOpF P.toProgram fr.ev o.op with
  | some r => needsT r.nd (K r.v)
  | none => match extOpF P.toProgram P.E s fr.ev o.op with
  | some r => needsT r.nd (K r.v)
  | none => match o.op with
      | .load t x => (match fr.ev x with | some v => (match loadS P s t v with | some (u, _) => K u | none => .fail) | none => .fail)
      | .call { callee := .value f, args, .. } => (match fr.ev f, evs fr.ev args.toList with
            | some (.c (.fn g)), some vs => callD (rowTy P.h) call g vs s K
            | _, _ => .fail)
      | _ => .fail
noncomputable def opsD {β : Type} (P : PE) (call : CallK β) (ops : Array Oper) : List (Nat × Fl) → Fr → SW → (Fr → SW → Tree β) → Tree β
  | [], fr, s, K => K fr s
  | (i, p) :: r, fr, s, K => match ops[i]? with
    | none => .fail
    | some o => guardK ops o fr fun wanted fr =>
        cond wanted (cond (isLoud p)
            (cond (changes o.op) (match heapOpF P.toProgram fr.ev s o.op with
              | some (v, s') => fr.putK o.dst v .fail fun fr' => opsD P call ops r fr' s' K
              | none => (match rowNilO P.toProgram P.E fr.ev s o.op with
                | some (v, s', nd) => needsT nd (fr.putK o.dst v .fail fun fr' => opsD P call ops r fr' s' K)
                | none => .fail)) .fail)
            (cond (isPureF p) (match pureOpF P.toProgram fr.ev o.op with | some rr => needsT rr.nd (fr.putK o.dst rr.v .fail fun fr' => opsD P call ops r fr' s K) | none => .fail)
              (operD P call o fr s fun v => fr.putK o.dst v .fail fun fr' => opsD P call ops r fr' s K)))
          (fr.putK o.dst undefS .fail fun fr' => opsD P call ops r fr' s K)
noncomputable def maskS (B : List Nat) : Nat → SW → SW
  | _, [] => []
  | k, b :: s => cond (memN B k) b ⟨[], b.ty⟩ :: maskS B (k + 1) s
noncomputable def maskK {β : Type} (B : List Nat) : Nat → SW → (SW → β) → β
  | _, [], K => K []
  | k, ⟨cs, ty⟩ :: s, K => forceN (k + 1) fun k' => maskK B k' s fun r => cond (memN B k) (K (⟨cs, ty⟩ :: r)) (K (⟨[], ty⟩ :: r))
theorem maskK_eq {β : Type} (B : List Nat) : ∀ (s : SW) (k : Nat) (K : SW → β), maskK B k s K = K (maskS B k s)
  | [], _, _ => rfl
  | ⟨cs, ty⟩ :: s, k, K => by
    simp only [maskK, forceN_eq, maskK_eq B s, maskS]
    cases memN B k <;> rfl
noncomputable def scanY (P : PE) (ops : Array Oper) : List (Nat × Fl) → Fr → SW → List Nat → List Nat
  | [], _, _, B => B
  | (i, p) :: r, fr, s, B => cond (isLoud p) B (match ops[i]? with
    | none => B
    | some o => match o.guard with
      | some _ => scanY P ops r fr s B
      | none => match pureOpF P.toProgram fr.ev o.op with
        | some rr => fr.putK o.dst rr.v B fun fr' => scanY P ops r fr' s B
        | none => match o.op with
          | .load t x => (match fr.ev x with
            | some (.c (.p b off)) => (match loadS P s t (.c (.p b off)) with | some (u, _) => fr.putK o.dst u B fun fr' => scanY P ops r fr' s (cond (memN B b) B (b :: B)) | none => B)
            | some (.c (.q b off m z ix)) => (match loadS P s t (.c (.q b off m z ix)) with | some (u, _) => fr.putK o.dst u B fun fr' => scanY P ops r fr' s (cond (memN B b) B (b :: B)) | none => B)
            | _ => (match extOpF P.toProgram P.E s fr.ev o.op with | some rr => fr.putK o.dst rr.v B fun fr' => scanY P ops r fr' s B | none => B))
          | _ => B)
noncomputable def liveB (rt : Nat → Bool) : Nat → SW → List Nat
  | _, [] => []
  | k, b :: s => cond (rt b.ty) (k :: liveB rt (k + 1) s) (cond b.cs.isEmpty (liveB rt (k + 1) s) (k :: liveB rt (k + 1) s))
noncomputable def rowY (h : List (Nat × Nat × Nat)) : Nat → Bool := cond (hintOf h 0 2).isSome (rowTy h) (fun _ => false)
noncomputable def rowsB (rt : Nat → Bool) : Nat → SW → List Nat
  | _, [] => []
  | k, b :: s => cond (rt b.ty) (k :: rowsB rt (k + 1) s) (rowsB rt (k + 1) s)
noncomputable def opsY {β : Type} (P : PE) (call : CallK β) (ops : Array Oper) : List (Nat × Fl) → Fr → SW → SW → (Fr → SW → Tree β) → Tree β
  | [], fr, s, _, K => K fr s
  | (i, p) :: r, fr, s, sB, K => match ops[i]? with
    | none => .fail
    | some o => guardK ops o fr fun wanted fr =>
        cond wanted (cond (isLoud p)
            (operK P call .loud o fr s fun v s' => fr.putK o.dst v .fail fun fr' => maskK (scanY P ops r fr' s' (liveB (rowY P.h) 0 sB)) 0 s' fun sB' => match keepS (rowY P.h) sB' sB with
              | some nd => needsT nd (opsY P call ops r fr' s' sB' K)
              | none => .fail)
            (match pureOpF P.toProgram fr.ev o.op with
              | some rr => needsT rr.nd (fr.putK o.dst rr.v .fail fun fr' => opsY P call ops r fr' s sB K)
              | none => match extOpF P.toProgram P.E sB fr.ev o.op with
                | some rr => needsT rr.nd (fr.putK o.dst rr.v .fail fun fr' => opsY P call ops r fr' s sB K)
                | none => match o.op with
                  | .load t x => (match fr.ev x with | some v => (match loadS P sB t v with | some (u, _) => fr.putK o.dst u .fail fun fr' => opsY P call ops r fr' s sB K | none => .fail) | none => .fail)
                  | _ => .fail))
          (fr.putK o.dst undefS .fail fun fr' => opsY P call ops r fr' s sB K)
noncomputable def cvH (P : PE) : Bool := match hintOf P.h 0 3 with | some 2 => true | _ => false
noncomputable def yHint (P : PE) (ops : Array Oper) : Option (List (Nat × Fl)) := cond (hintOf P.h 0 1).isSome (schedY (cvH P) ops ops.size (Array.replicate ops.size false)) none
noncomputable def zHint (P : PE) (ops : Array Oper) : Option (List (Nat × Fl) × Nat × Array Bool) := cond (hintOf P.h 0 6).isSome (some (schedZ (cvH P) ops ops.size (Array.replicate ops.size false))) none
theorem zHint_eq {P : PE} {ops : Array Oper} {r : List (Nat × Fl) × Nat × Array Bool} (h : zHint P ops = some r) : r = schedZ (cvH P) ops ops.size (Array.replicate ops.size false) := by
  unfold zHint at h
  cases hc : (hintOf P.h 0 6).isSome <;> rw [hc] at h <;> simp at h
  exact h.symm
noncomputable def hasMakes (ops : Array Oper) : Bool := ops.toList.any fun o => makes o.op

noncomputable def forkK {β : Type} (fr : Fr) (c : Operand) (v : Bool) (Kt Kf : Fr → Tree β) : Tree β :=
  match c with
  | .tmp d => .node v (fr.putK (some d) (.c (.b true true)) .fail Kt) (fr.putK (some d) (.c (.b true false)) .fail Kf)
  | _ => .node v (Kt fr) (Kf fr)

structure Lf where
  todo : List Item
  ended : Bool
  fr : Fr
  s : SW

noncomputable def resS (P : PE) (fr : Fr) (s : SW) : ResultVar → Option SV
  | .tmp t => fr.get t
  | .cell a t => (match fr.get a with | some v => (match loadS P s t v with | some (u, _) => some u | none => none) | none => none)

noncomputable def resL (P : PE) (fr : Fr) (s : SW) : List ResultVar → Option (List SV)
  | [] => some []
  | r :: rs => match resS P fr s r with
    | none => none
    | some v => (match resL P fr s rs with | some vs => some (v :: vs) | none => none)

noncomputable def s1L : List SV → Option (List S1)
  | [] => some []
  | v :: vs => match v.s1 with
    | none => none
    | some x => (match s1L vs with | some xs => some (x :: xs) | none => none)

noncomputable def results1 (P : PE) (fn : Func) (fr : Fr) (s : SW) : Option SV :=
  match resL P fr s fn.results.toList with
  | none => none
  | some [v] => some v
  | some vs => (match s1L vs with | some xs => some (.t xs) | none => none)

noncomputable def mkFrGo : Tr → Nat → List SV → Tr
  | t, _, [] => t
  | t, i, v :: vs => mkFrGo (t.set i v) (i + 1) vs
noncomputable def mkFrK {β : Type} : Tr → Nat → List SV → (Tr → β) → β
  | t, _, [], K => K t
  | t, i, v :: vs, K => t.setK i v fun t' => mkFrK t' (i + 1) vs K

abbrev Orc := FuncId → List SV → SW → Option (Tree (SV × SW))
abbrev Tab := FuncId → Option Func

noncomputable def mergeCK {β : Type} (v : Bool) (x y : C) (K : C → β) (F : β) : β :=
  match x, y with
  | .b l a, .b l' b => cond (l && l' && (a == b)) (K (.b true a)) (K (.b false (cond v a b)))
  | .i l k a, .i l' k' b => if k = k' then cond (l && l' && decide (a = b)) (K (.i true k a)) (K (.i false k (cond v a b))) else F
  | .str l a, .str l' b => cond (l && l' && decide (a = b)) (K (.str true a)) (K (.str false (cond v a b)))
  | .p b o, .p b' o' => cond (Nat.beq b b' && Nat.beq o o') (K (.p b o)) F
  | .fn f, .fn f' => cond (Nat.beq f f') (K (.fn f)) F
  | _, _ => F
noncomputable def mergeLK {β : Type} (v : Bool) : List C → List C → (List C → β) → β → β
  | [], [], K, _ => K []
  | x :: xs, y :: ys, K, F => mergeCK v x y (fun z => mergeLK v xs ys (fun l => K (z :: l)) F) F
  | _, _, _, F => F
noncomputable def mergeVK {β : Type} (v : Bool) (x y : SV) (K : SV → β) : β :=
  match x, y with
  | .c x, .c y => mergeCK v x y (fun z => K (.c z)) (K .any)
  | .a x, .a y => mergeLK v x y (fun l => K (.a l)) (K .any)
  | .t [], .t [] => K (.t [])
  | _, _ => K .any
noncomputable def mergeK {β : Type} (v : Bool) (x y : Fr) : List Nat → Fr → β → (Fr → β) → β
  | [], M, _, K => K M
  | t :: r, M, F, K => mergeVK v (x.tr.get t) (y.tr.get t) fun z => M.putK (some t) z F fun M' => mergeK v x y r M' F K
noncomputable def isPick (ops : Array Oper) (d i : Nat) : Bool := match ops[i]? with
  | some o => (match o.op, o.guard with | .pick (.tmp c) _ _, none => Nat.beq c d | _, _ => false)
  | none => false
noncomputable def segOf (ops : Array Oper) (d : Nat) : List (Nat × Fl) → Option (List (Nat × Fl) × List (Nat × Fl))
  | [] => none
  | (i, p) :: r => cond (isPick ops d i) (some ([(i, p)], r)) (match segOf ops d r with | some (a, b) => some ((i, p) :: a, b) | none => none)
noncomputable def andL : List Bool → Bool | [] => true | [b] => b | b :: l => b && andL l
noncomputable def andK {β : Type} : List Bool → (Bool → β) → β
  | [], K => K true
  | [b], K => K b
  | b :: l, K => andK l fun r => K (b && r)
theorem andK_eq {β : Type} : ∀ (l : List Bool) (K : Bool → β), andK l K = K (andL l)
  | [], _ => rfl
  | [b], _ => rfl
  | b :: c :: l, K => by simp only [andK, andL, andK_eq (c :: l)]
noncomputable def joinN (v : Bool) : List Bool → List Bool → List Bool | [], [] => [] | x, y => [cond v (andL x) (andL y)]
noncomputable def joinNK {β : Type} (v : Bool) (x y : List Bool) (K : List Bool → β) : β := match x, y with
  | [], [] => K []
  | x, y => andK x fun a => andK y fun b => K [cond v a b]
theorem joinNK_eq {β : Type} (v : Bool) (x y : List Bool) (K : List Bool → β) : joinNK v x y K = K (joinN v x y) := by
  cases x <;> cases y <;> simp only [joinNK, joinN, andK_eq]
noncomputable def logD : Option Nat → List Nat → List Nat | some d, l => d :: l | none, l => l
noncomputable def isLoud' : Fl → Bool | .loud => true | _ => false
noncomputable def isPure' : Fl → Bool | .pure => true | _ => false
noncomputable def pureAns : Option (Tree (SV × SW)) → Option R
  | some (.leaf (v, _)) => cond (v.ok 0) (some ⟨[], v⟩) none
  | some (.need b (.leaf (v, _))) => cond (v.ok 0) (some ⟨[b], v⟩) none
  | _ => none
noncomputable def quietR (P : PE) (orc : Orc) (tab : Tab) (fr : Fr) (s : SW) (p : Fl) (op : Op) : Option R :=
  match pureOpF P.toProgram fr.ev op with
  | some r => some r
  | none => cond (isPure' p) none (match extOpF P.toProgram P.E s fr.ev op with
    | some r => some r
    | none => match op with
      | .load t x => (match fr.ev x with | some v => (match loadS P s t v with | some (u, _) => some ⟨[], u⟩ | none => none) | none => none)
      | .call { callee := .value f, args, .. } => cond (isLoud' p) (match fr.ev f, evs fr.ev args.toList with
          | some (.c (.fn g)), some vs => cond (vs.all (SV.ok 0) && (tab g).isSome) (pureAns (orc g vs [])) none
          | _, _ => none) none
      | _ => none)
noncomputable def quietOps {β : Type} (P : PE) (orc : Orc) (tab : Tab) (ops : Array Oper) (s : SW) : Nat → List (Nat × Fl) → Fr → List Nat → List Bool → (Fr → List Nat → List Bool → β) → β → β
  | 0, _, _, _, _, _, F => F
  | _ + 1, [], fr, lg, nd, K, _ => K fr lg nd
  | n + 1, (i, p) :: r, fr, lg, nd, K, F => match ops[i]? with
    | none => F
    | some o => match o.guard with
      | none => (match quietR P orc tab fr s p o.op with
        | none => F
        | some rr => fr.putK o.dst rr.v F fun fr' => quietOps P orc tab ops s n r fr' (logD o.dst lg) (nd ++ rr.nd) K F)
      | some (j, want) => match (ops[j]?).bind (·.dst) with
        | none => F
        | some d => match fr.get d with
          | some (.c (.b lit v)) => cond lit
              (cond (v == want) (match quietR P orc tab fr s p o.op with
                  | none => F
                  | some rr => fr.putK o.dst rr.v F fun fr' => quietOps P orc tab ops s n r fr' (logD o.dst lg) (nd ++ rr.nd) K F)
                (fr.putK o.dst undefS F fun fr' => quietOps P orc tab ops s n r fr' (logD o.dst lg) nd K F))
              (match segOf ops d ((i, p) :: r) with
                | none => F
                | some (seg, rest) => fr.putK (some d) (.c (.b true true)) F fun frT => quietOps P orc tab ops s n seg frT [] [] (fun xT lT nT =>
                    fr.putK (some d) (.c (.b true false)) F fun frF => quietOps P orc tab ops s n seg frF [] [] (fun xF lF nF =>
                      cond (memN lT d || memN lF d) F (mergeK v xT xF lT fr F fun M => mergeK v xT xF lF M F fun M =>
                        joinNK v nT nF fun jn => quietOps P orc tab ops s n rest M (lT ++ (lF ++ lg)) (nd ++ jn) K F)) F) F)
          | some (.t []) => fr.putK o.dst undefS F fun fr' => quietOps P orc tab ops s n r fr' (logD o.dst lg) nd K F
          | _ => F
noncomputable def quietC {β : Type} (P : PE) (orc : Orc) (tab : Tab) (s : SW) : Nat → List Item → Fr → List Nat → List Bool → (Fr → List Nat → List Bool → β) → β → β
  | 0, _, _, _, _, _, F => F
  | n + 1, todo, fr, lg, nd, K, F => match todo with
    | [] => K fr lg nd
    | .code .skip :: k => quietC P orc tab s n k fr lg nd K F
    | .code (.label _) :: k => quietC P orc tab s n k fr lg nd K F
    | .inBlock _ :: k => quietC P orc tab s n k fr lg nd K F
    | .inScope _ :: k => quietC P orc tab s n k fr lg nd K F
    | .code (.seq a b) :: k => quietC P orc tab s n (.code a :: .code b :: k) fr lg nd K F
    | .code (.scope c) :: k => quietC P orc tab s n (.code c :: .inScope c :: k) fr lg nd K F
    | .code (.block id c) :: k => quietC P orc tab s n (.code c :: .inBlock id :: k) fr lg nd K F
    | .code (.exit id) :: k => (match exitTo id k with | some k' => quietC P orc tab s n k' fr lg nd K F | none => F)
    | .code (.cond c x y) :: k => (match fr.ev c with
      | some (.c (.b lit v)) => cond lit (cond v (quietC P orc tab s n (.code x :: k) fr lg nd K F) (quietC P orc tab s n (.code y :: k) fr lg nd K F))
          (match c with
            | .tmp d => fr.putK (some d) (.c (.b true true)) F fun frT => quietC P orc tab s n [.code x] frT [] [] (fun xT lT nT =>
                fr.putK (some d) (.c (.b true false)) F fun frF => quietC P orc tab s n [.code y] frF [] [] (fun xF lF nF =>
                  cond (memN lT d || memN lF d) F (mergeK v xT xF lT fr F fun M => mergeK v xT xF lF M F fun M =>
                    joinNK v nT nF fun jn => quietC P orc tab s n k M (lT ++ (lF ++ lg)) (nd ++ jn) K F)) F) F
            | _ => F)
      | _ => F)
    | .code (.region _ ops draw) :: k =>
      cond draw
        (cond (Region.noSelect ops) (match sched ops ops.size (Array.replicate ops.size false) with
          | some l => quietOps P orc tab ops s n l fr lg nd (fun fr lg nd => quietC P orc tab s n k fr lg nd K F) F
          | none => F) F)
        (quietOps P orc tab ops s n ((List.range ops.size).map fun i => (i, .loud)) fr lg nd (fun fr lg nd => quietC P orc tab s n k fr lg nd K F) F)
    | _ => F
noncomputable def isCallV : Op → Bool | .call { callee := .value _, .. } => true | _ => false
noncomputable def calmOps (ops : Array Oper) : Bool := ops.toList.all fun o => kindPure o.op || kindLoad o.op || isCallV o.op
noncomputable def hasG (ops : Array Oper) : Bool := ops.toList.any fun o => o.guard.isSome
noncomputable def calm : Code → Bool
  | .skip => true
  | .label _ => true
  | .exit _ => true
  | .seq a b => calm a && calm b
  | .scope c => calm c
  | .block _ c => calm c
  | .cond _ x y => calm x && calm y
  | .region _ ops _ => calmOps ops
  | _ => false
noncomputable def joinK (P : PE) (orc : Orc) (tab : Tab) (n : Nat) (fr : Fr) (s : SW) (c : Operand) (v : Bool) (x y : Code) (K : Fr → Tree Lf) (old : Tree Lf) : Tree Lf :=
  match c with
  | .tmp d => fr.putK (some d) (.c (.b true true)) old fun frT => quietC P orc tab s n [.code x] frT [] [] (fun xT lT nT =>
      fr.putK (some d) (.c (.b true false)) old fun frF => quietC P orc tab s n [.code y] frF [] [] (fun xF lF nF =>
        cond (memN lT d || memN lF d) old (mergeK v xT xF lT fr old fun M => mergeK v xT xF lF M old fun M => joinNK v nT nF fun jn => needsT jn (K M))) old) old
  | _ => old

noncomputable def noCall {β : Type} : CallK β := fun _ _ _ _ => .fail
noncomputable def keepsOp (n : Nat) (fr : Fr) : Op → Bool
  | .store _ a _ => (match fr.ev a with | some (.c (.p b _)) => Nat.ble n b | _ => false)
  | .alloc _ => true
  | .box .. => true
  | .makeSlice .. => true
  | .load .. => true
  | .call { callee := .builtin .append, args, .. } => (match evs fr.ev args.toList with | some (.c (.x (.slice none _ _)) :: _) => true | _ => false)
  | _ => false
noncomputable def stepS (P : PE) (m : Nat) (ops : Array Oper) (i : Nat) (fr : Fr) (s : SW) : Option ((Fr × SW) × List Bool) := match ops[i]? with
  | none => none
  | some o => match o.guard with
    | some _ => none
    | none => match pureOpF P.toProgram fr.ev o.op with
      | some r => fr.putK o.dst r.v none fun fr' => some ((fr', s), r.nd)
      | none => match extOpF P.toProgram P.E s fr.ev o.op with
        | some r => fr.putK o.dst r.v none fun fr' => some ((fr', s), r.nd)
        | none => cond (keepsOp m fr o.op) (match heapOpF P.toProgram fr.ev s o.op with
          | some (v, s') => fr.putK o.dst v none fun fr' => some ((fr', s'), [])
          | none => (match rowNilO P.toProgram P.E fr.ev s o.op with
            | some (v, s', nd) => fr.putK o.dst v none fun fr' => some ((fr', s'), nd)
            | none => (match rowMkO P.toProgram P.E fr.ev s o.op with
              | some (v, s', nd) => fr.putK o.dst v none fun fr' => some ((fr', s'), nd)
              | none => none))) none
noncomputable def joinO {γ δ : Type} : Option (List γ × List δ) → Option (List γ × List δ) → Option (List γ × List δ)
  | some (A, x), some (B, y) => some (A ++ B, x ++ y)
  | _, _ => none
noncomputable def allOrd (P : PE) (m : Nat) (ops : Array Oper) : Nat → Array Bool → Fr → SW → Option (List (Fr × SW) × List Bool)
  | 0, listed, fr, s => (match Region.ready .any ops listed with | [] => some ([(fr, s)], []) | _ => none)
  | n + 1, listed, fr, s => match Region.ready .any ops listed with
    | [] => some ([(fr, s)], [])
    | i0 :: rs => (i0 :: rs).foldr (fun i acc => joinO (match stepS P m ops i fr s with | some (r, nd) => (match allOrd P m ops n (listed.setIfInBounds i true) r.1 r.2 with | some (A, x) => some (A, nd ++ x) | none => none) | none => none) acc) (some ([], []))
noncomputable def sgm (n : Nat) (π : List Nat) (i : Nat) : Nat := cond (Nat.blt i n) i (n + π.getD (i - n) 0)
noncomputable def permOK (π : List Nat) (m : Nat) : Bool := Nat.beq π.length m && (π.all fun x => Nat.blt x m) && decide π.Nodup
noncomputable def perms : Nat → List (List Nat)
  | 0 => [[]]
  | 1 => [[0]]
  | 2 => [[0, 1], [1, 0]]
  | 3 => [[0, 1, 2], [0, 2, 1], [1, 0, 2], [1, 2, 0], [2, 0, 1], [2, 1, 0]]
  | 4 => [[0, 1, 2, 3], [0, 2, 1, 3], [0, 3, 1, 2], [0, 2, 3, 1], [0, 1, 3, 2], [0, 3, 2, 1], [1, 0, 2, 3], [1, 0, 3, 2], [1, 2, 0, 3], [2, 0, 1, 3], [2, 1, 0, 3]]
  | _ => []
noncomputable def eqP (σ : Nat → Nat) : C → C → Option (List Bool)
  | .p b o, .p b' o' => cond (Nat.beq (σ b) b' && Nat.beq o o') (some []) none
  | .slc b o n c, .slc b' o' n' c' => cond (Nat.beq (σ b) b' && Nat.beq o o' && Nat.beq n n' && Nat.beq c c') (some []) none
  | .sla b o n c, .sla b' o' n' c' => cond (Nat.beq (σ b) b' && Nat.beq o o' && Nat.beq n n' && Nat.beq c c') (some []) none
  | .ifc t b o, .ifc t' b' o' => cond (Nat.beq t t' && Nat.beq (σ b) b' && Nat.beq o o') (some []) none
  | .rn b z n, .rn b' z' n' => cond (Nat.beq (σ b) b' && Nat.beq z z') (some [decide (n = n')]) none
  | .rs b z n, .rs b' z' n' => cond (Nat.beq (σ b) b' && Nat.beq z z') (some [decide (n = n')]) none
  | x, y => cond (x.ok 0) (eqC x y) none
noncomputable def eqPs (σ : Nat → Nat) : List C → List C → Option (List Bool)
  | [], [] => some []
  | x :: xs, y :: ys => (match eqP σ x y with | none => none | some a => (match eqPs σ xs ys with | none => none | some b => some (a ++ b)))
  | _, _ => none
noncomputable def eqPV (σ : Nat → Nat) : SV → SV → Option (List Bool)
  | .any, _ => some []
  | .c x, .c y => eqP σ x y
  | .a xs, .a ys => eqPs σ xs ys
  | .t [], .t [] => some []
  | _, _ => none
noncomputable def sameR (b b' : Bl) : Bool := @decide (b.cs = b'.cs) (Classical.propDecidable _) && okL 0 b.cs
noncomputable def eqPB (rt : Nat → Bool) (σ : Nat → Nat) (s' : SW) : Nat → SW → Option (List Bool)
  | _, [] => some []
  | k, b :: r => (match s'[σ k]? with
    | none => none
    | some b' => cond (rt b.ty) (cond (Nat.beq b.ty b'.ty) (match eqPB rt σ s' (k + 1) r with | none => none | some y => some (sameR b b' :: y)) none) (cond (Nat.beq b.ty b'.ty && (b.cs.isEmpty == b'.cs.isEmpty)) (match eqPs σ b.cs b'.cs with | none => none | some x => (match eqPB rt σ s' (k + 1) r with | none => none | some y => some (x ++ y))) none))
noncomputable def eqPF (σ : Nat → Nat) (f0 f : Fr) : List Nat → Option (List Bool)
  | [] => some []
  | t :: r => (match eqPV σ (f0.tr.get t) (f.tr.get t) with | none => none | some x => (match eqPF σ f0 f r with | none => none | some y => some (x ++ y)))
noncomputable def dstsOf (ops : Array Oper) : List Nat := ops.toList.filterMap (·.dst)
noncomputable def fixGo : Nat → Nat → List Nat → Bool
  | _, 0, _ => true
  | k, j + 1, x :: r => Nat.beq x k && fixGo (k + 1) j r
  | _, _ + 1, [] => false
noncomputable def sameEndP (rt : Nat → Bool) (n m : Nat) (D : List Nat) (r0 r : Fr × SW) (π : List Nat) : Option (List Bool) :=
  cond (permOK π (r0.2.length - m) && Nat.beq r.2.length r0.2.length && Nat.ble n r0.2.length && ((r0.2.drop m).all fun b => rt b.ty || okL r0.2.length b.cs) && (D.all fun t => (r0.1.tr.get t).ok r0.2.length) && fixGo 0 (n - m) π) (match eqPF (sgm m π) r0.1 r.1 D with | none => none | some x => (match eqPB rt (sgm m π) r.2 m (r0.2.drop m) with | none => none | some y => some (x ++ y))) none
noncomputable def firstO {α γ : Type} (f : α → Option γ) : List α → Option γ
  | [] => none
  | x :: r => (match f x with | some y => some y | none => firstO f r)
noncomputable def sameEnd (rt : Nat → Bool) (n m : Nat) (D : List Nat) (r0 r : Fr × SW) : Option (List Bool) := firstO (sameEndP rt n m D r0 r) (perms (r0.2.length - m))
noncomputable def sameEnds (rt : Nat → Bool) (n m : Nat) (D : List Nat) (r0 : Fr × SW) : List (Fr × SW) → Option (List Bool)
  | [] => some []
  | r :: rs => (match sameEnd rt n m D r0 r with | none => none | some x => (match sameEnds rt n m D r0 rs with | none => none | some y => some (x ++ y)))
noncomputable def anyOrd {β : Type} (P : PE) (ops : Array Oper) (k : Nat) (listed : Array Bool) (fr : Fr) (s : SW) (K : Fr → SW → Tree β) : Tree β :=
  forceN s.length fun n => match allOrd P n ops k listed fr s with
  | some (r0 :: rs, nd0) => (match sameEnds (rowTy P.h) n n (dstsOf ops) r0 (r0 :: rs) with | some nd => needsT (nd0 ++ nd) (K r0.1 r0.2) | none => .fail)
  | _ => .fail
noncomputable def anyOrdM {β : Type} (P : PE) (q : Nat) (ops : Array Oper) (k : Nat) (listed : Array Bool) (fr : Fr) (s : SW) (K : Fr → SW → Tree β) : Tree β :=
  forceN s.length fun n => forceN (s.length - q) fun m => match allOrd P m ops k listed fr s with
  | some (r0 :: rs, nd0) => (match sameEnds (rowTy P.h) n m (dstsOf ops) r0 (r0 :: rs) with | some nd => needsT (nd0 ++ nd) (K r0.1 r0.2) | none => .fail)
  | _ => .fail

noncomputable def operB {β : Type} (P : PE) (call : CallK β) (fl : Fl) (o : Oper) (fr : Fr) (s : SW) (K : SV → SW → Tree β) : Tree β :=
  match fl with
    | .pure => .fail
    | .load => (match o.op with
      | .load t x => (match fr.ev x with | some v => (match loadS P s t v with | some (u, _) => splitK P.h fr.nt o.dst u fun u => K u s | none => .fail) | none => .fail)
      | _ => .fail)
    | .loud => (match heapOp P fr.ev s o.op with
      | some (v, s') => K v s'
      | none => match o.op with
        | .call { callee := .value f, args, .. } => (match fr.ev f, evs fr.ev args.toList with
            | some (.c (.fn g)), some vs => call g vs s K
            | some (.c (.clo g caps)), some vs => cond (Nat.blt g CLOB) (call g (vs ++ caps.map fun p => .c (.p p.1 p.2)) s K) (call (decC g) ((caps.map fun p => .c (.p p.1 p.2)) ++ vs) s K)
            | _, _ => .fail)
        | .call { callee := .invoke recv name, args, .. } => (match fr.ev recv, evs fr.ev args.toList with
            | some (.c (.ifc t blk off)), some vs => (match methodS P t name with
              | some g => call g (.c (.p blk off) :: vs) s K
              | none => match methodV P t name with
                | some (g, el) => (match loadS P s el (.c (.p blk off)) with | some (u, _) => call g (u :: vs) s K | none => .fail)
                | none => .fail)
            | _, _ => .fail)
        | op => restK P op fr s K)
noncomputable def isLoudB : Fl → Bool | .loud => true | _ => false
noncomputable def operH {β : Type} (P : PE) (call : CallK β) (fl : Fl) (o : Oper) (fr : Fr) (s : SW) (K : SV → SW → Tree β) : Tree β :=
  @Bool.rec (fun _ => Tree β) (operB P call fl o fr s K) (@Option.rec (SV × SW) (fun _ => Tree β) (operB P call fl o fr s K) (fun r => @Prod.rec SV SW (fun _ => Tree β) (fun v s' => K v s') r) (heapOpF P fr.ev s o.op)) (isLoudB fl)
noncomputable def extK {β : Type} (fl : Fl) (r : R) (s : SW) (K : SV → SW → Tree β) : Tree β := match fl with | .pure => .fail | _ => needsT r.nd (K r.v s)
noncomputable def operF {β : Type} (P : PE) (call : CallK β) (fl : Fl) (o : Oper) (fr : Fr) (s : SW) (K : SV → SW → Tree β) : Tree β :=
  @Option.rec R (fun _ => Tree β) (@Option.rec R (fun _ => Tree β) (operH P call fl o fr s K) (fun r => extK fl r s K) (extOpF P.toProgram P.E s fr.ev o.op)) (fun r => needsT r.nd (splitF fl P.h fr.nt o.dst r.v fun v => K v s)) (pureOpF P.toProgram fr.ev o.op)
theorem operF_eq {β : Type} (P : PE) (call : CallK β) (fl : Fl) (o : Oper) (fr : Fr) (s : SW) (K : SV → SW → Tree β) : operF P call fl o fr s K = operK P call fl o fr s K := by
  unfold operF operK
  rw [pureOpF_eq, extOpF_eq]
  cases pureOp P.toProgram fr.ev o.op with
  | some r => rfl
  | none =>
    cases extOp P.toProgram P.E s fr.ev o.op with
    | some r => rfl
    | none =>
      show operH P call fl o fr s K = operB P call fl o fr s K
      unfold operH
      rw [heapOpF_eq]
      cases fl
      · show (@Option.rec (SV × SW) (fun _ => Tree β) (operB P call .loud o fr s K) (fun r => @Prod.rec SV SW (fun _ => Tree β) (fun v s' => K v s') r) (heapOp P fr.ev s o.op)) = _
        unfold operB
        cases heapOp P.toProgram fr.ev s o.op with
        | none => rfl
        | some r => cases r; rfl
      · rfl
      · rfl
noncomputable def guardF {β : Type} (ops : Array Oper) (o : Oper) (fr : Fr) (K : Bool → Fr → Tree β) : Tree β :=
  @Option.rec (Nat × Bool) (fun _ => Tree β) (K true fr) (fun _ => guardK ops o fr K) o.guard
theorem guardF_eq {β : Type} (ops : Array Oper) (o : Oper) (fr : Fr) (K : Bool → Fr → Tree β) : guardF ops o fr K = guardK ops o fr K := by
  unfold guardF
  cases h : o.guard with
  | some g => rfl
  | none => unfold guardK; rw [h]
noncomputable def opStep {β : Type} (P : PE) (call : CallK β) (ops : Array Oper) (ip : Nat × Fl) (go : Fr → SW → Tree β) (fr : Fr) (s : SW) : Tree β :=
  @Option.rec Oper (fun _ => Tree β) .fail (fun o => guardF ops o fr fun wanted fr => @Bool.rec (fun _ => Tree β) (fr.putK o.dst undefS .fail fun fr' => go fr' s) (operF P call ip.2 o fr s fun v s' => fr.putK o.dst v .fail fun fr' => go fr' s') wanted) (ops[ip.1]?)
noncomputable def opsF {β : Type} (P : PE) (call : CallK β) (ops : Array Oper) (l : List (Nat × Fl)) (fr : Fr) (s : SW) (K : Fr → SW → Tree β) : Tree β :=
  @List.rec (Nat × Fl) (fun _ => Fr → SW → Tree β) (fun fr s => K fr s) (fun ip _ ih fr s => opStep P call ops ip ih fr s) l fr s
theorem opsF_eq {β : Type} (P : PE) (call : CallK β) (ops : Array Oper) (l : List (Nat × Fl)) : ∀ (fr : Fr) (s : SW) (K : Fr → SW → Tree β), opsF P call ops l fr s K = opsK P call ops l fr s K := by
  induction l with
  | nil => intros; rfl
  | cons ip r ih =>
    intro fr s K
    show opStep P call ops ip (fun fr s => opsF P call ops r fr s K) fr s = _
    obtain ⟨i, p⟩ := ip
    unfold opStep
    simp only [opsK, guardF_eq, operF_eq, ih, bool_rec_cond]
    cases ops[i]? <;> rfl

noncomputable def opStepL {β : Type} (P : PE) (call : CallK β) (ops : Array Oper) (o : Oper) (go : Fr → SW → Tree β) (fr : Fr) (s : SW) : Tree β :=
  guardF ops o fr fun wanted fr => @Bool.rec (fun _ => Tree β) (fr.putK o.dst undefS .fail fun fr' => go fr' s) (operF P call .loud o fr s fun v s' => fr.putK o.dst v .fail fun fr' => go fr' s') wanted
noncomputable def lineF {β : Type} (P : PE) (call : CallK β) (ops : Array Oper) (l : List Oper) (fr : Fr) (s : SW) (K : Fr → SW → Tree β) : Tree β :=
  @List.rec Oper (fun _ => Fr → SW → Tree β) (fun fr s => K fr s) (fun o _ ih fr s => opStepL P call ops o ih fr s) l fr s
theorem lineF_go {β : Type} (P : PE) (call : CallK β) (ops : Array Oper) : ∀ (l : List Oper) (k : Nat), ops.toList.drop k = l → ∀ (fr : Fr) (s : SW) (K : Fr → SW → Tree β), lineF P call ops l fr s K = opsK P call ops ((List.range' k l.length).map fun i => (i, .loud)) fr s K
  | [], k, _, fr, s, K => rfl
  | o :: l, k, h, fr, s, K => by
    have ho : ops[k]? = some o := by
      have := congrArg List.head? h
      rw [List.head?_drop] at this
      simpa using this
    have hl : ops.toList.drop (k + 1) = l := by rw [← List.tail_drop, h]; rfl
    show opStepL P call ops o (fun fr s => lineF P call ops l fr s K) fr s = _
    unfold opStepL
    simp only [List.length_cons, List.range'_succ, List.map_cons, opsK, ho, guardF_eq, operF_eq, bool_rec_cond, lineF_go P call ops l (k + 1) hl]
theorem lineF_eq {β : Type} (P : PE) (call : CallK β) (ops : Array Oper) (fr : Fr) (s : SW) (K : Fr → SW → Tree β) : lineF P call ops ops.toList fr s K = opsK P call ops ((List.range ops.size).map fun i => (i, .loud)) fr s K := by
  rw [lineF_go P call ops ops.toList 0 rfl, List.range_eq_range']; rfl

noncomputable def callR (P : PE) (orc : Orc) (tab : Tab) (go : Nat → List Item → Fr → SW → Tree Lf) : CallK Lf := fun g vs s K => match tab g with
  | none => .fail
  | some fn => match orc g vs s with
    | some t => t.bind fun r => K r.1 r.2
    | none => match fn.body with
      | none => .fail
      | some c => cond (Nat.ble vs.length fn.ntmps) (mkFrK (Tr.mk 12) 0 vs fun t =>
          (go 0 [.code c] ⟨fn.ntmps, t⟩ s).bind fun lf => cond lf.ended (match results1 P fn lf.fr lf.s with | some v => K v lf.s | none => .fail) .fail) .fail
noncomputable def callCR (P : PE) (orc : Orc) (tab : Tab) (go : Nat → List Item → Fr → SW → Tree Lf) : CallC Lf := fun g vs K => match tab g with
  | none => .fail
  | some fn => match orc g vs [] with
    | some t => t.bind fun r => cond (r.1.ok 0) (K r.1) .fail
    | none => match fn.body with
      | none => .fail
      | some c => cond (Nat.ble vs.length fn.ntmps) (mkFrK (Tr.mk 12) 0 vs fun t =>
          (go 0 [.code c] ⟨fn.ntmps, t⟩ []).bind fun lf => cond lf.ended (match results1 P fn lf.fr lf.s with | some v => cond (v.ok 0) (K v) .fail | none => .fail) .fail) .fail
noncomputable def hasConv (P : PE) (ops : Array Oper) : Bool := cond (hintOf P.h 0 3).isSome (ops.toList.any fun o => match o.op with | .convert src _ _ => (match P.underlying src with | some (.slice _) => true | _ => false) | _ => false) false
noncomputable def schedV (P : PE) (ops : Array Oper) : Option (List (Nat × Fl)) := cond (hasConv P ops) none (sched ops ops.size (Array.replicate ops.size false))
theorem schedV_eq {P : PE} {ops : Array Oper} {l : List (Nat × Fl)} (h : schedV P ops = some l) : sched ops ops.size (Array.replicate ops.size false) = some l := by
  unfold schedV at h
  cases hc : hasConv P ops <;> rw [hc] at h
  · exact h
  · cases h
noncomputable def scanB (P : PE) (ops : Array Oper) (l : List (Nat × Fl)) (fr : Fr) (s : SW) : List Nat := cond (cvH P && !(l.any fun x => isLoud x.2)) (List.range s.length) (scanY P ops l fr s (rowsB (rowY P.h) 0 s))
noncomputable def drawR (P : PE) (orc : Orc) (tab : Tab) (n : Nat) (go : Nat → List Item → Fr → SW → Tree Lf) (ops : Array Oper) (fr : Fr) (s : SW) (K : Fr → SW → Tree Lf) : Tree Lf :=
  cond (Region.noSelect ops) (match schedV P ops with
    | some l => cond (P.m && (hasG ops && calmOps ops)) (quietOps P orc tab ops s n l fr [] [] (fun fr' _ nd => needsT nd (K fr' s)) (opsF P (callR P orc tab go) ops l fr s K))
        (opsF P (callR P orc tab go) ops l fr s K)
    | none => match hintOf P.h fr.nt 6000 with
      | some q => anyOrdM P q ops ops.size (Array.replicate ops.size false) fr s K
      | none => match yHint P ops with
      | some l => maskK (scanB P ops l fr s) 0 s fun sB => opsY P (callR P orc tab go) ops l fr s sB K
      | none => match zHint P ops with
      | some (l, k', listed) => maskK (scanB P ops l fr s) 0 s fun sB => opsY P (callR P orc tab go) ops l fr s sB fun fr' s' => anyOrd P ops k' listed fr' s' K
      | none => match schedC mildD ops false ops.size (Array.replicate ops.size false) with
      | some l => opsD P (callR P orc tab go) ops l fr s K
      | none => match schedC mildAt ops (hintOf P.h 0 4).isSome ops.size (Array.replicate ops.size false) with
        | some l => opsC P (callCR P orc tab go) (callR P orc tab go) ops l fr s K
        | none => match schedH mildAt ops ops.size (Array.replicate ops.size false) with
          | (l, k', listed) => opsC P (callCR P orc tab go) (callR P orc tab go) ops l fr s fun fr' s' => anyOrd P ops k' listed fr' s' K) .fail
noncomputable def lineR (P : PE) (orc : Orc) (tab : Tab) (n : Nat) (go : Nat → List Item → Fr → SW → Tree Lf) (ops : Array Oper) (fr : Fr) (s : SW) (K : Fr → SW → Tree Lf) : Tree Lf :=
  cond (P.m && (hasG ops && calmOps ops)) (quietOps P orc tab ops s n ((List.range ops.size).map fun i => (i, .loud)) fr [] [] (fun fr' _ nd => needsT nd (K fr' s)) (lineF P (callR P orc tab go) ops ops.toList fr s K))
    (lineF P (callR P orc tab go) ops ops.toList fr s K)
noncomputable def testR (P : PE) (orc : Orc) (tab : Tab) (n : Nat) (lit v : Bool) (c : Operand) (x y : Code) (fr : Fr) (s : SW) (K Kx Ky : Fr → Tree Lf) : Tree Lf :=
  cond lit (cond v (Kx fr) (Ky fr))
    (cond (P.m && (calm x && calm y)) (joinK P orc tab n fr s c v x y K (forkK fr c v Kx Ky)) (forkK fr c v Kx Ky))

noncomputable def loopR (go : List Item → Fr → SW → Tree Lf) (brk : Nat) (fr : Fr) (s : SW) (k : List Item) (c : Code) : Tree Lf :=
  cond (Nat.beq (Nat.land 1 (Nat.shiftRight brk k.length)) 1) (.leaf ⟨.code c :: .inLoop c :: k, false, fr, s⟩) (go (.code c :: .inLoop c :: k) fr s)
noncomputable def exitR (go : List Item → Fr → SW → Tree Lf) (fr : Fr) (s : SW) (k : List Item) (id : Nat) : Tree Lf := match exitTo id k with | some k' => go k' fr s | none => .fail
noncomputable def condR (P : PE) (orc : Orc) (tab : Tab) (n : Nat) (go : List Item → Fr → SW → Tree Lf) (fr : Fr) (s : SW) (k : List Item) (c : Operand) (x y : Code) : Tree Lf := match fr.ev c with
  | some (.c (.b lit v)) => testR P orc tab n lit v c x y fr s (fun fr => go k fr s) (fun fr => go (.code x :: k) fr s) (fun fr => go (.code y :: k) fr s)
  | _ => .fail
noncomputable def regR (P : PE) (orc : Orc) (tab : Tab) (n : Nat) (go : Nat → List Item → Fr → SW → Tree Lf) (brk : Nat) (fr : Fr) (s : SW) (k : List Item) (ops : Array Oper) (draw : Bool) : Tree Lf :=
  @Bool.rec (fun _ => Tree Lf) (lineR P orc tab n go ops fr s (fun fr' s' => go brk k fr' s')) (drawR P orc tab n go ops fr s (fun fr' s' => go brk k fr' s')) draw
noncomputable def codeR (P : PE) (orc : Orc) (tab : Tab) (n : Nat) (go : Nat → List Item → Fr → SW → Tree Lf) (brk : Nat) (fr : Fr) (s : SW) (k : List Item) (c : Code) : Tree Lf :=
  @Code.casesOn (fun _ => Tree Lf) c (go brk k fr s) (fun _ ops draw => regR P orc tab n go brk fr s k ops draw) (fun a b => go brk (.code a :: .code b :: k) fr s) (fun c x y => condR P orc tab n (go brk) fr s k c x y)
    (fun id c => go brk (.code c :: .inBlock id :: k) fr s) (fun c => loopR (go brk) brk fr s k c) (fun _ _ _ _ => .fail) (fun id => exitR (go brk) fr s k id) (fun c => go brk (.code c :: .inScope c :: k) fr s) (fun _ => go brk k fr s) (fun _ => .fail) (.leaf ⟨[], true, fr, s⟩) (fun _ => .fail)
noncomputable def itemR (P : PE) (orc : Orc) (tab : Tab) (n : Nat) (go : Nat → List Item → Fr → SW → Tree Lf) (brk : Nat) (fr : Fr) (s : SW) (k : List Item) (it : Item) : Tree Lf :=
  @Item.casesOn (fun _ => Tree Lf) it (fun c => codeR P orc tab n go brk fr s k c) (fun _ => go brk k fr s) (fun c => loopR (go brk) brk fr s k c) (fun _ => go brk k fr s) (fun _ _ => .fail) (fun _ => .fail) (fun _ => .fail) .fail (fun _ _ _ _ => .fail) (fun _ _ => .fail)
noncomputable def run (P : PE) (orc : Orc) (tab : Tab) : Nat → Nat → List Item → Fr → SW → Tree Lf
  | 0, _, _, _, _ => .fail
  | n + 1, brk, todo, fr, s => match todo with
    | [] => .leaf ⟨[], true, fr, s⟩
    | it :: k => itemR P orc tab n (fun b t f m => run P orc tab n b t f m) brk fr s k it
theorem run_def (P : PE) (orc : Orc) (tab : Tab) (n brk : Nat) (todo : List Item) (fr : Fr) (s : SW) : run P orc tab (n + 1) brk todo fr s = (match todo with
    | [] => .leaf ⟨[], true, fr, s⟩
    | .code .ret :: _ => .leaf ⟨[], true, fr, s⟩
    | .code .skip :: k => run P orc tab n brk k fr s
    | .code (.label _) :: k => run P orc tab n brk k fr s
    | .inBlock _ :: k => run P orc tab n brk k fr s
    | .inScope _ :: k => run P orc tab n brk k fr s
    | .code (.seq a b) :: k => run P orc tab n brk (.code a :: .code b :: k) fr s
    | .code (.scope c) :: k => run P orc tab n brk (.code c :: .inScope c :: k) fr s
    | .code (.block id c) :: k => run P orc tab n brk (.code c :: .inBlock id :: k) fr s
    | .code (.loop c) :: k => cond (Nat.beq (Nat.land 1 (Nat.shiftRight brk k.length)) 1) (.leaf ⟨.code c :: .inLoop c :: k, false, fr, s⟩) (run P orc tab n brk (.code c :: .inLoop c :: k) fr s)
    | .inLoop c :: k => cond (Nat.beq (Nat.land 1 (Nat.shiftRight brk k.length)) 1) (.leaf ⟨.code c :: .inLoop c :: k, false, fr, s⟩) (run P orc tab n brk (.code c :: .inLoop c :: k) fr s)
    | .code (.exit id) :: k => (match exitTo id k with | some k' => run P orc tab n brk k' fr s | none => .fail)
    | .code (.cond c x y) :: k => (match fr.ev c with
      | some (.c (.b lit v)) => testR P orc tab n lit v c x y fr s (fun fr => run P orc tab n brk k fr s) (fun fr => run P orc tab n brk (.code x :: k) fr s) (fun fr => run P orc tab n brk (.code y :: k) fr s)
      | _ => .fail)
    | .code (.region _ ops draw) :: k =>
      cond draw (drawR P orc tab n (fun b t f m => run P orc tab n b t f m) ops fr s (fun fr' s' => run P orc tab n brk k fr' s'))
        (lineR P orc tab n (fun b t f m => run P orc tab n b t f m) ops fr s (fun fr' s' => run P orc tab n brk k fr' s'))
    | _ => .fail) := by
  cases todo with
  | nil => rfl
  | cons it k =>
    cases it with
    | code c => cases c with
      | region id ops draw => cases draw <;> rfl
      | _ => rfl
    | _ => rfl
end Go.Proofs.Ytdomhmajoclpeaa.Ev

namespace Go.Proofs.Ytdomhmajoclpeaa.Ev
open Go
section
variable {P : PE} {W : World} {L : Nat → Prop}

structure St (E W : World) (L : Nat → Prop) (n : Nat) (ρ0 ρ : Rh) (s : SW) (w : World) : Prop where
  agree : Agree n ρ0 ρ
  le : n ≤ s.length
  inv : Inv E W L ρ s w

theorem St.trans {E : World} {n : Nat} {ρ0 ρ ρ' : Rh} {s s' : SW} {w w' : World} (h : St E W L n ρ0 ρ s w) (hag : Agree s.length ρ ρ') (hle : s.length ≤ s'.length)
    (hI : Inv E W L ρ' s' w') : St E W L n ρ0 ρ' s' w' := ⟨h.agree.trans hag h.le, Nat.le_trans h.le hle, hI⟩

theorem FrRel.ev {n : Nat} {ρ : Rh} {f : Fr} {a : Act} (h : FrRel n ρ f a) (x : Operand) (y : SV) (hx : f.ev x = some y) : a.eval x = y.den ρ ∧ y.ok n = true := by
  cases x with
  | tmp t => exact ⟨(h.get hx).1, (h.get hx).2.1⟩
  | const v => simp [Fr.ev] at hx; subst hx; exact ⟨(ofVal_den ρ v).symm, ofVal_ok n v⟩
  | func g => simp [Fr.ev] at hx; subst hx; exact ⟨rfl, rfl⟩
  | global g => simp [Fr.ev] at hx; subst hx; exact ⟨by simp [Act.eval, SV.den, C.den, Addr.add_lit], rfl⟩

theorem putK_sound {β : Type} {n : Nat} {ρ : Rh} {f : Fr} {a : Act} (h : FrRel n ρ f a) {dst : Option Nat} {v : SV} {K : Fr → Tree β} {post : β → Prop} (hv : v.ok n = true)
    (ht : (f.putK dst v .fail K).OK post) : ∃ f', FrRel n ρ f' (a.put dst (v.den ρ)) ∧ (K f').OK post := by
  rw [Fr.putK_def] at ht
  cases dst with
  | none => exact ⟨f, h, ht⟩
  | some d =>
    simp only at ht
    cases hc : Nat.blt d f.nt && f.tr.has d <;> simp only [hc, cond_true, cond_false] at ht
    · exact ht.elim
    · simp only [Bool.and_eq_true] at hc
      rw [Tr.setK_eq] at ht
      exact ⟨_, h.put (Nat.le_of_ble_eq_true hc.1) hc.2 hv, ht⟩

noncomputable def CallOK (P : PE) (W : World) (L : Nat → Prop) {β : Type} (call : CallK β) : Prop :=
  ∀ (g : FuncId) (vs : List SV) (s : SW) (K : SV → SW → Tree β) (post : β → Prop) (ρ : Rh) (w : World),
    (call g vs s K).OK post → Inv P.E W L ρ s w → (∀ v ∈ vs, v.ok s.length = true) →
    (∀ w, (callFunc g ((vs.map (SV.den ρ)).toArray)).run P w = .ok (.enter g (vs.map (SV.den ρ)).toArray) w) ∧
    Calls P g (vs.map (SV.den ρ)).toArray w fun e w' => ∃ v s' ρ', e = .returned (v.den ρ') ∧ Agree s.length ρ ρ' ∧ s.length ≤ s'.length ∧ v.ok s'.length = true ∧
      Inv P.E W L ρ' s' w' ∧ (K v s').OK post

variable {β : Type} {post : β → Prop}

theorem wpOp_run {ops : Array Oper} {Q : Exit → Act → World → Prop} {i : Nat} {o : Oper} {K : Act → World → Prop} {a : Act} {w : World} (hi : ops[i]? = some o)
    (hw : Region.wanted o (yielded ops a.tmps) = true) (h : o.wp P a w K Q) : wpOp P ops Q i K a w := by
  unfold wpOp; simp only [hi, hw, if_true]; exact .inl h

theorem wpOp_skip {ops : Array Oper} {Q : Exit → Act → World → Prop} {i : Nat} {o : Oper} {K : Act → World → Prop} {a : Act} {w : World} (hi : ops[i]? = some o)
    (hw : Region.wanted o (yielded ops a.tmps) = false) (h : K (a.put o.dst undef) w) : wpOp P ops Q i K a w := by
  unfold wpOp; simp only [hi, hw, Bool.false_eq_true, if_false]; exact h

theorem call_first {P : Program} {ev : Operand → Value} {f : Operand} {args : Array Operand} {argTypes : Array TypeId} {g : FuncId} {A : Array Value} {w : World} {dst : Option Tmp} {type : TypeId} {pos : String} {after : Array Edge} {guard : Option (Nat × Bool)}
    (h1 : ev f = .func (.func g) A #[]) (h2 : (callFunc g (A ++ args.map ev)).run P w = .ok (.enter g (A ++ args.map ev)) w) : (execOp ev ⟨dst, .call { callee := .value f, args := args, argTypes := argTypes }, type, pos, after, guard⟩).run P w = .ok (.enter g (A ++ args.map ev)) w := by
  simp only [execOp, resolve, h1, Deferred.ofValue, Sem.run_bind, Sem.run_pure, Result.andThen_ok, invoke, Array.append_empty]
  exact h2
theorem operK_sound {call : CallK β} (hcall : CallOK P W L call) {o : Oper} {fr : Fr} {s : SW} {K : SV → SW → Tree β} {ρ : Rh} {a : Act} {w : World}
    (ht : (operK P call .loud o fr s K).OK post) (hf : FrRel s.length ρ fr a) (hI : Inv P.E W L ρ s w) {Kp : Act → World → Prop} {Q : Exit → Act → World → Prop}
    (hK : ∀ v s' ρ' w', (K v s').OK post → Agree s.length ρ ρ' → s.length ≤ s'.length → v.ok s'.length = true → Inv P.E W L ρ' s' w' → Kp (a.put o.dst (v.den ρ')) w') :
    o.wp P a w Kp Q := by
  have hev := fun x y h => FrRel.ev hf x y h
  unfold operK at ht
  split at ht
  · rename_i r hr
    have hn := needsT_OK ht
    have hp := pureOp_sound hev hr hn.1
    obtain ⟨v', d1, d2, d3⟩ := splitK_OK (show (splitK P.h fr.nt o.dst r.v fun v => K v s).OK post from hn.2)
    unfold Oper.wp
    rw [hp.1 w, ← d1]
    exact hK _ _ _ _ d3 (Agree.refl _ _) (Nat.le_refl _) (d2 _ hp.2) hI
  split at ht
  · rename_i r hr
    simp only at ht
    have hn := needsT_OK ht
    have hp := extOp_sound hI hev hr hn.1
    unfold Oper.wp
    rw [hp.1]
    exact hK _ _ _ _ hn.2 (Agree.refl _ _) (Nat.le_refl _) (hp.2 _) hI
  · simp only at ht
    split at ht
    · rename_i v s' hh
      obtain ⟨ρ', w', nx, hag, hle, hok, hrun, hI', hnx⟩ := heapOp_sound hI hev hh
      unfold Oper.wp
      rw [hrun]
      rcases hnx with rfl | ⟨rfl, rfl⟩
      · exact hK _ _ _ _ ht hag hle hok hI'
      · have := hK _ _ _ _ ht hag hle hok hI'
        rw [undefS_den] at this
        exact this
    · split at ht
      · rename_i f args argTypes ho
        split at ht
        · rename_i g vs hg hvs
          have h1 := hev _ _ hg
          have h2 := evs_sound hev _ _ hvs
          obtain ⟨hcf, hc⟩ := hcall g vs s K post ρ w ht hI h2.2
          have hargs : args.map a.eval = (vs.map (SV.den ρ)).toArray := Array.ext' (by rw [Array.toList_map, h2.1])
          unfold Oper.wp
          have hx : (execOp a.eval o).run P w = .ok (.enter g (vs.map (SV.den ρ)).toArray) w := by
            obtain ⟨dst, op, type, pos, after, guard⟩ := o
            simp only at ho
            subst ho
            have h1' : a.eval f = .func (.func g) #[] #[] := h1.1
            simp only [execOp, resolve, hargs, h1', Deferred.ofValue, Sem.run_bind, Sem.run_pure, Result.andThen_ok, invoke]
            simpa using hcf w
          rw [hx]
          refine Calls.mono hc ?_
          rintro e w' ⟨v, s', ρ', rfl, hag, hle, hok, hI', hk⟩
          exact hK _ _ _ _ hk hag hle hok hI'
        · rename_i g caps vs hg hvs
          have h1 := hev _ _ hg
          have h2 := evs_sound hev _ _ hvs
          cases hb : Nat.blt g CLOB <;> simp only [hb, cond_true, cond_false] at ht
          · have hge := @cloV_ge g (caps.map fun p => Value.pointer (some ⟨ρ p.1, p.2, none⟩)).toArray hb
            generalize decC g = g' at ht hge
            have hok2 : ∀ v ∈ caps.map (fun p => SV.c (.p p.1 p.2)) ++ vs, v.ok s.length = true := by
              intro v hv
              rcases List.mem_append.1 hv with hv | hv
              · obtain ⟨p, hp, rfl⟩ := List.mem_map.1 hv
                exact List.all_eq_true.1 h1.2 p hp
              · exact h2.2 v hv
            obtain ⟨hcf, hc⟩ := hcall g' _ s K post ρ w ht hI hok2
            have hargs : (caps.map fun p => Value.pointer (some ⟨ρ p.1, p.2, none⟩)).toArray ++ args.map a.eval = ((caps.map (fun p => SV.c (.p p.1 p.2)) ++ vs).map (SV.den ρ)).toArray := by
              apply Array.ext'
              simp only [Array.toList_append, Array.toList_map, h2.1, List.map_append, List.map_map]
              rfl
            unfold Oper.wp
            have hx : (execOp a.eval o).run P w = .ok (.enter g' ((caps.map (fun p => SV.c (.p p.1 p.2)) ++ vs).map (SV.den ρ)).toArray) w := by
              obtain ⟨dst, op, type, pos, after, guard⟩ := o
              simp only at ho
              subst ho
              have h1' : a.eval f = .func (.func g') (caps.map fun p => Value.pointer (some ⟨ρ p.1, p.2, none⟩)).toArray #[] := den_clo h1.1 hge
              have hcf' := hcf w
              clear hge ht hI hok2 hc h1 h2
              generalize (caps.map fun p => Value.pointer (some ⟨ρ p.1, p.2, none⟩)).toArray = A at hargs h1'
              generalize ((caps.map (fun p => SV.c (.p p.1 p.2)) ++ vs).map (SV.den ρ)).toArray = B at hargs hcf' ⊢
              subst hargs
              exact call_first h1' hcf'
            rw [hx]
            refine Calls.mono hc ?_
            rintro e w' ⟨v, s', ρ', rfl, hag, hle, hok, hI', hk⟩
            exact hK _ _ _ _ hk hag hle hok hI'
          have hok2 : ∀ v ∈ vs ++ caps.map (fun p => SV.c (.p p.1 p.2)), v.ok s.length = true := by
            intro v hv
            rcases List.mem_append.1 hv with hv | hv
            · exact h2.2 v hv
            · obtain ⟨p, hp, rfl⟩ := List.mem_map.1 hv
              exact List.all_eq_true.1 h1.2 p hp
          obtain ⟨hcf, hc⟩ := hcall g _ s K post ρ w ht hI hok2
          have hargs : args.map a.eval ++ (caps.map fun p => Value.pointer (some ⟨ρ p.1, p.2, none⟩)).toArray = ((vs ++ caps.map (fun p => SV.c (.p p.1 p.2))).map (SV.den ρ)).toArray := by
            apply Array.ext'
            simp only [Array.toList_append, Array.toList_map, h2.1, List.map_append, List.map_map]
            rfl
          unfold Oper.wp
          have hx : (execOp a.eval o).run P w = .ok (.enter g ((vs ++ caps.map (fun p => SV.c (.p p.1 p.2))).map (SV.den ρ)).toArray) w := by
            obtain ⟨dst, op, type, pos, after, guard⟩ := o
            simp only at ho
            subst ho
            have h1' : a.eval f = .func (.func g) #[] (caps.map fun p => Value.pointer (some ⟨ρ p.1, p.2, none⟩)).toArray := den_clo h1.1 (cloV_lt hb)
            simp only [execOp, resolve, h1', Deferred.ofValue, Sem.run_bind, Sem.run_pure, Result.andThen_ok, invoke]
            rw [show (#[] ++ args.map a.eval : Array Value) = args.map a.eval by simp, hargs]
            exact hcf w
          rw [hx]
          refine Calls.mono hc ?_
          rintro e w' ⟨v, s', ρ', rfl, hag, hle, hok, hI', hk⟩
          exact hK _ _ _ _ hk hag hle hok hI'
        · exact ht.elim
      · rename_i recv name args argTypes ho
        split at ht
        · rename_i t blk off vs hg hvs
          split at ht
          · rename_i g hm
            have h1 := hev _ _ hg
            have h2 := evs_sound hev _ _ hvs
            have hok2 : ∀ v ∈ SV.c (.p blk off) :: vs, v.ok s.length = true := by
              intro v hv
              rcases List.mem_cons.1 hv with rfl | hv
              · exact h1.2
              · exact h2.2 v hv
            obtain ⟨hcf, hc⟩ := hcall g _ s K post ρ w ht hI hok2
            have hargs : args.map a.eval = (vs.map (SV.den ρ)).toArray := Array.ext' (by rw [Array.toList_map, h2.1])
            have hrecv : a.eval recv = .iface t (.pointer (some ⟨ρ blk, off, none⟩)) := h1.1
            unfold Oper.wp
            have hx : (execOp a.eval o).run P w = .ok (.enter g ((SV.c (.p blk off) :: vs).map (SV.den ρ)).toArray) w := by
              obtain ⟨dst, op, type, pos, after, guard⟩ := o
              simp only at ho
              subst ho
              simp only [execOp, resolve, hargs, hrecv, Sem.run_bind, Sem.run_pure, Result.andThen_ok, invoke]
              have e0 : (#[Value.iface t (.pointer (some ⟨ρ blk, off, none⟩))] ++ (vs.map (SV.den ρ)).toArray : Array Value)[0]? = some (.iface t (.pointer (some ⟨ρ blk, off, none⟩))) := by simp
              have e1 : (#[Value.iface t (.pointer (some ⟨ρ blk, off, none⟩))] ++ (vs.map (SV.den ρ)).toArray : Array Value).extract 1 (#[Value.iface t (.pointer (some ⟨ρ blk, off, none⟩))] ++ (vs.map (SV.den ρ)).toArray : Array Value).size = (vs.map (SV.den ρ)).toArray := by
                apply Array.ext'
                simp
                exact List.take_of_length_le (by simp)
              simp only [e0, e1, run_callMethod hm]
              have := hcf w
              simp only [List.map_cons] at this
              rw [show (#[Value.pointer (some ⟨ρ blk, off, none⟩)] ++ (vs.map (SV.den ρ)).toArray : Array Value) = (SV.den ρ (SV.c (.p blk off)) :: vs.map (SV.den ρ)).toArray by apply Array.ext'; simp [SV.den, C.den]]
              exact this
            rw [hx]
            refine Calls.mono hc ?_
            rintro e w' ⟨v, s', ρ', rfl, hag, hle, hok, hI', hk⟩
            exact hK _ _ _ _ hk hag hle hok hI'
          · split at ht
            · rename_i g el hm
              split at ht
              · rename_i u s2 hl
                have h1 := hev _ _ hg
                have hld := loadS_sound hI hl h1.2
                have hlv : (loadVar el ⟨ρ blk, off, none⟩).run P w = .ok (u.den ρ) w := by
                  have := hld.2.2
                  simp only [SV.den, C.den, Instr.loadAt, Instr.sureAddr, Sem.run_bind, Sem.run_pure, Result.andThen_ok] at this
                  exact this
                have h2 := evs_sound hev _ _ hvs
                have hok2 : ∀ v ∈ u :: vs, v.ok s.length = true := by
                  intro v hv
                  rcases List.mem_cons.1 hv with rfl | hv
                  · exact hld.2.1
                  · exact h2.2 v hv
                obtain ⟨hcf, hc⟩ := hcall g _ s K post ρ w ht hI hok2
                have hargs : args.map a.eval = (vs.map (SV.den ρ)).toArray := Array.ext' (by rw [Array.toList_map, h2.1])
                have hrecv : a.eval recv = .iface t (.pointer (some ⟨ρ blk, off, none⟩)) := h1.1
                unfold Oper.wp
                have hx : (execOp a.eval o).run P w = .ok (.enter g ((u :: vs).map (SV.den ρ)).toArray) w := by
                  obtain ⟨dst, op, type, pos, after, guard⟩ := o
                  simp only at ho
                  subst ho
                  simp only [execOp, resolve, hargs, hrecv, Sem.run_bind, Sem.run_pure, Result.andThen_ok, invoke]
                  have e0 : (#[Value.iface t (.pointer (some ⟨ρ blk, off, none⟩))] ++ (vs.map (SV.den ρ)).toArray : Array Value)[0]? = some (.iface t (.pointer (some ⟨ρ blk, off, none⟩))) := by simp
                  have e1 : (#[Value.iface t (.pointer (some ⟨ρ blk, off, none⟩))] ++ (vs.map (SV.den ρ)).toArray : Array Value).extract 1 (#[Value.iface t (.pointer (some ⟨ρ blk, off, none⟩))] ++ (vs.map (SV.den ρ)).toArray : Array Value).size = (vs.map (SV.den ρ)).toArray := by
                    apply Array.ext'
                    simp
                    exact List.take_of_length_le (by simp)
                  simp only [e0, e1, run_callMethodV hm _ _ _ _ hlv]
                  have := hcf w
                  simp only [List.map_cons] at this
                  rw [show (#[u.den ρ] ++ (vs.map (SV.den ρ)).toArray : Array Value) = (SV.den ρ u :: vs.map (SV.den ρ)).toArray by apply Array.ext'; simp [SV.den, C.den]]
                  exact this
                rw [hx]
                refine Calls.mono hc ?_
                rintro e w' ⟨v, s', ρ', rfl, hag, hle, hok, hI', hk⟩
                exact hK _ _ _ _ hk hag hle hok hI'
              · exact ht.elim
            · exact ht.elim
        · exact ht.elim
      · unfold restK at ht
        split at ht
        · rename_i nd v s' hh
          have hn := needsT_OK ht
          obtain ⟨ρ', w', nx, hag, hle, hok, hrun, hI', hnx⟩ := rowOp_sound hI hev hh hn.1
          unfold Oper.wp
          rw [hrun]
          rcases hnx with rfl | ⟨rfl, rfl⟩
          · exact hK _ _ _ _ hn.2 hag hle hok hI'
          · have := hK _ _ _ _ hn.2 hag hle hok hI'
            rw [undefS_den] at this
            exact this
        unfold idxK at ht
        split at ht
        · rename_i t x ix ho
          split at ht
          · rename_i xv k i hx hix
            have h1 := hev _ _ hx
            have h2 := hev _ _ hix
            have fin : ∀ (len : Nat), (chain i (fun j => (match indexAddrR P t xv (.c (.i true k (Int.ofNat j))) with | some r => needsT r.nd (K r.v s) | none => .fail)) len 0).OK post → o.wp P a w Kp Q := by
              intro len ht
              obtain ⟨j, hj, hij, this⟩ := chain_OK ht
              split at this
              · rename_i r hr
                have hn := needsT_OK this
                have hp := indexAddrR_sound (ρ := ρ) hr hn.1 h1.2
                have hi' : (Int.ofNat j) = i := hij.symm
                unfold Oper.wp
                have hx : (execOp a.eval o).run P w = .ok (.value (r.v.den ρ)) w := by
                  obtain ⟨dst, op, type, pos, after, guard⟩ := o
                  simp only at ho
                  subst ho
                  simp only [execOp, h1.1, h2.1, Sem.run_bind]
                  have := hp.1 w
                  rw [hi'] at this
                  simp only [SV.den, C.den] at this ⊢
                  rw [this]; rfl
                rw [hx]
                exact hK _ _ _ _ hn.2 (Agree.refl _ _) (Nat.le_refl _) hp.2 hI
              · exact this.elim
            split at ht
            · exact fin _ ht
            · exact fin _ ht
            · exact ht.elim
          · exact ht.elim
        · rename_i t x ix ho
          split at ht
          · rename_i xv k i hx hix
            have h1 := hev _ _ hx
            have h2 := hev _ _ hix
            have fin : ∀ (len : Nat), (chain i (fun j => (match indexR P t xv (.c (.i true k (Int.ofNat j))) with | some r => needsT r.nd (K r.v s) | none => .fail)) len 0).OK post → o.wp P a w Kp Q := by
              intro len ht
              obtain ⟨j, hj, hij, this⟩ := chain_OK ht
              split at this
              · rename_i r hr
                have hn := needsT_OK this
                have hp := indexR_sound (ρ := ρ) hr hn.1 h1.2
                have hi' : (Int.ofNat j) = i := hij.symm
                unfold Oper.wp
                have hx : (execOp a.eval o).run P w = .ok (.value (r.v.den ρ)) w := by
                  obtain ⟨dst, op, type, pos, after, guard⟩ := o
                  simp only at ho
                  subst ho
                  simp only [execOp, h1.1, h2.1, Sem.run_bind]
                  have := hp.1 w
                  rw [hi'] at this
                  simp only [SV.den, C.den] at this ⊢
                  rw [this]; rfl
                rw [hx]
                exact hK _ _ _ _ hn.2 (Agree.refl _ _) (Nat.le_refl _) hp.2 hI
              · exact this.elim
            split at ht
            · exact fin _ ht
            · exact ht.elim
          · exact ht.elim
        · exact ht.elim

theorem same_slot {n : Nat} {ρ : Rh} {fr : Fr} {a : Act} (hf : FrRel n ρ fr a) {d : Nat} {lit v b : Bool} (hv : fr.get d = some (.c (.b lit v))) {K' : Fr → Tree β} (hb : v = b)
    (h : (fr.putK (some d) (.c (.b true b)) .fail K').OK post) : ∃ fr', FrRel n ρ fr' a ∧ (K' fr').OK post := by
  have h1 := hf.get hv
  obtain ⟨f', hf', hk⟩ := putK_sound hf (dst := some d) (v := .c (.b true b)) rfl h
  refine ⟨f', ?_, hk⟩
  have : a.put (some d) ((SV.c (.b true b)).den ρ) = a := by
    simp only [Act.put]
    have h2 : a.tmps[d]? = some ((SV.c (.b true b)).den ρ) := by rw [h1.2.2, hb]; rfl
    obtain ⟨hlt, he⟩ := Array.getElem?_eq_some_iff.1 h2
    have hset : a.tmps.setIfInBounds d ((SV.c (.b true b)).den ρ) = a.tmps := by
      apply Array.ext_getElem?
      intro j
      by_cases hj : d = j
      · subst hj
        rw [Array.getElem?_setIfInBounds_self, h2]
        simp [hlt]
      · rw [Array.getElem?_setIfInBounds_ne hj]
    rw [hset]
  rw [this] at hf'
  exact hf'

theorem forkK_sound {n : Nat} {ρ : Rh} {fr : Fr} {a : Act} (hf : FrRel n ρ fr a) {c : Operand} {lit v : Bool} (hv : fr.ev c = some (.c (.b lit v))) {Kt Kf : Fr → Tree β}
    (h : (forkK fr c v Kt Kf).OK post) : ∃ fr', FrRel n ρ fr' a ∧ (v = true → (Kt fr').OK post) ∧ (v = false → (Kf fr').OK post) := by
  unfold forkK at h
  split at h
  · rename_i d
    cases v
    · obtain ⟨f', h1, h2⟩ := same_slot hf hv rfl (h.2 rfl)
      exact ⟨f', h1, (fun e => nomatch e), fun _ => h2⟩
    · obtain ⟨f', h1, h2⟩ := same_slot hf hv rfl (h.1 rfl)
      exact ⟨f', h1, fun _ => h2, (fun e => nomatch e)⟩
  · exact ⟨fr, hf, h.1, h.2⟩

theorem guardK_sound {ops : Array Oper} {o : Oper} {fr : Fr} {K : Bool → Fr → Tree β} {n : Nat} {ρ : Rh} {a : Act} (ht : (guardK ops o fr K).OK post) (hf : FrRel n ρ fr a) :
    ∃ wanted fr', Region.wanted o (yielded ops a.tmps) = wanted ∧ FrRel n ρ fr' a ∧ (K wanted fr').OK post := by
  unfold guardK at ht
  split at ht
  · rename_i hg
    exact ⟨true, fr, by simp [Region.wanted, hg], hf, ht⟩
  · rename_i j want hg
    split at ht
    · exact ht.elim
    · rename_i d hd
      split at ht
      · rename_i lit v hv
        have h1 := hf.get hv
        have hy : yielded ops a.tmps j = some v := by
          unfold yielded
          rw [hd]
          simp only [Option.bind_some, h1.2.2]
          rfl
        have hw : Region.wanted o (yielded ops a.tmps) = (v == want) := by
          simp only [Region.wanted, hg, hy]
          cases v <;> cases want <;> rfl
        have same : ∀ (b : Bool) (K' : Fr → Tree β), v = b → (fr.putK (some d) (.c (.b true b)) .fail K').OK post → ∃ fr', FrRel n ρ fr' a ∧ (K' fr').OK post :=
          fun b K' hb h => same_slot hf hv hb h
        cases lit <;> simp only [cond_true, cond_false] at ht
        · cases v
          · obtain ⟨f', hf', hk⟩ := same false _ rfl (ht.2 rfl)
            exact ⟨!want, f', by rw [hw]; cases want <;> rfl, hf', hk⟩
          · obtain ⟨f', hf', hk⟩ := same true _ rfl (ht.1 rfl)
            exact ⟨want, f', by rw [hw]; cases want <;> rfl, hf', hk⟩
        · exact ⟨_, fr, hw, hf, ht⟩
      · rename_i hv
        have h1 := hf.get hv
        have hy : yielded ops a.tmps j = none := by
          unfold yielded
          rw [hd]
          simp only [Option.bind_some, h1.2.2]
          rfl
        have hw : Region.wanted o (yielded ops a.tmps) = false := by
          simp only [Region.wanted, hg, hy]
          cases want <;> rfl
        exact ⟨_, fr, hw, hf, ht⟩
      · exact ht.elim

theorem opsK_sound {call : CallK β} (hcall : CallOK P W L call) {ops : Array Oper} : ∀ (l : List (Nat × Fl)) {fr : Fr} {s : SW} {K : Fr → SW → Tree β} {ρ : Rh} {a : Act} {w : World},
    (opsK P call ops l fr s K).OK post → FrRel s.length ρ fr a → Inv P.E W L ρ s w → ∀ {Kp : Act → World → Prop},
    (∀ fr' s' ρ' a' w', (K fr' s').OK post → Agree s.length ρ ρ' → s.length ≤ s'.length → FrRel s'.length ρ' fr' a' → Inv P.E W L ρ' s' w' → Kp a' w') →
    SeqWp P ops (Only Kp) l a w
  | [], fr, s, K, ρ, a, w, ht, hf, hI, Kp, hK => hK _ _ _ _ _ ht (Agree.refl _ _) (Nat.le_refl _) hf hI
  | (i, p) :: r, fr, s, K, ρ, a, w, ht, hf, hI, Kp, hK => by
    simp only [opsK] at ht
    split at ht
    · exact ht.elim
    rename_i o ho
    obtain ⟨wanted, fr1, hw, hf1, ht⟩ := guardK_sound ht hf
    cases wanted <;> simp only [cond_true, cond_false] at ht
    · obtain ⟨fr2, hf2, ht⟩ := putK_sound hf1 (undefS_ok _) ht
      have ih := opsK_sound hcall r ht hf2 hI hK
      rw [undefS_den] at ih
      cases p
      · exact wpOp_skip ho hw ih
      · exact ⟨o, undef, ho, .inr ⟨hw, rfl⟩, ih⟩
      · exact ⟨o, undef, ho, .inr ⟨hw, rfl⟩, ih⟩
    · cases p
      · refine wpOp_run ho hw (operK_sound hcall ht hf1 hI ?_)
        intro v s' ρ' w' hk hag hle hok hI'
        obtain ⟨fr2, hf2, hk⟩ := putK_sound (hf1.agree hag hle) hok hk
        exact opsK_sound hcall r hk hf2 hI' fun fr'' s'' ρ'' a'' w'' hk hag' hle' hf'' hI'' =>
          hK _ _ _ _ _ hk (hag.trans hag' hle) (Nat.le_trans hle hle') hf'' hI''
      · unfold operK at ht
        split at ht
        · rename_i rr hr
          have hn := needsT_OK ht
          have hp := pureOp_sound (fun x y h => FrRel.ev hf1 x y h) hr hn.1
          have hn2 := hn.2
          simp only [splitF] at hn2
          obtain ⟨fr2, hf2, hk⟩ := putK_sound hf1 hp.2 hn2
          exact ⟨o, rr.v.den ρ, ho, .inl ⟨hw, hp.1⟩, opsK_sound hcall r hk hf2 hI hK⟩
        · split at ht
          · exact ht.elim
          · exact ht.elim
      · unfold operK at ht
        split at ht
        · rename_i rr hr
          have hn := needsT_OK ht
          have hp := pureOp_sound (fun x y h => FrRel.ev hf1 x y h) hr hn.1
          have hn2 := hn.2
          simp only [splitF] at hn2
          obtain ⟨fr2, hf2, hk⟩ := putK_sound hf1 hp.2 hn2
          exact ⟨o, rr.v.den ρ, ho, .inl ⟨hw, fun w' _ => hp.1 w'⟩, opsK_sound hcall r hk hf2 hI hK⟩
        split at ht
        · rename_i rr hr
          simp only at ht
          have hn := needsT_OK ht
          have hp := extOp_sound hI (fun x y h => FrRel.ev hf1 x y h) hr hn.1
          obtain ⟨fr2, hf2, hk⟩ := putK_sound hf1 (hp.2 _) hn.2
          exact ⟨o, rr.v.den ρ, ho, .inl ⟨hw, fun w' hw' => by subst hw'; exact hp.1⟩, opsK_sound hcall r hk hf2 hI hK⟩
        · simp only at ht
          split at ht
          · rename_i t x hop
            split at ht
            · rename_i v hx
              split at ht
              · rename_i u s' hl
                have h1 := FrRel.ev hf1 _ _ hx
                obtain ⟨_, hok, hrun⟩ := loadS_sound (P := P) hI hl h1.2
                obtain ⟨u', d1, d2, d3⟩ := splitK_OK ht
                obtain ⟨fr2, hf2, hk⟩ := putK_sound hf1 (d2 _ hok) d3
                refine ⟨o, u'.den ρ, ho, .inl ⟨hw, fun w' hw' => ?_⟩, opsK_sound hcall r hk hf2 hI hK⟩
                rw [d1]
                subst hw'
                obtain ⟨dst, op, type, pos, after, guard⟩ := o
                simp only at hop
                subst hop
                simp only [execOp, Sem.run_bind, h1.1, hrun, Result.andThen_ok, Sem.run_pure]
              · exact ht.elim
            · exact ht.elim
          · exact ht.elim

noncomputable def CallCOK (P : PE) {β : Type} (call : CallC β) : Prop :=
  ∀ (g : FuncId) (vs : List SV) (K : SV → Tree β) (post : β → Prop), (call g vs K).OK post → (∀ v ∈ vs, v.ok 0 = true) →
    ∃ v : SV, v.ok 0 = true ∧ (K v).OK post ∧
    (∀ (args : Array Value) w, (callFunc g args).run P w = .ok (.enter g args) w) ∧
    ∀ (W : World) (L : Nat → Prop) (ρ : Rh) (s : SW) (w : World), Inv P.E W L ρ s w →
      Calls P g (vs.map (SV.den ρ)).toArray w fun e w' => e = .returned (v.den ρ) ∧ Inv P.E W L ρ s w'

theorem HasB.tr {ρ ρ' : Rh} {w : World} {i j : Nat} {b b' : Bl} (h : HasB ρ' w j b') (hty : b'.ty = b.ty) (hcs : b.cs = [] ∨ b.cs.map (C.den ρ) = b'.cs.map (C.den ρ')) (hb : ρ i = ρ' j) (hc : ρ.c i = ρ'.c j) : HasB ρ w i b := by
  by_cases hm : MAPTY ≤ b.ty
  · obtain ⟨h1, h2⟩ := h.map (by rw [hty]; exact hm)
    refine .inr (.inl ⟨hm, ?_, by rw [hb, ← hty]; exact h2⟩)
    rcases hcs with e | e
    · exact e
    · rw [h1] at e; simpa using e
  · have hm' := Nat.lt_of_not_le hm
    by_cases h0 : b.cs = []
    · exact .inr (.inr ⟨hm', h0, by rw [hb]; exact h.lt⟩)
    · rcases hcs with e | e
      · exact absurd e h0
      · have hne : b'.cs ≠ [] := fun e' => h0 (by rw [e'] at e; simpa using e)
        obtain ⟨_, r, h2, h3⟩ := h.cells hne
        refine .inl ⟨hm', h0, r, by rw [hb, e, ← hty]; exact h2, ?_⟩
        have := congrArg List.length e
        simp at this
        rw [this, hc]; exact h3

theorem Inv.part {E : World} {ρ ρ' : Rh} {s : SW} {e : SW} {w : World} (h : Inv E W L ρ' (s ++ e) w) (hok : ∀ (i : Nat) (b : Bl), s[i]? = some b → okL s.length b.cs = true) (hag : Agree s.length ρ ρ') :
    Inv E W L ρ s w := by
  have hlt : ∀ {i : Nat} {b : Bl}, s[i]? = some b → i < s.length := fun hb => (List.getElem?_eq_some_iff.1 hb).1
  have hup : ∀ i, live s i → live (s ++ e) i := by
    rintro i ⟨b, hb, hn⟩
    exact ⟨b, by rw [List.getElem?_append_left (hlt hb)]; exact hb, hn⟩
  refine ⟨fun i b hb => ?_, hok, fun i j hi hj hij => ?_, h.grow, h.old, fun i h1 h2 => ?_, h.frz, h.os, h.out, h.tape, ⟨h.ext.1, h.ext.2.1, fun i hi => by rw [← (hag i hi).1]; exact h.ext.2.2 i (by simp; omega)⟩⟩
  · exact (h.blk i b (by rw [List.getElem?_append_left (hlt hb)]; exact hb)).ren (hag i (hlt hb)).1.symm (hag i (hlt hb)).2.symm (map_agree hag (hok i b hb)).symm rfl
  · exact h.inj i j (hup i hi) (hup j hj) (by rw [(hag i hi.lt).1, (hag j hj.lt).1]; exact hij)
  · have e := (hag i h1.lt).1
    rw [← e] at h2 ⊢
    exact h.fresh i (hup i h1) h2

noncomputable def Kinds (E W : World) (L : Nat → Prop) (ρ : Rh) (s : SW) (S : World → Prop) : Prop :=
  ∃ ρ' s', S = Inv E W L ρ' s' ∧ ∀ w, S w → Inv E W L ρ s w
theorem Kinds.self {ρ : Rh} {s : SW} : Kinds P.E W L ρ s (Inv P.E W L ρ s) := ⟨ρ, s, rfl, fun _ h => h⟩

theorem newS_app {s : SW} {cs : List C} {ty : TypeId} {v : SV} {s' : SW} (h : newS s cs ty = some (v, s')) : ∃ e, s' = s ++ e := by
  unfold newS at h
  cases hty : Nat.blt ty MAPTY <;> simp only [hty, cond_true, cond_false] at h
  · cases h
  rw [forceN_eq, appLK_eq] at h
  simp at h
  exact ⟨_, h.2.symm⟩
theorem appendS_app {P : Program} {s s' : SW} {t : TypeId} {x u : SV} (h : appendS P s t (.c (.x (.slice none 0 0))) x = some (u, s')) : ∃ e, s' = s ++ e := by
  unfold appendS at h
  split at h
  rotate_left
  · cases h
  split at h
  · cases h
  split at h
  · cases h
  rename_i elem _ _ e _ _ z _
  cases hc : (Nat.beq z.cells.size e.size && Nat.blt 0 e.size) <;> simp only [hc, cond_true, cond_false] at h
  · cases h
  have key : ∀ (m : Nat) (news : List C), (cond (news.all C.storable && Nat.blt 0 m) (cond (appendS.isNil0 (.c (.x (.slice none 0 0))) && Nat.ble m (2 ^ 40) && Nat.ble (m * e.bytes) (2 ^ 40)) (newA s news elem m e.size) none) none) = some (u, s') → ∃ e, s' = s ++ e := by
    intro m news h
    cases hc : (news.all C.storable && Nat.blt 0 m) <;> simp only [hc, cond_true, cond_false] at h
    · cases h
    cases hd : (appendS.isNil0 (.c (.x (.slice none 0 0))) && Nat.ble m (2 ^ 40) && Nat.ble (m * e.bytes) (2 ^ 40)) <;> simp only [hd, cond_true, cond_false] at h
    · cases h
    obtain ⟨_, _, rfl⟩ := newA_spec h
    exact ⟨_, rfl⟩
  unfold viewK at h
  split at h
  · split at h
    · cases h
    rw [takeLK_eq] at h
    revert h
    cases (Nat.beq _ _) <;> intro h
    · cases h
    · exact key _ _ h
  · split at h
    · cases h
    rw [takeLK_eq] at h
    revert h
    cases (Nat.beq _ _) <;> intro h
    · cases h
    · exact key _ _ h
  · cases h
theorem makeS_app {s s' : SW} {P : Program} {t : TypeId} {l c u : SV} (h : makeS P s t l c = some (u, s')) : ∃ e, s' = s ++ e := by
  unfold makeS at h
  split at h
  rotate_left
  · cases h
  rename_i elem kl l kc c ht
  split at h
  · cases h
  rename_i e he
  split at h
  · cases h
  rename_i z hz
  cases hc : (decide (0 ≤ l) && decide (l ≤ c) && decide (c ≤ 2 ^ 30) && Nat.ble (e.bytes * c.toNat) (2 ^ 40) && Nat.blt 0 e.size && Nat.blt elem MAPTY) <;> simp only [hc, cond_true, cond_false] at h
  · cases h
  rw [forceN_eq, cellsOfK_eq, forceN_eq, forceN_eq, forceN_eq, appLK_eq] at h
  simp at h
  exact ⟨_, h.2.symm⟩
theorem nilCst_ev {fr : Fr} {x : Operand} (h : nilCst x = true) : fr.ev x = some (.c (.x (.slice none 0 0))) := by
  unfold nilCst at h
  split at h
  · rfl
  · cases h
theorem evs_nil {fr : Fr} {args : Array Operand} {l : List SV} (hm : (match args.toList with | x :: _ => nilCst x | _ => false) = true) (h : evs fr.ev args.toList = some l) : ∃ r, l = .c (.x (.slice none 0 0)) :: r := by
  split at hm
  · rename_i x r hx
    rw [hx] at h
    simp only [evs, nilCst_ev hm] at h
    split at h
    · cases h
    · simp only [Option.some.injEq] at h; exact ⟨_, h.symm⟩
  · cases hm
theorem heapOp_makes {fr : Fr} {s s' : SW} {op : Op} {v : SV} (hm : makes op = true) (h : heapOp P fr.ev s op = some (v, s')) : ∃ e, s' = s ++ e := by
  unfold heapOp at h
  split at h
  rotate_left
  · split at h
    · rename_i hb
      simp only [Option.some.injEq] at h
      subst h
      unfold heapOpB at hb
      split at hb
      · rename_i args argTypes
        split at hb
        · rename_i v0 x t t' hargs _
          obtain ⟨r, hr⟩ := evs_nil hm hargs
          simp only [List.cons.injEq] at hr
          obtain ⟨rfl, _⟩ := hr
          cases ht : Nat.beq t t' <;> simp only [ht, cond_true, cond_false] at hb
          · cases hb
          exact appendS_app hb
        · cases hb
      · split at hb
        · exact makeS_app (makeT_some hb)
        · cases hb
      · cases hb
    · exfalso
      split at h
      · rename_i hb
        unfold heapOpC at hb
        split at hb
        · cases hm
        · cases hm
        · cases hb
      · unfold heapOpD at h
        split at h
        · cases hm
        · cases hm
        · cases hm
        · cases h
  rename_i r hr
  simp at h; subst h
  have h := hr
  clear hr
  unfold heapOpA at h
  split at h
  · split at h
    · split at h
      · rw [cellsK_eq] at h; exact newS_app h
      · cases h
    · cases h
  · split at h
    · split at h
      · rename_i cs _
        cases hst : cs.all C.storable <;> simp only [hst, cond_true, cond_false] at h
        · cases h
        · exact newS_app h
      · cases h
    · cases h
  · cases hm
  · cases hm
  · split at h
    · split at h
      · rename_i len _ _ _ _ _ e _
        cases hz : (Nat.beq (len * e.size) 0 || Nat.blt (2 ^ 24) (len * e.size)) <;> simp only [hz, cond_true, cond_false] at h
        · split at h
          · rw [cellsOfK_eq] at h
            split at h
            · split at h
              · split at h
                · rename_i hn
                  simp at h; obtain ⟨rfl, rfl⟩ := h
                  exact newS_app hn
                · cases h
              · cases h
            · cases h
          · cases h
        · cases h
      · cases h
    · cases h
  · cases hm
  · cases h

theorem rowNil_app2 {P : Program} {E : World} {fr : Fr} {args : Array Operand} {argTypes : Array TypeId} {s s' : SW} {nd : List Bool} {v : SV} (hk : makes (.call { callee := .builtin .append, args, argTypes }) = true)
    (h : rowOp P E fr.ev s (.call { callee := .builtin .append, args, argTypes }) = some (nd, v, s')) : ∃ e, s' = s ++ e := by
  simp only [rowOp] at h
  split at h
  · rename_i h1 _
    obtain ⟨r, hr⟩ := evs_nil hk h1
    cases hr
  · rename_i v0 x t t' _ h1 _
    obtain ⟨r, hr⟩ := evs_nil hk h1
    simp only [List.cons.injEq] at hr
    obtain ⟨rfl, _⟩ := hr
    cases hb : Nat.beq t t' <;> simp only [hb, cond_true, cond_false] at h
    · cases h
    unfold rowAp2 at h
    split at h
    rotate_left
    · cases h
    split at h
    · cases h
    split at h
    · cases h
    rename_i elem _ _ e _ _ z _
    cases hc : (Nat.beq z.cells.size e.size && Nat.blt 0 e.size && Nat.blt elem MAPTY) <;> simp only [hc, cond_true, cond_false] at h
    · cases h
    rw [forceN_eq] at h
    split at h
    · cases h
    rw [forceN_eq, forceN_eq] at h
    cases h0 : Nat.blt 0 s.length <;> simp only [h0, cond_true, cond_false] at h
    · cases h
    rw [appLK_eq] at h
    simp only [Option.some.injEq, Prod.mk.injEq] at h
    exact ⟨_, h.2.2.symm⟩
  · cases h

noncomputable def CallDOK (P : PE) {β : Type} (call : CallK β) : Prop :=
  ∀ (g : FuncId) (vs : List SV) (s : SW) (K : SV → SW → Tree β) (post : β → Prop), (call g vs s K).OK post → (∀ v ∈ vs, v.ok s.length = true) →
    ∃ (v : SV) (s' : SW), (K v s').OK post ∧ (∀ (args : Array Value) w, (callFunc g args).run P w = .ok (.enter g args) w) ∧
    ∀ (W : World) (L : Nat → Prop) (ρ : Rh) (w : World), Inv P.E W L ρ s w →
      Calls P g (vs.map (SV.den ρ)).toArray w fun e w' => ∃ ρ', e = .returned (v.den ρ') ∧ Agree s.length ρ ρ' ∧ s.length ≤ s'.length ∧ v.ok s'.length = true ∧ Inv P.E W L ρ' s' w'
theorem xEq_spec {v u : Value} (h : xEq v u = true) : v = u := by
  unfold xEq at h
  split at h <;> first | rfl | cases h | skip
  simp only [Bool.and_eq_true] at h
  rw [Nat.eq_of_beq_eq_true h.1, Nat.eq_of_beq_eq_true h.2]
theorem litK_spec {l p : Bool} {nd : List Bool} (h : cond l (cond p (some []) none) (some [p]) = some nd) (hn : allT nd) : p = true := by
  cases l <;> simp at h
  · subst h; exact hn _ List.mem_cons_self
  · cases p <;> simp at h; rfl
theorem eqC_spec {x y : C} {nd : List Bool} (h : eqC x y = some nd) (hn : allT nd) (ρ : Rh) : x.den ρ = y.den ρ := by
  unfold eqC at h
  split at h
  · have := of_decide_eq_true (litK_spec h hn); subst this; rfl
  · split at h
    · rename_i hk
      have := of_decide_eq_true (litK_spec h hn); subst this; subst hk; rfl
    · cases h
  · have := of_decide_eq_true (litK_spec h hn); subst this; rfl
  · rename_i b o b' o'
    cases hc : (Nat.beq b b' && Nat.beq o o') <;> simp only [hc, cond_true, cond_false] at h
    · cases h
    simp only [Bool.and_eq_true] at hc
    rw [Nat.eq_of_beq_eq_true hc.1, Nat.eq_of_beq_eq_true hc.2]
  · rename_i b o n c b' o' n' c'
    cases hc : (Nat.beq b b' && Nat.beq o o' && Nat.beq n n' && Nat.beq c c') <;> simp only [hc, cond_true, cond_false] at h
    · cases h
    simp only [Bool.and_eq_true] at hc
    rw [Nat.eq_of_beq_eq_true hc.1.1.1, Nat.eq_of_beq_eq_true hc.1.1.2, Nat.eq_of_beq_eq_true hc.1.2, Nat.eq_of_beq_eq_true hc.2]
  · rename_i b o n c b' o' n' c'
    cases hc : (Nat.beq b b' && Nat.beq o o' && Nat.beq n n' && Nat.beq c c') <;> simp only [hc, cond_true, cond_false] at h
    · cases h
    simp only [Bool.and_eq_true] at hc
    rw [Nat.eq_of_beq_eq_true hc.1.1.1, Nat.eq_of_beq_eq_true hc.1.1.2, Nat.eq_of_beq_eq_true hc.1.2, Nat.eq_of_beq_eq_true hc.2]
  · rename_i f f'
    cases hc : Nat.beq f f' <;> simp only [hc, cond_true, cond_false] at h
    · cases h
    rw [Nat.eq_of_beq_eq_true hc]
  · rename_i t b o t' b' o'
    cases hc : (Nat.beq t t' && Nat.beq b b' && Nat.beq o o') <;> simp only [hc, cond_true, cond_false] at h
    · cases h
    simp only [Bool.and_eq_true] at hc
    rw [Nat.eq_of_beq_eq_true hc.1.1, Nat.eq_of_beq_eq_true hc.1.2, Nat.eq_of_beq_eq_true hc.2]
  · rename_i b b'
    cases hc : Nat.beq b b' <;> simp only [hc, cond_true, cond_false] at h
    · cases h
    rw [Nat.eq_of_beq_eq_true hc]
  · simp at h; subst h
    have h1 := of_decide_eq_true (hn _ List.mem_cons_self)
    have h2 := of_decide_eq_true (hn _ (List.mem_cons_of_mem _ List.mem_cons_self))
    have h3 := of_decide_eq_true (hn _ (List.mem_cons_of_mem _ (List.mem_cons_of_mem _ List.mem_cons_self)))
    rw [h1, h2, h3]
  · rename_i v u
    cases hc : xEq v u <;> simp only [hc, cond_true, cond_false] at h
    · cases h
    rw [xEq_spec hc]
  · simp at h; subst h
    have h1 := of_decide_eq_true (hn _ List.mem_cons_self)
    rw [h1]; rfl
  · rename_i b z n b' z' n'
    cases hc : (Nat.beq b b' && Nat.beq z z') <;> simp only [hc, cond_true, cond_false] at h
    · cases h
    simp only [Bool.and_eq_true] at hc
    simp only [Option.some.injEq] at h; subst h
    have h1 := of_decide_eq_true (hn _ List.mem_cons_self)
    rw [Nat.eq_of_beq_eq_true hc.1, Nat.eq_of_beq_eq_true hc.2, h1]
  · rename_i b z n b' z' n'
    cases hc : (Nat.beq b b' && Nat.beq z z') <;> simp only [hc, cond_true, cond_false] at h
    · cases h
    simp only [Bool.and_eq_true] at hc
    simp only [Option.some.injEq] at h; subst h
    have h1 := of_decide_eq_true (hn _ List.mem_cons_self)
    rw [Nat.eq_of_beq_eq_true hc.1, Nat.eq_of_beq_eq_true hc.2, h1]
  · cases h
theorem keepCs_spec : ∀ {xs ys : List C} {nd : List Bool}, keepCs xs ys = some nd → allT nd → ∀ ρ, xs.map (C.den ρ) = ys.map (C.den ρ)
  | [], [], _, _, _, _ => rfl
  | x :: xs, y :: ys, nd, h, hn, ρ => by
    simp only [keepCs] at h
    split at h
    · cases h
    rename_i a ha
    split at h
    · cases h
    rename_i b hb
    simp at h; subst h
    simp only [List.map_cons]
    rw [eqC_spec ha (fun c hc => hn c (List.mem_append_left _ hc)) ρ, keepCs_spec hb (fun c hc => hn c (List.mem_append_right _ hc)) ρ]
  | [], _ :: _, _, h, _, _ => by cases h
  | _ :: _, [], _, h, _, _ => by cases h
theorem keepS_spec {rt : Nat → Bool} : ∀ {s s0 : SW} {nd : List Bool}, keepS rt s s0 = some nd → allT nd → ∀ (i : Nat) (b0 : Bl), s0[i]? = some b0 →
    ∃ b, s[i]? = some b ∧ ((b.ty = b0.ty ∧ (b0.cs = [] ∨ ∀ ρ, b.cs.map (C.den ρ) = b0.cs.map (C.den ρ))) ∨ (b0.cs = [] ∧ b0.ty < MAPTY))
  | _, [], _, _, _, i, b0, hb => by simp at hb
  | [], _ :: _, _, h, _, _, _, _ => by cases h
  | b :: s, c0 :: s0, nd, h, hn, i, b0, hb => by
    simp only [keepS] at h
    cases hrt : rt c0.ty <;> simp only [hrt, cond_true, cond_false] at h
    rotate_left
    · cases ht : Nat.beq b.ty c0.ty <;> simp only [ht, cond_true, cond_false] at h
      · cases h
      have ht := Nat.eq_of_beq_eq_true ht
      split at h
      · cases h
      rename_i l hl
      simp only [Option.some.injEq] at h; subst h
      cases i with
      | zero =>
        simp at hb; subst hb
        have he : b.cs = c0.cs := by have := hn _ (List.mem_cons_self ..); simpa only [sameB, decide_eq_true_eq] using this
        exact ⟨b, rfl, .inl ⟨ht, .inr fun ρ => by rw [he]⟩⟩
      | succ i => simp at hb ⊢; exact keepS_spec hl (fun d hd => hn d (List.mem_cons_of_mem _ hd)) i b0 hb
    split at h
    · rename_i hc
      cases ht : (Nat.beq b.ty c0.ty || Nat.blt c0.ty MAPTY) <;> simp only [ht, cond_true, cond_false] at h
      · cases h
      cases i with
      | zero =>
        simp at hb; subst hb
        simp only [Bool.or_eq_true] at ht
        refine ⟨b, rfl, ?_⟩
        rcases ht with ht | ht
        · exact .inl ⟨Nat.eq_of_beq_eq_true ht, .inl hc⟩
        · exact .inr ⟨hc, Nat.le_of_ble_eq_true ht⟩
      | succ i => simp at hb ⊢; exact keepS_spec h hn i b0 hb
    · rename_i c cs hc
      cases ht : Nat.beq b.ty c0.ty <;> simp only [ht, cond_true, cond_false] at h
      · cases h
      have ht := Nat.eq_of_beq_eq_true ht
      split at h
      · cases h
      rename_i l hl
      split at h
      · cases h
      rename_i l' hl'
      simp at h; subst h
      cases i with
      | zero => simp at hb; subst hb; exact ⟨b, rfl, .inl ⟨ht, .inr fun ρ => by rw [hc]; exact keepCs_spec hl (fun d hd => hn d (List.mem_append_left _ hd)) ρ⟩⟩
      | succ i => simp at hb ⊢; exact keepS_spec hl' (fun d hd => hn d (List.mem_append_right _ hd)) i b0 hb
theorem Inv.keep {E W : World} {L : Nat → Prop} {ρ ρ' : Rh} {s s' : SW} {w w' : World} {nd : List Bool} (hI : Inv E W L ρ s w) (h' : Inv E W L ρ' s' w') (hag : Agree s.length ρ ρ') (hle : s.length ≤ s'.length)
    {rt : Nat → Bool} (hk : keepS rt s' s = some nd) (hn : allT nd) : Inv E W L ρ s w' := by
  have hsp := keepS_spec hk hn
  have hlt : ∀ {i : Nat} {b : Bl}, s[i]? = some b → i < s.length := fun hb => (List.getElem?_eq_some_iff.1 hb).1
  have lv : ∀ i, live s i → live s' i := by
    rintro i ⟨b, hb, hne⟩
    obtain ⟨b', h1, ⟨hty, h3⟩ | ⟨h3, h4⟩⟩ := hsp i b hb
    · refine ⟨b', h1, ?_⟩
      rcases hne with hne | hm
      · refine .inl ?_
        rcases h3 with h3 | h3
        · exact absurd h3 hne
        · intro e
          have := h3 Rh0
          rw [e] at this
          simp at this
          exact hne this
      · exact .inr (by rw [hty]; exact hm)
    · exact (hne.elim (fun h => h h3) (fun h => absurd h4 (Nat.not_lt_of_le h))).elim
  refine ⟨fun i b hb => ?_, hI.okc, fun i j hi hj hij => ?_, h'.grow, h'.old, fun i h1 h2 => by have e := (hag i h1.lt).1; rw [← e] at h2 ⊢; exact h'.fresh i (lv i h1) h2, h'.frz, h'.os, h'.out, h'.tape, ⟨h'.ext.1, h'.ext.2.1, fun i hi => hI.ext.2.2 i hi⟩⟩
  · obtain ⟨b', h1, ⟨h2, h3⟩ | ⟨h3, h4⟩⟩ := hsp i b hb
    · have hi := hlt hb
      refine (h'.blk i b' h1).tr h2 ?_ (hag i hi).1.symm (hag i hi).2.symm
      rcases h3 with h3 | h3
      · exact .inl h3
      · exact .inr ((map_agree hag (hI.okc i b hb)).symm.trans (h3 ρ').symm)
    · have hi := hlt hb
      exact .inr (.inr ⟨h4, h3, by rw [← (hag i hi).1]; exact h'.lt (Nat.lt_of_lt_of_le hi hle)⟩)
  · exact h'.inj i j (lv i hi) (lv j hj) (by rw [(hag i hi.lt).1, (hag j hj.lt).1]; exact hij)
theorem callD_sound {rt : Nat → Bool} {call : CallK β} (hcall : CallDOK P call) {g : FuncId} {vs : List SV} {s : SW} {K : SV → Tree β} (h : (callD rt call g vs s K).OK post) (hok : ∀ v ∈ vs, v.ok s.length = true) :
    ∃ v : SV, v.ok s.length = true ∧ (K v).OK post ∧ (∀ (args : Array Value) w, (callFunc g args).run P w = .ok (.enter g args) w) ∧
    ∀ (W : World) (L : Nat → Prop) (ρ : Rh) (w : World), Inv P.E W L ρ s w → Calls P g (vs.map (SV.den ρ)).toArray w fun e w' => e = .returned (v.den ρ) ∧ Inv P.E W L ρ s w' := by
  unfold callD at h
  cases hall : vs.all (SV.ok 0) <;> simp only [hall, cond_true, cond_false] at h
  · obtain ⟨v, s', hk, hen, hc⟩ := hcall g vs s _ post h hok
    split at hk
    · rename_i nd hnd
      have hn := needsT_OK hk
      have hk := hn.2
      cases hv : v.ok s.length <;> simp only [hv, cond_true, cond_false] at hk
      · exact hk.elim
      refine ⟨v, hv, hk, hen, fun W L ρ w hI => Calls.mono (hc W L ρ w hI) ?_⟩
      rintro e w' ⟨ρ', rfl, hag, hle, _, hI'⟩
      exact ⟨by rw [SV.den_agree hag hv], hI.keep hI' hag hle hnd hn.1⟩
    · exact hk.elim
  · have hok0 := List.all_eq_true.1 hall
    obtain ⟨v, s', hk, hen, hc⟩ := hcall g vs [] _ post h (fun v hv => hok0 v hv)
    cases hv : v.ok 0 <;> simp only [hv, cond_true, cond_false] at hk
    · exact hk.elim
    refine ⟨v, SV.ok_mono (Nat.zero_le _) hv, hk, hen, fun W L ρ w hI => ?_⟩
    have hargs : (vs.map (SV.den ρ)) = vs.map (SV.den Rh0) := List.map_congr_left fun x hx => SV.den_agree (n := 0) (fun i hi => absurd hi (Nat.not_lt_zero _)) (hok0 x hx)
    rw [hargs]
    refine Calls.mono (hc w (fun _ => True) Rh0 w (Inv.start hI.ext)) ?_
    rintro e w' ⟨ρ', rfl, hag, hle, _, hI'⟩
    refine ⟨by rw [SV.den_agree (n := 0) (ρ := ρ) (ρ' := ρ') (fun i hi => absurd hi (Nat.not_lt_zero _)) hv], ?_⟩
    have hold : ∀ b, b < w.heap.size → w'.heap[b]? = w.heap[b]? := fun b hb => hI'.old b hb trivial
    refine ⟨fun i b hb => ?_, hI.okc, hI.inj, Nat.le_trans hI.grow hI'.grow, fun b hb hL => ?_, hI.fresh, trivial, hI'.os.trans hI.os, hI'.out.trans hI.out, hI'.tape.trans hI.tape, ⟨hI'.ext.1, hI'.ext.2.1, hI.ext.2.2⟩⟩
    · exact (hI.blk i b hb).heap (hold _ (hI.lt (List.getElem?_eq_some_iff.1 hb).1))
    · rw [hold b (Nat.lt_of_lt_of_le hb hI.grow)]; exact hI.old b hb hL
noncomputable def Just (E W : World) (L : Nat → Prop) (ρ : Rh) (s : SW) (S : World → Prop) : Prop := S = Inv E W L ρ s
theorem opsC_soundL {call : CallC β} {callK : CallK β} (hcall : CallCOK P call) (hcallD : CallDOK P callK) {ops : Array Oper} {Rl : ((World → Prop) → Prop) → Act → Prop} : ∀ (l : List (Nat × Fl)) {fr : Fr} {s : SW} {ρ : Rh} {K : Fr → SW → Tree β} {a : Act} {w : World},
    (opsC P call callK ops l fr s K).OK post → FrRel s.length ρ fr a → Inv P.E W L ρ s w → ∀ {Kp : Act → World → Prop},
    (∀ fr' s' ρ' a' w', (K fr' s').OK post → Agree s.length ρ ρ' → s.length ≤ s'.length → FrRel s'.length ρ' fr' a' → Inv P.E W L ρ' s' w' → Rl (Kinds P.E W L ρ' s') a') →
    SeqXL mildAt P ops (Only Kp) Rl l (Kinds P.E W L ρ s) a
  | [], fr, s, ρ, K, a, w, ht, hf, hI, Kp, hK => hK _ _ _ _ _ ht (Agree.refl _ _) (Nat.le_refl _) hf hI
  | (i, p) :: r, fr, s, ρ, K, a, w, ht, hf, hI, Kp, hK => by
    simp only [opsC, pureOpF_eq, heapOpF_eq] at ht
    split at ht
    · exact ht.elim
    rename_i o ho
    obtain ⟨wanted, fr1, hw, hf1, ht2⟩ := guardK_sound ht hf
    clear ht
    have ht := ht2
    clear ht2
    have loud : ∀ (v : SV) (ih : SeqXL mildAt P ops (Only Kp) Rl r (Kinds P.E W L ρ s) (a.put o.dst (v.den ρ))), (isPureF p = true → YieldsX P ops (fun _ => True) o (v.den ρ) a) → (isPureF p = false → YieldsX P ops (Kinds P.E W L ρ s) o (v.den ρ) a) → (isPureF p = false → kindLoad o.op = true → YieldsX P ops (Down (Kinds P.E W L ρ s)) o (v.den ρ) a) →
        SeqXL mildAt P ops (Only Kp) Rl ((i, p) :: r) (Kinds P.E W L ρ s) a := by
      intro v ih hy1 hy hyL
      cases p
      · exact fun S hS w' hw' => (hy rfl).wpOp ho hS hw' fun w'' hw'' => ⟨_, fun _ _ h => h, fun _ _ h => Down.self h, ⟨S, hS, hw''⟩, ih⟩
      · exact ⟨o, _, ho, hy1 rfl, ih⟩
      · exact ⟨o, _, ho, hy rfl, hyL rfl, ih⟩
    cases wanted <;> simp only [cond_true, cond_false] at ht
    · obtain ⟨fr2, hf2, ht⟩ := putK_sound hf1 (undefS_ok _) ht
      exact loud undefS (opsC_soundL hcall hcallD r ht hf2 hI hK) (fun _ => .inr ⟨hw, rfl⟩) (fun _ => .inr ⟨hw, rfl⟩) (fun _ _ => .inr ⟨hw, rfl⟩)
    · have hev := fun x y h => FrRel.ev hf1 x y h
      cases hp : isLoud p <;> simp only [hp, cond_true, cond_false] at ht
      · cases hpp : isPureF p <;> simp only [hpp, cond_true, cond_false] at ht
        rotate_left
        · split at ht
          · rename_i rr hr
            have hn := needsT_OK ht
            have hp := pureOp_sound hev hr hn.1
            obtain ⟨fr2, hf2, hk⟩ := putK_sound hf1 hp.2 hn.2
            exact loud _ (opsC_soundL hcall hcallD r hk hf2 hI hK) (fun _ => .inl ⟨hw, fun S _ w' _ => .inl (hp.1 w')⟩) (fun _ => .inl ⟨hw, fun S _ w' _ => .inl (hp.1 w')⟩) (fun _ _ => .inl ⟨hw, fun S _ w' _ => .inl (hp.1 w')⟩)
          · exact ht.elim
        have loud := fun v ih hy hyL => loud v ih (fun h => by rw [hpp] at h; cases h) (fun _ => hy) (fun _ => hyL)
        unfold operC at ht
        simp only [pureOpF_eq, extOpF_eq] at ht
        split at ht
        · rename_i rr hr
          have hn := needsT_OK ht
          have hp := pureOp_sound hev hr hn.1
          obtain ⟨fr2, hf2, hk⟩ := putK_sound hf1 hp.2 hn.2
          exact loud _ (opsC_soundL hcall hcallD r hk hf2 hI hK) (.inl ⟨hw, fun S _ w' _ => .inl (hp.1 w')⟩) (fun _ => .inl ⟨hw, fun S _ w' _ => .inl (hp.1 w')⟩)
        split at ht
        · rename_i rr hr
          have hn := needsT_OK ht
          have hp := extOp_sound hI hev hr hn.1
          obtain ⟨fr2, hf2, hk⟩ := putK_sound hf1 (hp.2 _) hn.2
          have hall : ∀ w', Inv P.E W L ρ s w' → (execOp a.eval o).run P w' = .ok (.value _) w' := fun w' h => (extOp_sound h hev hr hn.1).1
          exact loud _ (opsC_soundL hcall hcallD r hk hf2 hI hK) (.inl ⟨hw, fun S hS w' hw' => .inl (by obtain ⟨_, _, _, hS⟩ := hS; exact hall w' (hS w' hw'))⟩) (fun _ => .inl ⟨hw, fun S hS w' hw' => .inl (by obtain ⟨_, ⟨_, _, _, hS⟩, hd⟩ := hS; exact hall w' (hS w' (hd w' hw')))⟩)
        · split at ht
          · rename_i t x hop
            split at ht
            · rename_i v hx
              split at ht
              · rename_i u s' hl
                have h1 := FrRel.ev hf1 _ _ hx
                obtain ⟨_, hok, _⟩ := loadS_sound (P := P) hI hl h1.2
                obtain ⟨fr2, hf2, hk⟩ := putK_sound hf1 hok ht
                have hall : ∀ w', Inv P.E W L ρ s w' → (execOp a.eval o).run P w' = .ok (.value (u.den ρ)) w' := by
                  intro w' hw'
                  obtain ⟨_, _, hrun⟩ := loadS_sound (P := P) hw' hl h1.2
                  obtain ⟨dst, op, type, pos, after, guard⟩ := o
                  simp only at hop
                  subst hop
                  simp only [execOp, Sem.run_bind, h1.1, hrun, Result.andThen_ok, Sem.run_pure]
                exact loud _ (opsC_soundL hcall hcallD r hk hf2 hI hK) (.inl ⟨hw, fun S hS w' hw' => .inl (by obtain ⟨_, _, _, hS⟩ := hS; exact hall w' (hS w' hw'))⟩) (fun _ => .inl ⟨hw, fun S hS w' hw' => .inl (by obtain ⟨_, ⟨_, _, _, hS⟩, hd⟩ := hS; exact hall w' (hS w' (hd w' hw')))⟩)
              · exact ht.elim
            · exact ht.elim
          · rename_i f args argTypes hop
            split at ht
            · rename_i g vs hg hvs
              cases hall : vs.all (SV.ok 0) <;> simp only [hall, cond_true, cond_false] at ht
              · exact ht.elim
              have h1 := hev _ _ hg
              have h2 := evs_sound hev _ _ hvs
              obtain ⟨v, hv, hk, hcf, hc⟩ := hcall g vs _ post ht (List.all_eq_true.1 hall)
              obtain ⟨fr2, hf2, hk⟩ := putK_sound hf1 (SV.ok_mono (Nat.zero_le _) hv) hk
              refine loud v (opsC_soundL hcall hcallD r hk hf2 hI hK) (.inl ⟨hw, fun S hS w' hw' => .inr ⟨g, (vs.map (SV.den ρ)).toArray, ?_, ?_⟩⟩) (fun h => by rw [hop] at h; cases h)
              · have hargs : args.map a.eval = (vs.map (SV.den ρ)).toArray := Array.ext' (by rw [Array.toList_map, h2.1])
                obtain ⟨dst, op, type, pos, after, guard⟩ := o
                simp only at hop
                subst hop
                have h1' : a.eval f = .func (.func g) #[] #[] := h1.1
                simp only [execOp, resolve, hargs, h1', Deferred.ofValue, Sem.run_bind, Sem.run_pure, Result.andThen_ok, invoke]
                simpa using hcf _ w'
              · obtain ⟨ρ', s', rfl, hS⟩ := hS
                have h0 : ∀ x : SV, x.ok 0 = true → x.den ρ' = x.den ρ := fun x hx => SV.den_agree (n := 0) (fun i hi => absurd hi (Nat.not_lt_zero _)) hx
                have := hc W L ρ' s' w' hw'
                rw [h0 v hv, show vs.map (SV.den ρ') = vs.map (SV.den ρ) from List.map_congr_left fun x hx => h0 x (List.all_eq_true.1 hall x hx)] at this
                exact this
            · exact ht.elim
          · rename_i src dt x hop
            split at ht
            · rename_i u s' hl
              have hsd := fun (w' : World) (hw' : Inv P.E W L ρ s w') => heapOpC_sound (P := P.toProgram) (w := w') hw' (val := a.eval) hev (o := o) (by rw [hop]; exact hl)
              obtain ⟨fr2, hf2, hk⟩ := putK_sound hf1 (hsd _ hI).1 ht
              have hall : ∀ w', Inv P.E W L ρ s w' → (execOp a.eval o).run P w' = .ok (.value (u.den ρ)) w' := fun w' hw' => (hsd w' hw').2.1
              exact loud _ (opsC_soundL hcall hcallD r hk hf2 hI hK) (.inl ⟨hw, fun S hS w' hw' => .inl (by obtain ⟨_, _, _, hS⟩ := hS; exact hall w' (hS w' hw'))⟩) (fun h => by rw [hop] at h; cases h)
            · exact ht.elim
          · exact ht.elim
      · have hpl : p = .loud := by cases p <;> simp_all [isLoud]
        clear hp
        subst hpl
        cases hch : changes o.op <;> simp only [hch, cond_true, cond_false] at ht
        · split at ht
          · rename_i f args argTypes hop
            split at ht
            · rename_i g vs hg hvs
              have h1 := hev _ _ hg
              have h2 := evs_sound hev _ _ hvs
              obtain ⟨v, hv, hk, hcf, hc⟩ := callD_sound hcallD ht h2.2
              obtain ⟨fr2, hf2, hk⟩ := putK_sound hf1 hv hk
              have ih := opsC_soundL hcall hcallD r hk hf2 hI (Kp := Kp) hK
              have hy : YieldsX P ops (fun S => S = Inv P.E W L ρ s) o (v.den ρ) a := .inl ⟨hw, fun S hS w' hw' => .inr ⟨g, (vs.map (SV.den ρ)).toArray, by
                have hargs : args.map a.eval = (vs.map (SV.den ρ)).toArray := Array.ext' (by rw [Array.toList_map, h2.1])
                obtain ⟨dst, op, type, pos, after, guard⟩ := o
                simp only at hop
                subst hop
                have h1' : a.eval f = .func (.func g) #[] #[] := h1.1
                simp only [execOp, resolve, hargs, h1', Deferred.ofValue, Sem.run_bind, Sem.run_pure, Result.andThen_ok, invoke]
                simpa using hcf _ w', by
                rw [hS] at hw' ⊢
                exact hc W L ρ w' hw'⟩⟩
              intro S hS w0 hw0
              obtain ⟨_, _, _, hS⟩ := hS
              exact hy.wpOp ho rfl (hS w0 hw0) fun w'' hw'' => ⟨_, fun _ _ h => h, fun _ _ h => Down.self h, ⟨_, Kinds.self, hw''⟩, ih⟩
            · exact ht.elim
          · exact ht.elim
        split at ht
        · rename_i v s' hh
          intro S hS w0 hw0
          obtain ⟨_, _, _, hS⟩ := hS
          have hI0 := hS w0 hw0
          obtain ⟨ρ', w', nx, hag, hle, hok, hrun, hI', hnx⟩ := heapOp_sound hI0 hev hh
          obtain ⟨fr2, hf2, hk⟩ := putK_sound (hf1.agree hag hle) hok ht
          have ih := opsC_soundL hcall hcallD r hk hf2 hI' (Kp := Kp) fun fr'' s'' ρ'' a'' w'' hk hag' hle' hf'' hI'' =>
            hK _ _ _ _ _ hk (hag.trans hag' hle) (Nat.le_trans hle hle') hf'' hI''
          have hsub : mildAt ops i = true → ∀ T, Kinds P.E W L ρ' s' T → Kinds P.E W L ρ s T := by
            intro hm T hT
            obtain ⟨ρ2, s2, rfl, hT⟩ := hT
            have hmk : makes o.op = true := by
              simp only [mildAt, ho, hch, Bool.not_true, Bool.false_or] at hm
              exact hm
            obtain ⟨e, rfl⟩ := heapOp_makes hmk hh
            exact ⟨ρ2, s2, rfl, fun w hw => (hT w hw).part hI0.okc hag⟩
          have hD : makesAt ops i = true → ∀ T, Kinds P.E W L ρ' s' T → Down (Kinds P.E W L ρ s) T := fun hm T hT => Down.self (hsub (by simp only [makesAt, ho] at hm; simp only [mildAt, ho, hm, Bool.or_true]) T hT)
          refine wpOp_run ho hw ?_
          unfold Oper.wp
          rw [hrun]
          rcases hnx with rfl | ⟨rfl, rfl⟩
          · exact ⟨_, hsub, hD, ⟨_, Kinds.self, hI'⟩, ih⟩
          · rw [undefS_den] at ih
            exact ⟨_, hsub, hD, ⟨_, Kinds.self, hI'⟩, ih⟩
        · rename_i hnone
          split at ht
          · rename_i v s' nd hrow
            obtain ⟨hh, args0, argTypes0, hop0⟩ := rowNilO_eq hrow
            obtain ⟨hnd, ht⟩ := needsT_OK ht
            intro S hS w0 hw0
            obtain ⟨_, _, _, hS⟩ := hS
            have hI0 := hS w0 hw0
            obtain ⟨ρ', w', nx, hag, hle, hok, hrun, hI', hnx⟩ := rowOp_sound (E := P.E) hI0 hev hh hnd
            obtain ⟨fr2, hf2, hk⟩ := putK_sound (hf1.agree hag hle) hok ht
            have ih := opsC_soundL hcall hcallD r hk hf2 hI' (Kp := Kp) fun fr'' s'' ρ'' a'' w'' hk hag' hle' hf'' hI'' =>
              hK _ _ _ _ _ hk (hag.trans hag' hle) (Nat.le_trans hle hle') hf'' hI''
            have hsub : mildAt ops i = true → ∀ T, Kinds P.E W L ρ' s' T → Kinds P.E W L ρ s T := by
              intro hm T hT
              obtain ⟨ρ2, s2, rfl, hT⟩ := hT
              have hmk : makes o.op = true := by
                simp only [mildAt, ho, hch, Bool.not_true, Bool.false_or] at hm
                exact hm
              obtain ⟨e, rfl⟩ := rowNil_app2 (by rw [← hop0]; exact hmk) (by rw [← hop0]; exact hh)
              exact ⟨ρ2, s2, rfl, fun w hw => (hT w hw).part hI0.okc hag⟩
            have hD : makesAt ops i = true → ∀ T, Kinds P.E W L ρ' s' T → Down (Kinds P.E W L ρ s) T := fun hm T hT => Down.self (hsub (by simp only [makesAt, ho] at hm; simp only [mildAt, ho, hm, Bool.or_true]) T hT)
            refine wpOp_run ho hw ?_
            unfold Oper.wp
            rw [hrun]
            rcases hnx with rfl | ⟨rfl, rfl⟩
            · exact ⟨_, hsub, hD, ⟨_, Kinds.self, hI'⟩, ih⟩
            · rw [undefS_den] at ih
              exact ⟨_, hsub, hD, ⟨_, Kinds.self, hI'⟩, ih⟩
          · exact ht.elim

theorem opsC_sound {call : CallC β} {callK : CallK β} (hcall : CallCOK P call) (hcallD : CallDOK P callK) {ops : Array Oper} (l : List (Nat × Fl)) {fr : Fr} {s : SW} {ρ : Rh} {K : Fr → SW → Tree β} {a : Act} {w : World}
    (h : (opsC P call callK ops l fr s K).OK post) (hf : FrRel s.length ρ fr a) (hI : Inv P.E W L ρ s w) {Kp : Act → World → Prop}
    (hK : ∀ fr' s' ρ' a' w', (K fr' s').OK post → Agree s.length ρ ρ' → s.length ≤ s'.length → FrRel s'.length ρ' fr' a' → Inv P.E W L ρ' s' w' → Kp a' w') :
    SeqX mildAt P ops (Only Kp) l (Kinds P.E W L ρ s) a :=
  opsC_soundL hcall hcallD l h hf hI fun fr' s' ρ' a' w' h1 h2 h3 h4 _ => fun S hS w2 hw2 => by
    obtain ⟨_, _, _, h⟩ := hS
    exact hK _ _ _ _ _ h1 h2 h3 h4 (h w2 hw2)
theorem opsD_sound {call : CallK β} (hcall : CallDOK P call) {ops : Array Oper} : ∀ (l : List (Nat × Fl)) {fr : Fr} {s : SW} {ρ : Rh} {K : Fr → SW → Tree β} {a : Act} {w : World},
    (opsD P call ops l fr s K).OK post → FrRel s.length ρ fr a → Inv P.E W L ρ s w → ∀ {Kp : Act → World → Prop},
    (∀ fr' s' ρ' a' w', (K fr' s').OK post → Agree s.length ρ ρ' → s.length ≤ s'.length → FrRel s'.length ρ' fr' a' → Inv P.E W L ρ' s' w' → Kp a' w') →
    SeqX mildD P ops (Only Kp) l (Just P.E W L ρ s) a
  | [], fr, s, ρ, K, a, w, ht, hf, hI, Kp, hK => fun S hS w' hw' => by
    rw [hS] at hw'
    exact hK _ _ _ _ _ ht (Agree.refl _ _) (Nat.le_refl _) hf hw'
  | (i, p) :: r, fr, s, ρ, K, a, w, ht, hf, hI, Kp, hK => by
    simp only [opsD, pureOpF_eq, heapOpF_eq] at ht
    split at ht
    · exact ht.elim
    rename_i o ho
    obtain ⟨wanted, fr1, hw, hf1, ht2⟩ := guardK_sound ht hf
    clear ht
    have ht := ht2
    clear ht2
    have loud : ∀ (v : SV) (ih : SeqX mildD P ops (Only Kp) r (Just P.E W L ρ s) (a.put o.dst (v.den ρ))), (isPureF p = true → YieldsX P ops (fun _ => True) o (v.den ρ) a) → (isPureF p = false → YieldsX P ops (Just P.E W L ρ s) o (v.den ρ) a) → (isPureF p = false → kindLoad o.op = true → YieldsX P ops (Down (Just P.E W L ρ s)) o (v.den ρ) a) →
        SeqX mildD P ops (Only Kp) ((i, p) :: r) (Just P.E W L ρ s) a := by
      intro v ih hy1 hy hyL
      cases p
      · exact fun S hS w' hw' => (hy rfl).wpOp ho hS hw' fun w'' hw'' => ⟨_, fun _ _ h => h, fun _ _ h => Down.self h, ⟨S, hS, hw''⟩, ih⟩
      · exact ⟨o, _, ho, hy1 rfl, ih⟩
      · exact ⟨o, _, ho, hy rfl, hyL rfl, ih⟩
    cases wanted <;> simp only [cond_true, cond_false] at ht
    · obtain ⟨fr2, hf2, ht⟩ := putK_sound hf1 (undefS_ok _) ht
      exact loud undefS (opsD_sound hcall r ht hf2 hI hK) (fun _ => .inr ⟨hw, rfl⟩) (fun _ => .inr ⟨hw, rfl⟩) (fun _ _ => .inr ⟨hw, rfl⟩)
    · have hev := fun x y h => FrRel.ev hf1 x y h
      cases hp : isLoud p <;> simp only [hp, cond_true, cond_false] at ht
      · cases hpp : isPureF p <;> simp only [hpp, cond_true, cond_false] at ht
        rotate_left
        · split at ht
          · rename_i rr hr
            have hn := needsT_OK ht
            have hp := pureOp_sound hev hr hn.1
            obtain ⟨fr2, hf2, hk⟩ := putK_sound hf1 hp.2 hn.2
            exact loud _ (opsD_sound hcall r hk hf2 hI hK) (fun _ => .inl ⟨hw, fun S _ w' _ => .inl (hp.1 w')⟩) (fun _ => .inl ⟨hw, fun S _ w' _ => .inl (hp.1 w')⟩) (fun _ _ => .inl ⟨hw, fun S _ w' _ => .inl (hp.1 w')⟩)
          · exact ht.elim
        have loud := fun v ih hy hyL => loud v ih (fun h => by rw [hpp] at h; cases h) (fun _ => hy) (fun _ => hyL)
        unfold operD at ht
        simp only [pureOpF_eq, extOpF_eq] at ht
        split at ht
        · rename_i rr hr
          have hn := needsT_OK ht
          have hp := pureOp_sound hev hr hn.1
          obtain ⟨fr2, hf2, hk⟩ := putK_sound hf1 hp.2 hn.2
          exact loud _ (opsD_sound hcall r hk hf2 hI hK) (.inl ⟨hw, fun S _ w' _ => .inl (hp.1 w')⟩) (fun _ => .inl ⟨hw, fun S _ w' _ => .inl (hp.1 w')⟩)
        split at ht
        · rename_i rr hr
          have hn := needsT_OK ht
          have hp := extOp_sound hI hev hr hn.1
          obtain ⟨fr2, hf2, hk⟩ := putK_sound hf1 (hp.2 _) hn.2
          have hall : ∀ w', Inv P.E W L ρ s w' → (execOp a.eval o).run P w' = .ok (.value _) w' := fun w' h => (extOp_sound h hev hr hn.1).1
          exact loud _ (opsD_sound hcall r hk hf2 hI hK) (.inl ⟨hw, fun S hS w' hw' => .inl (by rw [hS] at hw'; exact hall w' hw')⟩) (fun _ => .inl ⟨hw, fun S hS w' hw' => .inl (by obtain ⟨_, hS, hd⟩ := hS; rw [hS] at hd; exact hall w' (hd w' hw'))⟩)
        · split at ht
          · rename_i t x hop
            split at ht
            · rename_i v hx
              split at ht
              · rename_i u s' hl
                have h1 := FrRel.ev hf1 _ _ hx
                obtain ⟨_, hok, _⟩ := loadS_sound (P := P) hI hl h1.2
                obtain ⟨fr2, hf2, hk⟩ := putK_sound hf1 hok ht
                have hall : ∀ w', Inv P.E W L ρ s w' → (execOp a.eval o).run P w' = .ok (.value (u.den ρ)) w' := by
                  intro w' hw'
                  obtain ⟨_, _, hrun⟩ := loadS_sound (P := P) hw' hl h1.2
                  obtain ⟨dst, op, type, pos, after, guard⟩ := o
                  simp only at hop
                  subst hop
                  simp only [execOp, Sem.run_bind, h1.1, hrun, Result.andThen_ok, Sem.run_pure]
                exact loud _ (opsD_sound hcall r hk hf2 hI hK) (.inl ⟨hw, fun S hS w' hw' => .inl (by rw [hS] at hw'; exact hall w' hw')⟩) (fun _ => .inl ⟨hw, fun S hS w' hw' => .inl (by obtain ⟨_, hS, hd⟩ := hS; rw [hS] at hd; exact hall w' (hd w' hw'))⟩)
              · exact ht.elim
            · exact ht.elim
          · rename_i f args argTypes hop
            split at ht
            · rename_i g vs hg hvs
              have h1 := hev _ _ hg
              have h2 := evs_sound hev _ _ hvs
              obtain ⟨v, hv, hk, hcf, hc⟩ := callD_sound hcall ht h2.2
              obtain ⟨fr2, hf2, hk⟩ := putK_sound hf1 hv hk
              refine loud v (opsD_sound hcall r hk hf2 hI hK) (.inl ⟨hw, fun S hS w' hw' => .inr ⟨g, (vs.map (SV.den ρ)).toArray, ?_, ?_⟩⟩) (fun h => by rw [hop] at h; cases h)
              · have hargs : args.map a.eval = (vs.map (SV.den ρ)).toArray := Array.ext' (by rw [Array.toList_map, h2.1])
                obtain ⟨dst, op, type, pos, after, guard⟩ := o
                simp only at hop
                subst hop
                have h1' : a.eval f = .func (.func g) #[] #[] := h1.1
                simp only [execOp, resolve, hargs, h1', Deferred.ofValue, Sem.run_bind, Sem.run_pure, Result.andThen_ok, invoke]
                simpa using hcf _ w'
              · rw [hS] at hw' ⊢
                exact hc W L ρ w' hw'
            · exact ht.elim
          · exact ht.elim
      · have hpl : p = .loud := by cases p <;> simp_all [isLoud]
        clear hp
        subst hpl
        cases hch : changes o.op <;> simp only [hch, cond_true, cond_false] at ht
        · exact ht.elim
        split at ht
        · rename_i v s' hh
          intro S hS w0 hw0
          rw [hS] at hw0
          obtain ⟨ρ', w', nx, hag, hle, hok, hrun, hI', hnx⟩ := heapOp_sound hw0 hev hh
          obtain ⟨fr2, hf2, hk⟩ := putK_sound (hf1.agree hag hle) hok ht
          have ih := opsD_sound hcall r hk hf2 hI' (Kp := Kp) fun fr'' s'' ρ'' a'' w'' hk hag' hle' hf'' hI'' =>
            hK _ _ _ _ _ hk (hag.trans hag' hle) (Nat.le_trans hle hle') hf'' hI''
          have hsub : mildD ops i = true → ∀ T, Just P.E W L ρ' s' T → Just P.E W L ρ s T := by
            intro hm
            simp only [mildD, ho, hch, Bool.not_true] at hm
            cases hm
          have hD : makesAt ops i = true → ∀ T, Just P.E W L ρ' s' T → Down (Just P.E W L ρ s) T := by
            intro hm T hT
            simp only [makesAt, ho] at hm
            obtain ⟨e, rfl⟩ := heapOp_makes hm hh
            exact ⟨_, rfl, fun w hw => by rw [hT] at hw; exact hw.part hw0.okc hag⟩
          refine wpOp_run ho hw ?_
          unfold Oper.wp
          rw [hrun]
          rcases hnx with rfl | ⟨rfl, rfl⟩
          · exact ⟨_, hsub, hD, ⟨_, rfl, hI'⟩, ih⟩
          · rw [undefS_den] at ih
            exact ⟨_, hsub, hD, ⟨_, rfl, hI'⟩, ih⟩
        · rename_i hnone
          split at ht
          · rename_i v s' nd hrow
            obtain ⟨hh, args0, argTypes0, hop0⟩ := rowNilO_eq hrow
            obtain ⟨hnd, ht⟩ := needsT_OK ht
            intro S hS w0 hw0
            rw [hS] at hw0
            obtain ⟨ρ', w', nx, hag, hle, hok, hrun, hI', hnx⟩ := rowOp_sound (E := P.E) hw0 hev hh hnd
            obtain ⟨fr2, hf2, hk⟩ := putK_sound (hf1.agree hag hle) hok ht
            have ih := opsD_sound hcall r hk hf2 hI' (Kp := Kp) fun fr'' s'' ρ'' a'' w'' hk hag' hle' hf'' hI'' =>
              hK _ _ _ _ _ hk (hag.trans hag' hle) (Nat.le_trans hle hle') hf'' hI''
            have hsub : mildD ops i = true → ∀ T, Just P.E W L ρ' s' T → Just P.E W L ρ s T := by
              intro hm
              simp only [mildD, ho, hch, Bool.not_true] at hm
              cases hm
            have hD : makesAt ops i = true → ∀ T, Just P.E W L ρ' s' T → Down (Just P.E W L ρ s) T := by
              intro hm T hT
              simp only [makesAt, ho] at hm
              obtain ⟨e, rfl⟩ := rowNil_app2 (by rw [← hop0]; exact hm) (by rw [← hop0]; exact hh)
              exact ⟨_, rfl, fun w hw => by rw [hT] at hw; exact hw.part hw0.okc hag⟩
            refine wpOp_run ho hw ?_
            unfold Oper.wp
            rw [hrun]
            rcases hnx with rfl | ⟨rfl, rfl⟩
            · exact ⟨_, hsub, hD, ⟨_, rfl, hI'⟩, ih⟩
            · rw [undefS_den] at ih
              exact ⟨_, hsub, hD, ⟨_, rfl, hI'⟩, ih⟩
          · exact ht.elim
theorem maskS_get {B : List Nat} : ∀ (s : SW) (k i : Nat) (b : Bl), (maskS B k s)[i]? = some b → ∃ b0, s[i]? = some b0 ∧ (b = b0 ∨ b = ⟨[], b0.ty⟩)
  | [], _, i, b, h => by simp [maskS] at h
  | c :: s, k, i, b, h => by
    cases i with
    | zero =>
      simp only [maskS, List.getElem?_cons_zero, Option.some.injEq] at h
      refine ⟨c, rfl, ?_⟩
      rw [← h]
      cases memN B k
      · exact .inr rfl
      · exact .inl rfl
    | succ i =>
      simp only [maskS, List.getElem?_cons_succ] at h ⊢
      exact maskS_get s (k + 1) i b h
theorem maskS_len {B : List Nat} : ∀ (s : SW) (k : Nat), (maskS B k s).length = s.length
  | [], _ => rfl
  | _ :: s, k => by simp [maskS, maskS_len s (k + 1)]
theorem Inv.mask {E W : World} {L : Nat → Prop} {ρ : Rh} {s : SW} {w : World} (hI : Inv E W L ρ s w) (B : List Nat) : Inv E W L ρ (maskS B 0 s) w := by
  have lv : ∀ i, live (maskS B 0 s) i → live s i := by
    rintro i ⟨b, hb, hn⟩
    obtain ⟨b0, h1, rfl | rfl⟩ := maskS_get _ _ _ _ hb
    · exact ⟨_, h1, hn⟩
    · exact ⟨b0, h1, .inr (hn.resolve_left (fun h => h rfl))⟩
  refine ⟨fun i b hb => ?_, fun i b hb => ?_, fun i j hi hj => hI.inj i j (lv i hi) (lv j hj), hI.grow, hI.old, fun i hi => hI.fresh i (lv i hi), trivial, hI.os, hI.out, hI.tape, by rw [maskS_len]; exact hI.ext⟩
  · obtain ⟨b0, h1, rfl | rfl⟩ := maskS_get _ _ _ _ hb
    · exact hI.blk i _ h1
    · rcases hI.blk i b0 h1 with ⟨g1, _, r, g3, _⟩ | ⟨g1, g2, g3⟩ | ⟨g1, _, g3⟩
      · exact .inr (.inr ⟨g1, rfl, (let ⟨_, g3, _⟩ := g3; (Array.getElem?_eq_some_iff.1 g3).1)⟩)
      · exact .inr (.inl ⟨g1, rfl, g3⟩)
      · exact .inr (.inr ⟨g1, rfl, g3⟩)
  · rw [maskS_len]
    obtain ⟨b0, h1, rfl | rfl⟩ := maskS_get _ _ _ _ hb
    · exact hI.okc i _ h1
    · rfl
theorem opsY_sound {W : World} {L : Nat → Prop} {call : CallK β} (hcall : CallOK P W L call) {ops : Array Oper} : ∀ (l : List (Nat × Fl)) {fr : Fr} {s : SW} {B : List Nat} {ρ : Rh} {K : Fr → SW → Tree β} {a : Act} {w : World},
    (opsY P call ops l fr s (maskS B 0 s) K).OK post → FrRel s.length ρ fr a → Inv P.E W L ρ s w → ∀ {Kp : Act → World → Prop},
    (∀ fr' s' ρ' a' w', (K fr' s').OK post → Agree s.length ρ ρ' → s.length ≤ s'.length → FrRel s'.length ρ' fr' a' → Inv P.E W L ρ' s' w' → Kp a' w') →
    SeqY P ops (Only Kp) l (Inv P.E W L ρ (maskS B 0 s)) (Inv P.E W L ρ s) a
  | [], fr, s, B, ρ, K, a, w, ht, hf, hI, Kp, hK => fun w' hw' => hK _ _ _ _ _ ht (Agree.refl _ _) (Nat.le_refl _) hf hw'
  | (i, p) :: r, fr, s, B, ρ, K, a, w, ht, hf, hI, Kp, hK => by
    simp only [opsY, pureOpF_eq, extOpF_eq] at ht
    split at ht
    · exact ht.elim
    rename_i o ho
    obtain ⟨wanted, fr1, hw, hf1, ht2⟩ := guardK_sound ht hf
    clear ht
    have ht := ht2
    clear ht2
    cases wanted <;> simp only [cond_true, cond_false] at ht
    · obtain ⟨fr2, hf2, ht⟩ := putK_sound hf1 (undefS_ok _) ht
      have ih := opsY_sound hcall r ht hf2 hI hK
      cases p
      · exact fun w' hw' => (show YieldsIf P ops (fun _ => True) o undef a from .inr ⟨hw, rfl⟩).wpOp ho trivial ⟨_, _, fun _ h => h, fun _ h => h.mask B, hw', ih⟩
      · exact ⟨o, _, ho, .inr ⟨hw, rfl⟩, ih⟩
      · exact ⟨o, _, ho, .inr ⟨hw, rfl⟩, ih⟩
    have hev := fun x y h => FrRel.ev hf1 x y h
    cases hp : isLoud p <;> simp only [hp, cond_true, cond_false] at ht
    rotate_left
    · have hpl : p = .loud := by cases p <;> simp_all [isLoud]
      clear hp
      subst hpl
      intro w0 hw0
      refine wpOp_run ho hw (operK_sound hcall ht hf1 hw0 fun v s' ρ' w' h1 hag hle hok hI' => ?_)
      obtain ⟨fr2, hf2, h2⟩ := putK_sound (hf1.agree hag hle) hok h1
      rw [maskK_eq] at h2
      split at h2
      · rename_i nd hnd
        have hn := needsT_OK h2
        refine ⟨Inv P.E W L ρ' (maskS _ 0 s'), Inv P.E W L ρ' s', fun w2 hw2 => ?_, fun w2 hw2 => hw2.mask _, hI', opsY_sound hcall r hn.2 hf2 hI' fun fr'' s'' ρ'' a'' w'' hk hag' hle' hf'' hI'' => hK _ _ _ _ _ hk (hag.trans hag' hle) (Nat.le_trans hle hle') hf'' hI''⟩
        exact (hw0.mask B).keep hw2 (by rw [maskS_len]; exact hag) (by rw [maskS_len, maskS_len]; exact hle) hnd hn.1
      · exact h2.elim
    have go : ∀ (v : SV), SeqY P ops (Only Kp) r (Inv P.E W L ρ (maskS B 0 s)) (Inv P.E W L ρ s) (a.put o.dst (v.den ρ)) → (∀ w', Inv P.E W L ρ (maskS B 0 s) w' → (execOp a.eval o).run P w' = .ok (.value (v.den ρ)) w') →
        SeqY P ops (Only Kp) ((i, p) :: r) (Inv P.E W L ρ (maskS B 0 s)) (Inv P.E W L ρ s) a := by
      intro v ih hy
      cases p
      · cases hp
      · exact ⟨o, _, ho, .inl ⟨hw, hy⟩, ih⟩
      · exact ⟨o, _, ho, .inl ⟨hw, hy⟩, ih⟩
    split at ht
    · rename_i rr hr
      have hn := needsT_OK ht
      have hp := pureOp_sound hev hr hn.1
      obtain ⟨fr2, hf2, hk⟩ := putK_sound hf1 hp.2 hn.2
      exact go _ (opsY_sound hcall r hk hf2 hI hK) fun w' _ => hp.1 w'
    split at ht
    · rename_i rr hr
      have hn := needsT_OK ht
      have hev' : ∀ x y, fr1.ev x = some y → a.eval x = y.den ρ ∧ y.ok (maskS B 0 s).length = true := fun x y h => by rw [maskS_len]; exact hev x y h
      have hp := extOp_sound (hI.mask B) hev' hr hn.1
      obtain ⟨fr2, hf2, hk⟩ := putK_sound hf1 (by have := hp.2 (maskS B 0 s).length; rwa [maskS_len] at this) hn.2
      exact go _ (opsY_sound hcall r hk hf2 hI hK) fun w' hw' => (extOp_sound hw' hev' hr hn.1).1
    · split at ht
      · rename_i t x hop
        split at ht
        · rename_i v hx
          split at ht
          · rename_i u s' hl
            have h1 := FrRel.ev hf1 _ _ hx
            have h1o : v.ok (maskS B 0 s).length = true := by rw [maskS_len]; exact h1.2
            obtain ⟨_, hok, _⟩ := loadS_sound (P := P) (hI.mask B) hl h1o
            rw [maskS_len] at hok
            obtain ⟨fr2, hf2, hk⟩ := putK_sound hf1 hok ht
            refine go u (opsY_sound hcall r hk hf2 hI hK) fun w' hw' => ?_
            obtain ⟨_, _, hrun⟩ := loadS_sound (P := P) hw' hl h1o
            obtain ⟨dst, op, type, pos, after, guard⟩ := o
            simp only at hop
            subst hop
            simp only [execOp, Sem.run_bind, h1.1, hrun, Result.andThen_ok, Sem.run_pure]
          · exact ht.elim
        · exact ht.elim
      · exact ht.elim
theorem opsY_soundL {W : World} {L : Nat → Prop} {call : CallK β} (hcall : CallOK P W L call) {ops : Array Oper} : ∀ (l : List (Nat × Fl)) {fr : Fr} {s : SW} {B : List Nat} {ρ : Rh} {K : Fr → SW → Tree β} {a : Act} {w : World},
    (opsY P call ops l fr s (maskS B 0 s) K).OK post → FrRel s.length ρ fr a → Inv P.E W L ρ s w → ∀ {Kp : Act → World → Prop} {Φ : (World → Prop) → (World → Prop) → Act → Prop},
    (∀ fr' s' ρ' a' w' B', (K fr' s').OK post → Agree s.length ρ ρ' → s.length ≤ s'.length → FrRel s'.length ρ' fr' a' → Inv P.E W L ρ' s' w' → Φ (Inv P.E W L ρ' (maskS B' 0 s')) (Inv P.E W L ρ' s') a') →
    SeqYL P ops (Only Kp) Φ l (Inv P.E W L ρ (maskS B 0 s)) (Inv P.E W L ρ s) a
  | [], fr, s, B, ρ, K, a, w, ht, hf, hI, Kp, Φ, hK => hK _ _ _ _ _ _ ht (Agree.refl _ _) (Nat.le_refl _) hf hI
  | (i, p) :: r, fr, s, B, ρ, K, a, w, ht, hf, hI, Kp, Φ, hK => by
    simp only [opsY, pureOpF_eq, extOpF_eq] at ht
    split at ht
    · exact ht.elim
    rename_i o ho
    obtain ⟨wanted, fr1, hw, hf1, ht2⟩ := guardK_sound ht hf
    clear ht
    have ht := ht2
    clear ht2
    cases wanted <;> simp only [cond_true, cond_false] at ht
    · obtain ⟨fr2, hf2, ht⟩ := putK_sound hf1 (undefS_ok _) ht
      have ih := opsY_soundL (Kp := Kp) hcall r ht hf2 hI hK
      cases p
      · exact fun w' hw' => (show YieldsIf P ops (fun _ => True) o undef a from .inr ⟨hw, rfl⟩).wpOp ho trivial ⟨_, _, fun _ h => h, fun _ h => h.mask B, hw', ih⟩
      · exact ⟨o, _, ho, .inr ⟨hw, rfl⟩, ih⟩
      · exact ⟨o, _, ho, .inr ⟨hw, rfl⟩, ih⟩
    have hev := fun x y h => FrRel.ev hf1 x y h
    cases hp : isLoud p <;> simp only [hp, cond_true, cond_false] at ht
    rotate_left
    · have hpl : p = .loud := by cases p <;> simp_all [isLoud]
      clear hp
      subst hpl
      intro w0 hw0
      refine wpOp_run ho hw (operK_sound hcall ht hf1 hw0 fun v s' ρ' w' h1 hag hle hok hI' => ?_)
      obtain ⟨fr2, hf2, h2⟩ := putK_sound (hf1.agree hag hle) hok h1
      rw [maskK_eq] at h2
      split at h2
      · rename_i nd hnd
        have hn := needsT_OK h2
        refine ⟨Inv P.E W L ρ' (maskS _ 0 s'), Inv P.E W L ρ' s', fun w2 hw2 => ?_, fun w2 hw2 => hw2.mask _, hI', opsY_soundL (Kp := Kp) hcall r hn.2 hf2 hI' fun fr'' s'' ρ'' a'' w'' B'' hk hag' hle' hf'' hI'' => hK _ _ _ _ _ _ hk (hag.trans hag' hle) (Nat.le_trans hle hle') hf'' hI''⟩
        exact (hw0.mask B).keep hw2 (by rw [maskS_len]; exact hag) (by rw [maskS_len, maskS_len]; exact hle) hnd hn.1
      · exact h2.elim
    have go : ∀ (v : SV), SeqYL P ops (Only Kp) Φ r (Inv P.E W L ρ (maskS B 0 s)) (Inv P.E W L ρ s) (a.put o.dst (v.den ρ)) → (∀ w', Inv P.E W L ρ (maskS B 0 s) w' → (execOp a.eval o).run P w' = .ok (.value (v.den ρ)) w') →
        SeqYL P ops (Only Kp) Φ ((i, p) :: r) (Inv P.E W L ρ (maskS B 0 s)) (Inv P.E W L ρ s) a := by
      intro v ih hy
      cases p
      · cases hp
      · exact ⟨o, _, ho, .inl ⟨hw, hy⟩, ih⟩
      · exact ⟨o, _, ho, .inl ⟨hw, hy⟩, ih⟩
    split at ht
    · rename_i rr hr
      have hn := needsT_OK ht
      have hp := pureOp_sound hev hr hn.1
      obtain ⟨fr2, hf2, hk⟩ := putK_sound hf1 hp.2 hn.2
      exact go _ (opsY_soundL (Kp := Kp) hcall r hk hf2 hI hK) fun w' _ => hp.1 w'
    split at ht
    · rename_i rr hr
      have hn := needsT_OK ht
      have hev' : ∀ x y, fr1.ev x = some y → a.eval x = y.den ρ ∧ y.ok (maskS B 0 s).length = true := fun x y h => by rw [maskS_len]; exact hev x y h
      have hp := extOp_sound (hI.mask B) hev' hr hn.1
      obtain ⟨fr2, hf2, hk⟩ := putK_sound hf1 (by have := hp.2 (maskS B 0 s).length; rwa [maskS_len] at this) hn.2
      exact go _ (opsY_soundL (Kp := Kp) hcall r hk hf2 hI hK) fun w' hw' => (extOp_sound hw' hev' hr hn.1).1
    · split at ht
      · rename_i t x hop
        split at ht
        · rename_i v hx
          split at ht
          · rename_i u s' hl
            have h1 := FrRel.ev hf1 _ _ hx
            have h1o : v.ok (maskS B 0 s).length = true := by rw [maskS_len]; exact h1.2
            obtain ⟨_, hok, _⟩ := loadS_sound (P := P) (hI.mask B) hl h1o
            rw [maskS_len] at hok
            obtain ⟨fr2, hf2, hk⟩ := putK_sound hf1 hok ht
            refine go u (opsY_soundL (Kp := Kp) hcall r hk hf2 hI hK) fun w' hw' => ?_
            obtain ⟨_, _, hrun⟩ := loadS_sound (P := P) hw' hl h1o
            obtain ⟨dst, op, type, pos, after, guard⟩ := o
            simp only at hop
            subst hop
            simp only [execOp, Sem.run_bind, h1.1, hrun, Result.andThen_ok, Sem.run_pure]
          · exact ht.elim
        · exact ht.elim
      · exact ht.elim
end
end Go.Proofs.Ytdomhmajoclpeaa.Ev
