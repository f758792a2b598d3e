import Derived.Orders
import Derived.RowKit3
import Derived.KernelRfl
import Derived.Laws.Entries
import Derived.Laws.Small
import Derived.Laws.Shifts
import Derived.Laws.StructEq
import Derived.Laws.Pointers
import Derived.OrdersHeld
import Derived.WalkKit
import Derived.ProofKit
import Derived.OpenShut
import Derived.ReadAgain
/- A verified symbolic evaluator over the step machine: a function's body is run by the kernel on values that may be unknown; the run forks where a test is not known; the tree of its ends is sound for the machine. -/
set_option linter.unusedVariables false
set_option linter.unusedSimpArgs false
/-! A verified symbolic evaluator over the step machine: runs a list of things to do, forks where a test is not known, and gives a tree of ends. -/
namespace Go.Proofs.Ytjacbodjkgiohaa.Ev
open Go

/-! ### 1. A list of things to do, as the machine has it -/

def TodoWp (P : Program) (t : List Item) (Q : Exit → Act → World → Prop) (a : Act) (w : World) : Prop :=
  ∀ (b : Frame) (k : List Item) (cs : List Frame),
    ∃ e a' w', Q e a' w' ∧ Arrives P (lone (b.at a (t ++ k)) cs w) b k cs e a' w'

theorem exitTo_append {id : Nat} {t t' : List Item} (h : exitTo id t = some t') (k : List Item) : exitTo id (t ++ k) = some (t' ++ k) := by
  induction t with
  | nil => simp [exitTo] at h
  | cons x t ih =>
    cases x <;> simp only [exitTo, List.cons_append] at h ⊢ <;> first | exact ih h | skip
    split at h
    · rename_i hh; simp only [hh, if_true]; simp at h; subst h; rfl
    · rename_i hh; simp only [hh]; exact ih h

section
variable {P : Program} {Q : Exit → Act → World → Prop} {a : Act} {w : World} {t : List Item}

theorem TodoWp.nil (h : Q .normal a w) : TodoWp P [] Q a w := fun b k cs => ⟨.normal, a, w, h, .refl _ _⟩

theorem TodoWp.step {x : Item} {t' : List Item}
    (hs : ∀ (b : Frame) (k : List Item) (cs : List Frame), step P (lone (b.at a (x :: (t ++ k))) cs w) = .next (lone (b.at a (t' ++ k)) cs w))
    (h : TodoWp P t' Q a w) : TodoWp P (x :: t) Q a w := fun b k cs =>
  let ⟨e, a', w', q, r⟩ := h b k cs
  ⟨e, a', w', q, .of_steps (.one (hs b k cs)) r⟩

theorem TodoWp.skip (h : TodoWp P t Q a w) : TodoWp P (.code .skip :: t) Q a w := .step (fun _ _ _ => step_skip) h
theorem TodoWp.label {l : Nat} (h : TodoWp P t Q a w) : TodoWp P (.code (.label l) :: t) Q a w := .step (fun _ _ _ => step_label) h
theorem TodoWp.inBlock {id : Nat} (h : TodoWp P t Q a w) : TodoWp P (.inBlock id :: t) Q a w := .step (fun _ _ _ => step_inBlock) h
theorem step_inScope' {P : Program} {b : Frame} {a : Act} {k : List Item} {cs : List Frame} {w : World} {c : Code} :
    step P (lone (b.at a (.inScope c :: k)) cs w) = .next (lone (b.at a k) cs w) :=
  step_lone_go (by simp [stepG, stepG.exec, Frame.at])
theorem step_scope' {P : Program} {b : Frame} {a : Act} {k : List Item} {cs : List Frame} {w : World} {c : Code} :
    step P (lone (b.at a (.code (.scope c) :: k)) cs w) = .next (lone (b.at a (.code c :: .inScope c :: k)) cs w) :=
  step_lone_go (by simp [stepG, stepG.exec, Frame.at])
theorem TodoWp.inScope {c : Code} (h : TodoWp P t Q a w) : TodoWp P (.inScope c :: t) Q a w := .step (fun _ _ _ => step_inScope') h
theorem TodoWp.scope {c : Code} (h : TodoWp P (.code c :: .inScope c :: t) Q a w) : TodoWp P (.code (.scope c) :: t) Q a w :=
  .step (fun _ _ _ => step_scope') h
theorem TodoWp.seq {x y : Code} (h : TodoWp P (.code x :: .code y :: t) Q a w) : TodoWp P (.code (.seq x y) :: t) Q a w :=
  .step (fun _ _ _ => step_seq) h
theorem TodoWp.block {id : Nat} {c : Code} (h : TodoWp P (.code c :: .inBlock id :: t) Q a w) : TodoWp P (.code (.block id c) :: t) Q a w :=
  .step (fun _ _ _ => step_block) h
theorem TodoWp.loop {c : Code} (h : TodoWp P (.code c :: .inLoop c :: t) Q a w) : TodoWp P (.code (.loop c) :: t) Q a w :=
  .step (fun _ _ _ => step_loop) h
theorem TodoWp.inLoop {c : Code} (h : TodoWp P (.code c :: .inLoop c :: t) Q a w) : TodoWp P (.inLoop c :: t) Q a w :=
  .step (fun _ _ _ => step_inLoop) h
theorem TodoWp.cond {c : Operand} {x y : Code} {b : Bool} (hc : a.eval c = .bool b) (h : TodoWp P (.code (if b then x else y) :: t) Q a w) :
    TodoWp P (.code (.cond c x y) :: t) Q a w := .step (fun _ _ _ => step_cond hc) h
theorem TodoWp.exit {id : Nat} {t' : List Item} (hk : exitTo id t = some t') (h : TodoWp P t' Q a w) : TodoWp P (.code (.exit id) :: t) Q a w :=
  .step (fun _ k _ => step_exit (exitTo_append hk k)) h
theorem TodoWp.ret (h : Q .ret a w) : TodoWp P (.code .ret :: t) Q a w := fun _ _ _ => ⟨.ret, a, w, h, _, .one step_ret⟩

/-- Only a normal end. -/
def Only (K : Act → World → Prop) : Exit → Act → World → Prop
  | .normal, a, w => K a w
  | _, _, _ => False

theorem TodoWp.code {c : Code} (h : c.wp P (Only (TodoWp P t Q)) a w) : TodoWp P (.code c :: t) Q a w := by
  intro b k cs
  obtain ⟨e, a₁, w₁, hq, harr⟩ := h b (t ++ k) cs
  cases e with
  | normal =>
    obtain ⟨e₂, a₂, w₂, hq₂, harr₂⟩ := hq b k cs
    exact ⟨e₂, a₂, w₂, hq₂, .of_steps harr harr₂⟩
  | _ => exact hq.elim

theorem TodoWp.wp {c : Code} (h : TodoWp P [.code c] Q a w) : c.wp P Q a w := fun b k cs => h b k cs

theorem TodoWp.mono {Q' : Exit → Act → World → Prop} (h : TodoWp P t Q a w) (hq : ∀ e a w, Q e a w → Q' e a w) : TodoWp P t Q' a w :=
  fun b k cs => let ⟨e, a', w', q, r⟩ := h b k cs; ⟨e, a', w', hq _ _ _ q, r⟩

/-- A loop by an invariant, as a thing to do. -/
theorem TodoWp.loopInv {c : Code} (I : Act → World → Prop) (μ : Act → World → Nat) (h₀ : I a w)
    (round : ∀ a w, I a w → TodoWp P (.code c :: .inLoop c :: t) (fun e a' w' => Q e a' w') a w ∨
      ∃ K : Act → World → Prop, c.wp P (Only K) a w ∧ ∀ a' w', K a' w' → I a' w' ∧ μ a' w' < μ a w) :
    TodoWp P (.code (.loop c) :: t) Q a w := by
  have key : ∀ n a w, μ a w = n → I a w → TodoWp P (.code c :: .inLoop c :: t) Q a w := by
    intro n
    induction n using Nat.strongRecOn with
    | _ n ih =>
      intro a w hn hI
      rcases round a w hI with h | ⟨K, hw, hK⟩
      · exact h
      · refine TodoWp.code ?_
        refine wp_mono hw ?_
        intro e a' w' he
        cases e <;> simp only [Only] at he ⊢
        obtain ⟨hI', hlt⟩ := hK _ _ he
        exact TodoWp.inLoop (ih _ (hn ▸ hlt) a' w' rfl hI')
  exact TodoWp.loop (key _ a w rfl h₀)
end
end Go.Proofs.Ytjacbodjkgiohaa.Ev

namespace Go.Proofs.Ytjacbodjkgiohaa.Ev
open Go.RowKit (Grown frozen?_alloc_cells)
open Go

/-! ### 2. Values of the evaluator -/

inductive C where
  | b (lit : Bool) (v : Bool)
  | i (lit : Bool) (k : IntKind) (n : Int)
  | str (s : ByteArray)
  | p (blk off : Nat)
  | slc (blk off len cap : Nat)
  | fn (f : FuncId)
  | clo (f : FuncId) (caps : List (Nat × Nat))
  | x (v : Value)

inductive S1 where
  | c (x : C)
  | a (l : List C)

inductive SV where
  | c (x : C)
  | a (l : List C)
  | t (l : List S1)
  | any

def C.den (ρ : Nat → Nat) : C → Value
  | .b _ v => .bool v
  | .i _ k n => .int k n
  | .str s => .string s
  | .p blk off => .pointer (some ⟨ρ blk, off, none⟩)
  | .slc blk off len cap => .slice (some ⟨ρ blk, off, none⟩) len cap
  | .fn f => .func (.func f) #[] #[]
  | .clo f caps => .func (.func f) #[] (caps.map fun p => Value.pointer (some ⟨ρ p.1, p.2, none⟩)).toArray
  | .x v => v

def denL (ρ : Nat → Nat) (l : List C) : Array Value := (l.map (C.den ρ)).toArray
def S1.den (ρ : Nat → Nat) : S1 → Value
  | .c x => x.den ρ
  | .a l => .agg (denL ρ l)
def SV.den (ρ : Nat → Nat) : SV → Value
  | .c x => x.den ρ
  | .a l => .agg (denL ρ l)
  | .t l => .tuple (l.map (S1.den ρ)).toArray
  | .any => .tuple #[]
def SV.isAny : SV → Bool | .any => true | _ => false

def C.ok (n : Nat) : C → Bool
  | .p blk _ => Nat.blt blk n
  | .slc blk _ _ _ => Nat.blt blk n
  | .clo _ caps => caps.all fun p => Nat.blt p.1 n
  | _ => true
def okL (n : Nat) (l : List C) : Bool := l.all (C.ok n)
def S1.ok (n : Nat) : S1 → Bool
  | .c x => x.ok n
  | .a l => okL n l
def SV.ok (n : Nat) : SV → Bool
  | .c x => x.ok n
  | .a l => okL n l
  | .t l => l.all (S1.ok n)
  | .any => true

def Agree (n : Nat) (ρ ρ' : Nat → Nat) : Prop := ∀ i, i < n → ρ' i = ρ i
theorem Agree.refl (n : Nat) (ρ : Nat → Nat) : Agree n ρ ρ := fun _ _ => rfl
theorem Agree.trans {n m : Nat} {ρ ρ' ρ'' : Nat → Nat} (h : Agree n ρ ρ') (h' : Agree m ρ' ρ'') (hn : n ≤ m) : Agree n ρ ρ'' :=
  fun i hi => (h' i (Nat.lt_of_lt_of_le hi hn)).trans (h i hi)

theorem C.den_agree {n : Nat} {ρ ρ' : Nat → Nat} (h : Agree n ρ ρ') {x : C} (hx : x.ok n = true) : x.den ρ' = x.den ρ := by
  cases x with
  | clo f caps =>
    simp only [C.den, C.ok] at hx ⊢
    congr 2
    exact List.map_congr_left fun p hp => by rw [h _ (Nat.le_of_ble_eq_true (List.all_eq_true.1 hx p hp))]
  | p blk off => simp only [C.den, C.ok] at hx ⊢; rw [h _ (Nat.le_of_ble_eq_true hx)]
  | slc blk off len cap => simp only [C.den, C.ok] at hx ⊢; rw [h _ (Nat.le_of_ble_eq_true hx)]
  | _ => rfl
theorem denL_agree {n : Nat} {ρ ρ' : Nat → Nat} (h : Agree n ρ ρ') {l : List C} (hl : okL n l = true) : denL ρ' l = denL ρ l := by
  unfold denL
  congr 1
  refine List.map_congr_left fun x hx => ?_
  exact C.den_agree h (List.all_eq_true.1 hl x hx)
theorem S1.den_agree {n : Nat} {ρ ρ' : Nat → Nat} (h : Agree n ρ ρ') {x : S1} (hx : x.ok n = true) : x.den ρ' = x.den ρ := by
  cases x with
  | c x => exact C.den_agree h hx
  | a l => simp only [S1.den]; rw [denL_agree h hx]
theorem SV.den_agree {n : Nat} {ρ ρ' : Nat → Nat} (h : Agree n ρ ρ') {x : SV} (hx : x.ok n = true) : x.den ρ' = x.den ρ := by
  cases x with
  | c x => exact C.den_agree h hx
  | a l => simp only [SV.den]; rw [denL_agree h hx]
  | t l =>
    simp only [SV.den]
    congr 2
    exact List.map_congr_left fun x hx' => S1.den_agree h (List.all_eq_true.1 hx x hx')
  | any => rfl

theorem C.ok_mono {n m : Nat} (h : n ≤ m) {x : C} (hx : x.ok n = true) : x.ok m = true := by
  cases x with
  | clo f caps =>
    simp only [C.ok] at hx ⊢
    exact List.all_eq_true.2 fun p hp => Nat.ble_eq_true_of_le (Nat.le_trans (Nat.le_of_ble_eq_true (List.all_eq_true.1 hx p hp)) h)
  | p blk off => simp only [C.ok] at hx ⊢; exact Nat.ble_eq_true_of_le (Nat.le_trans (Nat.le_of_ble_eq_true hx) h)
  | slc blk off len cap => simp only [C.ok] at hx ⊢; exact Nat.ble_eq_true_of_le (Nat.le_trans (Nat.le_of_ble_eq_true hx) h)
  | _ => rfl
theorem okL_mono {n m : Nat} (h : n ≤ m) {l : List C} (hl : okL n l = true) : okL m l = true :=
  List.all_eq_true.2 fun x hx => C.ok_mono h (List.all_eq_true.1 hl x hx)
theorem S1.ok_mono {n m : Nat} (h : n ≤ m) {x : S1} (hx : x.ok n = true) : x.ok m = true := by
  cases x with
  | c x => exact C.ok_mono h hx
  | a l => exact okL_mono h hx
theorem SV.ok_mono {n m : Nat} (h : n ≤ m) {x : SV} (hx : x.ok n = true) : x.ok m = true := by
  cases x with
  | c x => exact C.ok_mono h hx
  | a l => exact okL_mono h hx
  | t l => exact List.all_eq_true.2 fun x hx' => S1.ok_mono h (List.all_eq_true.1 hx x hx')
  | any => rfl

def undefS : SV := .t []
theorem undefS_den (ρ : Nat → Nat) : undefS.den ρ = undef := rfl
theorem undefS_ok (n : Nat) : undefS.ok n = true := rfl

/-- A cell made of a plain value. -/
def ofCell : Value → C
  | .bool v => .b true v
  | .int k n => .i true k n
  | .string s => .str s
  | v => .x v
theorem ofCell_den (ρ : Nat → Nat) (v : Value) : (ofCell v).den ρ = v := by cases v <;> rfl
theorem ofCell_ok (n : Nat) (v : Value) : (ofCell v).ok n = true := by cases v <;> rfl
def ofVal : Value → SV
  | .agg cs => .a (cs.toList.map ofCell)
  | v => .c (ofCell v)
theorem denL_ofCell (ρ : Nat → Nat) (cs : List Value) : denL ρ (cs.map ofCell) = cs.toArray := by
  unfold denL
  rw [List.map_map]
  congr 1
  have : (C.den ρ ∘ ofCell) = id := funext fun v => ofCell_den ρ v
  rw [this, List.map_id]
theorem okL_ofCell (n : Nat) (cs : List Value) : okL n (cs.map ofCell) = true :=
  List.all_eq_true.2 fun x hx => by obtain ⟨v, _, rfl⟩ := List.mem_map.1 hx; exact ofCell_ok n v
theorem ofVal_den (ρ : Nat → Nat) (v : Value) : (ofVal v).den ρ = v := by
  cases v with
  | agg cs => simp only [ofVal, SV.den]; rw [denL_ofCell]
  | _ => rfl
theorem ofVal_ok (n : Nat) (v : Value) : (ofVal v).ok n = true := by
  cases v with
  | agg cs => exact okL_ofCell n _
  | _ => rfl

/-! ### 3. The frame as a tree of slots -/

inductive Tr where
  | e
  | n (l : Tr) (v : SV) (r : Tr)

def Tr.get : Tr → Nat → SV
  | .e, _ => undefS
  | .n l v r, k => cond (Nat.beq k 0) v (cond (Nat.beq (k % 2) 1) (l.get (k / 2)) (r.get (k / 2 - 1)))
def Tr.has : Tr → Nat → Bool
  | .e, _ => false
  | .n l _ r, k => cond (Nat.beq k 0) true (cond (Nat.beq (k % 2) 1) (l.has (k / 2)) (r.has (k / 2 - 1)))
def Tr.set : Tr → Nat → SV → Tr
  | .e, _, _ => .e
  | .n l x r, k, v => cond (Nat.beq k 0) (.n l v r) (cond (Nat.beq (k % 2) 1) (.n (l.set (k / 2) v) x r) (.n l x (r.set (k / 2 - 1) v)))
def Tr.setK {β : Type} : Tr → Nat → SV → (Tr → β) → β
  | .e, _, _, K => K .e
  | .n l x r, k, v, K => cond (Nat.beq k 0) (K (.n l v r))
      (cond (Nat.beq (k % 2) 1) (l.setK (k / 2) v fun l' => K (.n l' x r)) (r.setK (k / 2 - 1) v fun r' => K (.n l x r')))

theorem Tr.setK_eq {β : Type} (t : Tr) : ∀ (k : Nat) (v : SV) (K : Tr → β), t.setK k v K = K (t.set k v) := by
  induction t with
  | e => intros; rfl
  | n l x r ihl ihr =>
    intro k v K
    simp only [Tr.setK, Tr.set, ihl, ihr]
    cases Nat.beq k 0 <;> cases Nat.beq (k % 2) 1 <;> rfl

theorem Tr.get_set (t : Tr) : ∀ (k : Nat) (v : SV) (j : Nat), t.has k = true → (t.set k v).get j = if j = k then v else t.get j := by
  induction t with
  | e => intro k v j h; simp [Tr.has] at h
  | n l x r ihl ihr =>
    intro k v j h
    simp only [Tr.has, Tr.set] at h ⊢
    by_cases hk : k = 0
    · subst hk
      simp only [Nat.beq, cond_true]
      by_cases hj : j = 0
      · subst hj; simp [Tr.get]
      · have : Nat.beq j 0 = false := by cases j <;> simp_all [Nat.beq]
        simp [Tr.get, this, hj]
    · have hk0 : Nat.beq k 0 = false := by cases k <;> simp_all [Nat.beq]
      simp only [hk0, cond_false] at h ⊢
      by_cases hp : k % 2 = 1
      · have hp1 : Nat.beq (k % 2) 1 = true := by rw [hp]; rfl
        simp only [hp1, cond_true] at h ⊢
        by_cases hj : j = 0
        · subst hj; simp [Tr.get, Ne.symm hk]
        · have hj0 : Nat.beq j 0 = false := by cases j <;> simp_all [Nat.beq]
          simp only [Tr.get, hj0, cond_false]
          by_cases hq : j % 2 = 1
          · have hq1 : Nat.beq (j % 2) 1 = true := by rw [hq]; rfl
            simp only [hq1, cond_true]
            rw [ihl _ _ _ h]
            have : (j / 2 = k / 2) ↔ (j = k) := by omega
            simp only [this]
          · have hq1 : Nat.beq (j % 2) 1 = false := by
              have : j % 2 = 0 := by omega
              rw [this]; rfl
            have : j ≠ k := by omega
            simp [hq1, this]
      · have hp1 : Nat.beq (k % 2) 1 = false := by
          have : k % 2 = 0 := by omega
          rw [this]; rfl
        simp only [hp1, cond_false] at h ⊢
        by_cases hj : j = 0
        · subst hj; simp [Tr.get, Ne.symm hk]
        · have hj0 : Nat.beq j 0 = false := by cases j <;> simp_all [Nat.beq]
          simp only [Tr.get, hj0, cond_false]
          by_cases hq : j % 2 = 1
          · have hq1 : Nat.beq (j % 2) 1 = true := by rw [hq]; rfl
            have : j ≠ k := by omega
            simp [hq1, this]
          · have hq1 : Nat.beq (j % 2) 1 = false := by
              have : j % 2 = 0 := by omega
              rw [this]; rfl
            simp only [hq1, cond_false]
            rw [ihr _ _ _ h]
            have : (j / 2 - 1 = k / 2 - 1) ↔ (j = k) := by omega
            simp only [this]

def Tr.mk : Nat → Tr
  | 0 => .e
  | d + 1 => .n (Tr.mk d) undefS (Tr.mk d)
theorem Tr.get_mk (d : Nat) : ∀ k, (Tr.mk d).get k = undefS := by
  induction d with
  | zero => intro; rfl
  | succ d ih =>
    intro k
    simp only [Tr.mk, Tr.get, ih]
    cases Nat.beq k 0 <;> cases Nat.beq (k % 2) 1 <;> rfl
theorem Tr.has_set (t : Tr) : ∀ (k : Nat) (v : SV) (j : Nat), (t.set k v).has j = t.has j := by
  induction t with
  | e => intros; rfl
  | n l x r ihl ihr =>
    intro k v j
    simp only [Tr.set]
    cases Nat.beq k 0 <;> cases Nat.beq (k % 2) 1 <;> simp [Tr.has, ihl, ihr]

/-- The frame: how many slots, and what is in them. -/
structure Fr where
  nt : Nat
  tr : Tr

def Fr.get (f : Fr) (t : Nat) : Option SV := cond (Nat.blt t f.nt) (match f.tr.get t with | .any => none | v => some v) none
def Fr.putK {β : Type} (f : Fr) (dst : Option Nat) (v : SV) (fail : β) (K : Fr → β) : β :=
  match dst with
  | none => K f
  | some d => cond (Nat.blt d f.nt && f.tr.has d) (f.tr.setK d v fun t => K ⟨f.nt, t⟩) fail

structure FrRel (n : Nat) (ρ : Nat → Nat) (f : Fr) (a : Act) : Prop where
  size : a.tmps.size = f.nt
  val : ∀ t, t < f.nt → (f.tr.get t).isAny = false → a.tmps[t]? = some ((f.tr.get t).den ρ)
  ok : ∀ t, t < f.nt → (f.tr.get t).ok n = true
  defers : a.defers = []

theorem FrRel.agree {n m : Nat} {ρ ρ' : Nat → Nat} {f : Fr} {a : Act} (h : FrRel n ρ f a) (hag : Agree n ρ ρ') (hn : n ≤ m) : FrRel m ρ' f a :=
  ⟨h.size, fun t ht hn' => by rw [SV.den_agree hag (h.ok t ht)]; exact h.val t ht hn', fun t ht => SV.ok_mono hn (h.ok t ht), h.defers⟩

theorem FrRel.get {n : Nat} {ρ : Nat → Nat} {f : Fr} {a : Act} (h : FrRel n ρ f a) {t : Nat} {v : SV} (hg : f.get t = some v) :
    a.tmps.getD t undef = v.den ρ ∧ v.ok n = true ∧ a.tmps[t]? = some (v.den ρ) := by
  unfold Fr.get at hg
  by_cases ht : t < f.nt
  · have hb : Nat.blt t f.nt = true := Nat.ble_eq_true_of_le ht
    simp only [hb, cond_true] at hg
    have key : (f.tr.get t).isAny = false ∧ f.tr.get t = v := by
      split at hg
      · cases hg
      · rename_i hne
        simp at hg
        refine ⟨?_, hg⟩
        cases hc : f.tr.get t <;> first | rfl | exact absurd hc hne
    obtain ⟨hna, rfl⟩ := key
    refine ⟨?_, h.ok t ht, h.val t ht hna⟩
    have := h.val t ht hna
    rw [Array.getD_eq_getD_getElem?, this]; rfl
  · have hb : Nat.blt t f.nt = false := by
      cases hc : Nat.blt t f.nt
      · rfl
      · exact absurd (Nat.le_of_ble_eq_true hc) ht
    simp [hb] at hg

theorem FrRel.put {n : Nat} {ρ : Nat → Nat} {f : Fr} {a : Act} (h : FrRel n ρ f a) {d : Nat} {v : SV} (hd : d < f.nt) (hh : f.tr.has d = true) (hv : v.ok n = true) :
    FrRel n ρ ⟨f.nt, f.tr.set d v⟩ (a.put (some d) (v.den ρ)) := by
  refine ⟨by simp [Act.put, h.size], fun t ht hna => ?_, fun t ht => ?_, h.defers⟩
  · simp only [Act.put]
    simp only [] at hna
    rw [Tr.get_set _ _ _ _ hh] at hna ⊢
    by_cases htd : t = d
    · subst htd
      simp [h.size, hd]
    · have htd' : d ≠ t := fun e => htd e.symm
      rw [if_neg htd] at hna
      rw [Array.getElem?_setIfInBounds_ne htd', if_neg htd]
      exact h.val t ht hna
  · simp only []
    rw [Tr.get_set _ _ _ _ hh]
    split
    · exact hv
    · exact h.ok t ht

/-! ### 4. The memory -/

structure Bl where
  cs : List C
  ty : TypeId

abbrev SW := List Bl

structure Inv (W : World) (L : Nat) (ρ : Nat → Nat) (s : SW) (w : World) : Prop where
  blk : ∀ (i : Nat) (b : Bl), s[i]? = some b → w.heap[ρ i]? = some (.cells (denL ρ b.cs) b.ty (0, 0))
  okc : ∀ (i : Nat) (b : Bl), s[i]? = some b → okL s.length b.cs = true
  inj : ∀ i j, i < s.length → j < s.length → ρ i = ρ j → i = j
  grow : W.heap.size ≤ w.heap.size
  old : ∀ b, b < W.heap.size → (∀ i, i < L → ρ i ≠ b) → w.heap[b]? = W.heap[b]?
  fresh : ∀ i, L ≤ i → i < s.length → W.heap.size ≤ ρ i
  frz : ∀ a, w.frozen? a = W.frozen? a
  os : w.os = W.os
  out : w.output = W.output
  tape : w.tape = W.tape
  len : L ≤ s.length

theorem Inv.lt {W : World} {L : Nat} {ρ : Nat → Nat} {s : SW} {w : World} (h : Inv W L ρ s w) {i : Nat} (hi : i < s.length) : ρ i < w.heap.size := by
  have := h.blk i s[i] (List.getElem?_eq_getElem hi)
  exact (Array.getElem?_eq_some_iff.1 this).1

theorem Inv.drawn {W : World} {L : Nat} {ρ : Nat → Nat} {s : SW} {w : World} (h : Inv W L ρ s w) (n : Nat) : Inv W L ρ s { w with drawn := n } :=
  ⟨h.blk, h.okc, h.inj, h.grow, h.old, h.fresh, h.frz, h.os, h.out, h.tape, h.len⟩

/-- A new block. -/
theorem Inv.alloc {W : World} {L : Nat} {ρ : Nat → Nat} {s : SW} {w : World} (h : Inv W L ρ s w) (cs : List C) (ty : TypeId) (hcs : okL s.length cs = true) :
    ∃ ρ', Agree s.length ρ ρ' ∧ ρ' s.length = w.heap.size ∧
      Inv W L ρ' (s ++ [⟨cs, ty⟩]) { w with heap := w.heap.push (.cells (denL ρ cs) ty) } := by
  refine ⟨fun i => if i = s.length then w.heap.size else ρ i, fun i hi => by simp [Nat.ne_of_lt hi], by simp, ?_⟩
  have hag : Agree s.length ρ (fun i => if i = s.length then w.heap.size else ρ i) := fun i hi => by simp [Nat.ne_of_lt hi]
  refine ⟨fun i b hb => ?_, fun i b hb => ?_, fun i j hi hj hij => ?_, ?_, fun b hb hL => ?_, fun i hL hi => ?_, fun a => ?_, h.os, h.out, h.tape, ?_⟩
  · by_cases hi : i < s.length
    · rw [List.getElem?_append_left hi] at hb
      simp only [Nat.ne_of_lt hi, if_false]
      have := h.blk i b hb
      have hlt : ρ i < w.heap.size := h.lt hi
      rw [Array.getElem?_push_lt hlt]
      rw [Array.getElem?_eq_getElem hlt] at this
      rw [this, denL_agree hag (h.okc i b hb)]
    · have hi' : i = s.length := by
        have := (List.getElem?_eq_some_iff.1 hb).1
        simp at this; omega
      subst hi'
      simp at hb
      subst hb
      simp only [if_true]
      rw [denL_agree hag hcs]
      simp
  · have hlen : (s ++ [⟨cs, ty⟩] : List Bl).length = s.length + 1 := by simp
    rw [hlen]
    by_cases hi : i < s.length
    · rw [List.getElem?_append_left hi] at hb
      exact okL_mono (Nat.le_succ _) (h.okc i b hb)
    · have hi' : i = s.length := by
        have := (List.getElem?_eq_some_iff.1 hb).1
        simp at this; omega
      subst hi'
      simp at hb
      subst hb
      exact okL_mono (Nat.le_succ _) hcs
  · simp at hi hj
    by_cases h1 : i = s.length <;> by_cases h2 : j = s.length <;> simp only [h1, h2, if_true, if_false] at hij ⊢
    · have := h.lt (i := j) (by omega); omega
    · have := h.lt (i := i) (by omega); omega
    · exact h.inj i j (by omega) (by omega) hij
  · simp; have := h.grow; omega
  · have hne : ∀ i, i < L → ρ i ≠ b := fun i hi e => hL i hi (by have := h.len; simp [Nat.ne_of_lt (Nat.lt_of_lt_of_le hi this), e])
    rw [← h.old b hb hne]
    exact Array.getElem?_push_lt (Nat.lt_of_lt_of_le hb h.grow) |>.trans (Array.getElem?_eq_getElem (Nat.lt_of_lt_of_le hb h.grow)).symm
  · simp at hi
    by_cases h1 : i = s.length
    · simp [h1]; exact h.grow
    · simp only [h1, if_false]; exact h.fresh i hL (by omega)
  · have := frozen?_alloc_cells w (denL ρ cs) ty a
    exact this.trans (h.frz a)
  · simp; have := h.len; omega

/-- A store into a cell. -/
theorem Inv.store {W : World} {L : Nat} {ρ : Nat → Nat} {s : SW} {w : World} (h : Inv W L ρ s w) {i off : Nat} {b : Bl} {v : C} (hb : s[i]? = some b) (_ho : off < b.cs.length)
    (hv : v.ok s.length = true) : Inv W L ρ (s.set i ⟨b.cs.set off v, b.ty⟩) (w.setCell ⟨ρ i, off, none⟩ (v.den ρ)) := by
  have hi : i < s.length := (List.getElem?_eq_some_iff.1 hb).1
  have hlt := h.lt hi
  have hw := h.blk i b hb
  have hheap : (w.setCell ⟨ρ i, off, none⟩ (v.den ρ)).heap = w.heap.setIfInBounds (ρ i) (.cells (denL ρ (b.cs.set off v)) b.ty (0, 0)) := by
    unfold World.setCell
    simp only [Option.isSome_none, Bool.false_eq_true, if_false]
    apply Array.ext_getElem?
    intro j
    rw [Array.getElem?_modify]
    by_cases hj : ρ i = j
    · subst hj
      simp only [if_true]
      rw [hw]
      simp only [Option.map_some]
      rw [Array.getElem?_setIfInBounds_self]
      simp only [hlt, if_true]
      simp only [denL, List.map_set, List.setIfInBounds_toArray]
    · rw [Array.getElem?_setIfInBounds_ne hj]
      simp [hj]
  refine ⟨fun j c hc => ?_, fun j c hc => ?_, fun j k hj hk e => ?_, ?_, fun c hc hL => ?_, fun j hL hj => ?_, fun a => ?_, h.os, h.out, h.tape, by simpa using h.len⟩
  · rw [hheap]
    by_cases hji : i = j
    · subst hji
      rw [List.getElem?_set_self hi] at hc
      simp at hc; subst hc
      simp [hlt]
    · rw [List.getElem?_set_ne hji] at hc
      have hjl : j < s.length := (List.getElem?_eq_some_iff.1 hc).1
      have : ρ i ≠ ρ j := fun e => hji (h.inj i j hi hjl e)
      rw [Array.getElem?_setIfInBounds_ne this]
      exact h.blk j c hc
  · rw [List.length_set]
    by_cases hji : i = j
    · subst hji
      rw [List.getElem?_set_self hi] at hc
      simp at hc; subst hc
      refine List.all_eq_true.2 fun x hx => ?_
      rcases List.mem_or_eq_of_mem_set hx with hx | rfl
      · exact List.all_eq_true.1 (h.okc i b hb) x hx
      · exact hv
    · rw [List.getElem?_set_ne hji] at hc
      exact h.okc j c hc
  · simp at hj hk; exact h.inj j k hj hk e
  · rw [hheap]; simpa using h.grow
  · rw [hheap]
    have : ρ i ≠ c := by
      by_cases hiL : i < L
      · exact hL i hiL
      · have := h.fresh i (by omega) hi; omega
    rw [Array.getElem?_setIfInBounds_ne this]
    exact h.old c hc hL
  · simp at hj; exact h.fresh j hL hj
  · rw [← h.frz a]
    unfold World.frozen?
    rw [hheap]
    by_cases hj : ρ i = a.block
    · rw [← hj, hw]
      simp [hlt]
    · rw [Array.getElem?_setIfInBounds_ne hj]

theorem Inv.grown {W : World} {ρ : Nat → Nat} {s : SW} {w : World} (h : Inv W 0 ρ s w) : Grown W w := by
  refine ⟨⟨h.os, h.out, fun i hi => ?_⟩, h.frz, h.grow⟩
  have := h.old i hi (by simp)
  rw [this]
  cases hW : W.heap[i]? with
  | none => simp
  | some o => cases o <;> simp

theorem Inv.start (W : World) : Inv W 0 (fun _ => 0) [] W :=
  ⟨by simp, by simp, by simp, Nat.le_refl _, fun _ _ _ => rfl, by simp, fun _ => rfl, rfl, rfl, rfl, Nat.le_refl _⟩

/-- A cell read. -/
theorem Inv.cell {W : World} {L : Nat} {ρ : Nat → Nat} {s : SW} {w : World} (h : Inv W L ρ s w) {i off : Nat} {b : Bl} {v : C} (hb : s[i]? = some b) (hv : b.cs[off]? = some v) :
    w.cell? ⟨ρ i, off, none⟩ = some (v.den ρ) ∧ v.ok s.length = true := by
  refine ⟨?_, List.all_eq_true.1 (h.okc i b hb) v (List.mem_of_getElem? hv)⟩
  unfold World.cell?
  simp only [h.blk i b hb, Option.isSome_none, Bool.false_eq_true, if_false, denL]
  simp [hv]
theorem Inv.thawed {W : World} {L : Nat} {ρ : Nat → Nat} {s : SW} {w : World} (h : Inv W L ρ s w) {i off : Nat} {b : Bl} (hb : s[i]? = some b) :
    w.frozen? ⟨ρ i, off, none⟩ = false := by
  unfold World.frozen?
  simp [h.blk i b hb]
end Go.Proofs.Ytjacbodjkgiohaa.Ev

namespace Go.Proofs.Ytjacbodjkgiohaa.Ev
open Go

/-! ### 5. Operations that do not look at the memory -/

def forceN {β : Type} (n : Nat) (k : Nat → β) : β := match n with | 0 => k 0 | m + 1 => k (m + 1)
theorem forceN_eq {β : Type} (n : Nat) (k : Nat → β) : forceN n k = k n := by cases n <;> rfl
def forceI {β : Type} (n : Int) (k : Int → β) : β :=
  match n with | .ofNat m => forceN m fun m' => k (.ofNat m') | .negSucc m => forceN m fun m' => k (.negSucc m')
theorem forceI_eq {β : Type} (n : Int) (k : Int → β) : forceI n k = k n := by cases n <;> simp [forceI, forceN_eq]

/-- A result, with what must hold for it. -/
structure R where
  nd : List Bool
  v : SV

def intR (lit : Bool) (k : IntKind) (n : Int) : Option R :=
  cond lit (forceI n fun n' => some ⟨[], .c (.i true k n')⟩) (some ⟨[], .c (.i false k n)⟩)
def boolR (lit : Bool) (v : Bool) : Option R :=
  cond lit (cond v (some ⟨[], .c (.b true true)⟩) (some ⟨[], .c (.b true false)⟩)) (some ⟨[], .c (.b false v)⟩)

theorem intR_eq (lit : Bool) (k : IntKind) (n : Int) : intR lit k n = some ⟨[], .c (.i lit k n)⟩ := by
  cases lit <;> simp [intR, forceI_eq]
theorem boolR_eq (lit : Bool) (v : Bool) : boolR lit v = some ⟨[], .c (.b lit v)⟩ := by
  cases lit <;> cases v <;> rfl

/-- With a need: where it is known it must be so, else it is left to be shown. -/
def needR (lit : Bool) (nd : Bool) (r : Option R) : Option R :=
  cond lit (cond nd r none) (match r with | some ⟨l, v⟩ => some ⟨nd :: l, v⟩ | none => none)

def bitsOp (op : BinOp) (k : IntKind) (a b : Int) : Int := bits op k a b

def intBin (op : BinOp) (l : Bool) (k : IntKind) (a : Int) (l' : Bool) (k' : IntKind) (b : Int) : Option R :=
  match op with
  | .shl => needR l' (decide (0 ≤ b)) (cond l' (forceN (min b.toNat k.bits) fun n => intR l k (k.wrap (a * 2 ^ n))) (intR false k (k.wrap (a * 2 ^ min b.toNat k.bits))))
  | .shr => needR l' (decide (0 ≤ b)) (cond l' (forceN (min b.toNat k.bits) fun n => intR l k (a.fdiv (2 ^ n))) (intR false k (a.fdiv (2 ^ min b.toNat k.bits))))
  | op => if k = k' then
      match op with
      | .add => intR (l && l') k (k.wrap (a + b))
      | .sub => intR (l && l') k (k.wrap (a - b))
      | .mul => intR (l && l') k (k.wrap (a * b))
      | .quo => needR l' (!(decide (b = 0))) (intR (l && l') k (k.wrap (a.tdiv b)))
      | .rem => needR l' (!(decide (b = 0))) (intR (l && l') k (a.tmod b))
      | .and => intR (l && l') k (bits .and k a b)
      | .or => intR (l && l') k (bits .or k a b)
      | .xor => intR (l && l') k (bits .xor k a b)
      | .andNot => intR (l && l') k (bits .andNot k a b)
      | .eql => boolR (l && l') (a == b)
      | .neq => boolR (l && l') (a != b)
      | .lss => boolR (l && l') (decide (a < b))
      | .leq => boolR (l && l') (decide (a ≤ b))
      | .gtr => boolR (l && l') (decide (a > b))
      | .geq => boolR (l && l') (decide (a ≥ b))
      | _ => none
    else none

def allT (l : List Bool) : Prop := ∀ b, b ∈ l → b = true

theorem needR_sound {lit nd : Bool} {r : Option R} {x : R} (h : needR lit nd r = some x) (hn : allT x.nd) :
    nd = true ∧ ∃ y, r = some y ∧ y.v = x.v ∧ allT y.nd := by
  cases lit
  · simp only [needR, cond_false] at h
    cases r with
    | none => simp at h
    | some y =>
      obtain ⟨l, v⟩ := y
      simp at h
      subst h
      exact ⟨hn _ (List.mem_cons_self), _, rfl, rfl, fun b hb => hn b (List.mem_cons_of_mem _ hb)⟩
  · simp only [needR, cond_true] at h
    cases nd
    · simp at h
    · simp at h
      exact ⟨rfl, x, h, rfl, hn⟩

section
variable {P : Program} {ρ : Nat → Nat} {n : Nat}

theorem intBin_sound {op : BinOp} {l l' : Bool} {k k' : IntKind} {a b : Int} {r : R} (h : intBin op l k a l' k' b = some r) (hn : allT r.nd)
    (t : TypeId) (x y : Operand) :
    (∀ w, (do eqGuard op t x y (.int k a) (.int k' b); binOp op t (.int k a) (.int k' b) : Sem Value).run P w = .ok (r.v.den ρ) w) ∧ r.v.ok n = true := by
  have hg : eqGuard op t x y (.int k a) (.int k' b) = pure () := eqGuard_at_int ..
  simp only [hg]
  have key : ∀ (q : Sem Value) (v : SV), q = pure (v.den ρ) → v.ok n = true → r.v = v → (∀ w, (do (pure () : Sem Unit); q : Sem Value).run P w = .ok (r.v.den ρ) w) ∧ r.v.ok n = true := by
    intro q v hq hv hr
    subst hq
    rw [hr]
    exact ⟨fun w => rfl, hv⟩
  by_cases hs : op = .shl
  · subst hs
    simp only [intBin] at h
    obtain ⟨h0, y, hy, hv, _⟩ := needR_sound h hn
    have h0' : ¬ (b < 0) := by have := of_decide_eq_true h0; omega
    refine key _ (.c (.i (l && l') k (k.wrap (a * 2 ^ min b.toNat k.bits)))) ?_ rfl ?_
    · rw [binOp_shl]; simp [Op.shift, h0', SV.den, C.den]
    · rw [← hv]
      cases l' <;> simp [forceN_eq, intR_eq] at hy <;> subst hy <;> simp
  by_cases hs' : op = .shr
  · subst hs'
    simp only [intBin] at h
    obtain ⟨h0, y, hy, hv, _⟩ := needR_sound h hn
    have h0' : ¬ (b < 0) := by have := of_decide_eq_true h0; omega
    refine key _ (.c (.i (l && l') k (a.fdiv (2 ^ min b.toNat k.bits)))) ?_ rfl ?_
    · rw [binOp_shr]; simp [Op.shift, h0', SV.den, C.den]
    · rw [← hv]
      cases l' <;> simp [forceN_eq, intR_eq] at hy <;> subst hy <;> simp
  by_cases hk : k = k'
  · subst hk
    cases op <;> simp only [intBin, if_true, intR_eq, boolR_eq] at h <;> try contradiction
    case quo =>
      obtain ⟨h0, y, hy, hv, _⟩ := needR_sound h hn
      have h0' : ¬ (b = 0) := by simpa using h0
      simp at hy; subst hy
      refine key _ _ ?_ ?_ hv.symm
      · rw [binOp_quo]; simp [Op.intDiv, h0', SV.den, C.den]
      · rfl
    case rem =>
      obtain ⟨h0, y, hy, hv, _⟩ := needR_sound h hn
      have h0' : ¬ (b = 0) := by simpa using h0
      simp at hy; subst hy
      refine key _ _ ?_ ?_ hv.symm
      · rw [binOp_rem]; simp [Op.intDiv, h0', SV.den, C.den]
      · rfl
    all_goals
      simp only [Option.some.injEq] at h
      subst h
      refine key _ _ ?_ ?_ rfl
      · simp [go_sem, Op.intArith, SV.den, C.den, binOp_eql, binOp_neq, binOp_lss, binOp_leq, binOp_gtr, binOp_geq, binOp_add, binOp_sub, binOp_mul, binOp_and, binOp_or, binOp_xor, binOp_andNot]
      · rfl
  · cases op <;> simp [intBin, hk] at h hs hs'

theorem run_underlying' {t : TypeId} {d : TypeDesc} (h : P.underlying t = some d) (w : World) : (underlying t).run P w = .ok d w := run_underlying h w
theorem run_sizeOf {t : TypeId} {i : TypeInfo} (h : P.info? t = some i) (w : World) : (sizeOf t).run P w = .ok i.size w := by
  simp [sizeOf, typeInfo, h]
/-- Is the type a struct or an array? -/
def aggB : TypeDesc → Bool | .struct _ | .array _ _ => true | _ => false

theorem run_isAgg {t : TypeId} {d : TypeDesc} (h : P.underlying t = some d) (w : World) : (isAgg t).run P w = .ok (aggB d) w := by
  unfold isAgg
  simp only [Sem.run_bind, run_underlying h, Result.andThen_ok]
  cases d <;> rfl

/-- A part of an aggregate's cells. -/
def partR (P : Program) (t : TypeId) (cs : List C) (off : Nat) : Option SV :=
  match P.underlying t with
  | none => none
  | some d => cond (aggB d)
      (match P.info? t with
       | none => none
       | some i => some (.a ((cs.drop off).take i.size)))
      (match cs[off]? with | some c => some (.c c) | none => none)

theorem partR_sound {t : TypeId} {cs : List C} {off : Nat} {v : SV} (h : partR P t cs off = some v) (hcs : okL n cs = true) :
    (∀ w, (part t (denL ρ cs) off).run P w = .ok (v.den ρ) w) ∧ v.ok n = true := by
  unfold partR at h
  split at h
  · cases h
  rename_i d hd
  cases hb : aggB d
  · simp only [hb, cond_false] at h
    split at h
    · rename_i c hc
      simp at h; subst h
      refine ⟨fun w => ?_, List.all_eq_true.1 hcs c (List.mem_of_getElem? hc)⟩
      unfold part
      simp only [Sem.run_bind, run_isAgg hd, Result.andThen_ok]
      simp only [hb, Bool.false_eq_true, if_false]
      have hc' : (denL ρ cs)[off]? = some (c.den ρ) := by simp [denL, hc]
      simp [hc', SV.den]
    · cases h
  · simp only [hb, cond_true] at h
    split at h
    · cases h
    · rename_i i hi
      simp at h; subst h
      refine ⟨fun w => ?_, List.all_eq_true.2 fun x hx => List.all_eq_true.1 hcs x (List.mem_of_mem_drop (List.mem_of_mem_take hx))⟩
      unfold part
      simp only [Sem.run_bind, run_isAgg hd, Result.andThen_ok]
      simp only [hb, if_true]
      simp only [Sem.run_bind, run_sizeOf hi, Result.andThen_ok, Sem.run_pure]
      simp only [SV.den, denL]
      congr 2
      rw [List.extract_toArray, List.extract_eq_take_drop]
      simp [List.map_drop, List.map_take]

/-- Equality of two values of a type, by the type. -/
def eqIn (P : Program) : Nat → TypeId → SV → SV → Option Bool
  | 0, _, _, _ => none
  | d + 1, t, x, y =>
    match P.underlying t, x, y with
    | some .bool, .c (.b _ a), .c (.b _ b) => some (a == b)
    | some (.int _), .c (.i _ k a), .c (.i _ k' b) => if k = k' then some (a == b) else none
    | some .string, .c (.str a), .c (.str b) => some (a == b)
    | some (.struct fields), .a xs, .a ys =>
      cond (P.stoodInHeld t) none
        (fields.toList.foldr (fun f acc => match acc with
          | none => none
          | some r => if f.name = "_" then some r else
            match partR P f.type xs f.offset, partR P f.type ys f.offset with
            | some u, some v => (match eqIn P d f.type u v with | some q => some (q && r) | none => none)
            | _, _ => none) (some true))
    | some (.array len elem), .a xs, .a ys =>
      match P.info? elem with
      | none => none
      | some i =>
        (List.range len).foldr (fun j acc => match acc with
          | none => none
          | some r =>
            match partR P elem xs (j * i.size), partR P elem ys (j * i.size) with
            | some u, some v => (match eqIn P d elem u v with | some q => some (q && r) | none => none)
            | _, _ => none) (some true)
    | _, _, _ => none
end
end Go.Proofs.Ytjacbodjkgiohaa.Ev

namespace Go.Proofs.Ytjacbodjkgiohaa.Ev
open Go
section
variable {P : Program} {ρ : Nat → Nat} {n : Nat}

theorem eqIn_sound : ∀ (d : Nat) (t : TypeId) (x y : SV) (r : Bool), eqIn P d t x y = some r → x.ok n = true → y.ok n = true →
    ∀ e, d ≤ e → ∀ w, (Op.equalIn e t (x.den ρ) (y.den ρ)).run P w = .ok r w := by
  intro d
  induction d with
  | zero => intro t x y r h; simp [eqIn] at h
  | succ d ih =>
    intro t x y r h hx hy e he w
    obtain ⟨e, rfl⟩ : ∃ e', e = e' + 1 := ⟨e - 1, by omega⟩
    have he' : d ≤ e := by omega
    simp only [eqIn] at h
    split at h
    · rename_i hu; simp at h; subst h
      exact run_equalIn_bool w e t _ _ hu
    · rename_i hu
      split at h
      · rename_i hk; simp at h; subst h
        simp only [SV.den, C.den, Op.equalIn, Sem.run_bind, run_underlying hu, Result.andThen_ok, hk, if_true, Sem.run_pure]
      · cases h
    · rename_i hu; simp at h; subst h
      simp only [SV.den, C.den, Op.equalIn, Sem.run_bind, run_underlying hu, Result.andThen_ok, Sem.run_pure]
    · rename_i fields xs ys hu
      cases hs : P.stoodInHeld t
      · simp only [hs, cond_false] at h
        have hf : P.fieldsOf t = fields := by simp [Program.fieldsOf, hu]
        simp only [SV.den]
        rw [run_equalIn_struct w e t _ _ (by rw [hf]; exact hu) hs, hf]
        generalize fields.toList = fs at h
        revert r w
        induction fs with
        | nil => intro r w h; simp at h; subst h; rfl
        | cons f fs ihf =>
          intro r w h
          simp only [List.foldr_cons] at h
          split at h
          · cases h
          · rename_i r' hr'
            by_cases hn : f.name = "_"
            · rw [if_pos hn] at h
              simp at h; subst h
              simp only [Op.eqFields, hn, ne_eq, not_true_eq_false, if_false]
              exact ihf _ w hr'
            · rw [if_neg hn] at h
              split at h
              · rename_i u v hpu hpv
                split at h
                · rename_i q hq
                  simp at h; subst h
                  obtain ⟨h1, o1⟩ := partR_sound (n := n) (ρ := ρ) hpu hx
                  obtain ⟨h2, o2⟩ := partR_sound (n := n) (ρ := ρ) hpv hy
                  have h3 := ih _ _ _ _ hq o1 o2 e he'
                  simp only [Op.eqFields, ne_eq, hn, not_false_eq_true, if_true, Sem.run_bind, h1, h2, h3, Result.andThen_ok]
                  cases q
                  · simp
                  · simp only [Bool.not_true, Bool.false_eq_true, if_false, Bool.true_and]
                    exact ihf _ w hr'
                · cases h
              · cases h
      · simp [hs] at h
    · rename_i len elem xs ys hu
      split at h
      · cases h
      · rename_i i hi
        simp only [SV.den, Op.equalIn, Sem.run_bind, run_underlying hu, Result.andThen_ok, run_sizeOf hi]
        have key : ∀ (m s : Nat) (r : Bool) (w : World), (List.range' s m).foldr (fun j acc => match acc with
          | none => none
          | some r =>
            match partR P elem xs (j * i.size), partR P elem ys (j * i.size) with
            | some u, some v => (match eqIn P d elem u v with | some q => some (q && r) | none => none)
            | _, _ => none) (some true) = some r →
            ((forIn (List.range' s m) ((none, ()) : Option Bool × Unit) fun j r => do
              let a ← part elem (denL ρ xs) (j * i.size)
              let b ← part elem (denL ρ ys) (j * i.size)
              let q ← Op.equalIn e elem a b
              if (!q) = true then pure (ForInStep.done (some false, ())) else pure (ForInStep.yield (none, ())) : Sem _).run P w) =
              .ok (if r then (none, ()) else (some false, ())) w := by
          intro m
          induction m with
          | zero => intro s r w h; simp at h; subst h; simp
          | succ m ihm =>
            intro s r w h
            rw [List.range'_succ] at h ⊢
            simp only [List.foldr_cons] at h
            split at h
            · cases h
            rename_i r' hr'
            split at h
            · rename_i u v hpu hpv
              split at h
              · rename_i q hq
                simp at h; subst h
                obtain ⟨h1, o1⟩ := partR_sound (n := n) (ρ := ρ) hpu hx
                obtain ⟨h2, o2⟩ := partR_sound (n := n) (ρ := ρ) hpv hy
                have h3 := ih _ _ _ _ hq o1 o2 e he'
                rw [List.forIn_cons]
                simp only [Sem.run_bind, h1, h2, h3, Result.andThen_ok]
                cases q
                · simp
                · simp only [Bool.not_true, Bool.false_eq_true, if_false, Bool.true_and, Sem.run_pure, Result.andThen_ok]
                  exact ihm _ _ w hr'
              · cases h
            · cases h
        rw [Std.Legacy.Range.forIn_eq_forIn_range']
        simp only [Std.Legacy.Range.size, Nat.sub_zero, Nat.add_sub_cancel, Nat.div_one]
        rw [List.range_eq_range'] at h
        rw [key len 0 r w h]
        cases r <;> rfl
    · cases h
end
end Go.Proofs.Ytjacbodjkgiohaa.Ev

namespace Go.Proofs.Ytjacbodjkgiohaa.Ev
open Go

def okR (v : SV) : Option R := some ⟨[], v⟩
def optR (v : Option SV) : Option R := match v with | some v => some ⟨[], v⟩ | none => none
def S1.sv : S1 → SV | .c x => .c x | .a l => .a l
def SV.s1 : SV → Option S1 | .c x => some (.c x) | .a l => some (.a l) | _ => none
def SV.cells : SV → Option (List C) | .c x => some [x] | .a l => some l | _ => none

def isNilP : Value → Bool | .pointer none => true | _ => false
def isNilS : Value → Bool | .slice none _ _ => true | _ => false

/-- Two cells that are compared, not both integers. -/
def eqCells (P : Program) (neg : Bool) (t : TypeId) (x y : SV) : Option R :=
  match x, y with
  | .c (.b l a), .c (.b l' b) => (match P.underlying t with | some .bool => boolR (l && l') (xor neg (a == b)) | _ => none)
  | .c (.str a), .c (.str b) => boolR false (xor neg (a == b))
  | .c (.p _ _), .c (.x v) => (match P.underlying t with | some (.pointer _) => cond (isNilP v) (boolR true neg) none | _ => none)
  | .c (.x v), .c (.p _ _) => (match P.underlying t with | some (.pointer _) => cond (isNilP v) (boolR true neg) none | _ => none)
  | .c (.x v), .c (.x u) => (match P.underlying t with
      | some (.pointer _) => cond (isNilP v && isNilP u) (boolR true (!neg)) none
      | some (.slice _) => cond (isNilS v && isNilS u) (boolR true (!neg)) none
      | _ => none)
  | .c (.slc _ _ _ _), .c (.x v) => (match P.underlying t with | some (.slice _) => cond (isNilS v) (boolR true neg) none | _ => none)
  | .a xs, .a ys => cond (P.eqGuardType P.depth t) none (match eqIn P 100 t (.a xs) (.a ys) with | some q => boolR false (xor neg q) | none => none)
  | _, _ => none

def binR (P : Program) (op : BinOp) (t : TypeId) (x y : SV) : Option R :=
  match x, y with
  | .c (.i l k a), .c (.i l' k' b) => intBin op l k a l' k' b
  | x, y => match op with
    | .eql => eqCells P false t x y
    | .neq => eqCells P true t x y
    | _ => none

def unR (op : UnOp) (x : SV) : Option R :=
  match op, x with
  | .neg, .c (.i l k n) => intR l k (k.wrap (0 - n))
  | .xor, .c (.i l k n) => intR l k (bits .xor k (if k.signed then -1 else k.max) n)
  | .not, .c (.b l v) => boolR l (!v)
  | _, _ => none

def convR (P : Program) (src dst : TypeId) (x : SV) : Option R :=
  match x with
  | .c (.i l _ m) => match P.underlying src, P.underlying dst with
    | some _, some (.int k') => intR l k' (k'.wrap m)
    | _, _ => none
  | .c (.str s) => match P.underlying src, P.underlying dst with
    | some .string, some .string => okR (.c (.str s))
    | _, _ => none
  | _ => none

def fieldsR (P : Program) (t : TypeId) (f : Nat) : Option Field :=
  match P.underlying t with
  | some (.struct fs) => fs[f]?
  | _ => none

def fieldAddrR (P : Program) (s : TypeId) (x : SV) (f : Nat) : Option R :=
  match x with
  | .c (.p blk off) => match fieldsR P s f with
    | some fd => (match P.info? fd.type with
      | some i => cond (Nat.beq i.size 0) none (okR (.c (.p blk (off + fd.offset))))
      | none => none)
    | none => none
  | _ => none

def fieldR (P : Program) (t : TypeId) (x : SV) (f : Nat) : Option R :=
  match x with
  | .a cs => (match fieldsR P t f with
    | some fd => optR (partR P fd.type cs fd.offset)
    | none => none)
  | _ => none

def inB (i : Int) (len : Nat) : Bool := decide (0 ≤ i) && decide (i < len)

def indexAddrR (P : Program) (t : TypeId) (x ix : SV) : Option R :=
  match x, ix with
  | .c (.p blk off), .c (.i true _ i) => (match P.underlying t with
    | some (.array len elem) => (match P.info? elem with
      | some e => cond (inB i len) (forceN (off + i.toNat * e.size) fun o => okR (.c (.p blk o))) none
      | none => none)
    | _ => none)
  | .c (.slc blk off len _), .c (.i true _ i) => (match P.underlying t with
    | some (.slice elem) => (match P.info? elem with
      | some e => cond (inB i len) (forceN (off + i.toNat * e.size) fun o => okR (.c (.p blk o))) none
      | none => none)
    | _ => none)
  | _, _ => none

def indexR (P : Program) (t : TypeId) (x ix : SV) : Option R :=
  match x, ix with
  | .a cs, .c (.i true _ i) => (match P.underlying t with
    | some (.array len elem) => (match P.info? elem with
      | some e => cond (inB i len) (optR (partR P elem cs (i.toNat * e.size))) none
      | none => none)
    | _ => none)
  | _, _ => none

def extractR (x : SV) (ix : Nat) : Option R :=
  match x with
  | .t l => (match l[ix]? with | some v => okR v.sv | none => none)
  | _ => none

def nilCheckR (x : SV) : Option R :=
  match x with
  | .c (.p blk off) => okR (.c (.p blk off))
  | .c (.fn f) => okR (.c (.fn f))
  | _ => none

def builtinR (P : Program) (b : Builtin) (ts : Array TypeId) (args : List SV) : Option R :=
  match b, args with
  | .min, [.c (.i l k a), .c (.i l' _ b)] => intR (l && l') k (if b < a then b else a)
  | .max, [.c (.i l k a), .c (.i l' _ b)] => intR (l && l') k (if b > a then b else a)
  | .len, [x] => (match ts[0]? with
    | none => none
    | some t => match P.underlying t, x with
      | some (.slice _), .c (.slc _ _ len _) => intR true .i64 len
      | some (.slice _), .c (.x (.slice none len _)) => intR true .i64 len
      | some .string, .c (.str s) => intR false .i64 s.size
      | some (.array m _), _ => intR true .i64 m
      | _, _ => none)
  | _, _ => none

/-- The arguments, one by one. -/
def evs (ev : Operand → Option SV) : List Operand → Option (List SV)
  | [] => some []
  | x :: xs => match ev x with
    | none => none
    | some v => (match evs ev xs with | none => none | some vs => some (v :: vs))

/-- Cells written one behind the other. -/
def putLK {β : Type} : List C → Nat → C → (List C → β) → β
  | [], _, _, K => K []
  | x :: xs, i, v, K => cond (Nat.beq i 0) (K (v :: xs)) (putLK xs (i - 1) v fun ys => K (x :: ys))
theorem putLK_eq {β : Type} (l : List C) : ∀ (i : Nat) (v : C) (K : List C → β), putLK l i v K = K (l.set i v) := by
  induction l with
  | nil => intros; rfl
  | cons x xs ih =>
    intro i v K
    simp only [putLK, ih]
    cases i with
    | zero => rfl
    | succ i => rfl
def layLK {β : Type} : List C → Nat → List C → (List C → β) → β
  | cs, _, [], K => K cs
  | cs, off, v :: vs, K => putLK cs off v fun cs' => layLK cs' (off + 1) vs K
def layL : List C → Nat → List C → List C
  | cs, _, [] => cs
  | cs, off, v :: vs => layL (cs.set off v) (off + 1) vs
theorem layLK_eq {β : Type} (vs : List C) : ∀ (cs : List C) (off : Nat) (K : List C → β), layLK cs off vs K = K (layL cs off vs) := by
  induction vs with
  | nil => intros; rfl
  | cons v vs ih => intro cs off K; simp only [layLK, layL, putLK_eq, ih]
theorem layL_length (vs : List C) : ∀ (cs : List C) (off : Nat), (layL cs off vs).length = cs.length := by
  induction vs with
  | nil => intros; rfl
  | cons v vs ih => intro cs off; simp [layL, ih]

def C.one : C → Bool
  | .x (.agg _) => false
  | .x (.tuple _) => false
  | _ => true

def cellsOfK {β : Type} : List Value → (List C → β) → β
  | [], K => K []
  | v :: vs, K => cellsOfK vs fun cs => match v with
    | .bool b => K (.b true b :: cs)
    | .int k n => K (.i true k n :: cs)
    | .string s => K (.str s :: cs)
    | v => K (.x v :: cs)
theorem cellsOfK_eq {β : Type} (l : List Value) : ∀ (K : List C → β), cellsOfK l K = K (l.map ofCell) := by
  induction l with
  | nil => intros; rfl
  | cons v vs ih => intro K; simp only [cellsOfK, ih]; cases v <;> rfl

def fillS (place : Nat → Option (Nat × Nat)) : List C → List (Nat × SV) → Option (List C)
  | cs, [] => some cs
  | cs, (i, v) :: r => match place i, v.cells with
    | some (off, size), some vs => cond (Nat.beq vs.length size && vs.all C.one && Nat.ble (off + vs.length) cs.length) (layLK cs off vs fun cs' => fillS place cs' r) none
    | _, _ => none

def placesL (P : Program) : List Field → Option (List (Nat × Nat))
  | [] => some []
  | f :: fs => match P.info? f.type, placesL P fs with
    | some i, some l => some ((f.offset, i.size) :: l)
    | _, _ => none

def buildR (P : Program) (t : TypeId) (parts : List (Nat × SV)) : Option R :=
  match P.info? t with
  | none => none
  | some i => match i.zero with
    | none => none
    | some z => cellsOfK z.cells.toList fun zs => match P.underlying t with
      | some (.struct fields) => (match placesL P fields.toList with
        | some pl => (match fillS (fun i => pl[i]?) zs parts with | some cs => okR (.a cs) | none => none)
        | none => none)
      | some (.array _ elem) => (match P.info? elem with
        | some e => (match fillS (fun i => some (i * e.size, e.size)) zs parts with | some cs => okR (.a cs) | none => none)
        | none => none)
      | _ => none

def evp (ev : Operand → Option SV) : List (Nat × Operand) → Option (List (Nat × SV))
  | [] => some []
  | (i, x) :: r => match ev x, evp ev r with
    | some v, some l => some ((i, v) :: l)
    | _, _ => none

/-- Captured variables: addresses alone. -/
def capsOf : List SV → Option (List (Nat × Nat))
  | [] => some []
  | .c (.p blk off) :: r => (match capsOf r with | some l => some ((blk, off) :: l) | none => none)
  | _ => none

def pureOp (P : Program) (ev : Operand → Option SV) (op : Op) : Option R :=
  match op with
  | .move x => optR (ev x)
  | .assign x => optR (ev x)
  | .pick c a b => (match ev c with | some (.c (.b true v)) => optR (cond v (ev a) (ev b)) | _ => none)
  | .binOp op t x y _ => (match ev x, ev y with | some u, some v => binR P op t u v | _, _ => none)
  | .unOp op _ x => (match ev x with | some u => unR op u | _ => none)
  | .convert src dst x => (match ev x with | some u => convR P src dst u | _ => none)
  | .fieldAddr s x f => (match ev x with | some u => fieldAddrR P s u f | _ => none)
  | .field s x f => (match ev x with | some u => fieldR P s u f | _ => none)
  | .indexAddr t x i => (match ev x, ev i with | some u, some v => indexAddrR P t u v | _, _ => none)
  | .index t x i => (match ev x, ev i with | some u, some v => indexR P t u v | _, _ => none)
  | .extract x ix => (match ev x with | some u => extractR u ix | _ => none)
  | .nilCheck x => (match ev x with | some u => nilCheckR u | _ => none)
  | .build t parts => (match evp ev parts.toList with | some l => buildR P t l | none => none)
  | .makeFunc (.func f) first captured => cond (first.isEmpty) (match evs ev captured.toList with
      | some vs => (match capsOf vs with | some l => okR (.c (.clo f l)) | none => none)
      | none => none) none
  | .call { callee := .builtin b, args, argTypes } => (match evs ev args.toList with | some vs => builtinR P b argTypes vs | none => none)
  | _ => none

section
variable {P : Program} {ρ : Nat → Nat} {n : Nat}

theorem S1.sv_den (x : S1) : x.sv.den ρ = x.den ρ := by cases x <;> rfl
theorem S1.sv_ok (x : S1) : x.sv.ok n = x.ok n := by cases x <;> rfl

abbrev Good (P : Program) (ρ : Nat → Nat) (n : Nat) (q : Sem Value) (r : R) : Prop :=
  (∀ w, q.run P w = .ok (r.v.den ρ) w) ∧ r.v.ok n = true

theorem good_pure {q : Sem Value} {v : SV} (hq : q = pure (v.den ρ)) (hv : v.ok n = true) : Good P ρ n q ⟨[], v⟩ := by
  subst hq; exact ⟨fun w => rfl, hv⟩

theorem eqI_pn {t e : TypeId} (hu : P.underlying t = some (.pointer e)) (d : Nat) (a : Addr) (w : World) : (Op.equalIn (d + 1) t (.pointer (some a)) (.pointer none)).run P w = .ok false w := by
  simp only [Op.equalIn, Sem.run_bind, run_underlying hu, Result.andThen_ok]; rfl
theorem eqI_np {t e : TypeId} (hu : P.underlying t = some (.pointer e)) (d : Nat) (a : Addr) (w : World) : (Op.equalIn (d + 1) t (.pointer none) (.pointer (some a))).run P w = .ok false w := by
  simp only [Op.equalIn, Sem.run_bind, run_underlying hu, Result.andThen_ok]; rfl
theorem eqI_nn {t e : TypeId} (hu : P.underlying t = some (.pointer e)) (d : Nat) (w : World) : (Op.equalIn (d + 1) t (.pointer none) (.pointer none)).run P w = .ok true w := by
  simp only [Op.equalIn, Sem.run_bind, run_underlying hu, Result.andThen_ok]; rfl
theorem eqI_ss {t e : TypeId} (hu : P.underlying t = some (.slice e)) (d : Nat) (a b a' b' : Nat) (w : World) : (Op.equalIn (d + 1) t (.slice none a b) (.slice none a' b')).run P w = .ok true w := by
  simp only [Op.equalIn, Sem.run_bind, run_underlying hu, Result.andThen_ok]; rfl
theorem eqI_sn {t e : TypeId} (hu : P.underlying t = some (.slice e)) (d : Nat) (p : Addr) (a b a' b' : Nat) (w : World) : (Op.equalIn (d + 1) t (.slice (some p) a b) (.slice none a' b')).run P w = .ok false w := by
  simp only [Op.equalIn, Sem.run_bind, run_underlying hu, Result.andThen_ok]; rfl
theorem isNilP_eq {v : Value} (hb : isNilP v = true) : v = .pointer none := by
  cases v <;> first | (rename_i a; cases a <;> first | rfl | (simp [isNilP] at hb)) | (simp [isNilP] at hb)
theorem isNilS_eq {v : Value} (hb : isNilS v = true) : ∃ a b, v = .slice none a b := by
  cases v <;> first | (rename_i a _ _; cases a <;> first | exact ⟨_, _, rfl⟩ | (simp [isNilS] at hb)) | (simp [isNilS] at hb)

theorem eqCells_sound {neg : Bool} {t : TypeId} {x y : SV} {r : R} (h : eqCells P neg t x y = some r) (hx : x.ok n = true) (hy : y.ok n = true) (ox oy : Operand) :
    Good P ρ n (do eqGuard (if neg then .neq else .eql) t ox oy (x.den ρ) (y.den ρ); binOp (if neg then .neq else .eql) t (x.den ρ) (y.den ρ)) r := by
  have fin : ∀ (q : Bool) (l : Bool), boolR l (xor neg q) = some r →
      (∀ w, (eqGuard (if neg then .neq else .eql) t ox oy (x.den ρ) (y.den ρ)).run P w = .ok () w) →
      (∀ w, (Op.equal t (x.den ρ) (y.den ρ)).run P w = .ok q w) →
      (binOp .eql t (x.den ρ) (y.den ρ) = (do pure (.bool (← Op.equal t (x.den ρ) (y.den ρ))) : Sem Value)) →
      (binOp .neq t (x.den ρ) (y.den ρ) = (do pure (.bool (!(← Op.equal t (x.den ρ) (y.den ρ)))) : Sem Value)) →
      Good P ρ n (do eqGuard (if neg then .neq else .eql) t ox oy (x.den ρ) (y.den ρ); binOp (if neg then .neq else .eql) t (x.den ρ) (y.den ρ)) r := by
    intro q l hr hg he h1 h2
    rw [boolR_eq] at hr
    simp at hr; subst hr
    refine ⟨fun w => ?_, rfl⟩
    simp only [Sem.run_bind, hg, Result.andThen_ok]
    cases neg
    · simp only [Bool.false_eq_true, if_false, h1, Sem.run_bind, he, Result.andThen_ok, Sem.run_pure, Bool.false_xor]
      rfl
    · simp only [if_true, h2, Sem.run_bind, he, Result.andThen_ok, Sem.run_pure, Bool.true_xor]
      rfl
  have nb : neg = xor neg false := by cases neg <;> rfl
  have nb' : (!neg) = xor neg true := by cases neg <;> rfl
  unfold eqCells at h
  split at h
  · split at h
    · rename_i hu
      exact fin _ _ h (fun w => by simp only [SV.den, C.den, eqGuard_at_bool]; rfl) (fun w => run_equal_bool w t _ _ hu) rfl rfl
    · cases h
  · rename_i a b
    rw [boolR_eq] at h
    simp at h; subst h
    refine ⟨fun w => ?_, rfl⟩
    simp only [SV.den, C.den, eqGuard_at_string]
    cases neg <;> simp [binOp, Op.stringOp, beq_toListBytes, bne]
  · rename_i blk off v
    split at h
    · rename_i el hu
      cases hb : isNilP v <;> simp only [hb, cond_true, cond_false] at h
      · cases h
      obtain rfl := isNilP_eq hb
      rw [nb] at h
      exact fin _ _ h (fun w => by simp only [SV.den, C.den, eqGuard_at_pointer]; rfl)
        (fun w => eqI_pn hu 9999 _ w) rfl rfl
    · cases h
  · rename_i v blk off
    split at h
    · rename_i el hu
      cases hb : isNilP v <;> simp only [hb, cond_true, cond_false] at h
      · cases h
      obtain rfl := isNilP_eq hb
      rw [nb] at h
      exact fin _ _ h (fun w => by simp only [SV.den, C.den, eqGuard_at_pointer]; rfl)
        (fun w => eqI_np hu 9999 _ w) rfl rfl
    · cases h
  · rename_i v u
    split at h
    · rename_i el hu
      cases hb : isNilP v && isNilP u <;> simp only [hb, cond_true, cond_false] at h
      · cases h
      simp at hb
      obtain rfl := isNilP_eq hb.1
      obtain rfl := isNilP_eq hb.2
      rw [nb'] at h
      exact fin _ _ h (fun w => by simp only [SV.den, C.den, eqGuard_at_pointer]; rfl)
        (fun w => eqI_nn hu 9999 w) rfl rfl
    · rename_i el hu
      cases hb : isNilS v && isNilS u <;> simp only [hb, cond_true, cond_false] at h
      · cases h
      simp at hb
      obtain ⟨a1, b1, rfl⟩ := isNilS_eq hb.1
      obtain ⟨a2, b2, rfl⟩ := isNilS_eq hb.2
      rw [nb'] at h
      exact fin _ _ h (fun w => by simp only [SV.den, C.den, eqGuard_at_slice]; rfl)
        (fun w => eqI_ss hu 9999 _ _ _ _ w) rfl rfl
    · cases h
  · rename_i b o l c v
    split at h
    · rename_i el hu
      cases hb : isNilS v <;> simp only [hb, cond_true, cond_false] at h
      · cases h
      obtain ⟨a1, b1, rfl⟩ := isNilS_eq hb
      rw [nb] at h
      exact fin _ _ h (fun w => by simp only [SV.den, C.den, eqGuard_at_slice]; rfl)
        (fun w => eqI_sn hu 9999 _ _ _ _ _ w) rfl rfl
    · cases h
  · rename_i xs ys
    cases hg : P.eqGuardType P.depth t <;> simp only [hg, cond_true, cond_false] at h
    · split at h
      · rename_i q hq
        exact fin q _ h (fun w => by cases neg <;> simp [SV.den, eqGuard, hg])
          (fun w => eqIn_sound 100 t _ _ q hq hx hy _ (by simp [Op.maxDepth]) w) rfl rfl
      · cases h
    · cases h
  · cases h
end
end Go.Proofs.Ytjacbodjkgiohaa.Ev

namespace Go.Proofs.Ytjacbodjkgiohaa.Ev
open Go
section
variable {P : Program} {ρ : Nat → Nat} {n : Nat}

theorem binR_sound {op : BinOp} {t : TypeId} {x y : SV} {r : R} (h : binR P op t x y = some r) (hn : allT r.nd) (hx : x.ok n = true) (hy : y.ok n = true) (ox oy : Operand) :
    Good P ρ n (do eqGuard op t ox oy (x.den ρ) (y.den ρ); binOp op t (x.den ρ) (y.den ρ)) r := by
  unfold binR at h
  split at h
  · exact intBin_sound h hn t ox oy
  · split at h
    · exact eqCells_sound (neg := false) h hx hy ox oy
    · exact eqCells_sound (neg := true) h hx hy ox oy
    · cases h

theorem unR_sound {op : UnOp} {x : SV} {r : R} (h : unR op x = some r) : Good P ρ n (Op.unary op (x.den ρ)) r := by
  unfold unR at h
  split at h
  · rw [intR_eq] at h; simp at h; subst h; exact good_pure (by simp [SV.den, C.den, Op.unary, Op.intArith]) rfl
  · rw [intR_eq] at h; simp at h; subst h; exact good_pure (by simp only [SV.den, C.den, Op.unary, intBits_xor]) rfl
  · rw [boolR_eq] at h; simp at h; subst h; exact good_pure (by simp [SV.den, C.den, Op.unary]) rfl
  · cases h

theorem convR_sound {src dst : TypeId} {x : SV} {r : R} (h : convR P src dst x = some r) : Good P ρ n (convert src dst (x.den ρ)) r := by
  unfold convR at h
  split at h
  · split at h
    · rename_i hs hd
      rw [intR_eq] at h; simp at h; subst h
      refine ⟨fun w => ?_, rfl⟩
      rename_i ds _
      simp only [SV.den, C.den, convert, Sem.run_bind, run_underlying hs, run_underlying hd, Result.andThen_ok]
      cases ds <;> rfl
    · cases h
  · split at h
    · rename_i hs hd
      simp [okR] at h; subst h
      refine ⟨fun w => ?_, rfl⟩
      simp only [SV.den, C.den, convert, Sem.run_bind, run_underlying hs, run_underlying hd, Result.andThen_ok]
      rfl
    · cases h
  · cases h

theorem fieldsR_eq {t : TypeId} {f : Nat} {fd : Field} (h : fieldsR P t f = some fd) : ∃ fs, P.underlying t = some (.struct fs) ∧ fs[f]? = some fd := by
  unfold fieldsR at h
  split at h
  · exact ⟨_, by assumption, h⟩
  · cases h

theorem fieldAddrR_sound {s : TypeId} {x : SV} {f : Nat} {r : R} (h : fieldAddrR P s x f = some r) (hx : x.ok n = true) : Good P ρ n (Instr.fieldAt s (x.den ρ) f) r := by
  unfold fieldAddrR at h
  split at h
  · rename_i blk off
    split at h
    · rename_i fd hf
      obtain ⟨fs, hu, hf'⟩ := fieldsR_eq hf
      split at h
      · rename_i i hi
        cases hb : Nat.beq i.size 0 <;> simp only [hb, cond_true, cond_false] at h
        · simp [okR] at h; subst h
          have hz : ¬ i.size = 0 := fun e => by rw [e] at hb; cases hb
          refine ⟨fun w => ?_, hx⟩
          simp only [SV.den, C.den, Instr.fieldAt, Sem.run_bind, run_underlying hu, Result.andThen_ok, hf', Instr.sureAddr, Sem.run_pure, fieldPlace, run_sizeOf hi, hz, if_false, Addr.add_lit]
        · cases h
      · cases h
    · cases h
  · cases h

theorem optR_some {v : Option SV} {r : R} (h : optR v = some r) : v = some r.v := by
  unfold optR at h; split at h
  · simp at h; subst h; rfl
  · cases h

theorem fieldR_sound {t : TypeId} {x : SV} {f : Nat} {r : R} (h : fieldR P t x f = some r) (hx : x.ok n = true) : Good P ρ n (Instr.field t (x.den ρ) f) r := by
  unfold fieldR at h
  split at h
  · rename_i cs
    split at h
    · rename_i fd hf
      obtain ⟨fs, hu, hf'⟩ := fieldsR_eq hf
      have hp := partR_sound (n := n) (ρ := ρ) (optR_some h) hx
      refine ⟨fun w => ?_, hp.2⟩
      simp only [SV.den, Instr.field, Sem.run_bind, run_underlying hu, Result.andThen_ok, hf', asAgg, Sem.run_pure, hp.1]
    · cases h
  · cases h

theorem inB_spec {i : Int} {len : Nat} (h : inB i len = true) : 0 ≤ i ∧ i < len := by
  simpa [inB] using h

theorem indexAddrR_sound {t : TypeId} {x ix : SV} {r : R} (h : indexAddrR P t x ix = some r) (hx : x.ok n = true) : Good P ρ n (Instr.indexAt t (x.den ρ) (ix.den ρ)) r := by
  unfold indexAddrR at h
  split at h
  · rename_i blk off k i
    split at h
    · rename_i len elem hu
      split at h
      · rename_i e he
        cases hb : inB i len <;> simp only [hb, cond_true, cond_false] at h
        · cases h
        · rw [forceN_eq] at h
          simp [okR] at h; subst h
          have hi := inB_spec hb
          refine ⟨fun w => ?_, hx⟩
          simp only [SV.den, C.den, Instr.indexAt, asIntOf, Sem.run_bind, Sem.run_pure, run_underlying hu, Result.andThen_ok, Instr.sureAddr, if_pos hi, run_sizeOf he, Addr.add_lit]
      · cases h
    · cases h
  · rename_i blk off len cap k i
    split at h
    · rename_i elem hu
      split at h
      · rename_i e he
        cases hb : inB i len <;> simp only [hb, cond_true, cond_false] at h
        · cases h
        · rw [forceN_eq] at h
          simp [okR] at h; subst h
          have hi := inB_spec hb
          refine ⟨fun w => ?_, hx⟩
          simp only [SV.den, C.den, Instr.indexAt, asIntOf, Sem.run_bind, Sem.run_pure, run_underlying hu, Result.andThen_ok, if_pos hi, run_sizeOf he, Addr.add_lit]
      · cases h
    · cases h
  · cases h

theorem indexR_sound {t : TypeId} {x ix : SV} {r : R} (h : indexR P t x ix = some r) (hx : x.ok n = true) : Good P ρ n (Instr.index t (x.den ρ) (ix.den ρ)) r := by
  unfold indexR at h
  split at h
  · rename_i cs k i
    split at h
    · rename_i len elem hu
      split at h
      · rename_i e he
        cases hb : inB i len <;> simp only [hb, cond_true, cond_false] at h
        · cases h
        · have hi := inB_spec hb
          have hp := partR_sound (n := n) (ρ := ρ) (optR_some h) hx
          refine ⟨fun w => ?_, hp.2⟩
          simp only [SV.den, C.den, Instr.index, asIntOf, Sem.run_bind, Sem.run_pure, run_underlying hu, Result.andThen_ok, if_pos hi, run_sizeOf he, hp.1]
      · cases h
    · cases h
  · cases h

theorem extractR_sound {x : SV} {ix : Nat} {r : R} (h : extractR x ix = some r) (hx : x.ok n = true) : Good P ρ n (Instr.extract (x.den ρ) ix) r := by
  unfold extractR at h
  split at h
  · rename_i l
    split at h
    · rename_i v hv
      simp [okR] at h; subst h
      refine ⟨fun w => ?_, ?_⟩
      · rw [S1.sv_den]; simp [SV.den, Instr.extract, hv]
      · rw [S1.sv_ok]; exact List.all_eq_true.1 hx v (List.mem_of_getElem? hv)
    · cases h
  · cases h

theorem builtinR_sound {b : Builtin} {ts : Array TypeId} {type : TypeId} {cs : Array Bool} {args : List SV} {r : R} (h : builtinR P b ts args = some r) :
    (∀ w, (builtin b ts type cs (args.map (SV.den ρ)).toArray).run P w = .ok (.value (r.v.den ρ)) w) ∧ r.v.ok n = true := by
  unfold builtinR at h
  split at h
  · rw [intR_eq] at h; simp at h; subst h
    refine ⟨fun w => ?_, rfl⟩
    simp only [SV.den, C.den, builtin, List.map_cons, List.map_nil, Sem.run_bind, run_min_int2, Result.andThen_ok, Sem.run_pure]
  · rw [intR_eq] at h; simp at h; subst h
    refine ⟨fun w => ?_, rfl⟩
    simp only [SV.den, C.den, builtin, List.map_cons, List.map_nil, Sem.run_bind, run_max_int2, Result.andThen_ok, Sem.run_pure]
  · split at h
    · cases h
    · rename_i t ht
      have fin : ∀ (l : Bool) (x : SV) (m : Int), intR l .i64 m = some r → (∀ w, (Builtin.len_ ts type #[x.den ρ]).run P w = .ok (goInt m) w) →
          (∀ w, (builtin .len ts type cs (([x] : List SV).map (SV.den ρ)).toArray).run P w = .ok (.value (r.v.den ρ)) w) ∧ r.v.ok n = true := by
        intro l x m hr hm
        rw [intR_eq] at hr; simp at hr; subst hr
        refine ⟨fun w => ?_, rfl⟩
        simp only [builtin, List.map_cons, List.map_nil, Sem.run_bind, hm, Result.andThen_ok, Sem.run_pure]
        rfl
      split at h
      · rename_i hu; exact fin _ _ _ h fun w => by simp [Builtin.len_, ht, SV.den, C.den, run_underlying hu]
      · rename_i hu; exact fin _ _ _ h fun w => by simp [Builtin.len_, ht, SV.den, C.den, run_underlying hu]
      · rename_i hu; exact fin _ _ _ h fun w => by simp [Builtin.len_, ht, SV.den, C.den, run_underlying hu]
      · rename_i hu; exact fin _ _ _ h fun w => by simp [Builtin.len_, ht, run_underlying hu]
      · cases h
  · cases h

theorem evs_sound {ev : Operand → Option SV} {val : Operand → Value} (hv : ∀ x y, ev x = some y → val x = y.den ρ ∧ y.ok n = true) :
    ∀ (l : List Operand) (vs : List SV), evs ev l = some vs → l.map val = vs.map (SV.den ρ) ∧ ∀ v ∈ vs, v.ok n = true
  | [], vs, h => by simp [evs] at h; subst h; simp
  | x :: l, vs, h => by
    simp only [evs] at h
    split at h
    · cases h
    · rename_i v hv'
      split at h
      · cases h
      · rename_i vs' hvs
        simp at h; subst h
        have := evs_sound hv l vs' hvs
        have h1 := hv x v hv'
        refine ⟨by simp [h1.1, this.1], ?_⟩
        intro u hu
        rcases List.mem_cons.1 hu with rfl | hu
        · exact h1.2
        · exact this.2 u hu

theorem evp_sound {ev : Operand → Option SV} {val : Operand → Value} (hv : ∀ x y, ev x = some y → val x = y.den ρ ∧ y.ok n = true) :
    ∀ (l : List (Nat × Operand)) (r : List (Nat × SV)), evp ev l = some r → l.map (fun p => (p.1, val p.2)) = r.map (fun p => (p.1, p.2.den ρ)) ∧ ∀ p ∈ r, p.2.ok n = true
  | [], r, h => by simp [evp] at h; subst h; simp
  | (i, x) :: l, r, h => by
    simp only [evp] at h
    split at h
    · rename_i v l' hx hl
      simp at h; subst h
      obtain ⟨h1, h2⟩ := evp_sound hv l l' hl
      have h3 := hv _ _ hx
      refine ⟨by simp [h1, h3.1], fun p hp => ?_⟩
      rcases List.mem_cons.1 hp with rfl | hp
      · exact h3.2
      · exact h2 p hp
    · cases h

theorem one_cells {v : SV} {vs : List C} (h : v.cells = some vs) (hs : vs.all C.one = true) : (v.den ρ).cells = denL ρ vs := by
  cases v with
  | c x =>
    simp [SV.cells] at h; subst h
    cases x with
    | x u => cases u <;> simp_all [C.one, SV.den, C.den, Value.cells, denL]
    | _ => rfl
  | a l => simp [SV.cells] at h; subst h; rfl
  | t l => simp [SV.cells] at h
  | any => simp [SV.cells] at h

theorem cells_okL {v : SV} {vs : List C} (h : v.cells = some vs) (hv : v.ok n = true) : okL n vs = true := by
  cases v with
  | c x => simp [SV.cells] at h; subst h; simpa [okL, SV.ok] using hv
  | a l => simp [SV.cells] at h; subst h; exact hv
  | t l => simp [SV.cells] at h
  | any => simp [SV.cells] at h

theorem lay_sound : ∀ (vs : List C) (cs : List C) (off j : Nat), okL n cs = true → okL n vs = true →
    ((vs.map (C.den ρ)).zipIdx j).foldl (fun (cs : Array Value) (p : Value × Nat) => cs.setIfInBounds (off + p.2) p.1) (denL ρ cs) = denL ρ (layL cs (off + j) vs) ∧ okL n (layL cs (off + j) vs) = true
  | [], cs, off, j, h, _ => ⟨rfl, h⟩
  | v :: vs, cs, off, j, h, hv => by
    have hv' : v.ok n = true ∧ okL n vs = true := by simpa [okL] using hv
    have hset : okL n (cs.set (off + j) v) = true := List.all_eq_true.2 fun x hx => by
      rcases List.mem_or_eq_of_mem_set hx with hx | rfl
      · exact List.all_eq_true.1 h x hx
      · exact hv'.1
    have ih := lay_sound vs (cs.set (off + j) v) off (j + 1) hset hv'.2
    simp only [List.map_cons, List.zipIdx_cons, List.foldl_cons, layL]
    have e : (denL ρ cs).setIfInBounds (off + j) (v.den ρ) = denL ρ (cs.set (off + j) v) := by
      simp only [denL, List.map_set, List.setIfInBounds_toArray]
    rw [e]
    exact ih

theorem fillS_sound {place : Nat → Option (Nat × Nat)} : ∀ (parts : List (Nat × SV)) (cs r : List C), fillS place cs parts = some r → okL n cs = true → (∀ p ∈ parts, p.2.ok n = true) →
    Instr.fill place (denL ρ cs) (parts.map fun p => (p.1, p.2.den ρ)) = some (denL ρ r) ∧ okL n r = true
  | [], cs, r, h, hcs, _ => by simp [fillS] at h; subst h; exact ⟨rfl, hcs⟩
  | (i, v) :: parts, cs, r, h, hcs, hp => by
    simp only [fillS] at h
    split at h
    · rename_i off size vs hpl hvs
      cases hc : Nat.beq vs.length size && vs.all C.one && Nat.ble (off + vs.length) cs.length <;> simp only [hc, cond_true, cond_false] at h
      · cases h
      · rw [layLK_eq] at h
        simp only [Bool.and_eq_true] at hc
        obtain ⟨⟨h1, h2⟩, h3⟩ := hc
        have h1 := Nat.eq_of_beq_eq_true h1
        have h3 := Nat.le_of_ble_eq_true h3
        have hcells := one_cells (ρ := ρ) hvs h2
        obtain ⟨hl, hok⟩ := lay_sound (ρ := ρ) vs cs off 0 hcs (cells_okL hvs (hp _ List.mem_cons_self))
        have ih := fillS_sound parts (layL cs off vs) r h hok (fun p hp' => hp p (List.mem_cons_of_mem _ hp'))
        refine ⟨?_, ih.2⟩
        simp only [List.map_cons, Instr.fill, hpl, hcells]
        have hs1 : (denL ρ vs).size = vs.length := by simp [denL]
        have hs2 : (denL ρ cs).size = cs.length := by simp [denL]
        rw [if_neg (by rw [hs1, hs2]; simp; omega)]
        have hf : ((denL ρ vs).zipIdx.foldl (fun cs (x : Value × Nat) => match x with | (c, j) => cs.setIfInBounds (off + j) c) (denL ρ cs)) = denL ρ (layL cs off vs) := by
          simp only [Nat.add_zero] at hl
          rw [← hl, ← Array.foldl_toList]
          simp only [Array.toList_zipIdx, denL]
        rw [hf]
        exact ih.1
    · cases h

theorem placesL_sound : ∀ (fs : List Field) (l : List (Nat × Nat)), placesL P fs = some l → ∀ w, (fs.mapM fun f => do pure (f.offset, ← sizeOf f.type) : Sem (List (Nat × Nat))).run P w = .ok l w
  | [], l, h, w => by simp [placesL] at h; subst h; simp
  | f :: fs, l, h, w => by
    simp only [placesL] at h
    split at h
    · rename_i i l' hi hl
      simp at h; subst h
      rw [List.mapM_cons]
      simp only [Sem.run_bind, run_sizeOf hi, Result.andThen_ok, Sem.run_pure, placesL_sound fs l' hl w]
    · cases h

theorem buildR_sound {t : TypeId} {parts : List (Nat × SV)} {r : R} (h : buildR P t parts = some r) (hp : ∀ p ∈ parts, p.2.ok n = true) :
    Good P ρ n (Instr.build t (parts.map fun p => (p.1, p.2.den ρ)).toArray) r := by
  unfold buildR at h
  split at h
  · cases h
  rename_i i hi
  split at h
  · cases h
  rename_i z hz
  rw [cellsOfK_eq] at h
  have hzero : ∀ w, (zeroValue t).run P w = .ok z w := fun w => by simp [zeroValue, typeInfo, hi, hz]
  have hzc : z.cells = denL ρ (z.cells.toList.map ofCell) := by rw [denL_ofCell]
  split at h
  · rename_i fields hu
    split at h
    · rename_i pl hpl
      split at h
      · rename_i cs hcs
        simp [okR] at h; subst h
        obtain ⟨h1, h2⟩ := fillS_sound (n := n) (ρ := ρ) parts _ cs hcs (okL_ofCell n _) hp
        refine ⟨fun w => ?_, h2⟩
        have hmap : (fields.mapM fun f => do pure (f.offset, ← sizeOf f.type) : Sem (Array (Nat × Nat))).run P w = .ok pl.toArray w := by
          have : (fields.mapM fun f => do pure (f.offset, ← sizeOf f.type) : Sem (Array (Nat × Nat))) = List.toArray <$> (fields.toList.mapM (fun f => (do pure (f.offset, ← sizeOf f.type) : Sem (Nat × Nat)))) := by
            conv => lhs; rw [← Array.toArray_toList (xs := fields)]
            exact List.mapM_toArray
          rw [this]
          simp only [Sem.run_map, placesL_sound fields.toList pl hpl w, Result.andThen_ok]
        have hf : (fun (i : Nat) => pl.toArray[i]?) = fun (i : Nat) => pl[i]? := funext fun i => by simp
        have h1' : Instr.fill (fun i => pl.toArray[i]?) z.cells (parts.map fun p => (p.1, p.2.den ρ)) = some (denL ρ cs) := by rw [hzc, hf]; exact h1
        simp only [Instr.build, Sem.run_bind, hzero, Result.andThen_ok, run_underlying hu, hmap, h1', Sem.run_pure]
        rfl
      · cases h
    · cases h
  · rename_i elem hu
    split at h
    · rename_i e he
      split at h
      · rename_i cs hcs
        simp [okR] at h; subst h
        obtain ⟨h1, h2⟩ := fillS_sound (n := n) (ρ := ρ) parts _ cs hcs (okL_ofCell n _) hp
        refine ⟨fun w => ?_, h2⟩
        have h1' : Instr.fill (fun i => some (i * e.size, e.size)) z.cells (parts.map fun p => (p.1, p.2.den ρ)) = some (denL ρ cs) := by rw [hzc]; exact h1
        simp only [Instr.build, Sem.run_bind, hzero, Result.andThen_ok, run_underlying hu, run_sizeOf he, h1', Sem.run_pure]
        rfl
      · cases h
    · cases h
  · cases h

theorem capsOf_sound : ∀ (vs : List SV) (l : List (Nat × Nat)), capsOf vs = some l → vs.map (SV.den ρ) = l.map (fun p => Value.pointer (some ⟨ρ p.1, p.2, none⟩)) ∧
    ((∀ v ∈ vs, v.ok n = true) → (l.all fun p => Nat.blt p.1 n) = true)
  | [], l, h => by simp [capsOf] at h; subst h; simp
  | .c (.p blk off) :: r, l, h => by
    simp only [capsOf] at h
    split at h
    · rename_i l' hl
      simp at h; subst h
      obtain ⟨h1, h2⟩ := capsOf_sound r l' hl
      refine ⟨by simp [h1, SV.den, C.den], fun hv => ?_⟩
      simp only [List.all_cons, Bool.and_eq_true]
      exact ⟨hv _ List.mem_cons_self, h2 fun v hv' => hv v (List.mem_cons_of_mem _ hv')⟩
    · cases h
  | .c (.b _ _) :: _, _, h | .c (.i _ _ _) :: _, _, h | .c (.str _) :: _, _, h | .c (.slc _ _ _ _) :: _, _, h | .c (.fn _) :: _, _, h | .c (.clo _ _) :: _, _, h | .c (.x _) :: _, _, h
  | .a _ :: _, _, h | .t _ :: _, _, h | .any :: _, _, h => by simp [capsOf] at h

theorem pureOp_sound {ev : Operand → Option SV} {val : Operand → Value} (hv : ∀ x y, ev x = some y → val x = y.den ρ ∧ y.ok n = true)
    {o : Oper} {r : R} (h : pureOp P ev o.op = some r) (hn : allT r.nd) :
    (∀ w, (execOp val o).run P w = .ok (.value (r.v.den ρ)) w) ∧ r.v.ok n = true := by
  obtain ⟨dst, op, type, pos, after, guard⟩ := o
  have fin : ∀ (q : Sem Value), Good P ρ n q r → (∀ w, (do pure (.value (← q)) : Sem Next).run P w = .ok (.value (r.v.den ρ)) w) ∧ r.v.ok n = true :=
    fun q hq => ⟨fun w => by simp only [Sem.run_bind, hq.1, Result.andThen_ok, Sem.run_pure], hq.2⟩
  unfold pureOp at h
  simp only at h
  split at h
  · have := optR_some h; have h1 := hv _ _ this
    exact ⟨fun w => by simp only [execOp, h1.1, Sem.run_pure], h1.2⟩
  · have := optR_some h; have h1 := hv _ _ this
    exact ⟨fun w => by simp only [execOp, h1.1, Sem.run_pure], h1.2⟩
  · split at h
    · rename_i c a b _ v hc
      have := optR_some h
      have h1 := hv _ _ hc
      have h1' : val c = .bool v := h1.1
      cases v
      · have h2 := hv _ _ this
        exact ⟨fun w => by simp only [execOp, h1', asBool, Sem.run_bind, Sem.run_pure, Result.andThen_ok, h2.1, Bool.false_eq_true, if_false], h2.2⟩
      · have h2 := hv _ _ this
        exact ⟨fun w => by simp only [execOp, h1', asBool, Sem.run_bind, Sem.run_pure, Result.andThen_ok, h2.1, if_true], h2.2⟩
    · cases h
  · split at h
    · rename_i hu hw
      have h1 := hv _ _ hu; have h2 := hv _ _ hw
      simp only [execOp, h1.1, h2.1]
      exact fin _ (binR_sound h hn h1.2 h2.2 _ _)
    · cases h
  · split at h
    · rename_i hu
      have h1 := hv _ _ hu
      simp only [execOp, h1.1]
      exact fin _ (unR_sound h)
    · cases h
  · split at h
    · rename_i hu
      have h1 := hv _ _ hu
      simp only [execOp, h1.1]
      exact fin _ (convR_sound h)
    · cases h
  · split at h
    · rename_i hu
      have h1 := hv _ _ hu
      simp only [execOp, h1.1]
      exact fin _ (fieldAddrR_sound h h1.2)
    · cases h
  · split at h
    · rename_i hu
      have h1 := hv _ _ hu
      simp only [execOp, h1.1]
      exact fin _ (fieldR_sound h h1.2)
    · cases h
  · split at h
    · rename_i hu hw
      have h1 := hv _ _ hu; have h2 := hv _ _ hw
      simp only [execOp, h1.1, h2.1]
      exact fin _ (indexAddrR_sound h h1.2)
    · cases h
  · split at h
    · rename_i hu hw
      have h1 := hv _ _ hu; have h2 := hv _ _ hw
      simp only [execOp, h1.1, h2.1]
      exact fin _ (indexR_sound h h1.2)
    · cases h
  · split at h
    · rename_i hu
      have h1 := hv _ _ hu
      simp only [execOp, h1.1]
      exact fin _ (extractR_sound h h1.2)
    · cases h
  · split at h
    · rename_i hu
      have h1 := hv _ _ hu
      unfold nilCheckR at h
      split at h
      · simp [okR] at h; subst h
        exact ⟨fun w => by show Sem.run P (match val _ with | .pointer none | .nilIface | .nilFunc => _ | .func (.method name) first captured => _ | x => _) w = _; rw [h1.1]; rfl, h1.2⟩
      · simp [okR] at h; subst h
        exact ⟨fun w => by show Sem.run P (match val _ with | .pointer none | .nilIface | .nilFunc => _ | .func (.method name) first captured => _ | x => _) w = _; rw [h1.1]; rfl, h1.2⟩
      · cases h
    · cases h
  · rename_i t parts
    split at h
    · rename_i l hl
      obtain ⟨h1, h2⟩ := evp_sound hv _ _ hl
      have hb := buildR_sound (n := n) (ρ := ρ) h h2
      refine ⟨fun w => ?_, hb.2⟩
      have hparts : (parts.map fun (x : Nat × Operand) => match x with | (i, x) => (i, val x)) = (l.map fun p => (p.1, p.2.den ρ)).toArray := by
        apply Array.ext'
        rw [Array.toList_map]
        exact h1
      simp only [execOp]
      rw [hparts]
      simp only [Sem.run_bind, hb.1, Result.andThen_ok, Sem.run_pure]
    · cases h
  · rename_i f first captured
    cases hfe : first.isEmpty <;> simp only [hfe, cond_true, cond_false] at h
    · cases h
    split at h
    · rename_i vs hvs
      split at h
      · rename_i l hl
        simp [okR] at h; subst h
        have h1 := evs_sound hv _ _ hvs
        have h2 := capsOf_sound (n := n) (ρ := ρ) vs l hl
        refine ⟨fun w => ?_, h2.2 h1.2⟩
        have hcap : captured.map val = (l.map fun p => Value.pointer (some ⟨ρ p.1, p.2, none⟩)).toArray := Array.ext' (by rw [Array.toList_map, h1.1, h2.1])
        have hfst : first.map val = #[] := by
          have : first = #[] := by simpa using hfe
          rw [this]; simp
        simp only [execOp, Instr.makeFunc, hcap, hfst, Sem.run_bind, Sem.run_pure, Result.andThen_ok]
        rfl
      · cases h
    · cases h
  · split at h
    · rename_i b args argTypes _ vs hvs
      have h1 := evs_sound hv _ _ hvs
      have := builtinR_sound (n := n) (ρ := ρ) (type := type) (cs := args.map fun | .const _ => true | _ => false) h
      refine ⟨fun w => ?_, this.2⟩
      have hargs : args.map val = (vs.map (SV.den ρ)).toArray := by
        exact Array.ext' (by rw [Array.toList_map, h1.1])
      simp only [execOp, resolve, Sem.run_bind, Sem.run_pure, Result.andThen_ok, invoke, hargs]
      exact this.1 w
    · cases h
  · cases h
end
end Go.Proofs.Ytjacbodjkgiohaa.Ev

namespace Go.Proofs.Ytjacbodjkgiohaa.Ev
open Go

/-! ### 6. Operations on the memory -/

def setLK {α β : Type} : List α → Nat → α → (List α → β) → β
  | [], _, _, K => K []
  | x :: xs, i, v, K => cond (Nat.beq i 0) (K (v :: xs)) (setLK xs (i - 1) v fun ys => K (x :: ys))
theorem setLK_eq {α β : Type} (l : List α) : ∀ (i : Nat) (v : α) (K : List α → β), setLK l i v K = K (l.set i v) := by
  induction l with
  | nil => intros; rfl
  | cons x xs ih =>
    intro i v K
    simp only [setLK, ih]
    cases i with
    | zero => rfl
    | succ i => rfl
def appLK {α β : Type} : List α → α → (List α → β) → β
  | [], v, K => K [v]
  | x :: xs, v, K => appLK xs v fun ys => K (x :: ys)
theorem appLK_eq {α β : Type} (l : List α) : ∀ (v : α) (K : List α → β), appLK l v K = K (l ++ [v]) := by
  induction l with
  | nil => intros; rfl
  | cons x xs ih => intro v K; simp only [appLK, ih]; rfl
def takeLK {α β : Type} : Nat → List α → (List α → β) → β
  | 0, _, K => K []
  | _ + 1, [], K => K []
  | n + 1, x :: xs, K => takeLK n xs fun ys => K (x :: ys)
theorem takeLK_eq {α β : Type} : ∀ (n : Nat) (l : List α) (K : List α → β), takeLK n l K = K (l.take n)
  | 0, l, K => by simp [takeLK]
  | n + 1, [], K => by simp [takeLK]
  | n + 1, x :: xs, K => by simp [takeLK, takeLK_eq n xs]
def cellsK {β : Type} : List Value → (List C → β) → β
  | [], K => K []
  | v :: vs, K => cellsK vs fun cs => match v with
    | .bool b => K (.b true b :: cs)
    | .int k n => K (.i true k n :: cs)
    | .string s => K (.str s :: cs)
    | v => K (.x v :: cs)
theorem cellsK_eq {β : Type} (l : List Value) : ∀ (K : List C → β), cellsK l K = K (l.map ofCell) := by
  induction l with
  | nil => intros; rfl
  | cons v vs ih => intro K; simp only [cellsK, ih]; cases v <;> rfl

def C.storable : C → Bool
  | .x (.agg _) => false
  | .x (.tuple _) => false
  | _ => true

def writeLK {β : Type} : List C → Nat → List C → (List C → β) → β
  | cs, _, [], K => K cs
  | cs, off, v :: vs, K => setLK cs off v fun cs' => writeLK cs' (off + 1) vs K
def writeL : List C → Nat → List C → List C
  | cs, _, [] => cs
  | cs, off, v :: vs => writeL (cs.set off v) (off + 1) vs
theorem writeLK_eq {β : Type} (vs : List C) : ∀ (cs : List C) (off : Nat) (K : List C → β), writeLK cs off vs K = K (writeL cs off vs) := by
  induction vs with
  | nil => intros; rfl
  | cons v vs ih => intro cs off K; simp only [writeLK, writeL, setLK_eq, ih]

def newS (s : SW) (cs : List C) (ty : TypeId) : Option (SV × SW) :=
  forceN s.length fun n => appLK s ⟨cs, ty⟩ fun s' => some (.c (.p n 0), s')

def loadS (P : Program) (s : SW) (t : TypeId) (x : SV) : Option (SV × SW) :=
  match x with
  | .c (.p blk off) => (match s[blk]? with
    | none => none
    | some b => match P.underlying t with
      | none => none
      | some d => cond (aggB d)
        (match P.info? t with
          | none => none
          | some i => takeLK i.size (b.cs.drop off) fun l => cond (Nat.beq l.length i.size) (some (.a l, s)) none)
        (match b.cs[off]? with | some c => some (.c c, s) | none => none))
  | _ => none

def storeS (P : Program) (s : SW) (t : TypeId) (x v : SV) : Option (SV × SW) :=
  match x with
  | .c (.p blk off) => (match s[blk]? with
    | none => none
    | some b => match v.cells, P.info? t with
      | some vs, some i => cond (Nat.beq vs.length i.size && vs.all C.storable && Nat.ble (off + vs.length) b.cs.length)
          (writeLK b.cs off vs fun cs => setLK s blk ⟨cs, b.ty⟩ fun s' => some (undefS, s')) none
      | _, _ => none)
  | _ => none

def heapOp (P : Program) (ev : Operand → Option SV) (s : SW) (op : Op) : Option (SV × SW) :=
  match op with
  | .alloc elem => (match P.info? elem with
    | some i => (match i.zero with
      | some z => cellsK z.cells.toList fun cs => newS s cs elem
      | none => none)
    | none => none)
  | .box elem x => (match ev x with
    | some v => (match v.cells with | some cs => cond (cs.all C.storable) (newS s cs elem) none | none => none)
    | none => none)
  | .load t x => (match ev x with | some v => loadS P s t v | none => none)
  | .store t a x => (match ev a, ev x with | some u, some v => storeS P s t u v | _, _ => none)
  | _ => none

section
variable {P : Program} {ρ : Nat → Nat} {W : World} {L : Nat} {s : SW} {w : World}

theorem run_load_cell {a : Addr} {v : Value} (h : w.cell? a = some v) : (load a).run P w = .ok v w := by
  simp [load, Sem.run, h]

theorem run_loadCellsFrom (a : Addr) : ∀ (n i : Nat) (acc : Array Value) (vs : List Value), vs.length = n →
    (∀ j v, vs[j]? = some v → w.cell? (a.add (i + j)) = some v) → (loadCellsFrom a i n acc).run P w = .ok (acc ++ vs.toArray) w
  | 0, i, acc, vs, hl, _ => by
    obtain rfl : vs = [] := List.length_eq_zero_iff.1 hl
    simp [loadCellsFrom]
  | n + 1, i, acc, [], hl, _ => by simp at hl
  | n + 1, i, acc, v :: vs, hl, h => by
    have h0 := h 0 v rfl
    simp only [loadCellsFrom, Sem.run_bind]
    rw [run_load_cell (by simpa using h0)]
    simp only [Result.andThen_ok]
    rw [run_loadCellsFrom a n (i + 1) (acc.push v) vs (by simpa using hl) (fun j u hj => by
      have := h (j + 1) u (by simpa using hj)
      rw [show i + 1 + j = i + (j + 1) by omega]; exact this)]
    simp

theorem loadS_sound (hI : Inv W L ρ s w) {t : TypeId} {x v : SV} {s' : SW} (h : loadS P s t x = some (v, s')) :
    s' = s ∧ v.ok s.length = true ∧ (Instr.loadAt t (x.den ρ)).run P w = .ok (v.den ρ) w := by
  unfold loadS at h
  split at h
  · rename_i blk off
    split at h
    · cases h
    rename_i b hb
    split at h
    · cases h
    rename_i d hd
    simp only [SV.den, C.den, Instr.loadAt, Instr.sureAddr, Sem.run_bind, Sem.run_pure, Result.andThen_ok, loadVar, run_isAgg hd]
    cases ha : aggB d <;> simp only [ha, cond_true, cond_false] at h
    · split at h
      · rename_i c hc
        simp at h; obtain ⟨rfl, rfl⟩ := h
        have := hI.cell hb hc
        refine ⟨rfl, this.2, ?_⟩
        simp only [Bool.false_eq_true, if_false]
        exact run_load_cell this.1
      · cases h
    · split at h
      · cases h
      rename_i i hi
      rw [takeLK_eq] at h
      cases hl : Nat.beq ((b.cs.drop off).take i.size).length i.size <;> simp only [hl, cond_true, cond_false] at h
      · cases h
      · simp at h; obtain ⟨rfl, rfl⟩ := h
        have hl' := Nat.eq_of_beq_eq_true hl
        refine ⟨rfl, List.all_eq_true.2 fun c hc => List.all_eq_true.1 (hI.okc blk b hb) c (List.mem_of_mem_drop (List.mem_of_mem_take hc)), ?_⟩
        simp only [if_true, Sem.run_bind, run_sizeOf hi, Result.andThen_ok, loadCells]
        rw [run_loadCellsFrom (w := w) (P := P) ⟨ρ blk, off, none⟩ i.size 0 #[] (((b.cs.drop off).take i.size).map (C.den ρ)) (by rw [List.length_map]; exact hl') (fun j u hj => by
          rw [List.getElem?_map] at hj
          cases hc : ((b.cs.drop off).take i.size)[j]? with
          | none => rw [hc] at hj; simp at hj
          | some c =>
            rw [hc] at hj; simp at hj; subst hj
            have hj' : j < i.size := by
              have := (List.getElem?_eq_some_iff.1 hc).1
              simp at this; omega
            rw [List.getElem?_take_of_lt hj', List.getElem?_drop] at hc
            rw [Nat.zero_add, Addr.add_lit]
            exact (hI.cell hb hc).1)]
        simp [denL]
  · cases h

theorem C.storable_one {c : C} (h : c.storable = true) : (c.den ρ).oneCell' = true := by
  cases c with
  | x v => cases v <;> simp_all [C.storable, C.den, Value.oneCell']
  | _ => rfl

theorem run_store_cell {a : Addr} {v u : Value} (h : w.cell? a = some u) (hf : w.frozen? a = false) (hv : v.oneCell' = true) :
    (store a v).run P w = .ok () (w.setCell a v) := by
  cases v <;> simp_all [store, Sem.run, Value.oneCell']

theorem storeCells_sound : ∀ (vs : List C) (s : SW) (w : World) (blk off : Nat) (b : Bl) (i : Nat), Inv W L ρ s w → s[blk]? = some b → vs.all C.storable = true →
    off + i + vs.length ≤ b.cs.length → okL s.length vs = true →
    ∃ w', (storeCells ⟨ρ blk, off, none⟩ (vs.map (C.den ρ)) i).run P w = .ok () w' ∧ Inv W L ρ (s.set blk ⟨writeL b.cs (off + i) vs, b.ty⟩) w'
  | [], s, w, blk, off, b, i, hI, hb, _, _, _ => by
    refine ⟨w, by simp [storeCells], ?_⟩
    have : s.set blk ⟨writeL b.cs (off + i) [], b.ty⟩ = s := by
      obtain ⟨hlt, he⟩ := List.getElem?_eq_some_iff.1 hb
      simp only [writeL]
      rw [← he, List.set_getElem_self]
    rw [this]; exact hI
  | v :: vs, s, w, blk, off, b, i, hI, hb, hst, hle, hok => by
    simp only [List.all_cons, Bool.and_eq_true] at hst
    simp only [List.length_cons] at hle
    have hoff : off + i < b.cs.length := by omega
    have hokv : v.ok s.length = true ∧ okL s.length vs = true := by simpa [okL] using hok
    have hc := (hI.cell hb (List.getElem?_eq_getElem hoff)).1
    have hf := hI.thawed (off := off + i) hb
    have h1 := run_store_cell (P := P) hc hf (C.storable_one (ρ := ρ) hst.1)
    have hI1 := hI.store hb hoff hokv.1
    have hblk : blk < s.length := (List.getElem?_eq_some_iff.1 hb).1
    obtain ⟨w', hr, hI'⟩ := storeCells_sound vs (s.set blk ⟨b.cs.set (off + i) v, b.ty⟩) _ blk off ⟨b.cs.set (off + i) v, b.ty⟩ (i + 1) hI1
      (by rw [List.getElem?_set_self hblk]) hst.2 (by simp only [List.length_set]; omega) (by rw [List.length_set]; exact hokv.2)
    refine ⟨w', ?_, ?_⟩
    · simp only [List.map_cons, storeCells, Sem.run_bind]
      rw [show (⟨ρ blk, off, none⟩ : Addr).add i = ⟨ρ blk, off + i, none⟩ from Addr.add_lit _ _ _, h1]
      exact hr
    · rw [List.set_set] at hI'
      exact hI'

theorem cells_den {v : SV} {vs : List C} (h : v.cells = some vs) : (v.den ρ).cells = denL ρ vs ∨ ∃ u, v = .c (.x u) := by
  cases v with
  | c x =>
    cases x with
    | x u => exact .inr ⟨u, rfl⟩
    | _ => simp [SV.cells] at h; subst h; left; rfl
  | a l => simp [SV.cells] at h; subst h; left; rfl
  | t l => simp [SV.cells] at h
  | any => simp [SV.cells] at h

theorem cells_den' {v : SV} {vs : List C} (h : v.cells = some vs) (hs : vs.all C.storable = true) : (v.den ρ).cells = denL ρ vs := by
  rcases cells_den (ρ := ρ) h with h' | ⟨u, rfl⟩
  · exact h'
  · simp [SV.cells] at h; subst h
    cases u <;> simp_all [C.storable, SV.den, C.den, Value.cells, denL]

theorem cells_ok {v : SV} {vs : List C} {n : Nat} (h : v.cells = some vs) (hv : v.ok n = true) : okL n vs = true := by
  cases v with
  | c x => simp [SV.cells] at h; subst h; simpa [okL, SV.ok] using hv
  | a l => simp [SV.cells] at h; subst h; exact hv
  | t l => simp [SV.cells] at h
  | any => simp [SV.cells] at h

theorem storeS_sound (hI : Inv W L ρ s w) {t : TypeId} {x v u : SV} {s' : SW} (h : storeS P s t x v = some (u, s')) (hv : v.ok s.length = true) :
    u = undefS ∧ s'.length = s.length ∧ ∃ w', (Instr.storeAt t (x.den ρ) (v.den ρ)).run P w = .ok () w' ∧ Inv W L ρ s' w' := by
  unfold storeS at h
  split at h
  · rename_i blk off
    split at h
    · cases h
    rename_i b hb
    split at h
    · rename_i vs i hvs hi
      cases hc : Nat.beq vs.length i.size && vs.all C.storable && Nat.ble (off + vs.length) b.cs.length <;> simp only [hc, cond_true, cond_false] at h
      · cases h
      · rw [writeLK_eq, setLK_eq] at h
        simp at h; obtain ⟨rfl, rfl⟩ := h
        simp only [Bool.and_eq_true] at hc
        obtain ⟨⟨h1, h2⟩, h3⟩ := hc
        have h1' := Nat.eq_of_beq_eq_true h1
        obtain ⟨w', hr, hI'⟩ := storeCells_sound (P := P) vs s w blk off b 0 hI hb h2 (by have := Nat.le_of_ble_eq_true h3; omega) (cells_ok hvs hv)
        refine ⟨rfl, by simp, w', ?_, hI'⟩
        have hcells := cells_den' (ρ := ρ) hvs h2
        show (Instr.storeAt t (.pointer (some ⟨ρ blk, off, none⟩)) (v.den ρ)).run P w = _
        simp only [Instr.storeAt, Instr.sureAddr, Sem.run_bind, Sem.run_pure, Result.andThen_ok, storeVar, hcells, run_sizeOf hi]
        have : (denL ρ vs).size = i.size := by simp [denL, h1']
        simp only [this, ne_eq, not_true_eq_false, if_false]
        simpa [denL] using hr
    · cases h
  · cases h

theorem newS_sound (hI : Inv W L ρ s w) {cs : List C} {ty : TypeId} {v : SV} {s' : SW} (h : newS s cs ty = some (v, s')) (hcs : okL s.length cs = true) :
    ∃ ρ' w', Agree s.length ρ ρ' ∧ s.length ≤ s'.length ∧ v.ok s'.length = true ∧ v.den ρ' = .pointer (some ⟨w.heap.size, 0, none⟩) ∧
      w' = { w with heap := w.heap.push (.cells (denL ρ cs) ty) } ∧ Inv W L ρ' s' w' := by
  unfold newS at h
  rw [forceN_eq, appLK_eq] at h
  simp at h; obtain ⟨rfl, rfl⟩ := h
  obtain ⟨ρ', hag, hn, hI'⟩ := hI.alloc cs ty hcs
  refine ⟨ρ', _, hag, by simp, ?_, by simp [SV.den, C.den, hn], rfl, hI'⟩
  simp [SV.ok, C.ok]

theorem heapOp_sound (hI : Inv W L ρ s w) {ev : Operand → Option SV} {val : Operand → Value} (hv : ∀ x y, ev x = some y → val x = y.den ρ ∧ y.ok s.length = true)
    {o : Oper} {v : SV} {s' : SW} (h : heapOp P ev s o.op = some (v, s')) :
    ∃ ρ' w' nx, Agree s.length ρ ρ' ∧ s.length ≤ s'.length ∧ v.ok s'.length = true ∧ (execOp val o).run P w = .ok nx w' ∧ Inv W L ρ' s' w' ∧
      (nx = .value (v.den ρ') ∨ (nx = .skip ∧ v = undefS)) := by
  obtain ⟨dst, op, type, pos, after, guard⟩ := o
  unfold heapOp at h
  simp only at h
  split at h
  · rename_i elem
    split at h
    · rename_i i hi
      split at h
      · rename_i z hz
        rw [cellsK_eq] at h
        obtain ⟨ρ', w', hag, hle, hok, hd, hw, hI'⟩ := newS_sound hI h (okL_ofCell _ _)
        refine ⟨ρ', w', _, hag, hle, hok, ?_, hI', .inl rfl⟩
        rw [denL_ofCell] at hw
        simp only [execOp, Sem.run_bind, Instr.alloc, zeroValue, typeInfo, run_program, Result.andThen_ok, hi, Sem.run_pure, hz, newVar, newRow, run_newObj, hd, hw]
      · cases h
    · cases h
  · split at h
    · rename_i elem x _ v' hx
      split at h
      · rename_i cs hcs
        cases hst : cs.all C.storable <;> simp only [hst, cond_true, cond_false] at h
        · cases h
        have h1 := hv _ _ hx
        obtain ⟨ρ', w', hag, hle, hok, hd, hw, hI'⟩ := newS_sound hI h (cells_ok hcs h1.2)
        refine ⟨ρ', w', _, hag, hle, hok, ?_, hI', .inl rfl⟩
        have hc : (val x).cells = denL ρ cs := by rw [h1.1]; exact cells_den' hcs hst
        simp only [execOp, Sem.run_bind, Instr.box, newVar, newRow, run_newObj, Result.andThen_ok, Sem.run_pure, hc, hd, hw]
      · cases h
    · cases h
  · split at h
    · rename_i t x _ v' hx
      have h1 := hv _ _ hx
      obtain ⟨rfl, hok, hr⟩ := loadS_sound hI h
      refine ⟨ρ, w, _, Agree.refl _ _, Nat.le_refl _, hok, ?_, hI, .inl rfl⟩
      simp only [execOp, Sem.run_bind, h1.1, hr, Result.andThen_ok, Sem.run_pure]
    · cases h
  · split at h
    · rename_i t a x _ _ u v' ha hx
      have h1 := hv _ _ ha; have h2 := hv _ _ hx
      obtain ⟨rfl, hlen, w', hr, hI'⟩ := storeS_sound hI h h2.2
      refine ⟨ρ, w', .skip, Agree.refl _ _, by omega, undefS_ok _, ?_, hI', .inr ⟨rfl, rfl⟩⟩
      simp only [execOp, Sem.run_bind, h1.1, h2.1, hr, Result.andThen_ok, Sem.run_pure]
    · cases h
  · cases h
end
end Go.Proofs.Ytjacbodjkgiohaa.Ev

namespace Go.Proofs.Ytjacbodjkgiohaa.Ev
open Go

/-! ### 7. Trees of ends -/

inductive Tree (α : Type) where
  | leaf (x : α)
  | node (b : Bool) (t f : Tree α)
  | need (b : Bool) (t : Tree α)
  | fail

def Tree.OK {α : Type} (post : α → Prop) : Tree α → Prop
  | .leaf x => post x
  | .node b t f => (b = true → t.OK post) ∧ (b = false → f.OK post)
  | .need b t => b = true ∧ t.OK post
  | .fail => False

def Tree.bind {α β : Type} (k : α → Tree β) : Tree α → Tree β
  | .leaf x => k x
  | .node b t f => .node b (t.bind k) (f.bind k)
  | .need b t => .need b (t.bind k)
  | .fail => .fail

theorem Tree.OK_bind {α β : Type} {k : α → Tree β} {post : β → Prop} (t : Tree α) : (t.bind k).OK post → t.OK fun x => (k x).OK post := by
  induction t with
  | leaf x => exact id
  | node b t f iht ihf => exact fun h => ⟨fun hb => iht (h.1 hb), fun hb => ihf (h.2 hb)⟩
  | need b t ih => exact fun h => ⟨h.1, ih h.2⟩
  | fail => exact id
theorem Tree.OK_mono {α : Type} {p q : α → Prop} (t : Tree α) (h : ∀ x, p x → q x) : t.OK p → t.OK q := by
  induction t with
  | leaf x => exact h x
  | node b t f iht ihf => exact fun h => ⟨fun hb => iht (h.1 hb), fun hb => ihf (h.2 hb)⟩
  | need b t ih => exact fun h => ⟨h.1, ih h.2⟩
  | fail => exact id

/-- One way for each place. -/
def chain {α : Type} (i : Int) (f : Nat → Tree α) : Nat → Nat → Tree α
  | 0, _ => .fail
  | m + 1, j => .node (i == (Int.ofNat j)) (f j) (chain i f m (j + 1))
theorem chain_OK {α : Type} {i : Int} {f : Nat → Tree α} {post : α → Prop} : ∀ {m j : Nat}, (chain i f m j).OK post → ∃ k, k < j + m ∧ i = Int.ofNat k ∧ (f k).OK post
  | 0, _, h => h.elim
  | m + 1, j, h => by
    by_cases e : i = Int.ofNat j
    · exact ⟨j, by omega, e, h.1 (by simpa using e)⟩
    · obtain ⟨k, h1, h2, h3⟩ := chain_OK (h.2 (by simpa using e))
      exact ⟨k, by omega, h2, h3⟩

def needsT {α : Type} : List Bool → Tree α → Tree α
  | [], t => t
  | b :: l, t => .need b (needsT l t)
theorem needsT_OK {α : Type} {post : α → Prop} : ∀ {l : List Bool} {t : Tree α}, (needsT l t).OK post → allT l ∧ t.OK post
  | [], _, h => ⟨(fun _ hb => nomatch hb), h⟩
  | b :: l, t, h => by
    have := needsT_OK (l := l) h.2
    exact ⟨fun c hc => (List.mem_cons.1 hc).elim (fun e => e ▸ h.1) (fun hc => this.1 c hc), this.2⟩

/-! ### 8. Regions -/

/-- How an operation of a region is gone through: in its turn alone; as one that looks at no memory; as one that reads. -/
inductive Fl where
  | loud | pure | load

/-- Going through a list of operations. -/
def SeqWp (P : Program) (ops : Array Oper) (Q : Exit → Act → World → Prop) : List (Nat × Fl) → Act → World → Prop
  | [], a, w => Q .normal a w
  | (i, .pure) :: r, a, w => ∃ o v, ops[i]? = some o ∧ Yields P ops o v a ∧ SeqWp P ops Q r (a.put o.dst v) w
  | (i, .load) :: r, a, w => ∃ o v, ops[i]? = some o ∧ YieldsIf P ops (fun w' => w' = w) o v a ∧ SeqWp P ops Q r (a.put o.dst v) w
  | (i, .loud) :: r, a, w => wpOp P ops Q i (SeqWp P ops Q r) a w

theorem SeqWp.ops {P : Program} {ops : Array Oper} {Q : Exit → Act → World → Prop} : ∀ (l : List Nat) (a : Act) (w : World),
    SeqWp P ops Q (l.map fun i => (i, .loud)) a w → wpOps P ops Q l a w
  | [], _, _, h => h
  | i :: l, a, w, h => by
    rw [wpOps_cons]
    exact wpOp_mono (fun a w => SeqWp.ops l a w) h

def kindPure : Op → Bool
  | .move _ | .assign _ | .pick .. | .binOp .. | .unOp .. | .convert .. | .fieldAddr .. | .field .. | .indexAddr .. | .index .. | .extract .. | .nilCheck _ | .makeFunc .. | .build .. => true
  | .call { callee := .builtin .len, .. } => true
  | .call { callee := .builtin .min, .. } => true
  | .call { callee := .builtin .max, .. } => true
  | _ => false
def kindLoad : Op → Bool
  | .load .. => true
  | _ => false
def roAt (ops : Array Oper) (j : Nat) : Bool := match ops[j]? with | some o => kindPure o.op || kindLoad o.op | none => true

/-- Whatever order is picked, and what only reads leaves the world as it is. -/
def wpAnyR (P : Program) (ops : Array Oper) (Q : Exit → Act → World → Prop) : Nat → Array Bool → Act → World → Prop
  | 0, listed, a, w => Region.ready .any ops listed = [] ∧ Q .normal a w
  | fuel + 1, listed, a, w =>
    (Region.ready .any ops listed = [] → Q .normal a w) ∧
    ∀ i ∈ Region.ready .any ops listed, wpOp P ops Q i (fun a' w' => (roAt ops i = true → w' = w) ∧ wpAnyR P ops Q fuel (listed.setIfInBounds i true) a' w') a w

theorem wpAny_of_R {P : Program} {ops : Array Oper} {Q : Exit → Act → World → Prop} : ∀ (fuel : Nat) (listed : Array Bool) (a : Act) (w : World), wpAnyR P ops Q fuel listed a w → wpAny P .any ops Q fuel listed a w
  | 0, _, _, _, h => h
  | fuel + 1, _, _, _, h => ⟨h.1, fun i hi => wpOp_mono (fun a' w' h' => wpAny_of_R fuel _ a' w' h'.2) (h.2 i hi)⟩

/-- An operation may be taken first. 'T': those that wait for it. -/
theorem takeR {P : Program} {ops : Array Oper} {K : Act → World → Prop} {S : World → Prop} {i : Nat} {oi : Oper} {v : Value} (T : Nat → Bool) (hi : ops[i]? = some oi)
    (hsel : ∀ (j : Nat) (o : Oper) cs b, ops[j]? = some o → o.op ≠ .select cs b)
    (hTc : ∀ j oj, T j = true → ops[j]? = some oj → ∃ e ∈ oj.after, Region.binds .any e = true ∧ (e.on = i ∨ T e.on = true)) :
    ∀ (fuel : Nat) (listed : Array Bool) (a : Act) (w : World),
      (∀ j oj, ops[j]? = some oj → j ≠ i → listed.getD j true = false → T j = true ∨ (oi.apart ops oj = true ∧ (roAt ops j = true ∨ ∀ w, S w))) →
      (∀ j, T j = true → listed.getD j false = false) →
      i ∈ Region.ready .any ops listed → YieldsIf P ops S oi v a → S w → (roAt ops i = true) →
      wpAnyR P ops (Only K) fuel (listed.setIfInBounds i true) (a.put oi.dst v) w → wpAnyR P ops (Only K) (fuel + 1) listed a w := by
  intro fuel
  induction fuel with
  | zero =>
    intro listed a w _ _ hr hy hS hro H
    refine ⟨fun h => (by rw [h] at hr; cases hr), fun j hj => ?_⟩
    by_cases hji : j = i
    · subst hji; exact hy.wpOp hi hS ⟨fun _ => rfl, H⟩
    · have := ready_mono hj hji
      rw [H.1] at this
      cases this
  | succ fuel ih =>
    intro listed a w hfree hTu hr hy hS hro H
    refine ⟨fun h => (by rw [h] at hr; cases hr), fun j hj => ?_⟩
    by_cases hji : j = i
    · subst hji; exact hy.wpOp hi hS ⟨fun _ => rfl, H⟩
    · have h1 := H.2 j (ready_mono hj hji)
      obtain ⟨hjun, oj, hoj, hall⟩ := mem_ready.1 hj
      have hTj : T j = false := by
        cases hT : T j
        · rfl
        · obtain ⟨e, he, hb, hon⟩ := hTc j oj hT hoj
          have hl := hall e he hb
          rcases hon with hon | hon
          · rw [hon] at hl
            have h0 := (mem_ready.1 hr).1
            rcases Nat.lt_or_ge i listed.size with h' | h'
            · simp [h'] at h0 hl; rw [h0] at hl; cases hl
            · simp [Array.getElem?_eq_none h'] at hl
          · rw [hTu _ hon] at hl; cases hl
      have hap := (hfree j oj hoj hji hjun).resolve_left (by rw [hTj]; decide)
      have h2 := wpOp_putIf hoj hap.1 (fun cs b => hsel i oi cs b hi) (fun cs b => hsel j oj cs b hoj) (fun _ _ _ h => h) hy h1
      refine wpOp_mono (fun a' w' h3 => ⟨h3.2.1, ih (listed.setIfInBounds j true) a' w' ?_ ?_ (ready_mono hr (Ne.symm hji)) h3.1 ?_ hro ?_⟩) h2
      · intro k ok hk hki hun
        refine hfree k ok hk hki ?_
        by_cases hjk : j = k
        · subst hjk; exact hjun
        · rw [getD_set_ne true hjk] at hun; exact hun
      · intro k hk
        have : j ≠ k := fun e => by rw [← e, hTj] at hk; cases hk
        rw [getD_set_ne false this]; exact hTu k hk
      · rcases hap.2 with h4 | h4
        · rw [h3.2.1 h4]; exact hS
        · exact h4 w'
      · rw [Array.setIfInBounds_comm _ _ hji]
        exact h3.2.2

/-- Those that wait for operation i, in the text's order. -/
def waitGo (ops : Array Oper) (i : Nat) : List Nat → List Nat → List Nat
  | [], acc => acc
  | j :: r, acc => waitGo ops i r (cond (match ops[j]? with | some o => o.after.any fun e => Region.binds .any e && (Nat.beq e.on i || acc.any (Nat.beq e.on)) | none => false) (j :: acc) acc)
def waiters (ops : Array Oper) (i : Nat) : List Nat := waitGo ops i (List.range ops.size) []
def memN (l : List Nat) (j : Nat) : Bool := l.any (Nat.beq j)

/-- May a reading operation be taken first? -/
def loadOK (ops : Array Oper) (listed : Array Bool) (i : Nat) : Bool :=
  match ops[i]? with
  | none => false
  | some oi =>
    let T := waiters ops i
    (List.range ops.size).all (fun j => Nat.beq j i || listed.getD j true || memN T j || (match ops[j]? with | some oj => roAt ops j && oi.apart ops oj | none => true)) &&
    T.all (fun j => !(listed.getD j false)) &&
    T.all (fun j => match ops[j]? with | some o => o.after.any fun e => Region.binds .any e && (Nat.beq e.on i || memN T e.on) | none => true)

def firstPure (ops : Array Oper) (listed : Array Bool) : List Nat → Option Nat
  | [] => none
  | i :: r => cond ((match ops[i]? with | some o => kindPure o.op | none => false) && Region.free .any ops listed i) (some i) (firstPure ops listed r)
def firstLoad (ops : Array Oper) (listed : Array Bool) : List Nat → Option Nat
  | [] => none
  | i :: r => cond ((match ops[i]? with | some o => kindLoad o.op | none => false) && loadOK ops listed i) (some i) (firstLoad ops listed r)

/-- The order in which a region that draws its order is gone through. -/
def sched (ops : Array Oper) : Nat → Array Bool → Option (List (Nat × Fl))
  | 0, listed => (match Region.ready .any ops listed with | [] => some [] | _ => none)
  | n + 1, listed =>
    match Region.ready .any ops listed with
    | [] => some []
    | i0 :: rs => match firstPure ops listed (i0 :: rs) with
      | some i => (match sched ops n (listed.setIfInBounds i true) with | some l => some ((i, .pure) :: l) | none => none)
      | none => match firstLoad ops listed (i0 :: rs) with
        | some i => (match sched ops n (listed.setIfInBounds i true) with | some l => some ((i, .load) :: l) | none => none)
        | none => (match rs with
          | [] => (match sched ops n (listed.setIfInBounds i0 true) with | some l => cond (roAt ops i0) none (some ((i0, .loud) :: l)) | none => none)
          | _ => none)

theorem firstPure_spec {ops : Array Oper} {listed : Array Bool} : ∀ {l : List Nat} {i : Nat}, firstPure ops listed l = some i →
    i ∈ l ∧ (match ops[i]? with | some o => kindPure o.op | none => false) = true ∧ Region.free .any ops listed i = true
  | [], _, h => by simp [firstPure] at h
  | j :: r, i, h => by
    simp only [firstPure] at h
    cases hc : ((match ops[j]? with | some o => kindPure o.op | none => false) && Region.free .any ops listed j)
    · rw [hc] at h
      simp only [cond_false] at h
      have := firstPure_spec h
      exact ⟨List.mem_cons_of_mem _ this.1, this.2⟩
    · rw [hc] at h
      simp only [cond_true] at h
      simp at h; subst h
      simp only [Bool.and_eq_true] at hc
      exact ⟨List.mem_cons_self, hc.1, hc.2⟩
theorem firstLoad_spec {ops : Array Oper} {listed : Array Bool} : ∀ {l : List Nat} {i : Nat}, firstLoad ops listed l = some i →
    i ∈ l ∧ (match ops[i]? with | some o => kindLoad o.op | none => false) = true ∧ loadOK ops listed i = true
  | [], _, h => by simp [firstLoad] at h
  | j :: r, i, h => by
    simp only [firstLoad] at h
    cases hc : ((match ops[j]? with | some o => kindLoad o.op | none => false) && loadOK ops listed j)
    · rw [hc] at h
      simp only [cond_false] at h
      have := firstLoad_spec h
      exact ⟨List.mem_cons_of_mem _ this.1, this.2⟩
    · rw [hc] at h
      simp only [cond_true] at h
      simp at h; subst h
      simp only [Bool.and_eq_true] at hc
      exact ⟨List.mem_cons_self, hc.1, hc.2⟩

theorem memN_iff {l : List Nat} {j : Nat} : memN l j = true ↔ j ∈ l := by
  simp only [memN, List.any_eq_true]
  constructor
  · rintro ⟨x, hx, he⟩; rw [Nat.eq_of_beq_eq_true he]; exact hx
  · exact fun h => ⟨j, h, Nat.beq_refl j⟩

theorem take_pure {P : Program} {ops : Array Oper} {K : Act → World → Prop} {i : Nat} {oi : Oper} {v : Value} (hi : ops[i]? = some oi) (hs : Region.noSelect ops = true) {fuel : Nat} {listed : Array Bool} {a : Act} {w : World}
    (hr : i ∈ Region.ready .any ops listed) (hf : Region.free .any ops listed i = true) (hk : roAt ops i = true) (hy : Yields P ops oi v a)
    (h : wpAnyR P ops (Only K) fuel (listed.setIfInBounds i true) (a.put oi.dst v) w) : wpAnyR P ops (Only K) (fuel + 1) listed a w := by
  have hfs := Region.free_spec hi hf
  have hun : listed.getD i true = false := (mem_ready.1 hr).1
  have hil : i < listed.size ∧ listed.getD i false = false := by
    rcases Nat.lt_or_ge i listed.size with h' | h'
    · simp [h'] at hun ⊢; exact hun
    · simp [Array.getElem?_eq_none h'] at hun
  refine takeR (S := fun _ => True) (fun j => match ops[j]? with | some oj => oj.after.any (fun e => Region.binds .any e && (e.on == i)) && !(listed.getD j false) && j != i | none => false) hi (Region.noSelect_spec hs) ?_ fuel listed a w ?_ ?_ hr hy.yieldsIf trivial hk h
  · intro j oj hT hoj
    simp only [hoj, Bool.and_eq_true] at hT
    obtain ⟨e, he, hb⟩ := Array.any_eq_true'.1 hT.1.1
    simp only [Bool.and_eq_true, beq_iff_eq] at hb
    exact ⟨e, he, hb.1, .inl hb.2⟩
  · intro j oj hoj hne hjun
    simp only [hoj]
    by_cases hd : oj.after.any (fun e => Region.binds .any e && (e.on == i)) = true
    · refine .inl ?_
      have : listed.getD j false = false := by
        rcases Nat.lt_or_ge j listed.size with h' | h'
        · simp [h'] at hjun ⊢; exact hjun
        · simp [Array.getElem?_eq_none h']
      simp [hd, this, hne]
    · refine .inr ⟨hfs j oj hoj hne hjun fun e he hb heq => hd (Array.any_eq_true'.2 ⟨e, he, by simp [hb, heq]⟩), .inr fun _ => trivial⟩
  · intro j hT
    cases ho : ops[j]? with
    | none => simp [ho] at hT
    | some oj => simp only [ho, Bool.and_eq_true] at hT; simpa using hT.1.2

theorem take_load {P : Program} {ops : Array Oper} {K : Act → World → Prop} {i : Nat} {oi : Oper} {v : Value} (hi : ops[i]? = some oi) (hs : Region.noSelect ops = true) {fuel : Nat} {listed : Array Bool} {a : Act} {w : World}
    (hr : i ∈ Region.ready .any ops listed) (hf : loadOK ops listed i = true) (hk : roAt ops i = true) (hy : YieldsIf P ops (fun w' => w' = w) oi v a)
    (h : wpAnyR P ops (Only K) fuel (listed.setIfInBounds i true) (a.put oi.dst v) w) : wpAnyR P ops (Only K) (fuel + 1) listed a w := by
  simp only [loadOK, hi, Bool.and_eq_true] at hf
  obtain ⟨⟨h1, h2⟩, h3⟩ := hf
  refine takeR (S := fun w' => w' = w) (memN (waiters ops i)) hi (Region.noSelect_spec hs) ?_ fuel listed a w ?_ ?_ hr hy rfl hk h
  · intro j oj hT hoj
    have := List.all_eq_true.1 h3 j (memN_iff.1 hT)
    simp only [hoj] at this
    obtain ⟨e, he, hb⟩ := Array.any_eq_true'.1 this
    simp only [Bool.and_eq_true, Bool.or_eq_true] at hb
    exact ⟨e, he, hb.1, hb.2.imp Nat.eq_of_beq_eq_true id⟩
  · intro j oj hoj hne hjun
    have := List.all_eq_true.1 h1 j (List.mem_range.2 (Array.getElem?_eq_some_iff.1 hoj).1)
    have hb : Nat.beq j i = false := by
      cases hc : Nat.beq j i
      · rfl
      · exact absurd (Nat.eq_of_beq_eq_true hc) hne
    simp only [hoj, hb, hjun, Bool.false_or, Bool.or_eq_true, Bool.and_eq_true] at this
    rcases this with h4 | h4
    · exact .inl h4
    · exact .inr ⟨h4.2, .inl h4.1⟩
  · intro j hT
    have := List.all_eq_true.1 h2 j (memN_iff.1 hT)
    simpa using this

theorem sched_sound {P : Program} {ops : Array Oper} {K : Act → World → Prop} (hs : Region.noSelect ops = true) :
    ∀ (n : Nat) (listed : Array Bool) (l : List (Nat × Fl)) (a : Act) (w : World), sched ops n listed = some l → SeqWp P ops (Only K) l a w →
      wpAnyR P ops (Only K) n listed a w := by
  intro n
  induction n with
  | zero =>
    intro listed l a w h hw
    simp only [sched] at h
    split at h
    · rename_i hr; simp at h; subst h; exact ⟨hr, hw⟩
    · cases h
  | succ n ih =>
    intro listed l a w h hw
    simp only [sched] at h
    split at h
    · rename_i hr; simp at h; subst h; exact ⟨fun _ => hw, by rw [hr]; simp⟩
    · rename_i i0 rs hr
      split at h
      · rename_i i hf
        split at h
        · rename_i l' hl
          simp at h; subst h
          obtain ⟨o, v, ho, hy, hw'⟩ := hw
          have hsp := firstPure_spec hf
          have hk : roAt ops i = true := by have := hsp.2.1; simp only [ho] at this; simp [roAt, ho, this]
          exact take_pure ho hs (by rw [hr]; exact hsp.1) hsp.2.2 hk hy (ih _ _ _ _ hl hw')
        · cases h
      · split at h
        · rename_i i hf
          split at h
          · rename_i l' hl
            simp at h; subst h
            obtain ⟨o, v, ho, hy, hw'⟩ := hw
            have hsp := firstLoad_spec hf
            have hk : roAt ops i = true := by have := hsp.2.1; simp only [ho] at this; simp [roAt, ho, this]
            exact take_load ho hs (by rw [hr]; exact hsp.1) hsp.2.2 hk hy (ih _ _ _ _ hl hw')
          · cases h
        · split at h
          · split at h
            · rename_i l' hl
              cases hro : roAt ops i0 <;> simp only [hro, cond_true, cond_false] at h
              · simp at h; subst h
                refine ⟨fun h0 => (by rw [hr] at h0; cases h0), fun i hi => ?_⟩
                rw [hr] at hi
                simp at hi; subst hi
                exact wpOp_mono (fun a w h => ⟨(fun e => by rw [hro] at e; cases e), ih _ _ a w hl h⟩) hw
              · cases h
            · cases h
          · cases h

theorem sched_wp {P : Program} {ops : Array Oper} {K : Act → World → Prop} {id : Nat} {a : Act} {w : World} {l : List (Nat × Fl)}
    (hm : P.follows .mixedOrders = true) (hs : Region.noSelect ops = true) (h : sched ops ops.size (Array.replicate ops.size false) = some l)
    (hw : SeqWp P ops (Only K) l a { w with drawn := w.drawn + 1 }) : (Code.region id ops true).wp P (Only K) a w :=
  wp_region_any hm (wpAny_of_R _ _ _ _ (sched_sound hs _ _ _ _ _ h hw))

/-! ### 8b. Regions whose calls keep what the loads read -/
/-- Whatever order is picked, with something that every operation keeps. -/
def wpAnyC (P : Program) (ops : Array Oper) (S : World → Prop) (Q : Exit → Act → World → Prop) : Nat → Array Bool → Act → World → Prop
  | 0, listed, a, w => Region.ready .any ops listed = [] ∧ Q .normal a w
  | fuel + 1, listed, a, w =>
    (Region.ready .any ops listed = [] → Q .normal a w) ∧
    ∀ i ∈ Region.ready .any ops listed, wpOp P ops Q i (fun a' w' => S w' ∧ wpAnyC P ops S Q fuel (listed.setIfInBounds i true) a' w') a w

theorem wpAny_of_C {P : Program} {ops : Array Oper} {S : World → Prop} {Q : Exit → Act → World → Prop} : ∀ (fuel : Nat) (listed : Array Bool) (a : Act) (w : World), wpAnyC P ops S Q fuel listed a w → wpAny P .any ops Q fuel listed a w
  | 0, _, _, _, h => h
  | fuel + 1, _, _, _, h => ⟨h.1, fun i hi => wpOp_mono (fun a' w' h' => wpAny_of_C fuel _ a' w' h'.2) (h.2 i hi)⟩

theorem takeC {P : Program} {ops : Array Oper} {K : Act → World → Prop} {S : World → Prop} {i : Nat} {oi : Oper} {v : Value} (T : Nat → Bool) (hi : ops[i]? = some oi)
    (hsel : ∀ (j : Nat) (o : Oper) cs b, ops[j]? = some o → o.op ≠ .select cs b)
    (hTc : ∀ j oj, T j = true → ops[j]? = some oj → ∃ e ∈ oj.after, Region.binds .any e = true ∧ (e.on = i ∨ T e.on = true)) :
    ∀ (fuel : Nat) (listed : Array Bool) (a : Act) (w : World),
      (∀ j oj, ops[j]? = some oj → j ≠ i → listed.getD j true = false → T j = true ∨ oi.apart ops oj = true) →
      (∀ j, T j = true → listed.getD j false = false) →
      i ∈ Region.ready .any ops listed → YieldsIf P ops S oi v a → S w →
      wpAnyC P ops S (Only K) fuel (listed.setIfInBounds i true) (a.put oi.dst v) w → wpAnyC P ops S (Only K) (fuel + 1) listed a w := by
  intro fuel
  induction fuel with
  | zero =>
    intro listed a w _ _ hr hy hS H
    refine ⟨fun h => (by rw [h] at hr; cases hr), fun j hj => ?_⟩
    by_cases hji : j = i
    · subst hji; exact hy.wpOp hi hS ⟨hS, H⟩
    · have := ready_mono hj hji
      rw [H.1] at this
      cases this
  | succ fuel ih =>
    intro listed a w hfree hTu hr hy hS H
    refine ⟨fun h => (by rw [h] at hr; cases hr), fun j hj => ?_⟩
    by_cases hji : j = i
    · subst hji; exact hy.wpOp hi hS ⟨hS, H⟩
    · have h1 := H.2 j (ready_mono hj hji)
      obtain ⟨hjun, oj, hoj, hall⟩ := mem_ready.1 hj
      have hTj : T j = false := by
        cases hT : T j
        · rfl
        · obtain ⟨e, he, hb, hon⟩ := hTc j oj hT hoj
          have hl := hall e he hb
          rcases hon with hon | hon
          · rw [hon] at hl
            have h0 := (mem_ready.1 hr).1
            rcases Nat.lt_or_ge i listed.size with h' | h'
            · simp [h'] at h0 hl; rw [h0] at hl; cases hl
            · simp [Array.getElem?_eq_none h'] at hl
          · rw [hTu _ hon] at hl; cases hl
      have hap := (hfree j oj hoj hji hjun).resolve_left (by rw [hTj]; decide)
      have h2 := wpOp_putIf hoj hap (fun cs b => hsel i oi cs b hi) (fun cs b => hsel j oj cs b hoj) (fun _ _ _ h => h) hy h1
      refine wpOp_mono (fun a' w' h3 => ⟨h3.2.1, ih (listed.setIfInBounds j true) a' w' ?_ ?_ (ready_mono hr (Ne.symm hji)) h3.1 h3.2.1 ?_⟩) h2
      · intro k ok hk hki hun
        refine hfree k ok hk hki ?_
        by_cases hjk : j = k
        · subst hjk; exact hjun
        · rw [getD_set_ne true hjk] at hun; exact hun
      · intro k hk
        have : j ≠ k := fun e => by rw [← e, hTj] at hk; cases hk
        rw [getD_set_ne false this]; exact hTu k hk
      · rw [Array.setIfInBounds_comm _ _ hji]
        exact h3.2.2

def loadOKC (ops : Array Oper) (listed : Array Bool) (i : Nat) : Bool :=
  match ops[i]? with
  | none => false
  | some oi =>
    let T := waiters ops i
    (List.range ops.size).all (fun j => Nat.beq j i || listed.getD j true || memN T j || (match ops[j]? with | some oj => oi.apart ops oj | none => true)) &&
    T.all (fun j => !(listed.getD j false)) &&
    T.all (fun j => match ops[j]? with | some o => o.after.any fun e => Region.binds .any e && (Nat.beq e.on i || memN T e.on) | none => true)
def firstLoadC (ops : Array Oper) (listed : Array Bool) : List Nat → Option Nat
  | [] => none
  | i :: r => cond ((match ops[i]? with | some o => kindPure o.op || kindLoad o.op | none => false) && loadOKC ops listed i) (some i) (firstLoadC ops listed r)

/-- The order in which such a region is gone through. -/
def schedC (ops : Array Oper) : Nat → Array Bool → Option (List (Nat × Fl))
  | 0, listed => (match Region.ready .any ops listed with | [] => some [] | _ => none)
  | n + 1, listed =>
    match Region.ready .any ops listed with
    | [] => some []
    | i0 :: rs => match firstLoadC ops listed (i0 :: rs) with
      | some i => (match schedC ops n (listed.setIfInBounds i true) with | some l => some ((i, .load) :: l) | none => none)
      | none => (match rs with
          | [] => (match schedC ops n (listed.setIfInBounds i0 true) with | some l => some ((i0, .loud) :: l) | none => none)
          | _ => none)

def SeqC (P : Program) (ops : Array Oper) (S : World → Prop) (Q : Exit → Act → World → Prop) : List (Nat × Fl) → Act → World → Prop
  | [], a, w => Q .normal a w
  | (i, .pure) :: r, a, w => ∃ o v, ops[i]? = some o ∧ YieldsIf P ops S o v a ∧ SeqC P ops S Q r (a.put o.dst v) w
  | (i, .load) :: r, a, w => ∃ o v, ops[i]? = some o ∧ YieldsIf P ops S o v a ∧ SeqC P ops S Q r (a.put o.dst v) w
  | (i, .loud) :: r, a, w => wpOp P ops Q i (fun a' w' => S w' ∧ SeqC P ops S Q r a' w') a w

theorem firstLoadC_spec {ops : Array Oper} {listed : Array Bool} : ∀ {l : List Nat} {i : Nat}, firstLoadC ops listed l = some i →
    i ∈ l ∧ loadOKC ops listed i = true
  | [], _, h => by simp [firstLoadC] at h
  | j :: r, i, h => by
    simp only [firstLoadC] at h
    cases hc : ((match ops[j]? with | some o => kindPure o.op || kindLoad o.op | none => false) && loadOKC ops listed j)
    · rw [hc] at h
      simp only [cond_false] at h
      have := firstLoadC_spec h
      exact ⟨List.mem_cons_of_mem _ this.1, this.2⟩
    · rw [hc] at h
      simp only [cond_true] at h
      simp at h; subst h
      simp only [Bool.and_eq_true] at hc
      exact ⟨List.mem_cons_self, hc.2⟩

theorem take_loadC {P : Program} {ops : Array Oper} {K : Act → World → Prop} {S : World → Prop} {i : Nat} {oi : Oper} {v : Value} (hi : ops[i]? = some oi) (hs : Region.noSelect ops = true) {fuel : Nat} {listed : Array Bool} {a : Act} {w : World}
    (hr : i ∈ Region.ready .any ops listed) (hf : loadOKC ops listed i = true) (hy : YieldsIf P ops S oi v a) (hS : S w)
    (h : wpAnyC P ops S (Only K) fuel (listed.setIfInBounds i true) (a.put oi.dst v) w) : wpAnyC P ops S (Only K) (fuel + 1) listed a w := by
  simp only [loadOKC, hi, Bool.and_eq_true] at hf
  obtain ⟨⟨h1, h2⟩, h3⟩ := hf
  refine takeC (memN (waiters ops i)) hi (Region.noSelect_spec hs) ?_ fuel listed a w ?_ ?_ hr hy hS h
  · intro j oj hT hoj
    have := List.all_eq_true.1 h3 j (memN_iff.1 hT)
    simp only [hoj] at this
    obtain ⟨e, he, hb⟩ := Array.any_eq_true'.1 this
    simp only [Bool.and_eq_true, Bool.or_eq_true] at hb
    exact ⟨e, he, hb.1, hb.2.imp Nat.eq_of_beq_eq_true id⟩
  · intro j oj hoj hne hjun
    have := List.all_eq_true.1 h1 j (List.mem_range.2 (Array.getElem?_eq_some_iff.1 hoj).1)
    have hb : Nat.beq j i = false := by
      cases hc : Nat.beq j i
      · rfl
      · exact absurd (Nat.eq_of_beq_eq_true hc) hne
    simp only [hoj, hb, hjun, Bool.false_or, Bool.or_eq_true] at this
    exact this
  · intro j hT
    have := List.all_eq_true.1 h2 j (memN_iff.1 hT)
    simpa using this

theorem schedC_sound {P : Program} {ops : Array Oper} {S : World → Prop} {K : Act → World → Prop} (hs : Region.noSelect ops = true) :
    ∀ (n : Nat) (listed : Array Bool) (l : List (Nat × Fl)) (a : Act) (w : World), schedC ops n listed = some l → S w → SeqC P ops S (Only K) l a w →
      wpAnyC P ops S (Only K) n listed a w := by
  intro n
  induction n with
  | zero =>
    intro listed l a w h _ hw
    simp only [schedC] at h
    split at h
    · rename_i hr; simp at h; subst h; exact ⟨hr, hw⟩
    · cases h
  | succ n ih =>
    intro listed l a w h hS hw
    simp only [schedC] at h
    split at h
    · rename_i hr; simp at h; subst h; exact ⟨fun _ => hw, by rw [hr]; simp⟩
    · rename_i i0 rs hr
      split at h
      · rename_i i hf
        split at h
        · rename_i l' hl
          simp at h; subst h
          obtain ⟨o, v, ho, hy, hw'⟩ := hw
          have hsp := firstLoadC_spec hf
          exact take_loadC ho hs (by rw [hr]; exact hsp.1) hsp.2 hy hS (ih _ _ _ _ hl hS hw')
        · cases h
      · split at h
        · split at h
          · rename_i l' hl
            simp at h; subst h
            refine ⟨fun h0 => (by rw [hr] at h0; cases h0), fun i hi => ?_⟩
            rw [hr] at hi
            simp at hi; subst hi
            exact wpOp_mono (fun a w h => ⟨h.1, ih _ _ a w hl h.1 h.2⟩) hw
          · cases h
        · cases h

theorem schedC_wp {P : Program} {ops : Array Oper} {S : World → Prop} {K : Act → World → Prop} {id : Nat} {a : Act} {w : World} {l : List (Nat × Fl)}
    (hm : P.follows .mixedOrders = true) (hs : Region.noSelect ops = true) (h : schedC ops ops.size (Array.replicate ops.size false) = some l)
    (hS : S { w with drawn := w.drawn + 1 }) (hw : SeqC P ops S (Only K) l a { w with drawn := w.drawn + 1 }) : (Code.region id ops true).wp P (Only K) a w :=
  wp_region_any hm (wpAny_of_C _ _ _ _ (schedC_sound hs _ _ _ _ _ h hS hw))

/-! ### 9. The run -/

abbrev CallK (β : Type) := FuncId → List SV → SW → (SV → SW → Tree β) → Tree β

def Fr.ev (f : Fr) : Operand → Option SV
  | .tmp t => f.get t
  | .const v => some (ofVal v)
  | .func g => some (.c (.fn g))
  | .global _ => none

/-- An index that is not known: one way for each place. -/
def idxK {β : Type} (P : Program) (op : Op) (fr : Fr) (s : SW) (K : SV → SW → Tree β) : Tree β :=
  match op with
  | .indexAddr t x ix => (match fr.ev x, fr.ev ix with
    | some x, some (.c (.i false k i)) => (match x, P.underlying t with
      | .c (.p _ _), some (.array len _) => chain i (fun j => (match indexAddrR P t x (.c (.i true k (Int.ofNat j))) with | some r => needsT r.nd (K r.v s) | none => .fail)) len 0
      | .c (.slc _ _ len _), some (.slice _) => chain i (fun j => (match indexAddrR P t x (.c (.i true k (Int.ofNat j))) with | some r => needsT r.nd (K r.v s) | none => .fail)) len 0
      | _, _ => .fail)
    | _, _ => .fail)
  | .index t x ix => (match fr.ev x, fr.ev ix with
    | some x, some (.c (.i false k i)) => (match x, P.underlying t with
      | .a _, some (.array len _) => chain i (fun j => (match indexR P t x (.c (.i true k (Int.ofNat j))) with | some r => needsT r.nd (K r.v s) | none => .fail)) len 0
      | _, _ => .fail)
    | _, _ => .fail)
  | _ => .fail

def operK {β : Type} (P : Program) (call : CallK β) (fl : Fl) (o : Oper) (fr : Fr) (s : SW) (K : SV → SW → Tree β) : Tree β :=
  match pureOp P fr.ev o.op with
  | some r => needsT r.nd (K r.v s)
  | none => match fl with
    | .pure => .fail
    | .load => (match o.op with
      | .load t x => (match fr.ev x with | some v => (match loadS P s t v with | some (u, _) => K u s | none => .fail) | none => .fail)
      | _ => .fail)
    | .loud => (match heapOp P fr.ev s o.op with
      | some (v, s') => K v s'
      | none => match o.op with
        | .call { callee := .value f, args, .. } => (match fr.ev f, evs fr.ev args.toList with
            | some (.c (.fn g)), some vs => call g vs s K
            | some (.c (.clo g caps)), some vs => call g (vs ++ caps.map fun p => .c (.p p.1 p.2)) s K
            | _, _ => .fail)
        | op => idxK P op fr s K)

def guardK {β : Type} (ops : Array Oper) (o : Oper) (fr : Fr) (K : Bool → Fr → Tree β) : Tree β :=
  match o.guard with
  | none => K true fr
  | some (j, want) => match (ops[j]?).bind (·.dst) with
    | none => .fail
    | some d => match fr.get d with
      | some (.c (.b lit v)) => cond lit (K (v == want) fr)
          (.node v (fr.putK (some d) (.c (.b true true)) .fail fun fr' => K want fr') (fr.putK (some d) (.c (.b true false)) .fail fun fr' => K (!want) fr'))
      | _ => .fail

def opsK {β : Type} (P : Program) (call : CallK β) (ops : Array Oper) : List (Nat × Fl) → Fr → SW → (Fr → SW → Tree β) → Tree β
  | [], fr, s, K => K fr s
  | (i, p) :: r, fr, s, K => match ops[i]? with
    | none => .fail
    | some o => guardK ops o fr fun wanted fr =>
        cond wanted (operK P call p o fr s fun v s' => fr.putK o.dst v .fail fun fr' => opsK P call ops r fr' s' K)
          (fr.putK o.dst undefS .fail fun fr' => opsK P call ops r fr' s K)

abbrev CallC (β : Type) := FuncId → List SV → (SV → Tree β) → Tree β
def operC {β : Type} (P : Program) (call : CallC β) (fl : Fl) (o : Oper) (fr : Fr) (s : SW) (K : SV → Tree β) : Tree β :=
  match pureOp P fr.ev o.op with
  | some r => needsT r.nd (K r.v)
  | none => match fl with
    | .pure => .fail
    | .load => (match o.op with
      | .load t x => (match fr.ev x with | some v => (match loadS P s t v with | some (u, _) => K u | none => .fail) | none => .fail)
      | _ => .fail)
    | .loud => (match o.op with
        | .call { callee := .value f, args, .. } => (match fr.ev f, evs fr.ev args.toList with
            | some (.c (.fn g)), some vs => cond (vs.all (SV.ok 0)) (call g vs K) .fail
            | _, _ => .fail)
        | _ => .fail)
def opsC {β : Type} (P : Program) (call : CallC β) (ops : Array Oper) : List (Nat × Fl) → Fr → SW → (Fr → Tree β) → Tree β
  | [], fr, _, K => K fr
  | (i, p) :: r, fr, s, K => match ops[i]? with
    | none => .fail
    | some o => guardK ops o fr fun wanted fr =>
        cond wanted (operC P call p o fr s fun v => fr.putK o.dst v .fail fun fr' => opsC P call ops r fr' s K)
          (fr.putK o.dst undefS .fail fun fr' => opsC P call ops r fr' s K)

/-- A test that is not known: its slot is known behind it. -/
def forkK {β : Type} (fr : Fr) (c : Operand) (v : Bool) (Kt Kf : Fr → Tree β) : Tree β :=
  match c with
  | .tmp d => .node v (fr.putK (some d) (.c (.b true true)) .fail Kt) (fr.putK (some d) (.c (.b true false)) .fail Kf)
  | _ => .node v (Kt fr) (Kf fr)

structure Lf where
  todo : List Item
  ended : Bool
  fr : Fr
  s : SW

def resS (P : Program) (fr : Fr) (s : SW) : ResultVar → Option SV
  | .tmp t => fr.get t
  | .cell a t => (match fr.get a with | some v => (match loadS P s t v with | some (u, _) => some u | none => none) | none => none)

def resL (P : Program) (fr : Fr) (s : SW) : List ResultVar → Option (List SV)
  | [] => some []
  | r :: rs => match resS P fr s r with
    | none => none
    | some v => (match resL P fr s rs with | some vs => some (v :: vs) | none => none)

def s1L : List SV → Option (List S1)
  | [] => some []
  | v :: vs => match v.s1 with
    | none => none
    | some x => (match s1L vs with | some xs => some (x :: xs) | none => none)

def results1 (P : Program) (fn : Func) (fr : Fr) (s : SW) : Option SV :=
  match resL P fr s fn.results.toList with
  | none => none
  | some [v] => some v
  | some vs => (match s1L vs with | some xs => some (.t xs) | none => none)

def mkFrGo : Tr → Nat → List SV → Tr
  | t, _, [] => t
  | t, i, v :: vs => mkFrGo (t.set i v) (i + 1) vs
def mkFrK {β : Type} : Tr → Nat → List SV → (Tr → β) → β
  | t, _, [], K => K t
  | t, i, v :: vs, K => t.setK i v fun t' => mkFrK t' (i + 1) vs K

abbrev Orc := FuncId → List SV → SW → Option (Tree (SV × SW))
abbrev Tab := FuncId → Option Func

def run (P : Program) (orc : Orc) (tab : Tab) : Nat → Nat → List Item → Fr → SW → Tree Lf
  | 0, _, _, _, _ => .fail
  | n + 1, brk, todo, fr, s => match todo with
    | [] => .leaf ⟨[], true, fr, s⟩
    | .code .ret :: _ => .leaf ⟨[], true, fr, s⟩
    | .code .skip :: k => run P orc tab n brk k fr s
    | .code (.label _) :: k => run P orc tab n brk k fr s
    | .inBlock _ :: k => run P orc tab n brk k fr s
    | .inScope _ :: k => run P orc tab n brk k fr s
    | .code (.seq a b) :: k => run P orc tab n brk (.code a :: .code b :: k) fr s
    | .code (.scope c) :: k => run P orc tab n brk (.code c :: .inScope c :: k) fr s
    | .code (.block id c) :: k => run P orc tab n brk (.code c :: .inBlock id :: k) fr s
    | .code (.loop c) :: k => cond (Nat.blt k.length brk) (.leaf ⟨.code c :: .inLoop c :: k, false, fr, s⟩) (run P orc tab n brk (.code c :: .inLoop c :: k) fr s)
    | .inLoop c :: k => cond (Nat.blt k.length brk) (.leaf ⟨.code c :: .inLoop c :: k, false, fr, s⟩) (run P orc tab n brk (.code c :: .inLoop c :: k) fr s)
    | .code (.exit id) :: k => (match exitTo id k with | some k' => run P orc tab n brk k' fr s | none => .fail)
    | .code (.cond c x y) :: k => (match fr.ev c with
      | some (.c (.b lit v)) => cond lit (cond v (run P orc tab n brk (.code x :: k) fr s) (run P orc tab n brk (.code y :: k) fr s))
          (forkK fr c v (fun fr => run P orc tab n brk (.code x :: k) fr s) (fun fr => run P orc tab n brk (.code y :: k) fr s))
      | _ => .fail)
    | .code (.region _ ops draw) :: k =>
      let call : CallK Lf := fun g vs s K => match tab g with
        | none => .fail
        | some fn => match orc g vs s with
          | some t => t.bind fun r => K r.1 r.2
          | none => match fn.body with
            | none => .fail
            | some c => cond (Nat.ble vs.length fn.ntmps) (mkFrK (Tr.mk 12) 0 vs fun t =>
                (run P orc tab n 0 [.code c] ⟨fn.ntmps, t⟩ s).bind fun lf => cond lf.ended (match results1 P fn lf.fr lf.s with | some v => K v lf.s | none => .fail) .fail) .fail
      let callC : CallC Lf := fun g vs K => match tab g with
        | none => .fail
        | some fn => match orc g vs [] with
          | some t => t.bind fun r => cond (r.1.ok 0) (K r.1) .fail
          | none => match fn.body with
            | none => .fail
            | some c => cond (Nat.ble vs.length fn.ntmps) (mkFrK (Tr.mk 12) 0 vs fun t =>
                (run P orc tab n 0 [.code c] ⟨fn.ntmps, t⟩ []).bind fun lf => cond lf.ended (match results1 P fn lf.fr lf.s with | some v => cond (v.ok 0) (K v) .fail | none => .fail) .fail) .fail
      cond draw
        (cond (Region.noSelect ops) (match sched ops ops.size (Array.replicate ops.size false) with
          | some l => opsK P call ops l fr s fun fr' s' => run P orc tab n brk k fr' s'
          | none => match schedC ops ops.size (Array.replicate ops.size false) with
            | some l => opsC P callC ops l fr s fun fr' => run P orc tab n brk k fr' s
            | none => .fail) .fail)
        (opsK P call ops ((List.range ops.size).map fun i => (i, .loud)) fr s fun fr' s' => run P orc tab n brk k fr' s')
    | _ => .fail
end Go.Proofs.Ytjacbodjkgiohaa.Ev

namespace Go.Proofs.Ytjacbodjkgiohaa.Ev
open Go
section
variable {P : Program} {W : World} {L : Nat}

/-- What is known of the state that is reached. -/
structure St (W : World) (L : Nat) (n : Nat) (ρ0 ρ : Nat → Nat) (s : SW) (w : World) : Prop where
  agree : Agree n ρ0 ρ
  le : n ≤ s.length
  inv : Inv W L ρ s w

theorem St.trans {n : Nat} {ρ0 ρ ρ' : Nat → Nat} {s s' : SW} {w w' : World} (h : St W L n ρ0 ρ s w) (hag : Agree s.length ρ ρ') (hle : s.length ≤ s'.length)
    (hI : Inv W L ρ' s' w') : St W L n ρ0 ρ' s' w' := ⟨h.agree.trans hag h.le, Nat.le_trans h.le hle, hI⟩

theorem FrRel.ev {n : Nat} {ρ : Nat → Nat} {f : Fr} {a : Act} (h : FrRel n ρ f a) (x : Operand) (y : SV) (hx : f.ev x = some y) : a.eval x = y.den ρ ∧ y.ok n = true := by
  cases x with
  | tmp t => exact ⟨(h.get hx).1, (h.get hx).2.1⟩
  | const v => simp [Fr.ev] at hx; subst hx; exact ⟨(ofVal_den ρ v).symm, ofVal_ok n v⟩
  | func g => simp [Fr.ev] at hx; subst hx; exact ⟨rfl, rfl⟩
  | global g => simp [Fr.ev] at hx

theorem putK_sound {β : Type} {n : Nat} {ρ : Nat → Nat} {f : Fr} {a : Act} (h : FrRel n ρ f a) {dst : Option Nat} {v : SV} {K : Fr → Tree β} {post : β → Prop} (hv : v.ok n = true)
    (ht : (f.putK dst v .fail K).OK post) : ∃ f', FrRel n ρ f' (a.put dst (v.den ρ)) ∧ (K f').OK post := by
  unfold Fr.putK at ht
  cases dst with
  | none => exact ⟨f, h, ht⟩
  | some d =>
    simp only at ht
    cases hc : Nat.blt d f.nt && f.tr.has d <;> simp only [hc, cond_true, cond_false] at ht
    · exact ht.elim
    · simp only [Bool.and_eq_true] at hc
      rw [Tr.setK_eq] at ht
      exact ⟨_, h.put (Nat.le_of_ble_eq_true hc.1) hc.2 hv, ht⟩

/-- What a call must be good for. -/
def CallOK (P : Program) (W : World) (L : Nat) {β : Type} (call : CallK β) : Prop :=
  ∀ (g : FuncId) (vs : List SV) (s : SW) (K : SV → SW → Tree β) (post : β → Prop) (ρ : Nat → Nat) (w : World),
    (call g vs s K).OK post → Inv W L ρ s w → (∀ v ∈ vs, v.ok s.length = true) →
    (∀ w, (callFunc g ((vs.map (SV.den ρ)).toArray)).run P w = .ok (.enter g (vs.map (SV.den ρ)).toArray) w) ∧
    Calls P g (vs.map (SV.den ρ)).toArray w fun e w' => ∃ v s' ρ', e = .returned (v.den ρ') ∧ Agree s.length ρ ρ' ∧ s.length ≤ s'.length ∧ v.ok s'.length = true ∧
      Inv W L ρ' s' w' ∧ (K v s').OK post

variable {β : Type} {post : β → Prop}

theorem wpOp_run {ops : Array Oper} {Q : Exit → Act → World → Prop} {i : Nat} {o : Oper} {K : Act → World → Prop} {a : Act} {w : World} (hi : ops[i]? = some o)
    (hw : Region.wanted o (yielded ops a.tmps) = true) (h : o.wp P a w K Q) : wpOp P ops Q i K a w := by
  unfold wpOp; simp only [hi, hw, if_true]; exact .inl h

theorem wpOp_skip {ops : Array Oper} {Q : Exit → Act → World → Prop} {i : Nat} {o : Oper} {K : Act → World → Prop} {a : Act} {w : World} (hi : ops[i]? = some o)
    (hw : Region.wanted o (yielded ops a.tmps) = false) (h : K (a.put o.dst undef) w) : wpOp P ops Q i K a w := by
  unfold wpOp; simp only [hi, hw, Bool.false_eq_true, if_false]; exact h

/-- One operation. -/
theorem operK_sound {call : CallK β} (hcall : CallOK P W L call) {o : Oper} {fr : Fr} {s : SW} {K : SV → SW → Tree β} {ρ : Nat → Nat} {a : Act} {w : World}
    (ht : (operK P call .loud o fr s K).OK post) (hf : FrRel s.length ρ fr a) (hI : Inv W L ρ s w) {Kp : Act → World → Prop} {Q : Exit → Act → World → Prop}
    (hK : ∀ v s' ρ' w', (K v s').OK post → Agree s.length ρ ρ' → s.length ≤ s'.length → v.ok s'.length = true → Inv W L ρ' s' w' → Kp (a.put o.dst (v.den ρ')) w') :
    o.wp P a w Kp Q := by
  have hev := fun x y h => FrRel.ev hf x y h
  unfold operK at ht
  split at ht
  · rename_i r hr
    have hn := needsT_OK ht
    have hp := pureOp_sound hev hr hn.1
    unfold Oper.wp
    rw [hp.1 w]
    exact hK _ _ _ _ hn.2 (Agree.refl _ _) (Nat.le_refl _) hp.2 hI
  · simp only at ht
    split at ht
    · rename_i v s' hh
      obtain ⟨ρ', w', nx, hag, hle, hok, hrun, hI', hnx⟩ := heapOp_sound hI hev hh
      unfold Oper.wp
      rw [hrun]
      rcases hnx with rfl | ⟨rfl, rfl⟩
      · exact hK _ _ _ _ ht hag hle hok hI'
      · have := hK _ _ _ _ ht hag hle hok hI'
        rw [undefS_den] at this
        exact this
    · split at ht
      · rename_i f args argTypes ho
        split at ht
        · rename_i g vs hg hvs
          have h1 := hev _ _ hg
          have h2 := evs_sound hev _ _ hvs
          obtain ⟨hcf, hc⟩ := hcall g vs s K post ρ w ht hI h2.2
          have hargs : args.map a.eval = (vs.map (SV.den ρ)).toArray := Array.ext' (by rw [Array.toList_map, h2.1])
          unfold Oper.wp
          have hx : (execOp a.eval o).run P w = .ok (.enter g (vs.map (SV.den ρ)).toArray) w := by
            obtain ⟨dst, op, type, pos, after, guard⟩ := o
            simp only at ho
            subst ho
            have h1' : a.eval f = .func (.func g) #[] #[] := h1.1
            simp only [execOp, resolve, hargs, h1', Deferred.ofValue, Sem.run_bind, Sem.run_pure, Result.andThen_ok, invoke]
            simpa using hcf w
          rw [hx]
          refine Calls.mono hc ?_
          rintro e w' ⟨v, s', ρ', rfl, hag, hle, hok, hI', hk⟩
          exact hK _ _ _ _ hk hag hle hok hI'
        · rename_i g caps vs hg hvs
          have h1 := hev _ _ hg
          have h2 := evs_sound hev _ _ hvs
          have hok2 : ∀ v ∈ vs ++ caps.map (fun p => SV.c (.p p.1 p.2)), v.ok s.length = true := by
            intro v hv
            rcases List.mem_append.1 hv with hv | hv
            · exact h2.2 v hv
            · obtain ⟨p, hp, rfl⟩ := List.mem_map.1 hv
              exact List.all_eq_true.1 h1.2 p hp
          obtain ⟨hcf, hc⟩ := hcall g _ s K post ρ w ht hI hok2
          have hargs : args.map a.eval ++ (caps.map fun p => Value.pointer (some ⟨ρ p.1, p.2, none⟩)).toArray = ((vs ++ caps.map (fun p => SV.c (.p p.1 p.2))).map (SV.den ρ)).toArray := by
            apply Array.ext'
            simp only [Array.toList_append, Array.toList_map, h2.1, List.map_append, List.map_map]
            rfl
          unfold Oper.wp
          have hx : (execOp a.eval o).run P w = .ok (.enter g ((vs ++ caps.map (fun p => SV.c (.p p.1 p.2))).map (SV.den ρ)).toArray) w := by
            obtain ⟨dst, op, type, pos, after, guard⟩ := o
            simp only at ho
            subst ho
            have h1' : a.eval f = .func (.func g) #[] (caps.map fun p => Value.pointer (some ⟨ρ p.1, p.2, none⟩)).toArray := h1.1
            simp only [execOp, resolve, h1', Deferred.ofValue, Sem.run_bind, Sem.run_pure, Result.andThen_ok, invoke]
            rw [show (#[] ++ args.map a.eval : Array Value) = args.map a.eval by simp, hargs]
            exact hcf w
          rw [hx]
          refine Calls.mono hc ?_
          rintro e w' ⟨v, s', ρ', rfl, hag, hle, hok, hI', hk⟩
          exact hK _ _ _ _ hk hag hle hok hI'
        · exact ht.elim
      · unfold idxK at ht
        split at ht
        · rename_i t x ix ho
          split at ht
          · rename_i xv k i hx hix
            have h1 := hev _ _ hx
            have h2 := hev _ _ hix
            have fin : ∀ (len : Nat), (chain i (fun j => (match indexAddrR P t xv (.c (.i true k (Int.ofNat j))) with | some r => needsT r.nd (K r.v s) | none => .fail)) len 0).OK post → o.wp P a w Kp Q := by
              intro len ht
              obtain ⟨j, hj, hij, this⟩ := chain_OK ht
              split at this
              · rename_i r hr
                have hn := needsT_OK this
                have hp := indexAddrR_sound (ρ := ρ) hr h1.2
                have hi' : (Int.ofNat j) = i := hij.symm
                unfold Oper.wp
                have hx : (execOp a.eval o).run P w = .ok (.value (r.v.den ρ)) w := by
                  obtain ⟨dst, op, type, pos, after, guard⟩ := o
                  simp only at ho
                  subst ho
                  simp only [execOp, h1.1, h2.1, Sem.run_bind]
                  have := hp.1 w
                  rw [hi'] at this
                  simp only [SV.den, C.den] at this ⊢
                  rw [this]; rfl
                rw [hx]
                exact hK _ _ _ _ hn.2 (Agree.refl _ _) (Nat.le_refl _) hp.2 hI
              · exact this.elim
            split at ht
            · exact fin _ ht
            · exact fin _ ht
            · exact ht.elim
          · exact ht.elim
        · rename_i t x ix ho
          split at ht
          · rename_i xv k i hx hix
            have h1 := hev _ _ hx
            have h2 := hev _ _ hix
            have fin : ∀ (len : Nat), (chain i (fun j => (match indexR P t xv (.c (.i true k (Int.ofNat j))) with | some r => needsT r.nd (K r.v s) | none => .fail)) len 0).OK post → o.wp P a w Kp Q := by
              intro len ht
              obtain ⟨j, hj, hij, this⟩ := chain_OK ht
              split at this
              · rename_i r hr
                have hn := needsT_OK this
                have hp := indexR_sound (ρ := ρ) hr h1.2
                have hi' : (Int.ofNat j) = i := hij.symm
                unfold Oper.wp
                have hx : (execOp a.eval o).run P w = .ok (.value (r.v.den ρ)) w := by
                  obtain ⟨dst, op, type, pos, after, guard⟩ := o
                  simp only at ho
                  subst ho
                  simp only [execOp, h1.1, h2.1, Sem.run_bind]
                  have := hp.1 w
                  rw [hi'] at this
                  simp only [SV.den, C.den] at this ⊢
                  rw [this]; rfl
                rw [hx]
                exact hK _ _ _ _ hn.2 (Agree.refl _ _) (Nat.le_refl _) hp.2 hI
              · exact this.elim
            split at ht
            · exact fin _ ht
            · exact ht.elim
          · exact ht.elim
        · exact ht.elim

theorem same_slot {n : Nat} {ρ : Nat → Nat} {fr : Fr} {a : Act} (hf : FrRel n ρ fr a) {d : Nat} {lit v b : Bool} (hv : fr.get d = some (.c (.b lit v))) {K' : Fr → Tree β} (hb : v = b)
    (h : (fr.putK (some d) (.c (.b true b)) .fail K').OK post) : ∃ fr', FrRel n ρ fr' a ∧ (K' fr').OK post := by
  have h1 := hf.get hv
  obtain ⟨f', hf', hk⟩ := putK_sound hf (dst := some d) (v := .c (.b true b)) rfl h
  refine ⟨f', ?_, hk⟩
  have : a.put (some d) ((SV.c (.b true b)).den ρ) = a := by
    simp only [Act.put]
    have h2 : a.tmps[d]? = some ((SV.c (.b true b)).den ρ) := by rw [h1.2.2, hb]; rfl
    obtain ⟨hlt, he⟩ := Array.getElem?_eq_some_iff.1 h2
    have hset : a.tmps.setIfInBounds d ((SV.c (.b true b)).den ρ) = a.tmps := by
      apply Array.ext_getElem?
      intro j
      by_cases hj : d = j
      · subst hj
        rw [Array.getElem?_setIfInBounds_self, h2]
        simp [hlt]
      · rw [Array.getElem?_setIfInBounds_ne hj]
    rw [hset]
  rw [this] at hf'
  exact hf'

theorem forkK_sound {n : Nat} {ρ : Nat → Nat} {fr : Fr} {a : Act} (hf : FrRel n ρ fr a) {c : Operand} {lit v : Bool} (hv : fr.ev c = some (.c (.b lit v))) {Kt Kf : Fr → Tree β}
    (h : (forkK fr c v Kt Kf).OK post) : ∃ fr', FrRel n ρ fr' a ∧ (v = true → (Kt fr').OK post) ∧ (v = false → (Kf fr').OK post) := by
  unfold forkK at h
  split at h
  · rename_i d
    cases v
    · obtain ⟨f', h1, h2⟩ := same_slot hf hv rfl (h.2 rfl)
      exact ⟨f', h1, (fun e => nomatch e), fun _ => h2⟩
    · obtain ⟨f', h1, h2⟩ := same_slot hf hv rfl (h.1 rfl)
      exact ⟨f', h1, fun _ => h2, (fun e => nomatch e)⟩
  · exact ⟨fr, hf, h.1, h.2⟩

theorem guardK_sound {ops : Array Oper} {o : Oper} {fr : Fr} {K : Bool → Fr → Tree β} {n : Nat} {ρ : Nat → Nat} {a : Act} (ht : (guardK ops o fr K).OK post) (hf : FrRel n ρ fr a) :
    ∃ wanted fr', Region.wanted o (yielded ops a.tmps) = wanted ∧ FrRel n ρ fr' a ∧ (K wanted fr').OK post := by
  unfold guardK at ht
  split at ht
  · rename_i hg
    exact ⟨true, fr, by simp [Region.wanted, hg], hf, ht⟩
  · rename_i j want hg
    split at ht
    · exact ht.elim
    · rename_i d hd
      split at ht
      · rename_i lit v hv
        have h1 := hf.get hv
        have hy : yielded ops a.tmps j = some v := by
          unfold yielded
          rw [hd]
          simp only [Option.bind_some, h1.2.2]
          rfl
        have hw : Region.wanted o (yielded ops a.tmps) = (v == want) := by
          simp only [Region.wanted, hg, hy]
          cases v <;> cases want <;> rfl
        have same : ∀ (b : Bool) (K' : Fr → Tree β), v = b → (fr.putK (some d) (.c (.b true b)) .fail K').OK post → ∃ fr', FrRel n ρ fr' a ∧ (K' fr').OK post :=
          fun b K' hb h => same_slot hf hv hb h
        cases lit <;> simp only [cond_true, cond_false] at ht
        · cases v
          · obtain ⟨f', hf', hk⟩ := same false _ rfl (ht.2 rfl)
            exact ⟨!want, f', by rw [hw]; cases want <;> rfl, hf', hk⟩
          · obtain ⟨f', hf', hk⟩ := same true _ rfl (ht.1 rfl)
            exact ⟨want, f', by rw [hw]; cases want <;> rfl, hf', hk⟩
        · exact ⟨_, fr, hw, hf, ht⟩
      · exact ht.elim

theorem opsK_sound {call : CallK β} (hcall : CallOK P W L call) {ops : Array Oper} : ∀ (l : List (Nat × Fl)) {fr : Fr} {s : SW} {K : Fr → SW → Tree β} {ρ : Nat → Nat} {a : Act} {w : World},
    (opsK P call ops l fr s K).OK post → FrRel s.length ρ fr a → Inv W L ρ s w → ∀ {Kp : Act → World → Prop},
    (∀ fr' s' ρ' a' w', (K fr' s').OK post → Agree s.length ρ ρ' → s.length ≤ s'.length → FrRel s'.length ρ' fr' a' → Inv W L ρ' s' w' → Kp a' w') →
    SeqWp P ops (Only Kp) l a w
  | [], fr, s, K, ρ, a, w, ht, hf, hI, Kp, hK => hK _ _ _ _ _ ht (Agree.refl _ _) (Nat.le_refl _) hf hI
  | (i, p) :: r, fr, s, K, ρ, a, w, ht, hf, hI, Kp, hK => by
    simp only [opsK] at ht
    split at ht
    · exact ht.elim
    rename_i o ho
    obtain ⟨wanted, fr1, hw, hf1, ht⟩ := guardK_sound ht hf
    cases wanted <;> simp only [cond_true, cond_false] at ht
    · obtain ⟨fr2, hf2, ht⟩ := putK_sound hf1 (undefS_ok _) ht
      have ih := opsK_sound hcall r ht hf2 hI hK
      rw [undefS_den] at ih
      cases p
      · exact wpOp_skip ho hw ih
      · exact ⟨o, undef, ho, .inr ⟨hw, rfl⟩, ih⟩
      · exact ⟨o, undef, ho, .inr ⟨hw, rfl⟩, ih⟩
    · cases p
      · refine wpOp_run ho hw (operK_sound hcall ht hf1 hI ?_)
        intro v s' ρ' w' hk hag hle hok hI'
        obtain ⟨fr2, hf2, hk⟩ := putK_sound (hf1.agree hag hle) hok hk
        exact opsK_sound hcall r hk hf2 hI' fun fr'' s'' ρ'' a'' w'' hk hag' hle' hf'' hI'' =>
          hK _ _ _ _ _ hk (hag.trans hag' hle) (Nat.le_trans hle hle') hf'' hI''
      · unfold operK at ht
        split at ht
        · rename_i rr hr
          have hn := needsT_OK ht
          have hp := pureOp_sound (fun x y h => FrRel.ev hf1 x y h) hr hn.1
          obtain ⟨fr2, hf2, hk⟩ := putK_sound hf1 hp.2 hn.2
          exact ⟨o, rr.v.den ρ, ho, .inl ⟨hw, hp.1⟩, opsK_sound hcall r hk hf2 hI hK⟩
        · exact ht.elim
      · unfold operK at ht
        split at ht
        · rename_i rr hr
          have hn := needsT_OK ht
          have hp := pureOp_sound (fun x y h => FrRel.ev hf1 x y h) hr hn.1
          obtain ⟨fr2, hf2, hk⟩ := putK_sound hf1 hp.2 hn.2
          exact ⟨o, rr.v.den ρ, ho, .inl ⟨hw, fun w' _ => hp.1 w'⟩, opsK_sound hcall r hk hf2 hI hK⟩
        · simp only at ht
          split at ht
          · rename_i t x hop
            split at ht
            · rename_i v hx
              split at ht
              · rename_i u s' hl
                obtain ⟨_, hok, hrun⟩ := loadS_sound (P := P) hI hl
                have h1 := FrRel.ev hf1 _ _ hx
                obtain ⟨fr2, hf2, hk⟩ := putK_sound hf1 hok ht
                refine ⟨o, u.den ρ, ho, .inl ⟨hw, fun w' hw' => ?_⟩, opsK_sound hcall r hk hf2 hI hK⟩
                subst hw'
                obtain ⟨dst, op, type, pos, after, guard⟩ := o
                simp only at hop
                subst hop
                simp only [execOp, Sem.run_bind, h1.1, hrun, Result.andThen_ok, Sem.run_pure]
              · exact ht.elim
            · exact ht.elim
          · exact ht.elim

/-- What a call that keeps the state must be good for. -/
def CallCOK (P : Program) (W : World) (L : Nat) {β : Type} (call : CallC β) : Prop :=
  ∀ (g : FuncId) (vs : List SV) (s : SW) (K : SV → Tree β) (post : β → Prop) (ρ : Nat → Nat) (w : World),
    (call g vs K).OK post → Inv W L ρ s w → (∀ v ∈ vs, v.ok 0 = true) →
    (∀ w, (callFunc g ((vs.map (SV.den ρ)).toArray)).run P w = .ok (.enter g (vs.map (SV.den ρ)).toArray) w) ∧
    Calls P g (vs.map (SV.den ρ)).toArray w fun e w' => ∃ v, e = .returned (v.den ρ) ∧ v.ok 0 = true ∧ Inv W L ρ s w' ∧ (K v).OK post

theorem opsC_sound {call : CallC β} (hcall : CallCOK P W L call) {ops : Array Oper} {s : SW} {ρ : Nat → Nat} : ∀ (l : List (Nat × Fl)) {fr : Fr} {K : Fr → Tree β} {a : Act} {w : World},
    (opsC P call ops l fr s K).OK post → FrRel s.length ρ fr a → Inv W L ρ s w → ∀ {Kp : Act → World → Prop},
    (∀ fr' a' w', (K fr').OK post → FrRel s.length ρ fr' a' → Inv W L ρ s w' → Kp a' w') →
    SeqC P ops (Inv W L ρ s) (Only Kp) l a w
  | [], fr, K, a, w, ht, hf, hI, Kp, hK => hK _ _ _ ht hf hI
  | (i, p) :: r, fr, K, a, w, ht, hf, hI, Kp, hK => by
    simp only [opsC] at ht
    split at ht
    · exact ht.elim
    rename_i o ho
    obtain ⟨wanted, fr1, hw, hf1, ht⟩ := guardK_sound ht hf
    cases wanted <;> simp only [cond_true, cond_false] at ht
    · obtain ⟨fr2, hf2, ht⟩ := putK_sound hf1 (undefS_ok _) ht
      have ih := opsC_sound hcall r ht hf2 hI hK
      rw [undefS_den] at ih
      cases p
      · exact wpOp_skip ho hw ⟨hI, ih⟩
      · exact ⟨o, undef, ho, .inr ⟨hw, rfl⟩, ih⟩
      · exact ⟨o, undef, ho, .inr ⟨hw, rfl⟩, ih⟩
    · have hev := fun x y h => FrRel.ev hf1 x y h
      unfold operC at ht
      split at ht
      · rename_i rr hr
        have hn := needsT_OK ht
        have hp := pureOp_sound hev hr hn.1
        obtain ⟨fr2, hf2, hk⟩ := putK_sound hf1 hp.2 hn.2
        have ih := fun w' hI' => opsC_sound hcall r hk hf2 hI' (w := w') hK
        cases p
        · refine wpOp_run ho hw ?_
          unfold Oper.wp
          rw [hp.1 w]
          exact ⟨hI, ih w hI⟩
        · exact ⟨o, rr.v.den ρ, ho, .inl ⟨hw, fun w' _ => hp.1 w'⟩, ih w hI⟩
        · exact ⟨o, rr.v.den ρ, ho, .inl ⟨hw, fun w' _ => hp.1 w'⟩, ih w hI⟩
      · cases p <;> simp only at ht
        · split at ht
          · rename_i f args argTypes hop
            split at ht
            · rename_i g vs hg hvs
              cases hall : vs.all (SV.ok 0) <;> simp only [hall, cond_true, cond_false] at ht
              · exact ht.elim
              have h1 := hev _ _ hg
              have h2 := evs_sound hev _ _ hvs
              obtain ⟨hcf, hc⟩ := hcall g vs s _ post ρ w ht hI (List.all_eq_true.1 hall)
              have hargs : args.map a.eval = (vs.map (SV.den ρ)).toArray := Array.ext' (by rw [Array.toList_map, h2.1])
              refine wpOp_run ho hw ?_
              unfold Oper.wp
              have hx : (execOp a.eval o).run P w = .ok (.enter g (vs.map (SV.den ρ)).toArray) w := by
                obtain ⟨dst, op, type, pos, after, guard⟩ := o
                simp only at hop
                subst hop
                have h1' : a.eval f = .func (.func g) #[] #[] := h1.1
                simp only [execOp, resolve, hargs, h1', Deferred.ofValue, Sem.run_bind, Sem.run_pure, Result.andThen_ok, invoke]
                simpa using hcf w
              rw [hx]
              refine Calls.mono hc ?_
              rintro e w' ⟨v, rfl, hok, hI', hk⟩
              obtain ⟨fr2, hf2, hk⟩ := putK_sound hf1 (SV.ok_mono (Nat.zero_le _) hok) hk
              exact ⟨hI', opsC_sound hcall r hk hf2 hI' hK⟩
            · exact ht.elim
          · exact ht.elim
        · exact ht.elim
        · split at ht
          · rename_i t x hop
            split at ht
            · rename_i v hx
              split at ht
              · rename_i u s' hl
                obtain ⟨_, hok, _⟩ := loadS_sound (P := P) hI hl
                have h1 := FrRel.ev hf1 _ _ hx
                obtain ⟨fr2, hf2, hk⟩ := putK_sound hf1 hok ht
                refine ⟨o, u.den ρ, ho, .inl ⟨hw, fun w' hI' => ?_⟩, opsC_sound hcall r hk hf2 hI hK⟩
                obtain ⟨_, _, hrun⟩ := loadS_sound (P := P) hI' hl
                obtain ⟨dst, op, type, pos, after, guard⟩ := o
                simp only at hop
                subst hop
                simp only [execOp, Sem.run_bind, h1.1, hrun, Result.andThen_ok, Sem.run_pure]
              · exact ht.elim
            · exact ht.elim
          · exact ht.elim
end
end Go.Proofs.Ytjacbodjkgiohaa.Ev

namespace Go.Proofs.Ytjacbodjkgiohaa.Ev
open Go
section
variable {P : Program}

/-- What a tree says of a call. -/
def CallTree (P : Program) (g : FuncId) (vs : List SV) (s : SW) (t : Tree (SV × SW)) : Prop :=
  ∀ (W : World) (L : Nat) (ρ : Nat → Nat) (w : World) (post : SV × SW → Prop), Inv W L ρ s w → (∀ v ∈ vs, v.ok s.length = true) → t.OK post →
    Calls P g (vs.map (SV.den ρ)).toArray w fun e w' => ∃ v s' ρ', e = .returned (v.den ρ') ∧ Agree s.length ρ ρ' ∧ s.length ≤ s'.length ∧ v.ok s'.length = true ∧
      Inv W L ρ' s' w' ∧ post (v, s')

def OrcOK (P : Program) (orc : Orc) : Prop := ∀ g vs s t, orc g vs s = some t → CallTree P g vs s t
def TabOK (P : Program) (tab : Tab) : Prop := ∀ g fn, tab g = some fn → P.funcs[g]? = some fn ∧ (fn.name == "runtime.NumGoroutine") = false ∧ fn.body.isSome = true

theorem mkFrK_eq {β : Type} : ∀ (vs : List SV) (t : Tr) (i : Nat) (K : Tr → β), mkFrK t i vs K = K (mkFrGo t i vs)
  | [], _, _, _ => rfl
  | v :: vs, t, i, K => by simp only [mkFrK, mkFrGo, Tr.setK_eq]; exact mkFrK_eq vs _ _ K

theorem mkFrGo_get : ∀ (vs : List SV) (t : Tr) (i : Nat), (∀ j, i ≤ j → j < i + vs.length → t.has j = true) →
    ∀ j, (mkFrGo t i vs).get j = if i ≤ j ∧ j < i + vs.length then vs.getD (j - i) undefS else t.get j
  | [], t, i, _, j => by simp [mkFrGo]; intro h1 h2; omega
  | v :: vs, t, i, hh, j => by
    simp only [mkFrGo]
    rw [mkFrGo_get vs (t.set i v) (i + 1) (fun j h1 h2 => by rw [Tr.has_set]; exact hh j (by omega) (by simp; omega)) j]
    rw [Tr.get_set _ _ _ _ (hh i (Nat.le_refl _) (by simp))]
    by_cases h1 : j = i
    · subst h1; simp; intro h2; omega
    · by_cases h2 : i ≤ j ∧ j < i + (v :: vs).length
      · simp only [List.length_cons] at h2
        have h3 : i + 1 ≤ j ∧ j < i + 1 + vs.length := by omega
        rw [if_pos h3, if_pos (by simp; omega)]
        obtain ⟨m, hm⟩ : ∃ m, j - i = m + 1 := ⟨j - i - 1, by omega⟩
        have hm' : j - (i + 1) = m := by omega
        rw [hm, hm']; rfl
      · simp only [List.length_cons] at h2
        rw [if_neg (by omega), if_neg h1, if_neg (by simp; omega)]

theorem Tr.has_mk (d : Nat) : ∀ k, k + 1 < 2 ^ d → (Tr.mk d).has k = true := by
  induction d with
  | zero => intro k h; simp at h
  | succ d ih =>
    intro k h
    simp only [Tr.mk, Tr.has]
    by_cases hk : k = 0
    · subst hk; rfl
    · have hk0 : Nat.beq k 0 = false := by cases k <;> simp_all [Nat.beq]
      have hp : 2 ^ (d + 1) = 2 * 2 ^ d := by rw [Nat.pow_succ]; omega
      by_cases h1 : k % 2 = 1
      · have hp1 : Nat.beq (k % 2) 1 = true := by rw [h1]; rfl
        simp only [hk0, hp1, cond_false, cond_true]
        exact ih _ (by omega)
      · have hp1 : Nat.beq (k % 2) 1 = false := by
          have : k % 2 = 0 := by omega
          rw [this]; rfl
        simp only [hk0, hp1, cond_false]
        exact ih _ (by omega)

theorem mkFr_rel {n : Nat} {ρ : Nat → Nat} {vs : List SV} {nt : Nat} (hle : vs.length ≤ nt) (hnt : nt < 4095) (hok : ∀ v ∈ vs, v.ok n = true) :
    FrRel n ρ ⟨nt, mkFrGo (Tr.mk 12) 0 vs⟩ { tmps := (vs.map (SV.den ρ)).toArray ++ Array.replicate (nt - (vs.map (SV.den ρ)).toArray.size) undef, defers := [] } := by
  have hget := mkFrGo_get vs (Tr.mk 12) 0 (fun j _ h2 => Tr.has_mk 12 j (by simp at h2 ⊢; omega))
  refine ⟨by simp; omega, fun t ht _ => ?_, fun t ht => ?_, rfl⟩
  · simp only
    rw [hget t]
    by_cases h : t < vs.length
    · rw [if_pos (by omega)]
      rw [Array.getElem?_append_left (by simpa using h)]
      simp [h]
    · rw [if_neg (by omega), Tr.get_mk, undefS_den]
      simp only at ht
      rw [Array.getElem?_append_right (by simpa using h)]
      simp only [List.size_toArray, List.length_map]
      rw [Array.getElem?_replicate, if_pos (by omega)]
  · simp only
    rw [hget t]
    by_cases h : t < vs.length
    · rw [if_pos (by omega)]
      simp [h]
      exact hok _ (List.getElem_mem _)
    · rw [if_neg (by omega), Tr.get_mk]; rfl

def resSem (tmps : Array Value) : ResultVar → Sem Value
  | .tmp t => pure (tmps.getD t undef)
  | .cell b t => do loadVar t (← asAddr (tmps.getD b undef))
theorem results_eq (fn : Func) (tmps : Array Value) : results fn tmps = (do
  let vs ← fn.results.mapM (resSem tmps)
  pure (if h : vs.size = 1 then vs[0] else .tuple vs)) := rfl

theorem resL_sound {W : World} {L : Nat} {ρ : Nat → Nat} {s : SW} {w : World} {fr : Fr} {a : Act} (hI : Inv W L ρ s w) (hf : FrRel s.length ρ fr a) :
    ∀ (rs : List ResultVar) (vs : List SV), resL P fr s rs = some vs →
      (rs.mapM (resSem a.tmps)).run P w = .ok (vs.map (SV.den ρ)) w ∧
      ∀ v ∈ vs, v.ok s.length = true
  | [], vs, h => by simp [resL] at h; subst h; simp
  | r :: rs, vs, h => by
    simp only [resL] at h
    split at h
    · cases h
    rename_i v hv
    split at h
    · rename_i vs' hvs
      simp at h; subst h
      obtain ⟨ih1, ih2⟩ := resL_sound hI hf rs vs' hvs
      have key : (resSem a.tmps r).run P w = .ok (v.den ρ) w ∧ v.ok s.length = true := by
        cases r with
        | tmp t =>
          simp only [resS] at hv
          exact ⟨by simp only [resSem]; rw [(hf.get hv).1]; rfl, (hf.get hv).2.1⟩
        | cell b t =>
          simp only [resS] at hv
          split at hv
          · rename_i u hu
            split at hv
            · rename_i u' s' hl
              simp at hv; subst hv
              obtain ⟨_, hok, hr⟩ := loadS_sound (P := P) hI hl
              refine ⟨?_, hok⟩
              have h1 := (hf.get hu).1
              simp only [resSem, h1]
              cases u with
              | c x =>
                cases x with
                | p blk off =>
                  simp only [SV.den, C.den, asAddr, Sem.run_bind, Sem.run_pure, Result.andThen_ok]
                  simpa [Instr.loadAt, Instr.sureAddr, SV.den, C.den] using hr
                | _ => simp [loadS] at hl
              | _ => simp [loadS] at hl
            · cases hv
          · cases hv
      refine ⟨?_, fun u hu => (List.mem_cons.1 hu).elim (fun e => e ▸ key.2) (ih2 u)⟩
      rw [List.mapM_cons]
      simp only [Sem.run_bind, key.1, Result.andThen_ok, ih1, Sem.run_pure, List.map_cons]
    · cases h

theorem s1L_sound {n : Nat} {ρ : Nat → Nat} : ∀ (vs : List SV) (xs : List S1), s1L vs = some xs → vs.map (SV.den ρ) = xs.map (S1.den ρ) ∧ ((∀ v ∈ vs, v.ok n = true) → xs.all (S1.ok n) = true) ∧ xs.length = vs.length
  | [], xs, h => by simp [s1L] at h; subst h; simp
  | v :: vs, xs, h => by
    simp only [s1L] at h
    split at h
    · cases h
    rename_i x hx
    split at h
    · rename_i xs' hxs
      simp at h; subst h
      obtain ⟨h1, h2, h3⟩ := s1L_sound (n := n) (ρ := ρ) vs xs' hxs
      have hd : v.den ρ = x.den ρ ∧ (v.ok n = true → x.ok n = true) := by
        cases v <;> simp [SV.s1] at hx <;> subst hx <;> exact ⟨rfl, id⟩
      refine ⟨by simp [hd.1, h1], fun hv => ?_, by simp [h3]⟩
      simp only [List.all_cons, Bool.and_eq_true]
      exact ⟨hd.2 (hv v List.mem_cons_self), h2 fun u hu => hv u (List.mem_cons_of_mem _ hu)⟩
    · cases h

theorem results1_sound {W : World} {L : Nat} {ρ : Nat → Nat} {s : SW} {w : World} {fr : Fr} {a : Act} {fn : Func} {v : SV} (hI : Inv W L ρ s w) (hf : FrRel s.length ρ fr a)
    (h : results1 P fn fr s = some v) : (results fn a.tmps).run P w = .ok (v.den ρ) w ∧ v.ok s.length = true := by
  unfold results1 at h
  have hmap : ∀ vs, resL P fr s fn.results.toList = some vs → (fn.results.mapM (resSem a.tmps)).run P w = .ok (vs.map (SV.den ρ)).toArray w ∧ ∀ v ∈ vs, v.ok s.length = true := by
    intro vs hvs
    obtain ⟨h1, h2⟩ := resL_sound (P := P) hI hf _ _ hvs
    refine ⟨?_, h2⟩
    have : fn.results.mapM (resSem a.tmps) = List.toArray <$> fn.results.toList.mapM (resSem a.tmps) := by
      conv => lhs; rw [← Array.toArray_toList (xs := fn.results)]
      exact List.mapM_toArray
    rw [this]
    simp only [Sem.run_map, h1, Result.andThen_ok]
  split at h
  · cases h
  · rename_i v' hv'
    simp at h; subst h
    obtain ⟨h1, h2⟩ := hmap _ hv'
    refine ⟨?_, h2 _ (by simp)⟩
    rw [results_eq]
    simp only [Sem.run_bind, h1, Result.andThen_ok]
    simp
  · rename_i vs hne hvs
    split at h
    · rename_i xs hxs
      simp at h; subst h
      obtain ⟨h1, h2⟩ := hmap _ hvs
      obtain ⟨h3, h4, h5⟩ := s1L_sound (n := s.length) (ρ := ρ) _ _ hxs
      refine ⟨?_, h4 h2⟩
      rw [results_eq]
      simp only [Sem.run_bind, h1]
      have : (vs.map (SV.den ρ)).toArray.size ≠ 1 := by
        simp only [List.size_toArray, List.length_map]
        intro e
        obtain ⟨v, rfl⟩ := List.length_eq_one_iff.1 e
        exact hne v rfl
      simp only [Result.andThen_ok]
      rw [dif_neg this, h3]
      rfl
    · cases h
end
end Go.Proofs.Ytjacbodjkgiohaa.Ev

namespace Go.Proofs.Ytjacbodjkgiohaa.Ev
open Go
section
variable {P : Program}

theorem callFunc_run {g : FuncId} {fn : Func} (hf : P.funcs[g]? = some fn) (hn : (fn.name == "runtime.NumGoroutine") = false) (hb : fn.body.isSome = true) (args : Array Value) (w : World) :
    (callFunc g args).run P w = .ok (.enter g args) w := by
  unfold callFunc
  have : fn.body.isNone = false := by cases h : fn.body <;> simp_all
  simp only [Sem.run_bind, run_program, Result.andThen_ok, hf, hn, this, Bool.false_eq_true, if_false, Sem.run_pure]

/-- One call of a function whose body is run. -/
theorem callTree_of_wp {g : FuncId} {fn : Func} {c : Code} (hf : P.funcs[g]? = some fn) (hb : fn.body = some c) {vs : List SV} {ρ : Nat → Nat} {w : World} {R : Ending → World → Prop}
    (h : TodoWp P [.code c] (bodyPost P fn R) { tmps := (vs.map (SV.den ρ)).toArray ++ Array.replicate (fn.ntmps - (vs.map (SV.den ρ)).toArray.size) undef, defers := [] } w) :
    Calls P g (vs.map (SV.den ρ)).toArray w R := calls_of_wp hf hb h.wp

def LfQ (P : Program) (post : Lf → Prop) (W : World) (L n : Nat) (ρ0 : Nat → Nat) (Q : Exit → Act → World → Prop) : Prop :=
  ∀ lf a' w' ρ', post lf → Agree n ρ0 ρ' → n ≤ lf.s.length → FrRel lf.s.length ρ' lf.fr a' → Inv W L ρ' lf.s w' →
    if lf.ended then Q .normal a' w' ∧ Q .ret a' w' else TodoWp P lf.todo Q a' w'

/-- What holds of a memory of its own holds beside any other. -/
theorem Inv.frame {W : World} {L : Nat} {ρ ρ' : Nat → Nat} {s s' : SW} {w w' : World} (h : Inv W L ρ s w) (h' : Inv w 0 ρ' s' w') : Inv W L ρ s w' := by
  have hold : ∀ b, b < w.heap.size → w'.heap[b]? = w.heap[b]? := fun b hb => h'.old b hb fun i hi => absurd hi (Nat.not_lt_zero _)
  refine ⟨fun i b hb => ?_, h.okc, h.inj, Nat.le_trans h.grow h'.grow, fun b hb hL => ?_, h.fresh, fun a => (h'.frz a).trans (h.frz a), h'.os.trans h.os, h'.out.trans h.out, h'.tape.trans h.tape, h.len⟩
  · rw [hold _ (h.lt (List.getElem?_eq_some_iff.1 hb).1)]; exact h.blk i b hb
  · rw [hold b (Nat.lt_of_lt_of_le hb h.grow)]; exact h.old b hb hL

/-- How a call is run. -/
def callOf (P : Program) (orc : Orc) (tab : Tab) (n : Nat) : CallK Lf := fun g vs s K => match tab g with
  | none => .fail
  | some fn => match orc g vs s with
    | some t => t.bind fun r => K r.1 r.2
    | none => match fn.body with
      | none => .fail
      | some c => cond (Nat.ble vs.length fn.ntmps) (mkFrK (Tr.mk 12) 0 vs fun t =>
          (run P orc tab n 0 [.code c] ⟨fn.ntmps, t⟩ s).bind fun lf => cond lf.ended (match results1 P fn lf.fr lf.s with | some v => K v lf.s | none => .fail) .fail) .fail

def callOfC (P : Program) (orc : Orc) (tab : Tab) (n : Nat) : CallC Lf := fun g vs K => match tab g with
  | none => .fail
  | some fn => match orc g vs [] with
    | some t => t.bind fun r => cond (r.1.ok 0) (K r.1) .fail
    | none => match fn.body with
      | none => .fail
      | some c => cond (Nat.ble vs.length fn.ntmps) (mkFrK (Tr.mk 12) 0 vs fun t =>
          (run P orc tab n 0 [.code c] ⟨fn.ntmps, t⟩ []).bind fun lf => cond lf.ended (match results1 P fn lf.fr lf.s with | some v => cond (v.ok 0) (K v) .fail | none => .fail) .fail) .fail

theorem run_sound {orc : Orc} {tab : Tab} (ho : OrcOK P orc) (ht : TabOK P tab) (hsz : ∀ g fn, tab g = some fn → fn.ntmps < 4095) (hm : P.follows .mixedOrders = true) :
    ∀ (fuel brk : Nat) (todo : List Item) (fr : Fr) (s : SW) (W : World) (L : Nat) (ρ : Nat → Nat) (a : Act) (w : World) (post : Lf → Prop) (Q : Exit → Act → World → Prop),
      (run P orc tab fuel brk todo fr s).OK post → FrRel s.length ρ fr a → Inv W L ρ s w → LfQ P post W L s.length ρ Q → TodoWp P todo Q a w := by
  intro fuel
  induction fuel with
  | zero => intro brk todo fr s W L ρ a w post Q h; exact h.elim
  | succ n ih =>
    intro brk todo fr s W L ρ a w post Q h hf hI hQ
    -- a call
    have hcall : ∀ (W : World) (L : Nat), CallOK P W L (callOf P orc tab n) := by
      intro W L g vs s K post ρ w h hI hok
      unfold callOf at h
      split at h
      · exact h.elim
      rename_i fn hfn
      obtain ⟨h1, h2, h3⟩ := ht g fn hfn
      refine ⟨fun w => callFunc_run h1 h2 h3 _ w, ?_⟩
      split at h
      · rename_i t ht'
        refine Calls.mono (ho g vs s t ht' W L ρ w _ hI hok (Tree.OK_bind t h)) ?_
        rintro e w' ⟨v, s', ρ', he, hag, hle, hv, hI', hp⟩
        exact ⟨v, s', ρ', he, hag, hle, hv, hI', hp⟩
      · split at h
        · exact h.elim
        rename_i c hc
        cases hb : Nat.ble vs.length fn.ntmps <;> simp only [hb, cond_true, cond_false] at h
        · exact h.elim
        rw [mkFrK_eq] at h
        have h := Tree.OK_bind _ h
        refine callTree_of_wp h1 hc ?_
        refine ih 0 _ _ s W L ρ _ w _ _ h (mkFr_rel (Nat.le_of_ble_eq_true hb) (hsz g fn hfn) hok) hI ?_
        intro lf a' w' ρ' hp hag hle hf' hI'
        cases he : lf.ended
        · simp only [he, cond_false] at hp
          exact hp.elim
        · simp only [he, cond_true] at hp
          simp only [if_true]
          split at hp
          · rename_i v hv
            have := results1_sound (P := P) hI' hf' hv
            exact ⟨⟨hf'.defers, _, this.1, v, lf.s, ρ', rfl, hag, hle, this.2, hI', hp⟩, ⟨hf'.defers, _, this.1, v, lf.s, ρ', rfl, hag, hle, this.2, hI', hp⟩⟩
          · exact hp.elim
    have hcallC : ∀ (W : World) (L : Nat), CallCOK P W L (callOfC P orc tab n) := by
      intro W L g vs s K post ρ w h hI hok
      have hag0 : Agree 0 (fun _ => 0) ρ := fun i hi => absurd hi (Nat.not_lt_zero _)
      have hargs : (vs.map (SV.den ρ)) = vs.map (SV.den fun _ => 0) := List.map_congr_left fun x hx => SV.den_agree hag0 (hok x hx)
      have fin : ∀ (v : SV) (s' : SW) (ρ' : Nat → Nat) (w' : World), v.ok 0 = true → Inv w 0 ρ' s' w' → v.den ρ' = v.den ρ ∧ Inv W L ρ s w' := fun v s' ρ' w' hv hI' =>
        ⟨(SV.den_agree (n := 0) (fun i hi => absurd hi (Nat.not_lt_zero _)) hv), hI.frame hI'⟩
      unfold callOfC at h
      split at h
      · exact h.elim
      rename_i fn hfn
      obtain ⟨h1, h2, h3⟩ := ht g fn hfn
      refine ⟨fun w => callFunc_run h1 h2 h3 _ w, ?_⟩
      rw [hargs]
      split at h
      · rename_i t ht'
        refine Calls.mono (ho g vs [] t ht' w 0 (fun _ => 0) w _ (Inv.start w) hok (Tree.OK_bind t h)) ?_
        rintro e w' ⟨v, s', ρ', rfl, hag, hle, hv, hI', hp⟩
        cases hb : v.ok 0 <;> simp only [hb, cond_true, cond_false] at hp
        · exact hp.elim
        · obtain ⟨h4, h5⟩ := fin v s' ρ' w' hb hI'
          exact ⟨v, by rw [h4], hb, h5, hp⟩
      · split at h
        · exact h.elim
        rename_i c hc
        cases hb : Nat.ble vs.length fn.ntmps <;> simp only [hb, cond_true, cond_false] at h
        · exact h.elim
        rw [mkFrK_eq] at h
        have h := Tree.OK_bind _ h
        refine callTree_of_wp h1 hc ?_
        refine ih 0 _ _ [] w 0 (fun _ => 0) _ w _ _ h (mkFr_rel (Nat.le_of_ble_eq_true hb) (hsz g fn hfn) hok) (Inv.start w) ?_
        intro lf a' w' ρ' hp hag hle hf' hI'
        cases he : lf.ended
        · simp only [he, cond_false] at hp
          exact hp.elim
        · simp only [he, cond_true] at hp
          simp only [if_true]
          split at hp
          · rename_i v hv
            have := results1_sound (P := P) hI' hf' hv
            cases hb : v.ok 0 <;> simp only [hb, cond_true, cond_false] at hp
            · exact hp.elim
            · obtain ⟨h4, h5⟩ := fin v lf.s ρ' w' hb hI'
              exact ⟨⟨hf'.defers, _, this.1, v, by rw [h4], hb, h5, hp⟩, ⟨hf'.defers, _, this.1, v, by rw [h4], hb, h5, hp⟩⟩
          · exact hp.elim
    have again : ∀ todo', (run P orc tab n brk todo' fr s).OK post → TodoWp P todo' Q a w := fun todo' h => ih _ _ _ _ _ _ _ _ _ _ _ h hf hI hQ
    have stop : ∀ todo', post ⟨todo', false, fr, s⟩ → TodoWp P todo' Q a w := fun todo' h => by
      have := hQ _ a w ρ h (Agree.refl _ _) (Nat.le_refl _) hf hI
      simpa using this
    have done : post ⟨[], true, fr, s⟩ → Q .normal a w ∧ Q .ret a w := fun h => by
      have := hQ _ a w ρ h (Agree.refl _ _) (Nat.le_refl _) hf hI
      simpa using this
    have cont : ∀ (k : List Item) (fr' : Fr) (s' : SW) (ρ' : Nat → Nat) (a' : Act) (w' : World), (run P orc tab n brk k fr' s').OK post → Agree s.length ρ ρ' → s.length ≤ s'.length →
        FrRel s'.length ρ' fr' a' → Inv W L ρ' s' w' → TodoWp P k Q a' w' := fun k fr' s' ρ' a' w' h hag hle hf' hI' =>
      ih _ _ _ _ _ _ _ _ _ _ _ h hf' hI' fun lf a'' w'' ρ'' hp hag' hle' hf'' hI'' =>
        hQ lf a'' w'' ρ'' hp (hag.trans hag' hle) (Nat.le_trans hle hle') hf'' hI''
    simp only [run] at h
    split at h
    · exact TodoWp.nil (done h).1
    · exact TodoWp.ret (done h).2
    · exact TodoWp.skip (again _ h)
    · exact TodoWp.label (again _ h)
    · exact TodoWp.inBlock (again _ h)
    · exact TodoWp.inScope (again _ h)
    · exact TodoWp.seq (again _ h)
    · exact TodoWp.scope (again _ h)
    · exact TodoWp.block (again _ h)
    · rename_i c k
      cases hb : Nat.blt k.length brk <;> simp only [hb, cond_true, cond_false] at h
      · exact TodoWp.loop (again _ h)
      · exact TodoWp.loop (stop _ h)
    · rename_i c k
      cases hb : Nat.blt k.length brk <;> simp only [hb, cond_true, cond_false] at h
      · exact TodoWp.inLoop (again _ h)
      · exact TodoWp.inLoop (stop _ h)
    · split at h
      · rename_i k' hk; exact TodoWp.exit hk (again _ h)
      · exact h.elim
    · split at h
      · rename_i lit v hv
        have h1 : a.eval _ = .bool v := (FrRel.ev hf _ _ hv).1
        cases lit <;> simp only [cond_true, cond_false] at h
        · obtain ⟨fr', hf', h2, h3⟩ := forkK_sound hf hv h
          cases v
          · exact TodoWp.cond h1 (ih _ _ _ _ _ _ _ _ _ _ _ (h3 rfl) hf' hI hQ)
          · exact TodoWp.cond h1 (ih _ _ _ _ _ _ _ _ _ _ _ (h2 rfl) hf' hI hQ)
        · cases v <;> simp only [cond_true, cond_false] at h
          · exact TodoWp.cond h1 (again _ h)
          · exact TodoWp.cond h1 (again _ h)
      · exact h.elim
    · rename_i id ops draw k
      cases draw <;> simp only [cond_true, cond_false] at h
      · refine TodoWp.code (wp_region (SeqWp.ops _ _ _ ?_))
        exact opsK_sound (hcall W L) _ h hf hI fun fr' s' ρ' a' w' h hag hle hf' hI' => cont _ _ _ _ _ _ h hag hle hf' hI'
      · cases hs : Region.noSelect ops <;> simp only [hs, cond_true, cond_false] at h
        · exact h.elim
        split at h
        · rename_i l hl
          refine TodoWp.code (sched_wp hm hs hl ?_)
          exact opsK_sound (hcall W L) _ h hf (hI.drawn _) fun fr' s' ρ' a' w' h hag hle hf' hI' => cont _ _ _ _ _ _ h hag hle hf' hI'
        · split at h
          · rename_i l hl
            refine TodoWp.code (schedC_wp hm hs hl (hI.drawn _) ?_)
            exact opsC_sound (hcallC W L) _ h hf (hI.drawn _) fun fr' a' w' h hf' hI' => cont _ _ _ _ _ _ h (Agree.refl _ _) (Nat.le_refl _) hf' hI'
          · exact h.elim
    · exact h.elim

/-- The tree of a function: its body run, its results read. -/
def fnTree (P : Program) (orc : Orc) (tab : Tab) (fuel : Nat) (fn : Func) (vs : List SV) (s : SW) : Tree (SV × SW) :=
  match fn.body with
  | none => .fail
  | some c => cond (Nat.ble vs.length fn.ntmps) (mkFrK (Tr.mk 12) 0 vs fun t =>
      (run P orc tab fuel 0 [.code c] ⟨fn.ntmps, t⟩ s).bind fun lf => cond lf.ended (match results1 P fn lf.fr lf.s with | some v => .leaf (v, lf.s) | none => .fail) .fail) .fail

theorem fnTree_sound {orc : Orc} {tab : Tab} (ho : OrcOK P orc) (ht : TabOK P tab) (hsz : ∀ g fn, tab g = some fn → fn.ntmps < 4095) (hm : P.follows .mixedOrders = true)
    (fuel : Nat) {g : FuncId} {fn : Func} (hf : P.funcs[g]? = some fn) (hnt : fn.ntmps < 4095) (vs : List SV) (s : SW) : CallTree P g vs s (fnTree P orc tab fuel fn vs s) := by
  intro W L ρ w post hI hok h
  unfold fnTree at h
  split at h
  · exact h.elim
  rename_i c hc
  cases hb : Nat.ble vs.length fn.ntmps <;> simp only [hb, cond_true, cond_false] at h
  · exact h.elim
  rw [mkFrK_eq] at h
  have h := Tree.OK_bind _ h
  refine callTree_of_wp hf hc ?_
  refine run_sound ho ht hsz hm fuel 0 _ _ s W L ρ _ w _ _ h (mkFr_rel (Nat.le_of_ble_eq_true hb) hnt hok) hI ?_
  intro lf a' w' ρ' hp hag hle hf' hI'
  cases he : lf.ended
  · simp only [he, cond_false] at hp
    exact hp.elim
  · simp only [he, cond_true] at hp
    simp only [if_true]
    split at hp
    · rename_i v hv
      have := results1_sound (P := P) hI' hf' hv
      exact ⟨⟨hf'.defers, _, this.1, v, lf.s, ρ', rfl, hag, hle, this.2, hI', hp⟩, ⟨hf'.defers, _, this.1, v, lf.s, ρ', rfl, hag, hle, this.2, hI', hp⟩⟩
    · exact hp.elim

/-- A law: called with plain values it answers true, and nothing that was there has changed. -/
theorem law_of_tree {g : FuncId} {vs : List SV} {t : Tree (SV × SW)} (hc : CallTree P g vs [] t) (hok : ∀ v ∈ vs, v.ok 0 = true) (args : Array Value)
    (hargs : (vs.map (SV.den fun _ => 0)).toArray = args) (ht : t.OK fun r => ∃ l, r.1 = .c (.b l true)) (w : World) :
    Calls P g args w fun e w' => e = .returned (.bool true) ∧ RowKit.Grown w w' := by
  subst hargs
  refine Calls.mono (hc w 0 (fun _ => 0) w _ (Inv.start w) hok ht) ?_
  rintro e w' ⟨v, s', ρ', rfl, _, _, _, hI, l, hv⟩
  simp only at hv
  subst hv
  exact ⟨rfl, hI.grown⟩

def orcNone : Orc := fun _ _ _ => none
theorem orcNone_ok : OrcOK P orcNone := fun _ _ _ _ h => nomatch h
/-- A table of functions, by a list. -/
def tabL : List (FuncId × Func) → Tab
  | [], _ => none
  | (i, f) :: r, g => cond (Nat.beq i g) (some f) (tabL r g)
def FnOK (P : Program) (p : FuncId × Func) : Prop := P.funcs[p.1]? = some p.2 ∧ (p.2.name == "runtime.NumGoroutine") = false ∧ p.2.body.isSome = true ∧ p.2.ntmps < 4095
theorem tabL_ok {l : List (FuncId × Func)} (h : ∀ p, p ∈ l → FnOK P p) : TabOK P (tabL l) := by
  intro g fn hg
  induction l with
  | nil => cases hg
  | cons p r ih =>
    obtain ⟨i, f⟩ := p
    simp only [tabL] at hg
    cases hb : Nat.beq i g <;> simp only [hb, cond_true, cond_false] at hg
    · exact ih (fun q hq => h q (List.mem_cons_of_mem _ hq)) hg
    · simp at hg; subst hg
      have := Nat.eq_of_beq_eq_true hb
      subst this
      have := h (i, f) List.mem_cons_self
      exact ⟨this.1, this.2.1, this.2.2.1⟩
theorem tabL_sz {l : List (FuncId × Func)} (h : ∀ p, p ∈ l → FnOK P p) : ∀ g fn, tabL l g = some fn → fn.ntmps < 4095 := by
  intro g fn hg
  induction l with
  | nil => cases hg
  | cons p r ih =>
    obtain ⟨i, f⟩ := p
    simp only [tabL] at hg
    cases hb : Nat.beq i g <;> simp only [hb, cond_true, cond_false] at hg
    · exact ih (fun q hq => h q (List.mem_cons_of_mem _ hq)) hg
    · simp at hg; subst hg
      exact (h (i, f) List.mem_cons_self).2.2.2
theorem fn_cons {p : FuncId × Func} {l : List (FuncId × Func)} (hp : FnOK P p) (hl : ∀ q, q ∈ l → FnOK P q) : ∀ q, q ∈ p :: l → FnOK P q :=
  fun q hq => (List.mem_cons.1 hq).elim (fun e => e ▸ hp) (hl q)
theorem fn_nil : ∀ q, q ∈ ([] : List (FuncId × Func)) → FnOK P q := fun _ h => nomatch h
end
end Go.Proofs.Ytjacbodjkgiohaa.Ev

namespace Go.Proofs.Ytjacbodjkgiohaa.Ev
open Go

/-! ### 10. Laws and contracts -/

def isF : Tree (SV × SW) → Bool
  | .leaf (.c (.b true v), _) => !v
  | _ => false
/-- What is to be shown of a law. -/
def lawP : Tree (SV × SW) → Prop
  | .leaf (.c (.b _ v), _) => v = true
  | .leaf _ => False
  | .node b t f => cond (isF f) (b = true ∧ lawP t) (cond (isF t) (b = false ∧ lawP f) ((b = true → lawP t) ∧ (b = false → lawP f)))
  | .need b t => b = true ∧ lawP t
  | .fail => False

theorem lawP_OK : ∀ (t : Tree (SV × SW)), lawP t → t.OK fun r => ∃ l, r.1 = .c (.b l true) := by
  intro t
  induction t with
  | leaf x =>
    intro h
    obtain ⟨v, s⟩ := x
    cases v with
    | c x =>
      cases x with
      | b l v => simp only [lawP] at h; subst h; exact ⟨l, rfl⟩
      | _ => exact h.elim
    | _ => exact h.elim
  | node b t f iht ihf =>
    intro h
    simp only [lawP] at h
    cases h1 : isF f <;> simp only [h1, cond_true, cond_false] at h
    · cases h2 : isF t <;> simp only [h2, cond_true, cond_false] at h
      · exact ⟨fun hb => iht (h.1 hb), fun hb => ihf (h.2 hb)⟩
      · exact ⟨fun hb => absurd (h.1.symm.trans hb) (by decide), fun _ => ihf h.2⟩
    · exact ⟨fun _ => iht h.2, fun hb => absurd (h.1.symm.trans hb) (by decide)⟩
  | need b t ih => exact fun h => ⟨h.1, ih h.2⟩
  | fail => exact id

def C.sim : C → C → Prop
  | .b _ u, .b _ v => u = v
  | .i _ k u, .i _ k' v => k = k' ∧ u = v
  | u, v => u = v
def simL {α : Type} (r : α → α → Prop) : List α → List α → Prop
  | [], [] => True
  | [x], [y] => r x y
  | x :: xs, y :: ys => r x y ∧ simL r xs ys
  | _, _ => False
def S1.sim : S1 → S1 → Prop
  | .c u, .c v => C.sim u v
  | .a u, .a v => simL C.sim u v
  | _, _ => False
def SV.sim : SV → SV → Prop
  | .c u, .c v => C.sim u v
  | .a u, .a v => simL C.sim u v
  | .t u, .t v => simL S1.sim u v
  | _, _ => False

theorem C.sim_den {ρ : Nat → Nat} {x y : C} (h : x.sim y) : x.den ρ = y.den ρ := by
  cases x <;> cases y <;> simp only [C.sim, C.den] at h ⊢ <;> first | (cases h; done) | (cases h; rfl) | (obtain ⟨rfl, rfl⟩ := h; rfl)
theorem simL_map {α : Type} {r : α → α → Prop} {f : α → Value} (hr : ∀ x y, r x y → f x = f y) : ∀ (l l' : List α), simL r l l' → l.map f = l'.map f
  | [], [], _ => rfl
  | [x], [y], h => by simp only [List.map_cons, List.map_nil]; rw [hr _ _ h]
  | x :: x' :: xs, y :: ys, h => by
    have h : r x y ∧ simL r (x' :: xs) ys := by cases ys <;> exact h
    simp only [List.map_cons]; rw [hr _ _ h.1]
    have := simL_map hr (x' :: xs) ys h.2
    simp only [List.map_cons] at this
    rw [← this]
  | [x], y :: y' :: ys, h => by
    have h : r x y ∧ simL r [] (y' :: ys) := h
    exact h.2.elim
  | [], _ :: _, h => by cases h
  | _ :: _, [], h => by cases ‹List α› <;> cases h
theorem S1.sim_den {ρ : Nat → Nat} {x y : S1} (h : x.sim y) : x.den ρ = y.den ρ := by
  cases x <;> cases y <;> simp only [S1.sim, S1.den] at h ⊢
  · exact C.sim_den h
  · unfold denL; rw [simL_map (fun _ _ h => C.sim_den h) _ _ h]
theorem SV.sim_den {ρ : Nat → Nat} {x y : SV} (h : x.sim y) : x.den ρ = y.den ρ := by
  cases x <;> cases y <;> simp only [SV.sim, SV.den] at h ⊢
  · exact C.sim_den h
  · unfold denL; rw [simL_map (fun _ _ h => C.sim_den h) _ _ h]
  · rw [simL_map (fun _ _ h => S1.sim_den h) _ _ h]

section
variable {P : Program}

/-- A contract of a function of plain values. -/
theorem pure_contract {g : FuncId} {vs : List SV} {t : Tree (SV × SW)} (h : CallTree P g vs [] t) (hvs : ∀ v ∈ vs, v.ok 0 = true) {v : SV} (hv : v.ok 0 = true)
    (ht : t.OK fun r => r.1.sim v) (s : SW) : CallTree P g vs s (.leaf (v, s)) := by
  intro W L ρ w post hI _ hp
  have hag : Agree 0 (fun _ => 0) ρ := fun i hi => absurd hi (Nat.not_lt_zero _)
  have hargs : (vs.map (SV.den ρ)) = vs.map (SV.den fun _ => 0) := List.map_congr_left fun x hx => SV.den_agree hag (hvs x hx)
  rw [hargs]
  refine Calls.mono (h w 0 (fun _ => 0) w _ (Inv.start w) hvs ht) ?_
  rintro e w' ⟨v', s', ρ', rfl, _, _, _, hI', hs⟩
  refine ⟨v, s, ρ, ?_, Agree.refl _ _, Nat.le_refl _, SV.ok_mono (Nat.zero_le _) hv, hI.frame hI', hp⟩
  have h1 : v'.den ρ' = v.den ρ' := SV.sim_den hs
  have h2 : v.den ρ' = v.den ρ := SV.den_agree (n := 0) (fun i hi => absurd hi (Nat.not_lt_zero _)) hv
  rw [h1, h2]

/-- What is to be shown of a contract. -/
def conP (v : SV) : Tree (SV × SW) → Prop
  | .leaf (u, _) => SV.sim u v
  | .node b t f => (b = true → conP v t) ∧ (b = false → conP v f)
  | .need b t => b = true ∧ conP v t
  | .fail => False
theorem conP_OK {v : SV} : ∀ (t : Tree (SV × SW)), conP v t → t.OK fun r => r.1.sim v := by
  intro t
  induction t with
  | leaf x => exact id
  | node b t f iht ihf => exact fun h => ⟨fun hb => iht (h.1 hb), fun hb => ihf (h.2 hb)⟩
  | need b t ih => exact fun h => ⟨h.1, ih h.2⟩
  | fail => exact id

theorem CallTree.need {g : FuncId} {vs : List SV} {s : SW} {t : Tree (SV × SW)} {b : Bool} (h : b = true → CallTree P g vs s t) : CallTree P g vs s (.need b t) :=
  fun W L ρ w post hI hok ht => h ht.1 W L ρ w post hI hok ht.2

/-- Two contracts in one. -/
def orcOr (a b : Orc) : Orc := fun g vs s => match a g vs s with | some t => some t | none => b g vs s
theorem orcOr_ok {a b : Orc} (ha : OrcOK P a) (hb : OrcOK P b) : OrcOK P (orcOr a b) := by
  intro g vs s t h
  unfold orcOr at h
  split at h
  · rename_i t' ht; simp at h; subst h; exact ha _ _ _ _ ht
  · exact hb _ _ _ _ h
end

/-! ### 11. Arithmetic -/
theorem wu8 (x : Int) : IntKind.u8.wrap x = x % 256 := by simp [IntKind.wrap, IntKind.bits, IntKind.signed]
theorem wu16 (x : Int) : IntKind.u16.wrap x = x % 65536 := by simp [IntKind.wrap, IntKind.bits, IntKind.signed]
theorem wu32 (x : Int) : IntKind.u32.wrap x = x % 4294967296 := by simp [IntKind.wrap, IntKind.bits, IntKind.signed]
theorem wu64 (x : Int) : IntKind.u64.wrap x = x % 18446744073709551616 := by simp [IntKind.wrap, IntKind.bits, IntKind.signed]
theorem wi8 (x : Int) : IntKind.i8.wrap x = (x + 128) % 256 - 128 := by
  simp [IntKind.wrap, IntKind.bits, IntKind.signed]; split <;> omega
theorem wi16 (x : Int) : IntKind.i16.wrap x = (x + 32768) % 65536 - 32768 := by
  simp [IntKind.wrap, IntKind.bits, IntKind.signed]; split <;> omega
theorem wi32 (x : Int) : IntKind.i32.wrap x = (x + 2147483648) % 4294967296 - 2147483648 := by
  simp [IntKind.wrap, IntKind.bits, IntKind.signed]; split <;> omega
theorem wi64 (x : Int) : IntKind.i64.wrap x = (x + 9223372036854775808) % 18446744073709551616 - 9223372036854775808 := by
  simp [IntKind.wrap, IntKind.bits, IntKind.signed]; split <;> omega
theorem fdiv_pow (x : Int) (n : Nat) : x.fdiv (2 ^ n) = x / 2 ^ n := by
  rw [Int.fdiv_eq_ediv_of_nonneg]; exact Int.le_of_lt (Int.pow_pos (by decide))
theorem fdiv_lit (x k : Int) (hk : 0 ≤ k) : x.fdiv k = x / k := Int.fdiv_eq_ediv_of_nonneg _ hk
theorem tmod_n (x k : Int) (hx : 0 ≤ x) : x.tmod k = x % k := Int.tmod_eq_emod_of_nonneg hx
theorem tdiv_n (x k : Int) (hx : 0 ≤ x) : x.tdiv k = x / k := Int.tdiv_eq_ediv_of_nonneg hx

/-- To mask off the lower m bits. -/
theorem and_mask (k : IntKind) (x : Int) (m : Nat) (hm : m < k.bits ∨ (k.signed = false ∧ m = k.bits)) : bits .and k x (2 ^ m - 1) = x % 2 ^ m := by
  have hmle : m ≤ k.bits := by rcases hm with h | h <;> omega
  have hp : (0 : Int) < 2 ^ m := Int.pow_pos (by decide)
  have h1 : ((BitVec.ofInt k.bits x &&& BitVec.ofInt k.bits (2 ^ m - 1)).toNat : Int) = x % 2 ^ m := by
    rw [BitVec.toNat_and, BitVec.toNat_ofInt, BitVec.toNat_ofInt]
    have e1 : ((2 ^ m - 1 : Int) % ((2 ^ k.bits : Nat) : Int)).toNat = 2 ^ m - 1 := by
      have : (2 : Int) ^ m ≤ 2 ^ k.bits := by exact_mod_cast Nat.pow_le_pow_right (by decide) hmle
      rw [Int.emod_eq_of_lt (by omega) (by push_cast; omega)]
      have : ((2 ^ m : Nat) : Int) = 2 ^ m := by push_cast; rfl
      omega
    rw [e1, Nat.and_two_pow_sub_one_eq_mod]
    have e2 : 0 ≤ x % ((2 ^ k.bits : Nat) : Int) := Int.emod_nonneg _ (by have := Nat.two_pow_pos k.bits; omega)
    rw [Int.natCast_emod, Int.toNat_of_nonneg e2]
    push_cast
    rw [Int.emod_emod_of_dvd]
    exact ⟨2 ^ (k.bits - m), by rw [← Int.pow_add, Nat.add_sub_cancel' hmle]⟩
  have hlt : x % 2 ^ m < 2 ^ m := Int.emod_lt_of_pos _ hp
  have hnn : 0 ≤ x % 2 ^ m := Int.emod_nonneg _ (by omega)
  unfold bits
  simp only [h1]
  have hb : ((2 : Int) ^ m) ≤ 2 ^ k.bits := by exact_mod_cast Nat.pow_le_pow_right (by decide) hmle
  unfold IntKind.wrap
  simp only []
  rw [Int.emod_eq_of_lt hnn (by omega)]
  rcases hm with h | h
  · have h2 : ((2 : Int) ^ m) ≤ 2 ^ (k.bits - 1) := by exact_mod_cast Nat.pow_le_pow_right (by decide) (by omega)
    rw [if_neg]
    simp only [Bool.and_eq_true, decide_eq_true_eq, not_and]
    intro _
    omega
  · rw [if_neg]
    simp [h.1]
end Go.Proofs.Ytjacbodjkgiohaa.Ev

namespace Go.Proofs.Ytjacbodjkgiohaa.Ev
open Go Go.ChangeShapes Go.WideShapes Go.ChangeAt Go.RowKit
section
variable {H : Type} {enc : TypeId × Value → H} {P : Program}

theorem grown_block {W W' : World} (h : RowKit.Grown W W') {i : Nat} (hi : i < W.heap.size) : W'.heap[i]? = W.heap[i]? :=
  World.keptBut.block h.1 hi fun _ f => f.elim

theorem grown_sameAt {W W' : World} (h : RowKit.Grown W W') {q : MemPlace} (hq : q.block < W.heap.size) : W.sameAt W' q := by
  cases q with
  | cell b off =>
    have := grown_block h (i := b) hq
    simp only [World.sameAt, World.cell?, this]
  | map b => exact grown_block h (i := b) hq

theorem trodAll_carry {W W' : World} {base : Nat} {sp : Nat → Bool} {held : Bool} : ∀ {ts : List TypeId} {vs : List Value} {ds : List (DataW H)} {ps : List MemPlace},
    DataW.TrodAll enc P W base sp held ts vs ds ps → (∀ q ∈ ps, W.sameAt W' q) → DataW.TrodAll enc P W' base sp held ts vs ds ps
  | [], [], [], _, h, _ => h
  | _ :: _, _ :: _, _ :: _, _, ⟨p, q, ⟨n, hn⟩, h2, e⟩, hs =>
    ⟨p, q, ⟨n, DataW.trod_carry n _ _ _ hn fun x hx => hs x (by rw [e]; exact List.mem_append_left _ hx)⟩, trodAll_carry h2 (fun x hx => hs x (by rw [e]; exact List.mem_append_right _ hx)), e⟩

/-- What is asked of a program's types: looked at once. -/
structure TypesOK (P : Program) : Prop where
  laid : laidOutB P = true
  maps : mapsRowed P = true
  full : ∀ t e, t < P.types.size → P.underlying t = some (.slice e) → 0 < P.cellsOf e

/-- Arguments read behind a law as they read before. -/
theorem args_again {W W' : World} {ts : List TypeId} {vs : List Value} {ds : List (DataW H)} {ps : List MemPlace} (hz : TypesOK P) (hts : ∀ t ∈ ts, t < P.types.size)
    (hA : DataW.TrodAll enc P W 0 (fun _ => true) true ts vs ds ps) (hg : RowKit.Grown W W') (hlt : ∀ q ∈ ps, q.block < W.heap.size) (sp : Nat → Bool) (hs : ∀ q ∈ ps, sp q.block = true) :
    DataW.TrodAll enc P W' 0 sp true ts vs ds ps :=
  trodAll_carry (hA.respare (kids_rows hz.laid hz.maps) (fun t e h1 h2 => hz.full t e h1 h2) hts hs) fun q hq => grown_sameAt hg (hlt q hq)

/-- What a law leaves, whatever its arguments are. -/
theorem law_post {f : Func} {s : ChangeSpec} {W W' : World} {args : Array Value} {ds gs : List (DataW H)} {before : List MemPlace} {bt : TypeId}
    (hW : DataW.Whole enc P f.params.toList s.vars false W args.toList ds gs before) (hv : s.vars = []) (hz : TypesOK P) (hts : ∀ t ∈ f.params.toList, t < P.types.size)
    (hres : f.resultTypes = #[bt]) (hbt : P.underlying bt = some .bool) (hfn : (s.fn H (ds ++ gs)).results = [.lit (.bool true)]) (hfa : (s.fn H (ds ++ gs)).args = ds) (hfv : (s.fn H (ds ++ gs)).vars = [])
    (hg : RowKit.Grown W W') : s.post enc P f false true false false W args (.bool true) W' := by
  have hW' := hW
  obtain ⟨p, q, hA, hV, rfl, hfz, hnd⟩ := hW
  rw [hv] at hV
  obtain ⟨rfl, rfl⟩ := trodVars_none hV
  refine post_of_same (pa := p) (pv := []) hW' (fun _ _ _ => ?_) (fun sp hs => ?_) (fun sp _ => ?_) rfl (hg.frame _) hg.2.1 ?_
  · rw [hres, hfn]
    exact trodAll_cons_mk (shut_bool hbt _) trodAll_mk0
  · rw [hfa]
    exact args_again hz hts hA hg (fun q hq => hW'.lt q (List.mem_append_left _ hq)) sp fun q hq => hs q (List.mem_append_left _ hq)
  · rw [hfv, hv]; rfl
  · exact ok_one hres rfl (okWide_bool_mk hbt _)

/-! A struct of numbers, bools and texts, opened. -/
inductive FK where
  | i (k : IntKind)
  | b
  | s
def flatB (P : Program) : List Field → List FK → Nat → Bool
  | [], [], _ => true
  | f :: fs, k :: ks, j => Nat.beq f.offset j && Nat.beq (P.cellsOf f.type) 1 && (match P.underlying f.type, k with
      | some (.int k'), .i k => k' == k
      | some .bool, .b => true
      | some .string, .s => true
      | _, _ => false) && flatB P fs ks (j + 1)
  | _, _, _ => false
def FlatV : List FK → List Value → Prop
  | [], [] => True
  | .i k :: ks, v :: vs => (∃ n, v = .int k n ∧ (Lit.int k n).wf = true) ∧ FlatV ks vs
  | .b :: ks, v :: vs => (∃ n, v = .bool n) ∧ FlatV ks vs
  | .s :: ks, v :: vs => (∃ n, v = .string n) ∧ FlatV ks vs
  | _, _ => False

theorem flat_go {w : World} {base : Nat} {sp : Nat → Bool} {held : Bool} {n : Nat} {cs : List Value} : ∀ (fs : List Field) (ks : List FK) (j : Nat), flatB P fs ks j = true →
    (∀ f ∈ fs, ∃ y, DataW.trod enc P w base sp held n f.type ((cs.drop f.offset).take (P.cellsOf f.type)) = some y) → cs.length = j + ks.length → FlatV ks (cs.drop j)
  | [], [], j, _, _, hl => by
    rw [List.drop_of_length_le (by simp at hl; omega)]; trivial
  | f :: fs, k :: ks, j, hb, hf, hl => by
    simp only [flatB, Bool.and_eq_true] at hb
    obtain ⟨⟨⟨h1, h2⟩, h3⟩, h4⟩ := hb
    have h1 := Nat.eq_of_beq_eq_true h1
    have h2 := Nat.eq_of_beq_eq_true h2
    have hj : j < cs.length := by simp at hl; omega
    have ih := flat_go fs ks (j + 1) h4 (fun f hf' => hf f (List.mem_cons_of_mem _ hf')) (by simp at hl; omega)
    obtain ⟨y, hy⟩ := hf f List.mem_cons_self
    rw [h1, h2, List.drop_eq_getElem_cons hj] at hy
    rw [List.drop_eq_getElem_cons hj]
    have hy : DataW.trod enc P w base sp held n f.type [cs[j]] = some y := hy
    split at h3
    · rename_i k' k hu
      have hk : k' = k := by simpa using h3
      subst hk
      obtain ⟨m, hm, _, hw⟩ := DataW.trod_int hu hy
      exact ⟨⟨m, by simpa using hm, hw⟩, ih⟩
    · rename_i hu
      obtain ⟨m, hm, _⟩ := DataW.trod_bool hu hy
      exact ⟨⟨m, by simpa using hm⟩, ih⟩
    · rename_i hu
      obtain ⟨m, hm, _⟩ := DataW.trod_string hu hy
      exact ⟨⟨m, by simpa using hm⟩, ih⟩
    · cases h3
  | [], _ :: _, _, hb, _, _ => by simp [flatB] at hb
  | _ :: _, [], _, hb, _, _ => by simp [flatB] at hb

theorem flat_open {w : World} {base : Nat} {sp : Nat → Bool} {held : Bool} {r : Reach} {b0 : Nat} {t : TypeId} {fs : Array Field} {v : Value} {d : DataW H} {p : List MemPlace} {ks : List FK}
    (hu : P.underlying t = some (.struct fs)) (hb : flatB P fs.toList ks 0 = true) (hc : P.cellsOf t = ks.length) (hv : Value.okWide P w r b0 t v)
    (h : DataW.Trod enc P w base sp held t v d p) : ∃ cs : List Value, v = .agg cs.toArray ∧ FlatV ks cs := by
  obtain ⟨cs, rfl, hsz⟩ := okWide_struct hu hv
  obtain ⟨n, hn⟩ := h
  obtain ⟨xs, m, rfl, _, hl, hxl, hf⟩ := DataW.trod_struct hu hn
  refine ⟨cs.toList, by simp, ?_⟩
  have := flat_go (enc := enc) (w := w) (base := base) (sp := sp) (held := held) (n := m) (cs := cs.toList) fs.toList ks 0 hb (fun f hf' => by
    obtain ⟨i, hi, he⟩ := List.getElem_of_mem hf'
    have h1 := hf i f (by rw [← he]; simp)
    have hi' : i < xs.length := by simpa [hxl] using hi
    exact ⟨xs[i], h1.trans (List.getElem?_eq_getElem hi')⟩) (by simpa [hc] using hsz)
  simpa using this
end
end Go.Proofs.Ytjacbodjkgiohaa.Ev

namespace Go.Proofs.Ytjacbodjkgiohaa.Ev
open Go

/-! ### 12. Loops -/

def Tr.mkA : Nat → Tr
  | 0 => .e
  | d + 1 => .n (Tr.mkA d) .any (Tr.mkA d)
theorem Tr.get_mkA (d : Nat) (hd : d ≠ 0) : ∀ k, k + 1 < 2 ^ d → (Tr.mkA d).get k = .any := by
  induction d with
  | zero => exact absurd rfl hd
  | succ d ih =>
    intro k hk
    simp only [Tr.mkA, Tr.get]
    by_cases h0 : k = 0
    · subst h0; rfl
    · have hk0 : Nat.beq k 0 = false := by cases k <;> simp_all [Nat.beq]
      have hp : 2 ^ (d + 1) = 2 * 2 ^ d := by rw [Nat.pow_succ]; omega
      have hd' : d ≠ 0 := by intro e; subst e; simp at hk; omega
      by_cases h1 : k % 2 = 1
      · have hp1 : Nat.beq (k % 2) 1 = true := by rw [h1]; rfl
        simp only [hk0, hp1, cond_false, cond_true]
        exact ih hd' _ (by omega)
      · have hp1 : Nat.beq (k % 2) 1 = false := by
          have : k % 2 = 0 := by omega
          rw [this]; rfl
        simp only [hk0, hp1, cond_false]
        exact ih hd' _ (by omega)
theorem Tr.has_mkA (d : Nat) : ∀ k, k + 1 < 2 ^ d → (Tr.mkA d).has k = true := by
  induction d with
  | zero => intro k h; simp at h
  | succ d ih =>
    intro k h
    simp only [Tr.mkA, Tr.has]
    by_cases hk : k = 0
    · subst hk; rfl
    · have hk0 : Nat.beq k 0 = false := by cases k <;> simp_all [Nat.beq]
      have hp : 2 ^ (d + 1) = 2 * 2 ^ d := by rw [Nat.pow_succ]; omega
      by_cases h1 : k % 2 = 1
      · have hp1 : Nat.beq (k % 2) 1 = true := by rw [h1]; rfl
        simp only [hk0, hp1, cond_false, cond_true]
        exact ih _ (by omega)
      · have hp1 : Nat.beq (k % 2) 1 = false := by
          have : k % 2 = 0 := by omega
          rw [this]; rfl
        simp only [hk0, hp1, cond_false]
        exact ih _ (by omega)

def setAll : Tr → List (Nat × SV) → Tr
  | t, [] => t
  | t, (k, v) :: r => setAll (t.set k v) r
def setAllK {β : Type} : Tr → List (Nat × SV) → (Tr → β) → β
  | t, [], K => K t
  | t, (k, v) :: r, K => t.setK k v fun t' => setAllK t' r K
theorem setAllK_eq {β : Type} : ∀ (l : List (Nat × SV)) (t : Tr) (K : Tr → β), setAllK t l K = K (setAll t l)
  | [], _, _ => rfl
  | (k, v) :: r, t, K => by simp only [setAllK, setAll, Tr.setK_eq]; exact setAllK_eq r _ K

/-- A frame of which only these slots are known. -/
def mkL (nt : Nat) (l : List (Nat × SV)) : Fr := setAllK (Tr.mkA 12) l fun t => ⟨nt, t⟩

theorem setAll_get : ∀ (l : List (Nat × SV)) (t : Tr) (k : Nat), (∀ p ∈ l, t.has p.1 = true) → (setAll t l).get k = t.get k ∨ ∃ v, (k, v) ∈ l ∧ (setAll t l).get k = v
  | [], _, _, _ => .inl rfl
  | (j, v) :: r, t, k, h => by
    have hr := setAll_get r (t.set j v) k (fun p hp => by rw [Tr.has_set]; exact h p (List.mem_cons_of_mem _ hp))
    simp only [setAll]
    rcases hr with hr | ⟨u, hu, he⟩
    · rw [hr, Tr.get_set _ _ _ _ (h (j, v) List.mem_cons_self)]
      by_cases e : k = j
      · subst e; exact .inr ⟨v, List.mem_cons_self, by simp⟩
      · exact .inl (by simp [e])
    · exact .inr ⟨u, List.mem_cons_of_mem _ hu, he⟩

def refP (f : Fr) : List (Nat × SV) → Prop
  | [] => True
  | [(t, v)] => (f.tr.get t).sim v
  | (t, v) :: r => (f.tr.get t).sim v ∧ refP f r
theorem refP_mem {f : Fr} : ∀ {l : List (Nat × SV)}, refP f l → ∀ p ∈ l, (f.tr.get p.1).sim p.2
  | [(t, v)], h, p, hp => by simp at hp; subst hp; exact h
  | (t, v) :: q :: r, h, p, hp => by
    have h : (f.tr.get t).sim v ∧ refP f (q :: r) := h
    rcases List.mem_cons.1 hp with rfl | hp
    · exact h.1
    · exact refP_mem h.2 p hp

theorem C.sim_ok {n : Nat} {x y : C} (h : x.sim y) (hx : x.ok n = true) : y.ok n = true := by
  cases x <;> cases y <;> simp only [C.sim] at h <;> first | (cases h; done) | rfl | (cases h; exact hx)
theorem simL_ok {α : Type} {r : α → α → Prop} {f : α → Bool} (hr : ∀ x y, r x y → f x = true → f y = true) : ∀ (l l' : List α), simL r l l' → l.all f = true → l'.all f = true
  | [], [], _, _ => rfl
  | [x], [y], h, hx => by simp only [List.all_cons, List.all_nil, Bool.and_true] at hx ⊢; exact hr _ _ h hx
  | x :: x' :: xs, y :: ys, h, hx => by
    have h : r x y ∧ simL r (x' :: xs) ys := by cases ys <;> exact h
    simp only [List.all_cons, Bool.and_eq_true] at hx ⊢
    exact ⟨hr _ _ h.1 hx.1, simL_ok hr (x' :: xs) ys h.2 (by simp only [List.all_cons, Bool.and_eq_true]; exact hx.2)⟩
  | [x], y :: y' :: ys, h, _ => by
    have h : r x y ∧ simL r [] (y' :: ys) := h
    exact h.2.elim
  | [], _ :: _, h, _ => by cases h
  | _ :: _, [], h, _ => by cases ‹List α› <;> cases h
theorem S1.sim_ok {n : Nat} {x y : S1} (h : x.sim y) (hx : x.ok n = true) : y.ok n = true := by
  cases x <;> cases y <;> simp only [S1.sim, S1.ok] at h hx ⊢
  · exact C.sim_ok h hx
  · exact simL_ok (fun _ _ h => C.sim_ok h) _ _ h hx
theorem SV.sim_ok {n : Nat} {x y : SV} (h : x.sim y) (hx : x.ok n = true) : y.ok n = true := by
  cases x <;> cases y <;> simp only [SV.sim, SV.ok] at h hx ⊢
  · exact C.sim_ok h hx
  · exact simL_ok (fun _ _ h => C.sim_ok h) _ _ h hx
  · exact simL_ok (fun _ _ h => S1.sim_ok h) _ _ h hx

theorem FrRel.ref {n : Nat} {ρ : Nat → Nat} {f : Fr} {a : Act} {l : List (Nat × SV)} (h : FrRel n ρ f a) (hr : refP f l) (hb : l.all (fun p => Nat.blt p.1 f.nt) = true) (hnt : f.nt < 4095) :
    FrRel n ρ (mkL f.nt l) a := by
  have hlt : ∀ p ∈ l, p.1 < f.nt := fun p hp => Nat.le_of_ble_eq_true (List.all_eq_true.1 hb p hp)
  have hget : ∀ t, t < f.nt → (setAll (Tr.mkA 12) l).get t = .any ∨ ∃ v, (t, v) ∈ l ∧ (setAll (Tr.mkA 12) l).get t = v := fun t ht => by
    rcases setAll_get l (Tr.mkA 12) t (fun p hp => Tr.has_mkA 12 _ (by have := hlt p hp; simp; omega)) with h1 | h1
    · exact .inl (h1.trans (Tr.get_mkA 12 (by decide) t (by simp; omega)))
    · exact .inr h1
  unfold mkL
  rw [setAllK_eq]
  refine ⟨h.size, fun t ht hna => ?_, fun t ht => ?_, h.defers⟩
  · simp only [] at ht hna ⊢
    rcases hget t ht with h1 | ⟨v, hv, h1⟩
    · rw [h1] at hna; cases hna
    · rw [h1]
      have hs := refP_mem hr _ hv
      have hna' : (f.tr.get t).isAny = false := by
        cases hc : f.tr.get t <;> first | rfl | (simp only [hc] at hs; cases hs)
      rw [h.val t ht hna', SV.sim_den hs]
  · simp only [] at ht ⊢
    rcases hget t ht with h1 | ⟨v, hv, h1⟩
    · rw [h1]; rfl
    · rw [h1]; exact SV.sim_ok (refP_mem hr _ hv) (h.ok t ht)

/-- Two memories alike. -/
def refS : SW → SW → Prop
  | [], [] => True
  | b :: s, b' :: s' => (b.ty = b'.ty ∧ simL C.sim b.cs b'.cs) ∧ refS s s'
  | _, _ => False
theorem refS_len : ∀ {s s' : SW}, refS s s' → s.length = s'.length
  | [], [], _ => rfl
  | _ :: s, _ :: s', h => by simp [refS_len h.2]
theorem refS_get : ∀ {s s' : SW}, refS s s' → ∀ (i : Nat) (b' : Bl), s'[i]? = some b' → ∃ b, s[i]? = some b ∧ b.ty = b'.ty ∧ simL C.sim b.cs b'.cs
  | [], [], _, i, b', h => by simp at h
  | b :: s, c :: s', h, i, b', hb => by
    cases i with
    | zero => simp at hb; subst hb; exact ⟨b, rfl, h.1⟩
    | succ i => simp at hb ⊢; exact refS_get h.2 i b' hb
theorem Inv.ref {W : World} {L : Nat} {ρ : Nat → Nat} {s s' : SW} {w : World} (h : Inv W L ρ s w) (hr : refS s s') : Inv W L ρ s' w := by
  have hl := refS_len hr
  refine ⟨fun i b' hb => ?_, fun i b' hb => ?_, fun i j hi hj => h.inj i j (hl ▸ hi) (hl ▸ hj), h.grow, h.old, fun i h1 h2 => h.fresh i h1 (hl ▸ h2), h.frz, h.os, h.out, h.tape, hl ▸ h.len⟩
  · obtain ⟨b, h1, h2, h3⟩ := refS_get hr i b' hb
    rw [h.blk i b h1, h2]
    unfold denL
    rw [simL_map (fun _ _ h => C.sim_den h) _ _ h3]
  · obtain ⟨b, h1, h2, h3⟩ := refS_get hr i b' hb
    rw [← hl]
    exact simL_ok (fun _ _ h => C.sim_ok h) _ _ h3 (h.okc i b h1)

/-- What is to be shown of a way through a function with loops: at its end the results, at a loop's head that the state is one that is spoken of. -/
def loopP (P : Program) (fn : Func) (post : SV → SW → Prop) (I : List Item → Fr → SW → Prop) : Tree Lf → Prop
  | .leaf lf => cond lf.ended (match results1 P fn lf.fr lf.s with | some v => post v lf.s | none => False) (I lf.todo lf.fr lf.s)
  | .node b t f => (b = true → loopP P fn post I t) ∧ (b = false → loopP P fn post I f)
  | .need b t => b = true ∧ loopP P fn post I t
  | .fail => False
theorem loopP_OK {P : Program} {fn : Func} {post : SV → SW → Prop} {I : List Item → Fr → SW → Prop} : ∀ (t : Tree Lf), loopP P fn post I t →
    t.OK fun lf => cond lf.ended (match results1 P fn lf.fr lf.s with | some v => post v lf.s | none => False) (I lf.todo lf.fr lf.s) := by
  intro t
  induction t with
  | leaf x => exact id
  | node b t f iht ihf => exact fun h => ⟨fun hb => iht (h.1 hb), fun hb => ihf (h.2 hb)⟩
  | need b t ih => exact fun h => ⟨h.1, ih h.2⟩
  | fail => exact id

theorem run_nt {P : Program} : True := trivial

section
variable {P : Program}

/-- A function with loops: G tells the states at the loops' heads. -/
theorem calls_loop {orc : Orc} {tab : Tab} (ho : OrcOK P orc) (ht : TabOK P tab) (hsz : ∀ g fn, tab g = some fn → fn.ntmps < 4095) (hm : P.follows .mixedOrders = true)
    {g : FuncId} {fn : Func} {c : Code} (hf : P.funcs[g]? = some fn) (hc : fn.body = some c) (hnt : fn.ntmps < 4095) {vs : List SV} {s : SW} (hvs : vs.length ≤ fn.ntmps)
    (fuel brk : Nat) {G : Type} (H : G → Prop) (μ : G → Nat) (hd : G → List Item) (Lv : G → List (Nat × SV)) (Sv : G → SW) (hb : ∀ x, (Lv x).all (fun p => Nat.blt p.1 fn.ntmps) = true)
    (post : SV → SW → Prop)
    (pro : loopP P fn post (fun todo fr s' => ∃ x, H x ∧ todo = hd x ∧ fr.nt = fn.ntmps ∧ refP fr (Lv x) ∧ refS s' (Sv x)) (run P orc tab fuel brk [.code c] ⟨fn.ntmps, mkFrGo (Tr.mk 12) 0 vs⟩ s))
    (round : ∀ x, H x → loopP P fn post (fun todo fr s' => ∃ y, H y ∧ μ y < μ x ∧ todo = hd y ∧ fr.nt = fn.ntmps ∧ refP fr (Lv y) ∧ refS s' (Sv y)) (run P orc tab fuel brk (hd x) (mkL fn.ntmps (Lv x)) (Sv x)))
    (W : World) (L : Nat) (ρ : Nat → Nat) (w : World) (hI : Inv W L ρ s w) (hok : ∀ v ∈ vs, v.ok s.length = true) :
    Calls P g (vs.map (SV.den ρ)).toArray w fun e w' => ∃ v s' ρ', e = .returned (v.den ρ') ∧ Agree s.length ρ ρ' ∧ s.length ≤ s'.length ∧ v.ok s'.length = true ∧ Inv W L ρ' s' w' ∧ post v s' := by
  have fin : ∀ (n : Nat) (lf : Lf) (a' : Act) (w' : World) (ρ' : Nat → Nat), s.length ≤ n → Agree s.length ρ ρ' → n ≤ lf.s.length → FrRel lf.s.length ρ' lf.fr a' → Inv W L ρ' lf.s w' →
      (match results1 P fn lf.fr lf.s with | some v => post v lf.s | none => False) →
      bodyPost P fn (fun e w' => ∃ v s' ρ', e = .returned (v.den ρ') ∧ Agree s.length ρ ρ' ∧ s.length ≤ s'.length ∧ v.ok s'.length = true ∧ Inv W L ρ' s' w' ∧ post v s') .normal a' w' := by
    intro n lf a' w' ρ' hn hag hle hf' hI' hp
    split at hp
    · rename_i v hv
      have := results1_sound (P := P) hI' hf' hv
      exact ⟨hf'.defers, _, this.1, v, lf.s, ρ', rfl, hag, Nat.le_trans hn hle, this.2, hI', hp⟩
    · exact hp.elim
  have key : ∀ (m : Nat) (x : G), μ x = m → H x → ∀ (a : Act) (w : World) (ρ1 : Nat → Nat), s.length ≤ (Sv x).length → Agree s.length ρ ρ1 → FrRel (Sv x).length ρ1 (mkL fn.ntmps (Lv x)) a → Inv W L ρ1 (Sv x) w →
      TodoWp P (hd x) (bodyPost P fn fun e w' => ∃ v s' ρ', e = .returned (v.den ρ') ∧ Agree s.length ρ ρ' ∧ s.length ≤ s'.length ∧ v.ok s'.length = true ∧ Inv W L ρ' s' w' ∧ post v s') a w := by
    intro m
    induction m using Nat.strongRecOn with
    | _ m ih =>
      intro x hx hH a w ρ1 hlen hag1 hfr hI1
      refine run_sound ho ht hsz hm fuel brk _ _ _ W L ρ1 a w _ _ (loopP_OK _ (round x hH)) hfr hI1 ?_
      intro lf a' w' ρ' hp hag hle hf' hI'
      have hag' : Agree s.length ρ ρ' := hag1.trans hag hlen
      cases he : lf.ended
      · simp only [he, cond_false] at hp
        obtain ⟨y, hy, hmu, htodo, hnt', hr, hs⟩ := hp
        simp only [Bool.false_eq_true, if_false]
        rw [htodo]
        have hsl := refS_len hs
        have hfr' := FrRel.ref hf' hr (by rw [hnt']; exact hb y) (by rw [hnt']; exact hnt)
        rw [hnt', hsl] at hfr'
        exact ih (μ y) (hx ▸ hmu) y rfl hy a' w' ρ' (by omega) hag' hfr' (hI'.ref hs)
      · simp only [he, cond_true] at hp
        simp only [if_true]
        have := fin (Sv x).length lf a' w' ρ' hlen hag' hle hf' hI' hp
        exact ⟨this, this⟩
  refine callTree_of_wp hf hc ?_
  refine run_sound ho ht hsz hm fuel brk _ _ _ W L ρ _ w _ _ (loopP_OK _ pro) (mkFr_rel hvs hnt hok) hI ?_
  intro lf a' w' ρ' hp hag hle hf' hI'
  cases he : lf.ended
  · simp only [he, cond_false] at hp
    obtain ⟨y, hy, htodo, hnt', hr, hs⟩ := hp
    simp only [Bool.false_eq_true, if_false]
    rw [htodo]
    have hsl := refS_len hs
    have hfr' := FrRel.ref hf' hr (by rw [hnt']; exact hb y) (by rw [hnt']; exact hnt)
    rw [hnt', hsl] at hfr'
    exact key (μ y) y rfl hy a' w' ρ' (by omega) hag hfr' (hI'.ref hs)
  · simp only [he, cond_true] at hp
    simp only [if_true]
    have := fin s.length lf a' w' ρ' (Nat.le_refl _) hag hle hf' hI' hp
    exact ⟨this, this⟩

/-- The first head at which a run stops. -/
def stopAt : Tree Lf → List Item
  | .leaf lf => lf.todo
  | .node _ t _ => stopAt t
  | .need _ t => stopAt t
  | .fail => []

/-- A contract of a function of plain values with loops. -/
theorem pure_contract_loop {g : FuncId} {vs : List SV} (hvs : ∀ v ∈ vs, v.ok 0 = true) {v : SV} (hv : v.ok 0 = true)
    (h : ∀ (W : World), Calls P g (vs.map (SV.den fun _ => 0)).toArray W fun e w' => ∃ (u : SV) (s' : SW) (ρ' : Nat → Nat), e = .returned (u.den ρ') ∧ Agree 0 (fun _ => 0) ρ' ∧ 0 ≤ s'.length ∧ u.ok s'.length = true ∧
      Inv W 0 ρ' s' w' ∧ u.sim v) (s : SW) : CallTree P g vs s (.leaf (v, s)) := by
  intro W L ρ w post hI _ hp
  have hag : Agree 0 (fun _ => 0) ρ := fun i hi => absurd hi (Nat.not_lt_zero _)
  have hargs : (vs.map (SV.den ρ)) = vs.map (SV.den fun _ => 0) := List.map_congr_left fun x hx => SV.den_agree hag (hvs x hx)
  rw [hargs]
  refine Calls.mono (h w) ?_
  rintro e w' ⟨v', s', ρ', rfl, _, _, _, hI', hs⟩
  refine ⟨v, s, ρ, ?_, Agree.refl _ _, Nat.le_refl _, SV.ok_mono (Nat.zero_le _) hv, hI.frame hI', hp⟩
  have h1 : v'.den ρ' = v.den ρ' := SV.sim_den hs
  have h2 : v.den ρ' = v.den ρ := SV.den_agree (n := 0) (fun i hi => absurd hi (Nat.not_lt_zero _)) hv
  rw [h1, h2]

theorem CallTree.args {g : FuncId} {vs vs' : List SV} {s : SW} {t : Tree (SV × SW)} (hs : simL SV.sim vs vs') (h : CallTree P g vs' s t) : CallTree P g vs s t := by
  intro W L ρ w post hI hok ht
  have e : vs.map (SV.den ρ) = vs'.map (SV.den ρ) := simL_map (fun _ _ h => SV.sim_den h) _ _ hs
  have hok' : ∀ v ∈ vs', v.ok s.length = true := List.all_eq_true.1 (simL_ok (fun _ _ h => SV.sim_ok h) _ _ hs (List.all_eq_true.2 hok))
  rw [e]
  exact h W L ρ w post hI hok' ht
end

theorem FlatV.cons_i {k : IntKind} {ks : List FK} {cs : List Value} (h : FlatV (.i k :: ks) cs) : ∃ n r, cs = .int k n :: r ∧ (Lit.int k n).wf = true ∧ FlatV ks r := by
  cases cs with
  | nil => exact h.elim
  | cons v vs => obtain ⟨⟨n, rfl, hw⟩, hr⟩ := h; exact ⟨n, vs, rfl, hw, hr⟩
theorem FlatV.cons_b {ks : List FK} {cs : List Value} (h : FlatV (.b :: ks) cs) : ∃ n r, cs = .bool n :: r ∧ FlatV ks r := by
  cases cs with
  | nil => exact h.elim
  | cons v vs => obtain ⟨⟨n, rfl⟩, hr⟩ := h; exact ⟨n, vs, rfl, hr⟩
theorem FlatV.cons_s {ks : List FK} {cs : List Value} (h : FlatV (.s :: ks) cs) : ∃ n r, cs = .string n :: r ∧ FlatV ks r := by
  cases cs with
  | nil => exact h.elim
  | cons v vs => obtain ⟨⟨n, rfl⟩, hr⟩ := h; exact ⟨n, vs, rfl, hr⟩
theorem FlatV.nil {cs : List Value} (h : FlatV [] cs) : cs = [] := by
  cases cs with
  | nil => rfl
  | cons v vs => exact h.elim
end Go.Proofs.Ytjacbodjkgiohaa.Ev

namespace Go.Proofs.Ytjacbodjkgiohaa.Ev
open Go Go.Proofs
/-! ### 15. Bits of unsigned numbers -/
theorem wrap_nat_u (k : IntKind) (hs : k.signed = false) (x : Nat) (hx : x < 2 ^ k.bits) : k.wrap (x : Int) = x := by
  unfold IntKind.wrap
  have : ((x : Int) % (2 : Int) ^ k.bits) = x := Int.emod_eq_of_lt (by omega) (by exact_mod_cast hx)
  simp [hs, this]
theorem ofInt_nat (w x : Nat) (hx : x < 2 ^ w) : (BitVec.ofInt w (x : Int)).toNat = x := by
  rw [BitVec.toNat_ofInt]
  have : ((x : Int) % ((2 ^ w : Nat) : Int)) = x := Int.emod_eq_of_lt (by omega) (by exact_mod_cast hx)
  rw [this]; simp
theorem bits_and_n (k : IntKind) (hs : k.signed = false) (x y : Nat) (hx : x < 2 ^ k.bits) (hy : y < 2 ^ k.bits) : bits .and k x y = ((x &&& y : Nat) : Int) := by
  unfold bits
  simp only []
  rw [BitVec.toNat_and, ofInt_nat _ _ hx, ofInt_nat _ _ hy, wrap_nat_u k hs _ (Nat.lt_of_le_of_lt Nat.and_le_left hx)]
theorem bits_or_n (k : IntKind) (hs : k.signed = false) (x y : Nat) (hx : x < 2 ^ k.bits) (hy : y < 2 ^ k.bits) : bits .or k x y = ((x ||| y : Nat) : Int) := by
  unfold bits
  simp only []
  rw [BitVec.toNat_or, ofInt_nat _ _ hx, ofInt_nat _ _ hy, wrap_nat_u k hs _ (Nat.or_lt_two_pow hx hy)]
theorem bits_xor_n (k : IntKind) (hs : k.signed = false) (x y : Nat) (hx : x < 2 ^ k.bits) (hy : y < 2 ^ k.bits) : bits .xor k x y = ((x ^^^ y : Nat) : Int) := by
  unfold bits
  simp only []
  rw [BitVec.toNat_xor, ofInt_nat _ _ hx, ofInt_nat _ _ hy, wrap_nat_u k hs _ (Nat.xor_lt_two_pow hx hy)]
theorem not_xor (w x : Nat) (hx : x < 2 ^ w) : (2 ^ w - 1) ^^^ x = 2 ^ w - 1 - x := by
  apply Nat.eq_of_testBit_eq
  intro i
  rw [Nat.testBit_xor, Nat.testBit_two_pow_sub_one]
  have h2 : 2 ^ w - 1 - x = 2 ^ w - (x + 1) := by omega
  rw [h2, Nat.testBit_two_pow_sub_succ hx]
  by_cases h : i < w
  · simp [h]
  · simp [h]
    exact Nat.testBit_lt_two_pow (Nat.lt_of_lt_of_le hx (Nat.pow_le_pow_right (by decide) (by omega)))
theorem bits_not_n (k : IntKind) (hs : k.signed = false) (x : Nat) (hx : x < 2 ^ k.bits) : bits .xor k ((2 ^ k.bits - 1 : Nat) : Int) x = ((2 ^ k.bits - 1 - x : Nat) : Int) := by
  rw [bits_xor_n k hs _ _ (by have := Nat.two_pow_pos k.bits; omega) hx, not_xor _ _ hx]
theorem not_u32 (x : Int) (h0 : 0 ≤ x) (h1 : x < 4294967296) : bits .xor .u32 4294967295 x = 4294967295 - x := by
  obtain ⟨n, rfl⟩ := Int.eq_ofNat_of_zero_le h0
  have := bits_not_n .u32 rfl n (by simp [IntKind.bits]; omega)
  simp [IntKind.bits] at this
  rw [this]; omega
/-- The top bit. -/
theorem top_bit (w x : Nat) (hx : x < 2 ^ (w + 1)) : x.testBit w = decide (2 ^ w ≤ x) := by
  rw [Nat.testBit_eq_decide_div_mod_eq]
  rw [Nat.pow_succ] at hx
  have h2 := Nat.two_pow_pos w
  by_cases h : 2 ^ w ≤ x
  · have : x / 2 ^ w = 1 := by
      apply Nat.div_eq_of_lt_le <;> omega
    simp [this, h]
  · have : x / 2 ^ w = 0 := Nat.div_eq_of_lt (by omega)
    simp [this, h]
theorem not_nat (w y : Nat) (hy : y < 2 ^ w) : ~~~(BitVec.ofInt w (y : Int)) = BitVec.ofInt w ((2 ^ w - 1 - y : Nat) : Int) := by
  apply BitVec.eq_of_toNat_eq
  rw [BitVec.toNat_not, ofInt_nat _ _ hy, ofInt_nat _ _ (by have := Nat.two_pow_pos w; omega)]
theorem bits_andNot_n (k : IntKind) (x : Int) (y : Nat) (hy : y < 2 ^ k.bits) : bits .andNot k x y = bits .and k x ((2 ^ k.bits - 1 - y : Nat) : Int) := by
  unfold bits
  simp only []
  rw [not_nat _ _ hy]
theorem andNot_u32 (a x : Int) (h0 : 0 ≤ x) (h1 : x < 4294967296) : bits .andNot .u32 a x = bits .and .u32 a (4294967295 - x) := by
  obtain ⟨n, rfl⟩ := Int.eq_ofNat_of_zero_le h0
  have := bits_andNot_n .u32 a n (by simp [IntKind.bits]; omega)
  simp [IntKind.bits] at this
  rw [this]; congr 1; omega
/-- What the bits' operations yield keeps to the kind. -/
theorem bits_bd (op : BinOp) (k : IntKind) (hs : k.signed = false) (x y : Int) : 0 ≤ bits op k x y ∧ bits op k x y < 2 ^ k.bits := by
  unfold bits
  unfold IntKind.wrap
  have hp : (0 : Int) < 2 ^ k.bits := Int.pow_pos (by decide)
  simp only [hs, Bool.false_and, Bool.false_eq_true, if_false]
  exact ⟨Int.emod_nonneg _ (by omega), Int.emod_lt_of_pos _ hp⟩
end Go.Proofs.Ytjacbodjkgiohaa.Ev

namespace Go.Proofs.Ytjacbodjkgiohaa.Ev
open Go Go.ChangeShapes Go.WideShapes Go.ChangeAt Go.RowKit
section
variable {H : Type} {enc : TypeId × Value → H} {P : Program}

/-! Structs and arrays of plain cells, however deep, opened. -/
def flatF (P : Program) (r : TypeId → Option (List FK)) : List Field → Nat → Option (List FK)
  | [], _ => some []
  | f :: fs, j => match r f.type with
    | none => none
    | some ks => cond (Nat.beq f.offset j && Nat.beq (P.cellsOf f.type) ks.length) (match flatF P r fs (j + ks.length) with | some l => some (ks ++ l) | none => none) none
def repL {α : Type} (l : List α) : Nat → List α
  | 0 => []
  | n + 1 => l ++ repL l n
def flatC (P : Program) : Nat → TypeId → Option (List FK)
  | 0, _ => none
  | d + 1, t => match P.underlying t with
    | some (.int k) => some [.i k]
    | some .bool => some [.b]
    | some .string => some [.s]
    | some (.struct fs) => (match flatF P (flatC P d) fs.toList 0 with | some ks => cond (Nat.beq (P.cellsOf t) ks.length) (some ks) none | none => none)
    | some (.array n e) => (match flatC P d e with | some ks => cond (Nat.beq (P.cellsOf t) (n * ks.length) && Nat.beq (P.cellsOf e) ks.length) (some (repL ks n)) none | none => none)
    | _ => none

theorem FlatV.length : ∀ {ks : List FK} {cs : List Value}, FlatV ks cs → cs.length = ks.length
  | [], [], _ => rfl
  | .i k :: ks, v :: vs, h => by simp [FlatV.length h.2]
  | .b :: ks, v :: vs, h => by simp [FlatV.length h.2]
  | .s :: ks, v :: vs, h => by simp [FlatV.length h.2]
  | [], _ :: _, h => h.elim
  | .i _ :: _, [], h => h.elim
  | .b :: _, [], h => h.elim
  | .s :: _, [], h => h.elim
theorem FlatV.append : ∀ {ks ks' : List FK} {cs cs' : List Value}, FlatV ks cs → FlatV ks' cs' → FlatV (ks ++ ks') (cs ++ cs')
  | [], _, [], _, _, h' => h'
  | .i k :: ks, _, v :: vs, _, h, h' => ⟨h.1, FlatV.append h.2 h'⟩
  | .b :: ks, _, v :: vs, _, h, h' => ⟨h.1, FlatV.append h.2 h'⟩
  | .s :: ks, _, v :: vs, _, h, h' => ⟨h.1, FlatV.append h.2 h'⟩
  | [], _, _ :: _, _, h, _ => h.elim
  | .i _ :: _, _, [], _, h, _ => h.elim
  | .b :: _, _, [], _, h, _ => h.elim
  | .s :: _, _, [], _, h, _ => h.elim

theorem flatF_sound {r : TypeId → Option (List FK)} {q : TypeId → List Value → Prop} (hr : ∀ t ks cs, r t = some ks → q t cs → FlatV ks cs) {cs : List Value} : ∀ (fs : List Field) (j : Nat) (ks : List FK),
    flatF P r fs j = some ks → (∀ f ∈ fs, q f.type ((cs.drop f.offset).take (P.cellsOf f.type))) → cs.length = j + ks.length → FlatV ks (cs.drop j)
  | [], j, ks, h, _, hl => by
    simp [flatF] at h; subst h
    rw [List.drop_of_length_le (by simp at hl; omega)]; trivial
  | f :: fs, j, ks, h, hf, hl => by
    simp only [flatF] at h
    split at h
    · cases h
    rename_i kf hk
    cases hc : (Nat.beq f.offset j && Nat.beq (P.cellsOf f.type) kf.length) <;> simp only [hc, cond_true, cond_false] at h
    · cases h
    simp only [Bool.and_eq_true] at hc
    have h1 := Nat.eq_of_beq_eq_true hc.1
    have h2 := Nat.eq_of_beq_eq_true hc.2
    split at h
    · rename_i l hl'
      simp at h; subst h
      have h3 := hr _ _ _ hk (hf f List.mem_cons_self)
      have h4 := flatF_sound hr fs (j + kf.length) l hl' (fun f hf' => hf f (List.mem_cons_of_mem _ hf')) (by simp at hl; omega)
      rw [h1, h2] at h3
      have := FlatV.append h3 h4
      rwa [← List.drop_drop, List.take_append_drop] at this
    · cases h

theorem repL_sound {ks : List FK} {m : Nat} {cs : List Value} (hm : m = ks.length) : ∀ (n j : Nat), cs.length = j * m + n * m → (∀ i, i < n → FlatV ks ((cs.drop ((j + i) * m)).take m)) → FlatV (repL ks n) (cs.drop (j * m))
  | 0, j, hl, _ => by
    rw [List.drop_of_length_le (by omega)]; trivial
  | n + 1, j, hl, h => by
    have h3 := h 0 (by omega)
    have hl' : cs.length = (j + 1) * m + n * m := by
      simp only [Nat.add_mul, Nat.one_mul] at hl ⊢; omega
    have h4 : FlatV (repL ks n) (cs.drop ((j + 1) * m)) := repL_sound hm n (j + 1) hl' (fun i hi => by
      have := h (i + 1) (by omega)
      rwa [show j + (i + 1) = j + 1 + i by omega] at this)
    simp only [Nat.add_zero] at h3
    have := FlatV.append h3 h4
    rw [Nat.add_mul, Nat.one_mul, ← List.drop_drop, List.take_append_drop] at this
    exact this

theorem flatC_sound {w : World} {base : Nat} {sp : Nat → Bool} {held : Bool} : ∀ (d : Nat) (t : TypeId) (ks : List FK) (n : Nat) (cs : List Value), flatC P d t = some ks →
    (∃ y, DataW.trod enc P w base sp held n t cs = some y) → FlatV ks cs := by
  intro d
  induction d with
  | zero => intro t ks n cs h; simp [flatC] at h
  | succ d ih =>
    intro t ks n cs h ⟨y, hy⟩
    simp only [flatC] at h
    split at h
    · rename_i k hu
      simp at h; subst h
      obtain ⟨m, rfl, _, hw⟩ := DataW.trod_int hu hy
      exact ⟨⟨m, rfl, hw⟩, trivial⟩
    · rename_i hu
      simp at h; subst h
      obtain ⟨m, rfl, _⟩ := DataW.trod_bool hu hy
      exact ⟨⟨m, rfl⟩, trivial⟩
    · rename_i hu
      simp at h; subst h
      obtain ⟨m, rfl, _⟩ := DataW.trod_string hu hy
      exact ⟨⟨m, rfl⟩, trivial⟩
    · rename_i fs hu
      split at h
      · rename_i ks' hk
        cases hc : Nat.beq (P.cellsOf t) ks'.length <;> simp only [hc, cond_true, cond_false] at h
        · cases h
        simp at h; subst h
        obtain ⟨xs, m, rfl, _, hl, hxl, hf⟩ := DataW.trod_struct hu hy
        have := flatF_sound (P := P) (q := fun t cs => ∃ y, DataW.trod enc P w base sp held m t cs = some y) (fun t ks cs h1 h2 => ih t ks m cs h1 h2) (cs := cs) fs.toList 0 ks' hk (fun f hf' => by
          obtain ⟨i, hi, he⟩ := List.getElem_of_mem hf'
          have h1 := hf i f (by rw [← he]; simp)
          have hi' : i < xs.length := by simpa [hxl] using hi
          exact ⟨xs[i], h1.trans (List.getElem?_eq_getElem hi')⟩) (by rw [hl, Nat.eq_of_beq_eq_true hc]; omega)
        simpa using this
      · cases h
    · rename_i len e hu
      split at h
      · rename_i ks' hk
        cases hc : (Nat.beq (P.cellsOf t) (len * ks'.length) && Nat.beq (P.cellsOf e) ks'.length) <;> simp only [hc, cond_true, cond_false] at h
        · cases h
        simp at h; subst h
        simp only [Bool.and_eq_true] at hc
        obtain ⟨xs, m, rfl, _, hl, hxl, hf⟩ := DataW.trod_array hu hy
        have h1 := Nat.eq_of_beq_eq_true hc.1
        have h2 := Nat.eq_of_beq_eq_true hc.2
        have := repL_sound (ks := ks') (cs := cs) h2 len 0 (by rw [hl, h1, h2]; omega) (fun i hi => by
          have h3 := hf i hi
          rw [Nat.zero_add]
          exact ih e ks' m _ hk ⟨xs[i]'(by omega), h3.trans (List.getElem?_eq_getElem (by omega))⟩)
        simpa using this
      · cases h
    · cases h

theorem deep_open {w : World} {base : Nat} {sp : Nat → Bool} {held : Bool} {r : Reach} {b0 : Nat} {t : TypeId} {fs : Array Field} {v : Value} {d : DataW H} {p : List MemPlace} {ks : List FK}
    (hu : P.underlying t = some (.struct fs)) (hb : flatC P 9 t = some ks) (hv : Value.okWide P w r b0 t v)
    (h : DataW.Trod enc P w base sp held t v d p) : ∃ cs : List Value, v = .agg cs.toArray ∧ FlatV ks cs := by
  obtain ⟨cs, rfl, hsz⟩ := okWide_struct hu hv
  obtain ⟨n, hn⟩ := h
  exact ⟨cs.toList, by simp, flatC_sound 9 t ks n _ hb ⟨_, hn⟩⟩
end
end Go.Proofs.Ytjacbodjkgiohaa.Ev
