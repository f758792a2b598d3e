import Derived.Orders
import Derived.RowKit3
import Derived.KernelRfl
import Derived.Laws.Entries
import Derived.Laws.Small
import Derived.Laws.Shifts
import Derived.Laws.StructEq
import Derived.Laws.Pointers
import Derived.OrdersHeld
/- A verified symbolic evaluator over the step machine: a function's body is run by the kernel on values that may be unknown; the run forks where a test is not known; the tree of its ends is sound for the machine. -/
set_option linter.unusedVariables false
set_option linter.unusedSimpArgs false
/-! A verified symbolic evaluator over the step machine: runs a list of things to do, forks where a test is not known, and gives a tree of ends. -/
namespace Go.Proofs.Ytpfdemmoapjjpaa.Ev
open Go

/-! ### 1. A list of things to do, as the machine has it -/

def TodoWp (P : Program) (t : List Item) (Q : Exit → Act → World → Prop) (a : Act) (w : World) : Prop :=
  ∀ (b : Frame) (k : List Item) (cs : List Frame),
    ∃ e a' w', Q e a' w' ∧ Arrives P (lone (b.at a (t ++ k)) cs w) b k cs e a' w'

theorem exitTo_append {id : Nat} {t t' : List Item} (h : exitTo id t = some t') (k : List Item) : exitTo id (t ++ k) = some (t' ++ k) := by
  induction t with
  | nil => simp [exitTo] at h
  | cons x t ih =>
    cases x <;> simp only [exitTo, List.cons_append] at h ⊢ <;> first | exact ih h | skip
    split at h
    · rename_i hh; simp only [hh, if_true]; simp at h; subst h; rfl
    · rename_i hh; simp only [hh]; exact ih h

section
variable {P : Program} {Q : Exit → Act → World → Prop} {a : Act} {w : World} {t : List Item}

theorem TodoWp.nil (h : Q .normal a w) : TodoWp P [] Q a w := fun b k cs => ⟨.normal, a, w, h, .refl _ _⟩

theorem TodoWp.step {x : Item} {t' : List Item}
    (hs : ∀ (b : Frame) (k : List Item) (cs : List Frame), step P (lone (b.at a (x :: (t ++ k))) cs w) = .next (lone (b.at a (t' ++ k)) cs w))
    (h : TodoWp P t' Q a w) : TodoWp P (x :: t) Q a w := fun b k cs =>
  let ⟨e, a', w', q, r⟩ := h b k cs
  ⟨e, a', w', q, .of_steps (.one (hs b k cs)) r⟩

theorem TodoWp.skip (h : TodoWp P t Q a w) : TodoWp P (.code .skip :: t) Q a w := .step (fun _ _ _ => step_skip) h
theorem TodoWp.label {l : Nat} (h : TodoWp P t Q a w) : TodoWp P (.code (.label l) :: t) Q a w := .step (fun _ _ _ => step_label) h
theorem TodoWp.inBlock {id : Nat} (h : TodoWp P t Q a w) : TodoWp P (.inBlock id :: t) Q a w := .step (fun _ _ _ => step_inBlock) h
theorem step_inScope' {P : Program} {b : Frame} {a : Act} {k : List Item} {cs : List Frame} {w : World} {c : Code} :
    step P (lone (b.at a (.inScope c :: k)) cs w) = .next (lone (b.at a k) cs w) :=
  step_lone_go (by simp [stepG, stepG.exec, Frame.at])
theorem step_scope' {P : Program} {b : Frame} {a : Act} {k : List Item} {cs : List Frame} {w : World} {c : Code} :
    step P (lone (b.at a (.code (.scope c) :: k)) cs w) = .next (lone (b.at a (.code c :: .inScope c :: k)) cs w) :=
  step_lone_go (by simp [stepG, stepG.exec, Frame.at])
theorem TodoWp.inScope {c : Code} (h : TodoWp P t Q a w) : TodoWp P (.inScope c :: t) Q a w := .step (fun _ _ _ => step_inScope') h
theorem TodoWp.scope {c : Code} (h : TodoWp P (.code c :: .inScope c :: t) Q a w) : TodoWp P (.code (.scope c) :: t) Q a w :=
  .step (fun _ _ _ => step_scope') h
theorem TodoWp.seq {x y : Code} (h : TodoWp P (.code x :: .code y :: t) Q a w) : TodoWp P (.code (.seq x y) :: t) Q a w :=
  .step (fun _ _ _ => step_seq) h
theorem TodoWp.block {id : Nat} {c : Code} (h : TodoWp P (.code c :: .inBlock id :: t) Q a w) : TodoWp P (.code (.block id c) :: t) Q a w :=
  .step (fun _ _ _ => step_block) h
theorem TodoWp.loop {c : Code} (h : TodoWp P (.code c :: .inLoop c :: t) Q a w) : TodoWp P (.code (.loop c) :: t) Q a w :=
  .step (fun _ _ _ => step_loop) h
theorem TodoWp.inLoop {c : Code} (h : TodoWp P (.code c :: .inLoop c :: t) Q a w) : TodoWp P (.inLoop c :: t) Q a w :=
  .step (fun _ _ _ => step_inLoop) h
theorem TodoWp.cond {c : Operand} {x y : Code} {b : Bool} (hc : a.eval c = .bool b) (h : TodoWp P (.code (if b then x else y) :: t) Q a w) :
    TodoWp P (.code (.cond c x y) :: t) Q a w := .step (fun _ _ _ => step_cond hc) h
theorem TodoWp.exit {id : Nat} {t' : List Item} (hk : exitTo id t = some t') (h : TodoWp P t' Q a w) : TodoWp P (.code (.exit id) :: t) Q a w :=
  .step (fun _ k _ => step_exit (exitTo_append hk k)) h
theorem TodoWp.ret (h : Q .ret a w) : TodoWp P (.code .ret :: t) Q a w := fun _ _ _ => ⟨.ret, a, w, h, _, .one step_ret⟩

/-- Only a normal end. -/
def Only (K : Act → World → Prop) : Exit → Act → World → Prop
  | .normal, a, w => K a w
  | _, _, _ => False

theorem TodoWp.code {c : Code} (h : c.wp P (Only (TodoWp P t Q)) a w) : TodoWp P (.code c :: t) Q a w := by
  intro b k cs
  obtain ⟨e, a₁, w₁, hq, harr⟩ := h b (t ++ k) cs
  cases e with
  | normal =>
    obtain ⟨e₂, a₂, w₂, hq₂, harr₂⟩ := hq b k cs
    exact ⟨e₂, a₂, w₂, hq₂, .of_steps harr harr₂⟩
  | _ => exact hq.elim

theorem TodoWp.wp {c : Code} (h : TodoWp P [.code c] Q a w) : c.wp P Q a w := fun b k cs => h b k cs

theorem TodoWp.mono {Q' : Exit → Act → World → Prop} (h : TodoWp P t Q a w) (hq : ∀ e a w, Q e a w → Q' e a w) : TodoWp P t Q' a w :=
  fun b k cs => let ⟨e, a', w', q, r⟩ := h b k cs; ⟨e, a', w', hq _ _ _ q, r⟩

/-- A loop by an invariant, as a thing to do. -/
theorem TodoWp.loopInv {c : Code} (I : Act → World → Prop) (μ : Act → World → Nat) (h₀ : I a w)
    (round : ∀ a w, I a w → TodoWp P (.code c :: .inLoop c :: t) (fun e a' w' => Q e a' w') a w ∨
      ∃ K : Act → World → Prop, c.wp P (Only K) a w ∧ ∀ a' w', K a' w' → I a' w' ∧ μ a' w' < μ a w) :
    TodoWp P (.code (.loop c) :: t) Q a w := by
  have key : ∀ n a w, μ a w = n → I a w → TodoWp P (.code c :: .inLoop c :: t) Q a w := by
    intro n
    induction n using Nat.strongRecOn with
    | _ n ih =>
      intro a w hn hI
      rcases round a w hI with h | ⟨K, hw, hK⟩
      · exact h
      · refine TodoWp.code ?_
        refine wp_mono hw ?_
        intro e a' w' he
        cases e <;> simp only [Only] at he ⊢
        obtain ⟨hI', hlt⟩ := hK _ _ he
        exact TodoWp.inLoop (ih _ (hn ▸ hlt) a' w' rfl hI')
  exact TodoWp.loop (key _ a w rfl h₀)
end
end Go.Proofs.Ytpfdemmoapjjpaa.Ev

namespace Go.Proofs.Ytpfdemmoapjjpaa.Ev
open Go.RowKit (Grown frozen?_alloc_cells)
open Go

/-! ### 2. Values of the evaluator -/

def inB (i : Int) (len : Nat) : Bool := decide (0 ≤ i) && decide (i < len)

inductive C where
  | b (lit : Bool) (v : Bool)
  | i (lit : Bool) (k : IntKind) (n : Int)
  | str (s : ByteArray)
  | p (blk off : Nat)
  | q (blk base n sz : Nat) (i : Int)
  | slc (blk off len cap : Nat)
  | fn (f : FuncId)
  | clo (f : FuncId) (caps : List (Nat × Nat))
  | x (v : Value)

inductive S1 where
  | c (x : C)
  | a (l : List C)

inductive SV where
  | c (x : C)
  | a (l : List C)
  | t (l : List S1)
  | any

def C.den (ρ : Nat → Nat) : C → Value
  | .b _ v => .bool v
  | .i _ k n => .int k n
  | .str s => .string s
  | .p blk off => .pointer (some ⟨ρ blk, off, none⟩)
  | .q blk base _ sz ix => .pointer (some ⟨ρ blk, base + ix.toNat * sz, none⟩)
  | .slc blk off len cap => .slice (some ⟨ρ blk, off, none⟩) len cap
  | .fn f => .func (.func f) #[] #[]
  | .clo f caps => .func (.func f) #[] (caps.map fun p => Value.pointer (some ⟨ρ p.1, p.2, none⟩)).toArray
  | .x v => v

def denL (ρ : Nat → Nat) (l : List C) : Array Value := (l.map (C.den ρ)).toArray
def S1.den (ρ : Nat → Nat) : S1 → Value
  | .c x => x.den ρ
  | .a l => .agg (denL ρ l)
def SV.den (ρ : Nat → Nat) : SV → Value
  | .c x => x.den ρ
  | .a l => .agg (denL ρ l)
  | .t l => .tuple (l.map (S1.den ρ)).toArray
  | .any => .tuple #[]
def SV.isAny : SV → Bool | .any => true | _ => false

def C.ok (n : Nat) : C → Bool
  | .p blk _ => Nat.blt blk n
  | .q blk _ m _ ix => Nat.blt blk n && inB ix m
  | .slc blk _ _ _ => Nat.blt blk n
  | .clo _ caps => caps.all fun p => Nat.blt p.1 n
  | _ => true
def okL (n : Nat) (l : List C) : Bool := l.all (C.ok n)
def S1.ok (n : Nat) : S1 → Bool
  | .c x => x.ok n
  | .a l => okL n l
def SV.ok (n : Nat) : SV → Bool
  | .c x => x.ok n
  | .a l => okL n l
  | .t l => l.all (S1.ok n)
  | .any => true

def Agree (n : Nat) (ρ ρ' : Nat → Nat) : Prop := ∀ i, i < n → ρ' i = ρ i
theorem Agree.refl (n : Nat) (ρ : Nat → Nat) : Agree n ρ ρ := fun _ _ => rfl
theorem Agree.trans {n m : Nat} {ρ ρ' ρ'' : Nat → Nat} (h : Agree n ρ ρ') (h' : Agree m ρ' ρ'') (hn : n ≤ m) : Agree n ρ ρ'' :=
  fun i hi => (h' i (Nat.lt_of_lt_of_le hi hn)).trans (h i hi)

theorem C.den_agree {n : Nat} {ρ ρ' : Nat → Nat} (h : Agree n ρ ρ') {x : C} (hx : x.ok n = true) : x.den ρ' = x.den ρ := by
  cases x with
  | clo f caps =>
    simp only [C.den, C.ok] at hx ⊢
    congr 2
    exact List.map_congr_left fun p hp => by rw [h _ (Nat.le_of_ble_eq_true (List.all_eq_true.1 hx p hp))]
  | p blk off => simp only [C.den, C.ok] at hx ⊢; rw [h _ (Nat.le_of_ble_eq_true hx)]
  | q blk base m sz ix => simp only [C.den, C.ok, Bool.and_eq_true] at hx ⊢; rw [h _ (Nat.le_of_ble_eq_true hx.1)]
  | slc blk off len cap => simp only [C.den, C.ok] at hx ⊢; rw [h _ (Nat.le_of_ble_eq_true hx)]
  | _ => rfl
theorem denL_agree {n : Nat} {ρ ρ' : Nat → Nat} (h : Agree n ρ ρ') {l : List C} (hl : okL n l = true) : denL ρ' l = denL ρ l := by
  unfold denL
  congr 1
  refine List.map_congr_left fun x hx => ?_
  exact C.den_agree h (List.all_eq_true.1 hl x hx)
theorem S1.den_agree {n : Nat} {ρ ρ' : Nat → Nat} (h : Agree n ρ ρ') {x : S1} (hx : x.ok n = true) : x.den ρ' = x.den ρ := by
  cases x with
  | c x => exact C.den_agree h hx
  | a l => simp only [S1.den]; rw [denL_agree h hx]
theorem SV.den_agree {n : Nat} {ρ ρ' : Nat → Nat} (h : Agree n ρ ρ') {x : SV} (hx : x.ok n = true) : x.den ρ' = x.den ρ := by
  cases x with
  | c x => exact C.den_agree h hx
  | a l => simp only [SV.den]; rw [denL_agree h hx]
  | t l =>
    simp only [SV.den]
    congr 2
    exact List.map_congr_left fun x hx' => S1.den_agree h (List.all_eq_true.1 hx x hx')
  | any => rfl

theorem C.ok_mono {n m : Nat} (h : n ≤ m) {x : C} (hx : x.ok n = true) : x.ok m = true := by
  cases x with
  | clo f caps =>
    simp only [C.ok] at hx ⊢
    exact List.all_eq_true.2 fun p hp => Nat.ble_eq_true_of_le (Nat.le_trans (Nat.le_of_ble_eq_true (List.all_eq_true.1 hx p hp)) h)
  | p blk off => simp only [C.ok] at hx ⊢; exact Nat.ble_eq_true_of_le (Nat.le_trans (Nat.le_of_ble_eq_true hx) h)
  | q blk base m' sz ix =>
    simp only [C.ok, Bool.and_eq_true] at hx ⊢
    exact ⟨Nat.ble_eq_true_of_le (Nat.le_trans (Nat.le_of_ble_eq_true hx.1) h), hx.2⟩
  | slc blk off len cap => simp only [C.ok] at hx ⊢; exact Nat.ble_eq_true_of_le (Nat.le_trans (Nat.le_of_ble_eq_true hx) h)
  | _ => rfl
theorem okL_mono {n m : Nat} (h : n ≤ m) {l : List C} (hl : okL n l = true) : okL m l = true :=
  List.all_eq_true.2 fun x hx => C.ok_mono h (List.all_eq_true.1 hl x hx)
theorem S1.ok_mono {n m : Nat} (h : n ≤ m) {x : S1} (hx : x.ok n = true) : x.ok m = true := by
  cases x with
  | c x => exact C.ok_mono h hx
  | a l => exact okL_mono h hx
theorem SV.ok_mono {n m : Nat} (h : n ≤ m) {x : SV} (hx : x.ok n = true) : x.ok m = true := by
  cases x with
  | c x => exact C.ok_mono h hx
  | a l => exact okL_mono h hx
  | t l => exact List.all_eq_true.2 fun x hx' => S1.ok_mono h (List.all_eq_true.1 hx x hx')
  | any => rfl

def undefS : SV := .t []
theorem undefS_den (ρ : Nat → Nat) : undefS.den ρ = undef := rfl
theorem undefS_ok (n : Nat) : undefS.ok n = true := rfl

/-- A cell made of a plain value. -/
def ofCell : Value → C
  | .bool v => .b true v
  | .int k n => .i true k n
  | .string s => .str s
  | v => .x v
theorem ofCell_den (ρ : Nat → Nat) (v : Value) : (ofCell v).den ρ = v := by cases v <;> rfl
theorem ofCell_ok (n : Nat) (v : Value) : (ofCell v).ok n = true := by cases v <;> rfl
def ofVal : Value → SV
  | .agg cs => .a (cs.toList.map ofCell)
  | v => .c (ofCell v)
theorem denL_ofCell (ρ : Nat → Nat) (cs : List Value) : denL ρ (cs.map ofCell) = cs.toArray := by
  unfold denL
  rw [List.map_map]
  congr 1
  have : (C.den ρ ∘ ofCell) = id := funext fun v => ofCell_den ρ v
  rw [this, List.map_id]
theorem okL_ofCell (n : Nat) (cs : List Value) : okL n (cs.map ofCell) = true :=
  List.all_eq_true.2 fun x hx => by obtain ⟨v, _, rfl⟩ := List.mem_map.1 hx; exact ofCell_ok n v
theorem ofVal_den (ρ : Nat → Nat) (v : Value) : (ofVal v).den ρ = v := by
  cases v with
  | agg cs => simp only [ofVal, SV.den]; rw [denL_ofCell]
  | _ => rfl
theorem ofVal_ok (n : Nat) (v : Value) : (ofVal v).ok n = true := by
  cases v with
  | agg cs => exact okL_ofCell n _
  | _ => rfl

/-! One of some cells, by a place that is not known. -/
def selI : List Int → Int → Int
  | [], _ => 0
  | x :: r, i => match r with
    | [] => x
    | _ :: _ => cond (i == 0) x (selI r (i - 1))
def selB : List Bool → Int → Bool
  | [], _ => false
  | x :: r, i => match r with
    | [] => x
    | _ :: _ => cond (i == 0) x (selB r (i - 1))
theorem selI_spec : ∀ (l : List Int) (i : Int), 0 ≤ i → i < l.length → l[i.toNat]? = some (selI l i)
  | [], i, h0, h1 => by simp at h1; omega
  | [x], i, h0, h1 => by
    have : i = 0 := by simp at h1; omega
    subst this; rfl
  | x :: y :: r, i, h0, h1 => by
    by_cases h : i = 0
    · subst h; rfl
    · have ih := selI_spec (y :: r) (i - 1) (by omega) (by simp at h1 ⊢; omega)
      have e : i.toNat = (i - 1).toNat + 1 := by omega
      have hb : (i == 0) = false := by simpa using h
      rw [e, List.getElem?_cons_succ, ih]
      show _ = some (cond (i == 0) x (selI (y :: r) (i - 1)))
      rw [hb]; rfl
theorem selB_spec : ∀ (l : List Bool) (i : Int), 0 ≤ i → i < l.length → l[i.toNat]? = some (selB l i)
  | [], i, h0, h1 => by simp at h1; omega
  | [x], i, h0, h1 => by
    have : i = 0 := by simp at h1; omega
    subst this; rfl
  | x :: y :: r, i, h0, h1 => by
    by_cases h : i = 0
    · subst h; rfl
    · have ih := selB_spec (y :: r) (i - 1) (by omega) (by simp at h1 ⊢; omega)
      have e : i.toNat = (i - 1).toNat + 1 := by omega
      have hb : (i == 0) = false := by simpa using h
      rw [e, List.getElem?_cons_succ, ih]
      show _ = some (cond (i == 0) x (selB (y :: r) (i - 1)))
      rw [hb]; rfl
def intsK {γ : Type} : List C → IntKind → (List Int → Option γ) → Option γ
  | [], _, K => K []
  | .i _ k' n :: r, k, K => if k' = k then intsK r k fun l => K (n :: l) else none
  | _, _, _ => none
def boolsK {γ : Type} : List C → (List Bool → Option γ) → Option γ
  | [], K => K []
  | .b _ v :: r, K => boolsK r fun l => K (v :: l)
  | _, _ => none
def selK {γ : Type} (cs : List C) (i : Int) (K : C → Option γ) : Option γ :=
  match cs with
  | .i _ k _ :: _ => intsK cs k fun l => K (.i false k (selI l i))
  | .b _ _ :: _ => boolsK cs fun l => K (.b false (selB l i))
  | _ => none
theorem intsK_spec {γ : Type} {k : IntKind} : ∀ (cs : List C) (K : List Int → Option γ) (r : γ), intsK cs k K = some r → ∃ l, K l = some r ∧ ∀ ρ, cs.map (C.den ρ) = l.map (Value.int k)
  | [], K, r, h => ⟨[], h, fun _ => rfl⟩
  | .i _ k' n :: cs, K, r, h => by
    simp only [intsK] at h
    split at h
    · rename_i hk
      subst hk
      obtain ⟨l, h1, h2⟩ := intsK_spec cs _ r h
      exact ⟨n :: l, h1, fun ρ => by simp only [List.map_cons, h2 ρ, C.den]⟩
    · cases h
  | .b _ _ :: _, _, _, h => by cases h
  | .str _ :: _, _, _, h => by cases h
  | .p _ _ :: _, _, _, h => by cases h
  | .q _ _ _ _ _ :: _, _, _, h => by cases h
  | .slc _ _ _ _ :: _, _, _, h => by cases h
  | .fn _ :: _, _, _, h => by cases h
  | .clo _ _ :: _, _, _, h => by cases h
  | .x _ :: _, _, _, h => by cases h
theorem boolsK_spec {γ : Type} : ∀ (cs : List C) (K : List Bool → Option γ) (r : γ), boolsK cs K = some r → ∃ l, K l = some r ∧ ∀ ρ, cs.map (C.den ρ) = l.map Value.bool
  | [], K, r, h => ⟨[], h, fun _ => rfl⟩
  | .b _ v :: cs, K, r, h => by
    obtain ⟨l, h1, h2⟩ := boolsK_spec cs _ r h
    exact ⟨v :: l, h1, fun ρ => by simp only [List.map_cons, h2 ρ, C.den]⟩
  | .i _ _ _ :: _, _, _, h => by cases h
  | .str _ :: _, _, _, h => by cases h
  | .p _ _ :: _, _, _, h => by cases h
  | .q _ _ _ _ _ :: _, _, _, h => by cases h
  | .slc _ _ _ _ :: _, _, _, h => by cases h
  | .fn _ :: _, _, _, h => by cases h
  | .clo _ _ :: _, _, _, h => by cases h
  | .x _ :: _, _, _, h => by cases h
theorem selK_spec {γ : Type} {cs : List C} {i : Int} {K : C → Option γ} {r : γ} (h : selK cs i K = some r) (hi : inB i cs.length = true) :
    ∃ c, K c = some r ∧ (∀ ρ, (cs[i.toNat]?).map (C.den ρ) = some (c.den ρ)) ∧ ∀ n, c.ok n = true := by
  simp only [inB, Bool.and_eq_true, decide_eq_true_eq] at hi
  unfold selK at h
  split at h
  · rename_i _ k _ _
    obtain ⟨l, h1, h2⟩ := intsK_spec _ _ _ h
    refine ⟨_, h1, fun ρ => ?_, fun n => rfl⟩
    have h3 := h2 ρ
    have hl := (congrArg List.length h3).symm
    rw [List.length_map, List.length_map] at hl
    rw [← List.getElem?_map, h3, List.getElem?_map, selI_spec l i hi.1 (by rw [hl]; exact hi.2)]
    rfl
  · obtain ⟨l, h1, h2⟩ := boolsK_spec _ _ _ h
    refine ⟨_, h1, fun ρ => ?_, fun n => rfl⟩
    have h3 := h2 ρ
    have hl := (congrArg List.length h3).symm
    rw [List.length_map, List.length_map] at hl
    rw [← List.getElem?_map, h3, List.getElem?_map, selB_spec l i hi.1 (by rw [hl]; exact hi.2)]
    rfl
  · cases h

/-! ### 3. The frame as a tree of slots -/

inductive Tr where
  | e
  | n (l : Tr) (v : SV) (r : Tr)

def Tr.get : Tr → Nat → SV
  | .e, _ => undefS
  | .n l v r, k => cond (Nat.beq k 0) v (cond (Nat.beq (k % 2) 1) (l.get (k / 2)) (r.get (k / 2 - 1)))
def Tr.has : Tr → Nat → Bool
  | .e, _ => false
  | .n l _ r, k => cond (Nat.beq k 0) true (cond (Nat.beq (k % 2) 1) (l.has (k / 2)) (r.has (k / 2 - 1)))
def Tr.set : Tr → Nat → SV → Tr
  | .e, _, _ => .e
  | .n l x r, k, v => cond (Nat.beq k 0) (.n l v r) (cond (Nat.beq (k % 2) 1) (.n (l.set (k / 2) v) x r) (.n l x (r.set (k / 2 - 1) v)))
def Tr.setK {β : Type} : Tr → Nat → SV → (Tr → β) → β
  | .e, _, _, K => K .e
  | .n l x r, k, v, K => cond (Nat.beq k 0) (K (.n l v r))
      (cond (Nat.beq (k % 2) 1) (l.setK (k / 2) v fun l' => K (.n l' x r)) (r.setK (k / 2 - 1) v fun r' => K (.n l x r')))

theorem Tr.setK_eq {β : Type} (t : Tr) : ∀ (k : Nat) (v : SV) (K : Tr → β), t.setK k v K = K (t.set k v) := by
  induction t with
  | e => intros; rfl
  | n l x r ihl ihr =>
    intro k v K
    simp only [Tr.setK, Tr.set, ihl, ihr]
    cases Nat.beq k 0 <;> cases Nat.beq (k % 2) 1 <;> rfl

theorem Tr.get_set (t : Tr) : ∀ (k : Nat) (v : SV) (j : Nat), t.has k = true → (t.set k v).get j = if j = k then v else t.get j := by
  induction t with
  | e => intro k v j h; simp [Tr.has] at h
  | n l x r ihl ihr =>
    intro k v j h
    simp only [Tr.has, Tr.set] at h ⊢
    by_cases hk : k = 0
    · subst hk
      simp only [Nat.beq, cond_true]
      by_cases hj : j = 0
      · subst hj; simp [Tr.get]
      · have : Nat.beq j 0 = false := by cases j <;> simp_all [Nat.beq]
        simp [Tr.get, this, hj]
    · have hk0 : Nat.beq k 0 = false := by cases k <;> simp_all [Nat.beq]
      simp only [hk0, cond_false] at h ⊢
      by_cases hp : k % 2 = 1
      · have hp1 : Nat.beq (k % 2) 1 = true := by rw [hp]; rfl
        simp only [hp1, cond_true] at h ⊢
        by_cases hj : j = 0
        · subst hj; simp [Tr.get, Ne.symm hk]
        · have hj0 : Nat.beq j 0 = false := by cases j <;> simp_all [Nat.beq]
          simp only [Tr.get, hj0, cond_false]
          by_cases hq : j % 2 = 1
          · have hq1 : Nat.beq (j % 2) 1 = true := by rw [hq]; rfl
            simp only [hq1, cond_true]
            rw [ihl _ _ _ h]
            have : (j / 2 = k / 2) ↔ (j = k) := by omega
            simp only [this]
          · have hq1 : Nat.beq (j % 2) 1 = false := by
              have : j % 2 = 0 := by omega
              rw [this]; rfl
            have : j ≠ k := by omega
            simp [hq1, this]
      · have hp1 : Nat.beq (k % 2) 1 = false := by
          have : k % 2 = 0 := by omega
          rw [this]; rfl
        simp only [hp1, cond_false] at h ⊢
        by_cases hj : j = 0
        · subst hj; simp [Tr.get, Ne.symm hk]
        · have hj0 : Nat.beq j 0 = false := by cases j <;> simp_all [Nat.beq]
          simp only [Tr.get, hj0, cond_false]
          by_cases hq : j % 2 = 1
          · have hq1 : Nat.beq (j % 2) 1 = true := by rw [hq]; rfl
            have : j ≠ k := by omega
            simp [hq1, this]
          · have hq1 : Nat.beq (j % 2) 1 = false := by
              have : j % 2 = 0 := by omega
              rw [this]; rfl
            simp only [hq1, cond_false]
            rw [ihr _ _ _ h]
            have : (j / 2 - 1 = k / 2 - 1) ↔ (j = k) := by omega
            simp only [this]

def Tr.mk : Nat → Tr
  | 0 => .e
  | d + 1 => .n (Tr.mk d) undefS (Tr.mk d)
theorem Tr.get_mk (d : Nat) : ∀ k, (Tr.mk d).get k = undefS := by
  induction d with
  | zero => intro; rfl
  | succ d ih =>
    intro k
    simp only [Tr.mk, Tr.get, ih]
    cases Nat.beq k 0 <;> cases Nat.beq (k % 2) 1 <;> rfl
theorem Tr.has_set (t : Tr) : ∀ (k : Nat) (v : SV) (j : Nat), (t.set k v).has j = t.has j := by
  induction t with
  | e => intros; rfl
  | n l x r ihl ihr =>
    intro k v j
    simp only [Tr.set]
    cases Nat.beq k 0 <;> cases Nat.beq (k % 2) 1 <;> simp [Tr.has, ihl, ihr]

/-- The frame: how many slots, and what is in them. -/
structure Fr where
  nt : Nat
  tr : Tr

def Fr.get (f : Fr) (t : Nat) : Option SV := cond (Nat.blt t f.nt) (match f.tr.get t with | .any => none | v => some v) none
def Fr.putK {β : Type} (f : Fr) (dst : Option Nat) (v : SV) (fail : β) (K : Fr → β) : β :=
  match dst with
  | none => K f
  | some d => cond (Nat.blt d f.nt && f.tr.has d) (f.tr.setK d v fun t => K ⟨f.nt, t⟩) fail

structure FrRel (n : Nat) (ρ : Nat → Nat) (f : Fr) (a : Act) : Prop where
  size : a.tmps.size = f.nt
  val : ∀ t, t < f.nt → (f.tr.get t).isAny = false → a.tmps[t]? = some ((f.tr.get t).den ρ)
  ok : ∀ t, t < f.nt → (f.tr.get t).ok n = true
  defers : a.defers = []

theorem FrRel.agree {n m : Nat} {ρ ρ' : Nat → Nat} {f : Fr} {a : Act} (h : FrRel n ρ f a) (hag : Agree n ρ ρ') (hn : n ≤ m) : FrRel m ρ' f a :=
  ⟨h.size, fun t ht hn' => by rw [SV.den_agree hag (h.ok t ht)]; exact h.val t ht hn', fun t ht => SV.ok_mono hn (h.ok t ht), h.defers⟩

theorem FrRel.get {n : Nat} {ρ : Nat → Nat} {f : Fr} {a : Act} (h : FrRel n ρ f a) {t : Nat} {v : SV} (hg : f.get t = some v) :
    a.tmps.getD t undef = v.den ρ ∧ v.ok n = true ∧ a.tmps[t]? = some (v.den ρ) := by
  unfold Fr.get at hg
  by_cases ht : t < f.nt
  · have hb : Nat.blt t f.nt = true := Nat.ble_eq_true_of_le ht
    simp only [hb, cond_true] at hg
    have key : (f.tr.get t).isAny = false ∧ f.tr.get t = v := by
      split at hg
      · cases hg
      · rename_i hne
        simp at hg
        refine ⟨?_, hg⟩
        cases hc : f.tr.get t <;> first | rfl | exact absurd hc hne
    obtain ⟨hna, rfl⟩ := key
    refine ⟨?_, h.ok t ht, h.val t ht hna⟩
    have := h.val t ht hna
    rw [Array.getD_eq_getD_getElem?, this]; rfl
  · have hb : Nat.blt t f.nt = false := by
      cases hc : Nat.blt t f.nt
      · rfl
      · exact absurd (Nat.le_of_ble_eq_true hc) ht
    simp [hb] at hg

theorem FrRel.put {n : Nat} {ρ : Nat → Nat} {f : Fr} {a : Act} (h : FrRel n ρ f a) {d : Nat} {v : SV} (hd : d < f.nt) (hh : f.tr.has d = true) (hv : v.ok n = true) :
    FrRel n ρ ⟨f.nt, f.tr.set d v⟩ (a.put (some d) (v.den ρ)) := by
  refine ⟨by simp [Act.put, h.size], fun t ht hna => ?_, fun t ht => ?_, h.defers⟩
  · simp only [Act.put]
    simp only [] at hna
    rw [Tr.get_set _ _ _ _ hh] at hna ⊢
    by_cases htd : t = d
    · subst htd
      simp [h.size, hd]
    · have htd' : d ≠ t := fun e => htd e.symm
      rw [if_neg htd] at hna
      rw [Array.getElem?_setIfInBounds_ne htd', if_neg htd]
      exact h.val t ht hna
  · simp only []
    rw [Tr.get_set _ _ _ _ hh]
    split
    · exact hv
    · exact h.ok t ht

/-! ### 4. The memory -/

structure Bl where
  cs : List C
  ty : TypeId

abbrev SW := List Bl

structure Inv (W : World) (L : Nat) (ρ : Nat → Nat) (s : SW) (w : World) : Prop where
  blk : ∀ (i : Nat) (b : Bl), s[i]? = some b → w.heap[ρ i]? = some (.cells (denL ρ b.cs) b.ty (0, 0))
  okc : ∀ (i : Nat) (b : Bl), s[i]? = some b → okL s.length b.cs = true
  inj : ∀ i j, i < s.length → j < s.length → ρ i = ρ j → i = j
  grow : W.heap.size ≤ w.heap.size
  old : ∀ b, b < W.heap.size → (∀ i, i < L → ρ i ≠ b) → w.heap[b]? = W.heap[b]?
  fresh : ∀ i, L ≤ i → i < s.length → W.heap.size ≤ ρ i
  frz : ∀ a, w.frozen? a = W.frozen? a
  os : w.os = W.os
  out : w.output = W.output
  tape : w.tape = W.tape
  len : L ≤ s.length

theorem Inv.lt {W : World} {L : Nat} {ρ : Nat → Nat} {s : SW} {w : World} (h : Inv W L ρ s w) {i : Nat} (hi : i < s.length) : ρ i < w.heap.size := by
  have := h.blk i s[i] (List.getElem?_eq_getElem hi)
  exact (Array.getElem?_eq_some_iff.1 this).1

theorem Inv.drawn {W : World} {L : Nat} {ρ : Nat → Nat} {s : SW} {w : World} (h : Inv W L ρ s w) (n : Nat) : Inv W L ρ s { w with drawn := n } :=
  ⟨h.blk, h.okc, h.inj, h.grow, h.old, h.fresh, h.frz, h.os, h.out, h.tape, h.len⟩

/-- A new block. -/
theorem Inv.alloc {W : World} {L : Nat} {ρ : Nat → Nat} {s : SW} {w : World} (h : Inv W L ρ s w) (cs : List C) (ty : TypeId) (hcs : okL s.length cs = true) :
    ∃ ρ', Agree s.length ρ ρ' ∧ ρ' s.length = w.heap.size ∧
      Inv W L ρ' (s ++ [⟨cs, ty⟩]) { w with heap := w.heap.push (.cells (denL ρ cs) ty) } := by
  refine ⟨fun i => if i = s.length then w.heap.size else ρ i, fun i hi => by simp [Nat.ne_of_lt hi], by simp, ?_⟩
  have hag : Agree s.length ρ (fun i => if i = s.length then w.heap.size else ρ i) := fun i hi => by simp [Nat.ne_of_lt hi]
  refine ⟨fun i b hb => ?_, fun i b hb => ?_, fun i j hi hj hij => ?_, ?_, fun b hb hL => ?_, fun i hL hi => ?_, fun a => ?_, h.os, h.out, h.tape, ?_⟩
  · by_cases hi : i < s.length
    · rw [List.getElem?_append_left hi] at hb
      simp only [Nat.ne_of_lt hi, if_false]
      have := h.blk i b hb
      have hlt : ρ i < w.heap.size := h.lt hi
      rw [Array.getElem?_push_lt hlt]
      rw [Array.getElem?_eq_getElem hlt] at this
      rw [this, denL_agree hag (h.okc i b hb)]
    · have hi' : i = s.length := by
        have := (List.getElem?_eq_some_iff.1 hb).1
        simp at this; omega
      subst hi'
      simp at hb
      subst hb
      simp only [if_true]
      rw [denL_agree hag hcs]
      simp
  · have hlen : (s ++ [⟨cs, ty⟩] : List Bl).length = s.length + 1 := by simp
    rw [hlen]
    by_cases hi : i < s.length
    · rw [List.getElem?_append_left hi] at hb
      exact okL_mono (Nat.le_succ _) (h.okc i b hb)
    · have hi' : i = s.length := by
        have := (List.getElem?_eq_some_iff.1 hb).1
        simp at this; omega
      subst hi'
      simp at hb
      subst hb
      exact okL_mono (Nat.le_succ _) hcs
  · simp at hi hj
    by_cases h1 : i = s.length <;> by_cases h2 : j = s.length <;> simp only [h1, h2, if_true, if_false] at hij ⊢
    · have := h.lt (i := j) (by omega); omega
    · have := h.lt (i := i) (by omega); omega
    · exact h.inj i j (by omega) (by omega) hij
  · simp; have := h.grow; omega
  · have hne : ∀ i, i < L → ρ i ≠ b := fun i hi e => hL i hi (by have := h.len; simp [Nat.ne_of_lt (Nat.lt_of_lt_of_le hi this), e])
    rw [← h.old b hb hne]
    exact Array.getElem?_push_lt (Nat.lt_of_lt_of_le hb h.grow) |>.trans (Array.getElem?_eq_getElem (Nat.lt_of_lt_of_le hb h.grow)).symm
  · simp at hi
    by_cases h1 : i = s.length
    · simp [h1]; exact h.grow
    · simp only [h1, if_false]; exact h.fresh i hL (by omega)
  · have := frozen?_alloc_cells w (denL ρ cs) ty a
    exact this.trans (h.frz a)
  · simp; have := h.len; omega

/-- A store into a cell. -/
theorem Inv.store {W : World} {L : Nat} {ρ : Nat → Nat} {s : SW} {w : World} (h : Inv W L ρ s w) {i off : Nat} {b : Bl} {v : C} (hb : s[i]? = some b) (_ho : off < b.cs.length)
    (hv : v.ok s.length = true) : Inv W L ρ (s.set i ⟨b.cs.set off v, b.ty⟩) (w.setCell ⟨ρ i, off, none⟩ (v.den ρ)) := by
  have hi : i < s.length := (List.getElem?_eq_some_iff.1 hb).1
  have hlt := h.lt hi
  have hw := h.blk i b hb
  have hheap : (w.setCell ⟨ρ i, off, none⟩ (v.den ρ)).heap = w.heap.setIfInBounds (ρ i) (.cells (denL ρ (b.cs.set off v)) b.ty (0, 0)) := by
    unfold World.setCell
    simp only [Option.isSome_none, Bool.false_eq_true, if_false]
    apply Array.ext_getElem?
    intro j
    rw [Array.getElem?_modify]
    by_cases hj : ρ i = j
    · subst hj
      simp only [if_true]
      rw [hw]
      simp only [Option.map_some]
      rw [Array.getElem?_setIfInBounds_self]
      simp only [hlt, if_true]
      simp only [denL, List.map_set, List.setIfInBounds_toArray]
    · rw [Array.getElem?_setIfInBounds_ne hj]
      simp [hj]
  refine ⟨fun j c hc => ?_, fun j c hc => ?_, fun j k hj hk e => ?_, ?_, fun c hc hL => ?_, fun j hL hj => ?_, fun a => ?_, h.os, h.out, h.tape, by simpa using h.len⟩
  · rw [hheap]
    by_cases hji : i = j
    · subst hji
      rw [List.getElem?_set_self hi] at hc
      simp at hc; subst hc
      simp [hlt]
    · rw [List.getElem?_set_ne hji] at hc
      have hjl : j < s.length := (List.getElem?_eq_some_iff.1 hc).1
      have : ρ i ≠ ρ j := fun e => hji (h.inj i j hi hjl e)
      rw [Array.getElem?_setIfInBounds_ne this]
      exact h.blk j c hc
  · rw [List.length_set]
    by_cases hji : i = j
    · subst hji
      rw [List.getElem?_set_self hi] at hc
      simp at hc; subst hc
      refine List.all_eq_true.2 fun x hx => ?_
      rcases List.mem_or_eq_of_mem_set hx with hx | rfl
      · exact List.all_eq_true.1 (h.okc i b hb) x hx
      · exact hv
    · rw [List.getElem?_set_ne hji] at hc
      exact h.okc j c hc
  · simp at hj hk; exact h.inj j k hj hk e
  · rw [hheap]; simpa using h.grow
  · rw [hheap]
    have : ρ i ≠ c := by
      by_cases hiL : i < L
      · exact hL i hiL
      · have := h.fresh i (by omega) hi; omega
    rw [Array.getElem?_setIfInBounds_ne this]
    exact h.old c hc hL
  · simp at hj; exact h.fresh j hL hj
  · rw [← h.frz a]
    unfold World.frozen?
    rw [hheap]
    by_cases hj : ρ i = a.block
    · rw [← hj, hw]
      simp [hlt]
    · rw [Array.getElem?_setIfInBounds_ne hj]

theorem Inv.grown {W : World} {ρ : Nat → Nat} {s : SW} {w : World} (h : Inv W 0 ρ s w) : Grown W w := by
  refine ⟨⟨h.os, h.out, fun i hi => ?_⟩, h.frz, h.grow⟩
  have := h.old i hi (by simp)
  rw [this]
  cases hW : W.heap[i]? with
  | none => simp
  | some o => cases o <;> simp

theorem Inv.start (W : World) : Inv W 0 (fun _ => 0) [] W :=
  ⟨by simp, by simp, by simp, Nat.le_refl _, fun _ _ _ => rfl, by simp, fun _ => rfl, rfl, rfl, rfl, Nat.le_refl _⟩

/-- A cell read. -/
theorem Inv.cell {W : World} {L : Nat} {ρ : Nat → Nat} {s : SW} {w : World} (h : Inv W L ρ s w) {i off : Nat} {b : Bl} {v : C} (hb : s[i]? = some b) (hv : b.cs[off]? = some v) :
    w.cell? ⟨ρ i, off, none⟩ = some (v.den ρ) ∧ v.ok s.length = true := by
  refine ⟨?_, List.all_eq_true.1 (h.okc i b hb) v (List.mem_of_getElem? hv)⟩
  unfold World.cell?
  simp only [h.blk i b hb, Option.isSome_none, Bool.false_eq_true, if_false, denL]
  simp [hv]
theorem Inv.thawed {W : World} {L : Nat} {ρ : Nat → Nat} {s : SW} {w : World} (h : Inv W L ρ s w) {i off : Nat} {b : Bl} (hb : s[i]? = some b) :
    w.frozen? ⟨ρ i, off, none⟩ = false := by
  unfold World.frozen?
  simp [h.blk i b hb]
end Go.Proofs.Ytpfdemmoapjjpaa.Ev

namespace Go.Proofs.Ytpfdemmoapjjpaa.Ev
open Go

/-! ### 5. Operations that do not look at the memory -/

def forceN {β : Type} (n : Nat) (k : Nat → β) : β := match n with | 0 => k 0 | m + 1 => k (m + 1)
theorem forceN_eq {β : Type} (n : Nat) (k : Nat → β) : forceN n k = k n := by cases n <;> rfl
def forceI {β : Type} (n : Int) (k : Int → β) : β :=
  match n with | .ofNat m => forceN m fun m' => k (.ofNat m') | .negSucc m => forceN m fun m' => k (.negSucc m')
theorem forceI_eq {β : Type} (n : Int) (k : Int → β) : forceI n k = k n := by cases n <;> simp [forceI, forceN_eq]

/-- A result, with what must hold for it. -/
structure R where
  nd : List Bool
  v : SV

def intR (lit : Bool) (k : IntKind) (n : Int) : Option R :=
  cond lit (forceI n fun n' => some ⟨[], .c (.i true k n')⟩) (some ⟨[], .c (.i false k n)⟩)
def boolR (lit : Bool) (v : Bool) : Option R :=
  cond lit (cond v (some ⟨[], .c (.b true true)⟩) (some ⟨[], .c (.b true false)⟩)) (some ⟨[], .c (.b false v)⟩)

theorem intR_eq (lit : Bool) (k : IntKind) (n : Int) : intR lit k n = some ⟨[], .c (.i lit k n)⟩ := by
  cases lit <;> simp [intR, forceI_eq]
theorem boolR_eq (lit : Bool) (v : Bool) : boolR lit v = some ⟨[], .c (.b lit v)⟩ := by
  cases lit <;> cases v <;> rfl

/-- With a need: where it is known it must be so, else it is left to be shown. -/
def needR (lit : Bool) (nd : Bool) (r : Option R) : Option R :=
  cond lit (cond nd r none) (match r with | some ⟨l, v⟩ => some ⟨nd :: l, v⟩ | none => none)

def bitsOp (op : BinOp) (k : IntKind) (a b : Int) : Int := bits op k a b

def intBin (op : BinOp) (l : Bool) (k : IntKind) (a : Int) (l' : Bool) (k' : IntKind) (b : Int) : Option R :=
  match op with
  | .shl => needR l' (decide (0 ≤ b)) (cond l' (forceN (min b.toNat k.bits) fun n => intR l k (k.wrap (a * 2 ^ n))) (intR false k (k.wrap (a * 2 ^ min b.toNat k.bits))))
  | .shr => needR l' (decide (0 ≤ b)) (cond l' (forceN (min b.toNat k.bits) fun n => intR l k (a.fdiv (2 ^ n))) (intR false k (a.fdiv (2 ^ min b.toNat k.bits))))
  | op => if k = k' then
      match op with
      | .add => intR (l && l') k (k.wrap (a + b))
      | .sub => intR (l && l') k (k.wrap (a - b))
      | .mul => intR (l && l') k (k.wrap (a * b))
      | .quo => needR l' (!(decide (b = 0))) (intR (l && l') k (k.wrap (a.tdiv b)))
      | .rem => needR l' (!(decide (b = 0))) (intR (l && l') k (a.tmod b))
      | .and => intR (l && l') k (bits .and k a b)
      | .or => intR (l && l') k (bits .or k a b)
      | .xor => intR (l && l') k (bits .xor k a b)
      | .andNot => intR (l && l') k (bits .andNot k a b)
      | .eql => boolR (l && l') (a == b)
      | .neq => boolR (l && l') (a != b)
      | .lss => boolR (l && l') (decide (a < b))
      | .leq => boolR (l && l') (decide (a ≤ b))
      | .gtr => boolR (l && l') (decide (a > b))
      | .geq => boolR (l && l') (decide (a ≥ b))
      | _ => none
    else none

def allT (l : List Bool) : Prop := ∀ b, b ∈ l → b = true

theorem needR_sound {lit nd : Bool} {r : Option R} {x : R} (h : needR lit nd r = some x) (hn : allT x.nd) :
    nd = true ∧ ∃ y, r = some y ∧ y.v = x.v ∧ allT y.nd := by
  cases lit
  · simp only [needR, cond_false] at h
    cases r with
    | none => simp at h
    | some y =>
      obtain ⟨l, v⟩ := y
      simp at h
      subst h
      exact ⟨hn _ (List.mem_cons_self), _, rfl, rfl, fun b hb => hn b (List.mem_cons_of_mem _ hb)⟩
  · simp only [needR, cond_true] at h
    cases nd
    · simp at h
    · simp at h
      exact ⟨rfl, x, h, rfl, hn⟩

section
variable {P : Program} {ρ : Nat → Nat} {n : Nat}

theorem intBin_sound {op : BinOp} {l l' : Bool} {k k' : IntKind} {a b : Int} {r : R} (h : intBin op l k a l' k' b = some r) (hn : allT r.nd)
    (t : TypeId) (x y : Operand) :
    (∀ w, (do eqGuard op t x y (.int k a) (.int k' b); binOp op t (.int k a) (.int k' b) : Sem Value).run P w = .ok (r.v.den ρ) w) ∧ r.v.ok n = true := by
  have hg : eqGuard op t x y (.int k a) (.int k' b) = pure () := eqGuard_at_int ..
  simp only [hg]
  have key : ∀ (q : Sem Value) (v : SV), q = pure (v.den ρ) → v.ok n = true → r.v = v → (∀ w, (do (pure () : Sem Unit); q : Sem Value).run P w = .ok (r.v.den ρ) w) ∧ r.v.ok n = true := by
    intro q v hq hv hr
    subst hq
    rw [hr]
    exact ⟨fun w => rfl, hv⟩
  by_cases hs : op = .shl
  · subst hs
    simp only [intBin] at h
    obtain ⟨h0, y, hy, hv, _⟩ := needR_sound h hn
    have h0' : ¬ (b < 0) := by have := of_decide_eq_true h0; omega
    refine key _ (.c (.i (l && l') k (k.wrap (a * 2 ^ min b.toNat k.bits)))) ?_ rfl ?_
    · rw [binOp_shl]; simp [Op.shift, h0', SV.den, C.den]
    · rw [← hv]
      cases l' <;> simp [forceN_eq, intR_eq] at hy <;> subst hy <;> simp
  by_cases hs' : op = .shr
  · subst hs'
    simp only [intBin] at h
    obtain ⟨h0, y, hy, hv, _⟩ := needR_sound h hn
    have h0' : ¬ (b < 0) := by have := of_decide_eq_true h0; omega
    refine key _ (.c (.i (l && l') k (a.fdiv (2 ^ min b.toNat k.bits)))) ?_ rfl ?_
    · rw [binOp_shr]; simp [Op.shift, h0', SV.den, C.den]
    · rw [← hv]
      cases l' <;> simp [forceN_eq, intR_eq] at hy <;> subst hy <;> simp
  by_cases hk : k = k'
  · subst hk
    cases op <;> simp only [intBin, if_true, intR_eq, boolR_eq] at h <;> try contradiction
    case quo =>
      obtain ⟨h0, y, hy, hv, _⟩ := needR_sound h hn
      have h0' : ¬ (b = 0) := by simpa using h0
      simp at hy; subst hy
      refine key _ _ ?_ ?_ hv.symm
      · rw [binOp_quo]; simp [Op.intDiv, h0', SV.den, C.den]
      · rfl
    case rem =>
      obtain ⟨h0, y, hy, hv, _⟩ := needR_sound h hn
      have h0' : ¬ (b = 0) := by simpa using h0
      simp at hy; subst hy
      refine key _ _ ?_ ?_ hv.symm
      · rw [binOp_rem]; simp [Op.intDiv, h0', SV.den, C.den]
      · rfl
    all_goals
      simp only [Option.some.injEq] at h
      subst h
      refine key _ _ ?_ ?_ rfl
      · simp [go_sem, Op.intArith, SV.den, C.den, binOp_eql, binOp_neq, binOp_lss, binOp_leq, binOp_gtr, binOp_geq, binOp_add, binOp_sub, binOp_mul, binOp_and, binOp_or, binOp_xor, binOp_andNot]
      · rfl
  · cases op <;> simp [intBin, hk] at h hs hs'

theorem run_underlying' {t : TypeId} {d : TypeDesc} (h : P.underlying t = some d) (w : World) : (underlying t).run P w = .ok d w := run_underlying h w
theorem run_sizeOf {t : TypeId} {i : TypeInfo} (h : P.info? t = some i) (w : World) : (sizeOf t).run P w = .ok i.size w := by
  simp [sizeOf, typeInfo, h]
/-- Is the type a struct or an array? -/
def aggB : TypeDesc → Bool | .struct _ | .array _ _ => true | _ => false

theorem run_isAgg {t : TypeId} {d : TypeDesc} (h : P.underlying t = some d) (w : World) : (isAgg t).run P w = .ok (aggB d) w := by
  unfold isAgg
  simp only [Sem.run_bind, run_underlying h, Result.andThen_ok]
  cases d <;> rfl

/-- A part of an aggregate's cells. -/
def partR (P : Program) (t : TypeId) (cs : List C) (off : Nat) : Option SV :=
  match P.underlying t with
  | none => none
  | some d => cond (aggB d)
      (match P.info? t with
       | none => none
       | some i => some (.a ((cs.drop off).take i.size)))
      (match cs[off]? with | some c => some (.c c) | none => none)

theorem partR_sound {t : TypeId} {cs : List C} {off : Nat} {v : SV} (h : partR P t cs off = some v) (hcs : okL n cs = true) :
    (∀ w, (part t (denL ρ cs) off).run P w = .ok (v.den ρ) w) ∧ v.ok n = true := by
  unfold partR at h
  split at h
  · cases h
  rename_i d hd
  cases hb : aggB d
  · simp only [hb, cond_false] at h
    split at h
    · rename_i c hc
      simp at h; subst h
      refine ⟨fun w => ?_, List.all_eq_true.1 hcs c (List.mem_of_getElem? hc)⟩
      unfold part
      simp only [Sem.run_bind, run_isAgg hd, Result.andThen_ok]
      simp only [hb, Bool.false_eq_true, if_false]
      have hc' : (denL ρ cs)[off]? = some (c.den ρ) := by simp [denL, hc]
      simp [hc', SV.den]
    · cases h
  · simp only [hb, cond_true] at h
    split at h
    · cases h
    · rename_i i hi
      simp at h; subst h
      refine ⟨fun w => ?_, List.all_eq_true.2 fun x hx => List.all_eq_true.1 hcs x (List.mem_of_mem_drop (List.mem_of_mem_take hx))⟩
      unfold part
      simp only [Sem.run_bind, run_isAgg hd, Result.andThen_ok]
      simp only [hb, if_true]
      simp only [Sem.run_bind, run_sizeOf hi, Result.andThen_ok, Sem.run_pure]
      simp only [SV.den, denL]
      congr 2
      rw [List.extract_toArray, List.extract_eq_take_drop]
      simp [List.map_drop, List.map_take]

/-- Equality of two values of a type, by the type. -/
def eqIn (P : Program) : Nat → TypeId → SV → SV → Option Bool
  | 0, _, _, _ => none
  | d + 1, t, x, y =>
    match P.underlying t, x, y with
    | some .bool, .c (.b _ a), .c (.b _ b) => some (a == b)
    | some (.int _), .c (.i _ k a), .c (.i _ k' b) => if k = k' then some (a == b) else none
    | some .string, .c (.str a), .c (.str b) => some (a == b)
    | some (.struct fields), .a xs, .a ys =>
      cond (P.stoodInHeld t) none
        (fields.toList.foldr (fun f acc => match acc with
          | none => none
          | some r => if f.name = "_" then some r else
            match partR P f.type xs f.offset, partR P f.type ys f.offset with
            | some u, some v => (match eqIn P d f.type u v with | some q => some (q && r) | none => none)
            | _, _ => none) (some true))
    | some (.array len elem), .a xs, .a ys =>
      match P.info? elem with
      | none => none
      | some i =>
        (List.range len).foldr (fun j acc => match acc with
          | none => none
          | some r =>
            match partR P elem xs (j * i.size), partR P elem ys (j * i.size) with
            | some u, some v => (match eqIn P d elem u v with | some q => some (q && r) | none => none)
            | _, _ => none) (some true)
    | _, _, _ => none
end
end Go.Proofs.Ytpfdemmoapjjpaa.Ev

namespace Go.Proofs.Ytpfdemmoapjjpaa.Ev
open Go
section
variable {P : Program} {ρ : Nat → Nat} {n : Nat}

theorem eqIn_sound : ∀ (d : Nat) (t : TypeId) (x y : SV) (r : Bool), eqIn P d t x y = some r → x.ok n = true → y.ok n = true →
    ∀ e, d ≤ e → ∀ w, (Op.equalIn e t (x.den ρ) (y.den ρ)).run P w = .ok r w := by
  intro d
  induction d with
  | zero => intro t x y r h; simp [eqIn] at h
  | succ d ih =>
    intro t x y r h hx hy e he w
    obtain ⟨e, rfl⟩ : ∃ e', e = e' + 1 := ⟨e - 1, by omega⟩
    have he' : d ≤ e := by omega
    simp only [eqIn] at h
    split at h
    · rename_i hu; simp at h; subst h
      exact run_equalIn_bool w e t _ _ hu
    · rename_i hu
      split at h
      · rename_i hk; simp at h; subst h
        simp only [SV.den, C.den, Op.equalIn, Sem.run_bind, run_underlying hu, Result.andThen_ok, hk, if_true, Sem.run_pure]
      · cases h
    · rename_i hu; simp at h; subst h
      simp only [SV.den, C.den, Op.equalIn, Sem.run_bind, run_underlying hu, Result.andThen_ok, Sem.run_pure]
    · rename_i fields xs ys hu
      cases hs : P.stoodInHeld t
      · simp only [hs, cond_false] at h
        have hf : P.fieldsOf t = fields := by simp [Program.fieldsOf, hu]
        simp only [SV.den]
        rw [run_equalIn_struct w e t _ _ (by rw [hf]; exact hu) hs, hf]
        generalize fields.toList = fs at h
        revert r w
        induction fs with
        | nil => intro r w h; simp at h; subst h; rfl
        | cons f fs ihf =>
          intro r w h
          simp only [List.foldr_cons] at h
          split at h
          · cases h
          · rename_i r' hr'
            by_cases hn : f.name = "_"
            · rw [if_pos hn] at h
              simp at h; subst h
              simp only [Op.eqFields, hn, ne_eq, not_true_eq_false, if_false]
              exact ihf _ w hr'
            · rw [if_neg hn] at h
              split at h
              · rename_i u v hpu hpv
                split at h
                · rename_i q hq
                  simp at h; subst h
                  obtain ⟨h1, o1⟩ := partR_sound (n := n) (ρ := ρ) hpu hx
                  obtain ⟨h2, o2⟩ := partR_sound (n := n) (ρ := ρ) hpv hy
                  have h3 := ih _ _ _ _ hq o1 o2 e he'
                  simp only [Op.eqFields, ne_eq, hn, not_false_eq_true, if_true, Sem.run_bind, h1, h2, h3, Result.andThen_ok]
                  cases q
                  · simp
                  · simp only [Bool.not_true, Bool.false_eq_true, if_false, Bool.true_and]
                    exact ihf _ w hr'
                · cases h
              · cases h
      · simp [hs] at h
    · rename_i len elem xs ys hu
      split at h
      · cases h
      · rename_i i hi
        simp only [SV.den, Op.equalIn, Sem.run_bind, run_underlying hu, Result.andThen_ok, run_sizeOf hi]
        have key : ∀ (m s : Nat) (r : Bool) (w : World), (List.range' s m).foldr (fun j acc => match acc with
          | none => none
          | some r =>
            match partR P elem xs (j * i.size), partR P elem ys (j * i.size) with
            | some u, some v => (match eqIn P d elem u v with | some q => some (q && r) | none => none)
            | _, _ => none) (some true) = some r →
            ((forIn (List.range' s m) ((none, ()) : Option Bool × Unit) fun j r => do
              let a ← part elem (denL ρ xs) (j * i.size)
              let b ← part elem (denL ρ ys) (j * i.size)
              let q ← Op.equalIn e elem a b
              if (!q) = true then pure (ForInStep.done (some false, ())) else pure (ForInStep.yield (none, ())) : Sem _).run P w) =
              .ok (if r then (none, ()) else (some false, ())) w := by
          intro m
          induction m with
          | zero => intro s r w h; simp at h; subst h; simp
          | succ m ihm =>
            intro s r w h
            rw [List.range'_succ] at h ⊢
            simp only [List.foldr_cons] at h
            split at h
            · cases h
            rename_i r' hr'
            split at h
            · rename_i u v hpu hpv
              split at h
              · rename_i q hq
                simp at h; subst h
                obtain ⟨h1, o1⟩ := partR_sound (n := n) (ρ := ρ) hpu hx
                obtain ⟨h2, o2⟩ := partR_sound (n := n) (ρ := ρ) hpv hy
                have h3 := ih _ _ _ _ hq o1 o2 e he'
                rw [List.forIn_cons]
                simp only [Sem.run_bind, h1, h2, h3, Result.andThen_ok]
                cases q
                · simp
                · simp only [Bool.not_true, Bool.false_eq_true, if_false, Bool.true_and, Sem.run_pure, Result.andThen_ok]
                  exact ihm _ _ w hr'
              · cases h
            · cases h
        rw [Std.Legacy.Range.forIn_eq_forIn_range']
        simp only [Std.Legacy.Range.size, Nat.sub_zero, Nat.add_sub_cancel, Nat.div_one]
        rw [List.range_eq_range'] at h
        rw [key len 0 r w h]
        cases r <;> rfl
    · cases h
end
end Go.Proofs.Ytpfdemmoapjjpaa.Ev

namespace Go.Proofs.Ytpfdemmoapjjpaa.Ev
open Go

def okR (v : SV) : Option R := some ⟨[], v⟩
def optR (v : Option SV) : Option R := match v with | some v => some ⟨[], v⟩ | none => none
def S1.sv : S1 → SV | .c x => .c x | .a l => .a l
def SV.s1 : SV → Option S1 | .c x => some (.c x) | .a l => some (.a l) | _ => none
def SV.cells : SV → Option (List C) | .c x => some [x] | .a l => some l | _ => none

def isNilP : Value → Bool | .pointer none => true | _ => false
def isNilS : Value → Bool | .slice none _ _ => true | _ => false

/-- Two cells that are compared, not both integers. -/
def eqCells (P : Program) (neg : Bool) (t : TypeId) (x y : SV) : Option R :=
  match x, y with
  | .c (.b l a), .c (.b l' b) => (match P.underlying t with | some .bool => boolR (l && l') (xor neg (a == b)) | _ => none)
  | .c (.str a), .c (.str b) => boolR false (xor neg (a == b))
  | .c (.p _ _), .c (.x v) => (match P.underlying t with | some (.pointer _) => cond (isNilP v) (boolR true neg) none | _ => none)
  | .c (.x v), .c (.p _ _) => (match P.underlying t with | some (.pointer _) => cond (isNilP v) (boolR true neg) none | _ => none)
  | .c (.q _ _ _ _ _), .c (.x v) => (match P.underlying t with | some (.pointer _) => cond (isNilP v) (boolR true neg) none | _ => none)
  | .c (.x v), .c (.x u) => (match P.underlying t with
      | some (.pointer _) => cond (isNilP v && isNilP u) (boolR true (!neg)) none
      | some (.slice _) => cond (isNilS v && isNilS u) (boolR true (!neg)) none
      | _ => none)
  | .c (.slc _ _ _ _), .c (.x v) => (match P.underlying t with | some (.slice _) => cond (isNilS v) (boolR true neg) none | _ => none)
  | .a xs, .a ys => cond (P.eqGuardType P.depth t) none (match eqIn P 100 t (.a xs) (.a ys) with | some q => boolR false (xor neg q) | none => none)
  | _, _ => none

def binR (P : Program) (op : BinOp) (t : TypeId) (x y : SV) : Option R :=
  match x, y with
  | .c (.i l k a), .c (.i l' k' b) => intBin op l k a l' k' b
  | x, y => match op with
    | .eql => eqCells P false t x y
    | .neq => eqCells P true t x y
    | _ => none

def unR (op : UnOp) (x : SV) : Option R :=
  match op, x with
  | .neg, .c (.i l k n) => intR l k (k.wrap (0 - n))
  | .xor, .c (.i l k n) => intR l k (bits .xor k (if k.signed then -1 else k.max) n)
  | .not, .c (.b l v) => boolR l (!v)
  | _, _ => none

def convR (P : Program) (src dst : TypeId) (x : SV) : Option R :=
  match x with
  | .c (.i l _ m) => match P.underlying src, P.underlying dst with
    | some _, some (.int k') => intR l k' (k'.wrap m)
    | _, _ => none
  | .c (.str s) => match P.underlying src, P.underlying dst with
    | some .string, some .string => okR (.c (.str s))
    | _, _ => none
  | _ => none

def fieldsR (P : Program) (t : TypeId) (f : Nat) : Option Field :=
  match P.underlying t with
  | some (.struct fs) => fs[f]?
  | _ => none

def fieldAddrR (P : Program) (s : TypeId) (x : SV) (f : Nat) : Option R :=
  match x with
  | .c (.p blk off) => match fieldsR P s f with
    | some fd => (match P.info? fd.type with
      | some i => cond (Nat.beq i.size 0) none (okR (.c (.p blk (off + fd.offset))))
      | none => none)
    | none => none
  | .c (.q blk off m sz ix) => match fieldsR P s f with
    | some fd => (match P.info? fd.type with
      | some i => cond (Nat.beq i.size 0) none (forceN (off + fd.offset) fun o => okR (.c (.q blk o m sz ix)))
      | none => none)
    | none => none
  | _ => none

def fieldR (P : Program) (t : TypeId) (x : SV) (f : Nat) : Option R :=
  match x with
  | .a cs => (match fieldsR P t f with
    | some fd => optR (partR P fd.type cs fd.offset)
    | none => none)
  | _ => none

def indexAddrR (P : Program) (t : TypeId) (x ix : SV) : Option R :=
  match x, ix with
  | .c (.p blk off), .c (.i true _ i) => (match P.underlying t with
    | some (.array len elem) => (match P.info? elem with
      | some e => cond (inB i len) (forceN (off + i.toNat * e.size) fun o => okR (.c (.p blk o))) none
      | none => none)
    | _ => none)
  | .c (.slc blk off len _), .c (.i true _ i) => (match P.underlying t with
    | some (.slice elem) => (match P.info? elem with
      | some e => cond (inB i len) (forceN (off + i.toNat * e.size) fun o => okR (.c (.p blk o))) none
      | none => none)
    | _ => none)
  | .c (.q blk off m sz ix), .c (.i true _ i) => (match P.underlying t with
    | some (.array len elem) => (match P.info? elem with
      | some e => cond (inB i len) (forceN (off + i.toNat * e.size) fun o => okR (.c (.q blk o m sz ix))) none
      | none => none)
    | _ => none)
  | .c (.p blk off), .c (.i false _ i) => (match P.underlying t with
    | some (.array len elem) => (match P.info? elem with
      | some e => some ⟨[inB i len], .c (.q blk off len e.size i)⟩
      | none => none)
    | _ => none)
  | .c (.slc blk off len _), .c (.i false _ i) => (match P.underlying t with
    | some (.slice elem) => (match P.info? elem with
      | some e => some ⟨[inB i len], .c (.q blk off len e.size i)⟩
      | none => none)
    | _ => none)
  | _, _ => none

/-- The cells of a row, one a step. -/
def gatherK {γ : Type} (cs : List C) (sz : Nat) : Nat → Nat → (List C → Option γ) → Option γ
  | 0, _, K => K []
  | n + 1, off, K => match cs[off]? with
    | none => none
    | some c => gatherK cs sz n (off + sz) fun l => K (c :: l)
theorem gatherK_spec {γ : Type} {cs : List C} {sz : Nat} : ∀ (n off : Nat) (K : List C → Option γ) (r : γ), gatherK cs sz n off K = some r →
    ∃ l, K l = some r ∧ l.length = n ∧ ∀ j, j < n → l[j]? = cs[off + j * sz]? ∧ (cs[off + j * sz]?).isSome = true
  | 0, off, K, r, h => ⟨[], h, rfl, fun j hj => absurd hj (Nat.not_lt_zero _)⟩
  | n + 1, off, K, r, h => by
    simp only [gatherK] at h
    split at h
    · cases h
    · rename_i c hc
      obtain ⟨l, h1, h2, h3⟩ := gatherK_spec n (off + sz) _ r h
      refine ⟨c :: l, h1, by simp [h2], fun j hj => ?_⟩
      cases j with
      | zero => simp [hc]
      | succ j =>
        have := h3 j (by omega)
        rw [show off + (j + 1) * sz = off + sz + j * sz by rw [Nat.add_mul]; omega]
        exact ⟨by simpa using this.1, this.2⟩

def indexR (P : Program) (t : TypeId) (x ix : SV) : Option R :=
  match x, ix with
  | .a cs, .c (.i true _ i) => (match P.underlying t with
    | some (.array len elem) => (match P.info? elem with
      | some e => cond (inB i len) (optR (partR P elem cs (i.toNat * e.size))) none
      | none => none)
    | _ => none)
  | .a cs, .c (.i false _ i) => (match P.underlying t with
    | some (.array len elem) => (match P.info? elem, P.underlying elem with
      | some e, some d => cond (aggB d) none (gatherK cs e.size len 0 fun l => selK l i fun c => some ⟨[inB i len], .c c⟩)
      | _, _ => none)
    | _ => none)
  | _, _ => none

def extractR (x : SV) (ix : Nat) : Option R :=
  match x with
  | .t l => (match l[ix]? with | some v => okR v.sv | none => none)
  | _ => none

def nilCheckR (x : SV) : Option R :=
  match x with
  | .c (.p blk off) => okR (.c (.p blk off))
  | .c (.q blk off m sz ix) => okR (.c (.q blk off m sz ix))
  | .c (.fn f) => okR (.c (.fn f))
  | _ => none

def builtinR (P : Program) (b : Builtin) (ts : Array TypeId) (args : List SV) : Option R :=
  match b, args with
  | .min, [.c (.i l k a), .c (.i l' _ b)] => intR (l && l') k (if b < a then b else a)
  | .max, [.c (.i l k a), .c (.i l' _ b)] => intR (l && l') k (if b > a then b else a)
  | .len, [x] => (match ts[0]? with
    | none => none
    | some t => match P.underlying t, x with
      | some (.slice _), .c (.slc _ _ len _) => intR true .i64 len
      | some (.slice _), .c (.x (.slice none len _)) => intR true .i64 len
      | some .string, .c (.str s) => intR false .i64 s.size
      | some (.array m _), _ => intR true .i64 m
      | _, _ => none)
  | _, _ => none

/-- The arguments, one by one. -/
def evs (ev : Operand → Option SV) : List Operand → Option (List SV)
  | [] => some []
  | x :: xs => match ev x with
    | none => none
    | some v => (match evs ev xs with | none => none | some vs => some (v :: vs))

/-- Cells written one behind the other. -/
def putLK {β : Type} : List C → Nat → C → (List C → β) → β
  | [], _, _, K => K []
  | x :: xs, i, v, K => cond (Nat.beq i 0) (K (v :: xs)) (putLK xs (i - 1) v fun ys => K (x :: ys))
theorem putLK_eq {β : Type} (l : List C) : ∀ (i : Nat) (v : C) (K : List C → β), putLK l i v K = K (l.set i v) := by
  induction l with
  | nil => intros; rfl
  | cons x xs ih =>
    intro i v K
    simp only [putLK, ih]
    cases i with
    | zero => rfl
    | succ i => rfl
def layLK {β : Type} : List C → Nat → List C → (List C → β) → β
  | cs, _, [], K => K cs
  | cs, off, v :: vs, K => putLK cs off v fun cs' => layLK cs' (off + 1) vs K
def layL : List C → Nat → List C → List C
  | cs, _, [] => cs
  | cs, off, v :: vs => layL (cs.set off v) (off + 1) vs
theorem layLK_eq {β : Type} (vs : List C) : ∀ (cs : List C) (off : Nat) (K : List C → β), layLK cs off vs K = K (layL cs off vs) := by
  induction vs with
  | nil => intros; rfl
  | cons v vs ih => intro cs off K; simp only [layLK, layL, putLK_eq, ih]
theorem layL_length (vs : List C) : ∀ (cs : List C) (off : Nat), (layL cs off vs).length = cs.length := by
  induction vs with
  | nil => intros; rfl
  | cons v vs ih => intro cs off; simp [layL, ih]

def C.one : C → Bool
  | .x (.agg _) => false
  | .x (.tuple _) => false
  | _ => true

def cellsOfK {β : Type} : List Value → (List C → β) → β
  | [], K => K []
  | v :: vs, K => cellsOfK vs fun cs => match v with
    | .bool b => K (.b true b :: cs)
    | .int k n => K (.i true k n :: cs)
    | .string s => K (.str s :: cs)
    | v => K (.x v :: cs)
theorem cellsOfK_eq {β : Type} (l : List Value) : ∀ (K : List C → β), cellsOfK l K = K (l.map ofCell) := by
  induction l with
  | nil => intros; rfl
  | cons v vs ih => intro K; simp only [cellsOfK, ih]; cases v <;> rfl

def fillS (place : Nat → Option (Nat × Nat)) : List C → List (Nat × SV) → Option (List C)
  | cs, [] => some cs
  | cs, (i, v) :: r => match place i, v.cells with
    | some (off, size), some vs => cond (Nat.beq vs.length size && vs.all C.one && Nat.ble (off + vs.length) cs.length) (layLK cs off vs fun cs' => fillS place cs' r) none
    | _, _ => none

def placesL (P : Program) : List Field → Option (List (Nat × Nat))
  | [] => some []
  | f :: fs => match P.info? f.type, placesL P fs with
    | some i, some l => some ((f.offset, i.size) :: l)
    | _, _ => none

def buildR (P : Program) (t : TypeId) (parts : List (Nat × SV)) : Option R :=
  match P.info? t with
  | none => none
  | some i => match i.zero with
    | none => none
    | some z => cellsOfK z.cells.toList fun zs => match P.underlying t with
      | some (.struct fields) => (match placesL P fields.toList with
        | some pl => (match fillS (fun i => pl[i]?) zs parts with | some cs => okR (.a cs) | none => none)
        | none => none)
      | some (.array _ elem) => (match P.info? elem with
        | some e => (match fillS (fun i => some (i * e.size, e.size)) zs parts with | some cs => okR (.a cs) | none => none)
        | none => none)
      | _ => none

def evp (ev : Operand → Option SV) : List (Nat × Operand) → Option (List (Nat × SV))
  | [] => some []
  | (i, x) :: r => match ev x, evp ev r with
    | some v, some l => some ((i, v) :: l)
    | _, _ => none

/-- Captured variables: addresses alone. -/
def capsOf : List SV → Option (List (Nat × Nat))
  | [] => some []
  | .c (.p blk off) :: r => (match capsOf r with | some l => some ((blk, off) :: l) | none => none)
  | _ => none

def litN : SV → Option Int
  | .c (.i true _ n) => some n
  | _ => none
/-- A bound of a slice: known, or left out. -/
def bndR (x : Option (Option SV)) (dflt top : Nat) : Option Nat :=
  match x with
  | none => some dflt
  | some none => none
  | some (some v) => match litN v with
    | some n => cond (decide (0 ≤ n) && decide (n ≤ top)) (some n.toNat) none
    | none => none
def sliceR (P : Program) (t : TypeId) (x : SV) (lo hi : Option (Option SV)) : Option R :=
  match x, P.underlying t with
  | .c (.p blk off), some (.array n elem) => (match P.info? elem, bndR hi n n with
    | some e, some h => (match bndR lo 0 h with
      | some l => forceN (cond (Nat.beq n l) off (off + l * e.size)) fun o => forceN (h - l) fun a => forceN (n - l) fun b => okR (.c (.slc blk o a b))
      | none => none)
    | _, _ => none)
  | .c (.slc blk off len cap), some (.slice elem) => (match P.info? elem, bndR hi len cap with
    | some e, some h => (match bndR lo 0 h with
      | some l => forceN (cond (Nat.beq cap l) off (off + l * e.size)) fun o => forceN (h - l) fun a => forceN (cap - l) fun b => okR (.c (.slc blk o a b))
      | none => none)
    | _, _ => none)
  | _, _ => none

def pureOp (P : Program) (ev : Operand → Option SV) (op : Op) : Option R :=
  match op with
  | .move x => optR (ev x)
  | .assign x => optR (ev x)
  | .pick c a b => (match ev c with | some (.c (.b true v)) => optR (cond v (ev a) (ev b)) | _ => none)
  | .binOp op t x y _ => (match ev x, ev y with | some u, some v => binR P op t u v | _, _ => none)
  | .unOp op _ x => (match ev x with | some u => unR op u | _ => none)
  | .convert src dst x => (match ev x with | some u => convR P src dst u | _ => none)
  | .fieldAddr s x f => (match ev x with | some u => fieldAddrR P s u f | _ => none)
  | .field s x f => (match ev x with | some u => fieldR P s u f | _ => none)
  | .indexAddr t x i => (match ev x, ev i with | some u, some v => indexAddrR P t u v | _, _ => none)
  | .index t x i => (match ev x, ev i with | some u, some v => indexR P t u v | _, _ => none)
  | .extract x ix => (match ev x with | some u => extractR u ix | _ => none)
  | .nilCheck x => (match ev x with | some u => nilCheckR u | _ => none)
  | .slice t x lo hi none => (match ev x with | some u => sliceR P t u (lo.map ev) (hi.map ev) | _ => none)
  | .build t parts => (match evp ev parts.toList with | some l => buildR P t l | none => none)
  | .makeFunc (.func f) first captured => cond (first.isEmpty) (match evs ev captured.toList with
      | some vs => (match capsOf vs with | some l => okR (.c (.clo f l)) | none => none)
      | none => none) none
  | .call { callee := .builtin b, args, argTypes } => (match evs ev args.toList with | some vs => builtinR P b argTypes vs | none => none)
  | _ => none

section
variable {P : Program} {ρ : Nat → Nat} {n : Nat}

theorem S1.sv_den (x : S1) : x.sv.den ρ = x.den ρ := by cases x <;> rfl
theorem S1.sv_ok (x : S1) : x.sv.ok n = x.ok n := by cases x <;> rfl

abbrev Good (P : Program) (ρ : Nat → Nat) (n : Nat) (q : Sem Value) (r : R) : Prop :=
  (∀ w, q.run P w = .ok (r.v.den ρ) w) ∧ r.v.ok n = true

theorem good_pure {q : Sem Value} {v : SV} (hq : q = pure (v.den ρ)) (hv : v.ok n = true) : Good P ρ n q ⟨[], v⟩ := by
  subst hq; exact ⟨fun w => rfl, hv⟩

theorem eqI_pn {t e : TypeId} (hu : P.underlying t = some (.pointer e)) (d : Nat) (a : Addr) (w : World) : (Op.equalIn (d + 1) t (.pointer (some a)) (.pointer none)).run P w = .ok false w := by
  simp only [Op.equalIn, Sem.run_bind, run_underlying hu, Result.andThen_ok]; rfl
theorem eqI_np {t e : TypeId} (hu : P.underlying t = some (.pointer e)) (d : Nat) (a : Addr) (w : World) : (Op.equalIn (d + 1) t (.pointer none) (.pointer (some a))).run P w = .ok false w := by
  simp only [Op.equalIn, Sem.run_bind, run_underlying hu, Result.andThen_ok]; rfl
theorem eqI_nn {t e : TypeId} (hu : P.underlying t = some (.pointer e)) (d : Nat) (w : World) : (Op.equalIn (d + 1) t (.pointer none) (.pointer none)).run P w = .ok true w := by
  simp only [Op.equalIn, Sem.run_bind, run_underlying hu, Result.andThen_ok]; rfl
theorem eqI_ss {t e : TypeId} (hu : P.underlying t = some (.slice e)) (d : Nat) (a b a' b' : Nat) (w : World) : (Op.equalIn (d + 1) t (.slice none a b) (.slice none a' b')).run P w = .ok true w := by
  simp only [Op.equalIn, Sem.run_bind, run_underlying hu, Result.andThen_ok]; rfl
theorem eqI_sn {t e : TypeId} (hu : P.underlying t = some (.slice e)) (d : Nat) (p : Addr) (a b a' b' : Nat) (w : World) : (Op.equalIn (d + 1) t (.slice (some p) a b) (.slice none a' b')).run P w = .ok false w := by
  simp only [Op.equalIn, Sem.run_bind, run_underlying hu, Result.andThen_ok]; rfl
theorem isNilP_eq {v : Value} (hb : isNilP v = true) : v = .pointer none := by
  cases v <;> first | (rename_i a; cases a <;> first | rfl | (simp [isNilP] at hb)) | (simp [isNilP] at hb)
theorem isNilS_eq {v : Value} (hb : isNilS v = true) : ∃ a b, v = .slice none a b := by
  cases v <;> first | (rename_i a _ _; cases a <;> first | exact ⟨_, _, rfl⟩ | (simp [isNilS] at hb)) | (simp [isNilS] at hb)

theorem eqCells_sound {neg : Bool} {t : TypeId} {x y : SV} {r : R} (h : eqCells P neg t x y = some r) (hx : x.ok n = true) (hy : y.ok n = true) (ox oy : Operand) :
    Good P ρ n (do eqGuard (if neg then .neq else .eql) t ox oy (x.den ρ) (y.den ρ); binOp (if neg then .neq else .eql) t (x.den ρ) (y.den ρ)) r := by
  have fin : ∀ (q : Bool) (l : Bool), boolR l (xor neg q) = some r →
      (∀ w, (eqGuard (if neg then .neq else .eql) t ox oy (x.den ρ) (y.den ρ)).run P w = .ok () w) →
      (∀ w, (Op.equal t (x.den ρ) (y.den ρ)).run P w = .ok q w) →
      (binOp .eql t (x.den ρ) (y.den ρ) = (do pure (.bool (← Op.equal t (x.den ρ) (y.den ρ))) : Sem Value)) →
      (binOp .neq t (x.den ρ) (y.den ρ) = (do pure (.bool (!(← Op.equal t (x.den ρ) (y.den ρ)))) : Sem Value)) →
      Good P ρ n (do eqGuard (if neg then .neq else .eql) t ox oy (x.den ρ) (y.den ρ); binOp (if neg then .neq else .eql) t (x.den ρ) (y.den ρ)) r := by
    intro q l hr hg he h1 h2
    rw [boolR_eq] at hr
    simp at hr; subst hr
    refine ⟨fun w => ?_, rfl⟩
    simp only [Sem.run_bind, hg, Result.andThen_ok]
    cases neg
    · simp only [Bool.false_eq_true, if_false, h1, Sem.run_bind, he, Result.andThen_ok, Sem.run_pure, Bool.false_xor]
      rfl
    · simp only [if_true, h2, Sem.run_bind, he, Result.andThen_ok, Sem.run_pure, Bool.true_xor]
      rfl
  have nb : neg = xor neg false := by cases neg <;> rfl
  have nb' : (!neg) = xor neg true := by cases neg <;> rfl
  unfold eqCells at h
  split at h
  · split at h
    · rename_i hu
      exact fin _ _ h (fun w => by simp only [SV.den, C.den, eqGuard_at_bool]; rfl) (fun w => run_equal_bool w t _ _ hu) rfl rfl
    · cases h
  · rename_i a b
    rw [boolR_eq] at h
    simp at h; subst h
    refine ⟨fun w => ?_, rfl⟩
    simp only [SV.den, C.den, eqGuard_at_string]
    cases neg <;> simp [binOp, Op.stringOp, beq_toListBytes, bne]
  · rename_i blk off v
    split at h
    · rename_i el hu
      cases hb : isNilP v <;> simp only [hb, cond_true, cond_false] at h
      · cases h
      obtain rfl := isNilP_eq hb
      rw [nb] at h
      exact fin _ _ h (fun w => by simp only [SV.den, C.den, eqGuard_at_pointer]; rfl)
        (fun w => eqI_pn hu 9999 _ w) rfl rfl
    · cases h
  · rename_i v blk off
    split at h
    · rename_i el hu
      cases hb : isNilP v <;> simp only [hb, cond_true, cond_false] at h
      · cases h
      obtain rfl := isNilP_eq hb
      rw [nb] at h
      exact fin _ _ h (fun w => by simp only [SV.den, C.den, eqGuard_at_pointer]; rfl)
        (fun w => eqI_np hu 9999 _ w) rfl rfl
    · cases h
  · rename_i blk off m sz ix v
    split at h
    · rename_i el hu
      cases hb : isNilP v <;> simp only [hb, cond_true, cond_false] at h
      · cases h
      obtain rfl := isNilP_eq hb
      rw [nb] at h
      exact fin _ _ h (fun w => by simp only [SV.den, C.den, eqGuard_at_pointer]; rfl)
        (fun w => eqI_pn hu 9999 _ w) rfl rfl
    · cases h
  · rename_i v u
    split at h
    · rename_i el hu
      cases hb : isNilP v && isNilP u <;> simp only [hb, cond_true, cond_false] at h
      · cases h
      simp at hb
      obtain rfl := isNilP_eq hb.1
      obtain rfl := isNilP_eq hb.2
      rw [nb'] at h
      exact fin _ _ h (fun w => by simp only [SV.den, C.den, eqGuard_at_pointer]; rfl)
        (fun w => eqI_nn hu 9999 w) rfl rfl
    · rename_i el hu
      cases hb : isNilS v && isNilS u <;> simp only [hb, cond_true, cond_false] at h
      · cases h
      simp at hb
      obtain ⟨a1, b1, rfl⟩ := isNilS_eq hb.1
      obtain ⟨a2, b2, rfl⟩ := isNilS_eq hb.2
      rw [nb'] at h
      exact fin _ _ h (fun w => by simp only [SV.den, C.den, eqGuard_at_slice]; rfl)
        (fun w => eqI_ss hu 9999 _ _ _ _ w) rfl rfl
    · cases h
  · rename_i b o l c v
    split at h
    · rename_i el hu
      cases hb : isNilS v <;> simp only [hb, cond_true, cond_false] at h
      · cases h
      obtain ⟨a1, b1, rfl⟩ := isNilS_eq hb
      rw [nb] at h
      exact fin _ _ h (fun w => by simp only [SV.den, C.den, eqGuard_at_slice]; rfl)
        (fun w => eqI_sn hu 9999 _ _ _ _ _ w) rfl rfl
    · cases h
  · rename_i xs ys
    cases hg : P.eqGuardType P.depth t <;> simp only [hg, cond_true, cond_false] at h
    · split at h
      · rename_i q hq
        exact fin q _ h (fun w => by cases neg <;> simp [SV.den, eqGuard, hg])
          (fun w => eqIn_sound 100 t _ _ q hq hx hy _ (by simp [Op.maxDepth]) w) rfl rfl
      · cases h
    · cases h
  · cases h
end
end Go.Proofs.Ytpfdemmoapjjpaa.Ev

namespace Go.Proofs.Ytpfdemmoapjjpaa.Ev
open Go
section
variable {P : Program} {ρ : Nat → Nat} {n : Nat}

theorem binR_sound {op : BinOp} {t : TypeId} {x y : SV} {r : R} (h : binR P op t x y = some r) (hn : allT r.nd) (hx : x.ok n = true) (hy : y.ok n = true) (ox oy : Operand) :
    Good P ρ n (do eqGuard op t ox oy (x.den ρ) (y.den ρ); binOp op t (x.den ρ) (y.den ρ)) r := by
  unfold binR at h
  split at h
  · exact intBin_sound h hn t ox oy
  · split at h
    · exact eqCells_sound (neg := false) h hx hy ox oy
    · exact eqCells_sound (neg := true) h hx hy ox oy
    · cases h

theorem unR_sound {op : UnOp} {x : SV} {r : R} (h : unR op x = some r) : Good P ρ n (Op.unary op (x.den ρ)) r := by
  unfold unR at h
  split at h
  · rw [intR_eq] at h; simp at h; subst h; exact good_pure (by simp [SV.den, C.den, Op.unary, Op.intArith]) rfl
  · rw [intR_eq] at h; simp at h; subst h; exact good_pure (by simp only [SV.den, C.den, Op.unary, intBits_xor]) rfl
  · rw [boolR_eq] at h; simp at h; subst h; exact good_pure (by simp [SV.den, C.den, Op.unary]) rfl
  · cases h

theorem convR_sound {src dst : TypeId} {x : SV} {r : R} (h : convR P src dst x = some r) : Good P ρ n (convert src dst (x.den ρ)) r := by
  unfold convR at h
  split at h
  · split at h
    · rename_i hs hd
      rw [intR_eq] at h; simp at h; subst h
      refine ⟨fun w => ?_, rfl⟩
      rename_i ds _
      simp only [SV.den, C.den, convert, Sem.run_bind, run_underlying hs, run_underlying hd, Result.andThen_ok]
      cases ds <;> rfl
    · cases h
  · split at h
    · rename_i hs hd
      simp [okR] at h; subst h
      refine ⟨fun w => ?_, rfl⟩
      simp only [SV.den, C.den, convert, Sem.run_bind, run_underlying hs, run_underlying hd, Result.andThen_ok]
      rfl
    · cases h
  · cases h

theorem fieldsR_eq {t : TypeId} {f : Nat} {fd : Field} (h : fieldsR P t f = some fd) : ∃ fs, P.underlying t = some (.struct fs) ∧ fs[f]? = some fd := by
  unfold fieldsR at h
  split at h
  · exact ⟨_, by assumption, h⟩
  · cases h

theorem fieldAddrR_sound {s : TypeId} {x : SV} {f : Nat} {r : R} (h : fieldAddrR P s x f = some r) (hx : x.ok n = true) : Good P ρ n (Instr.fieldAt s (x.den ρ) f) r := by
  unfold fieldAddrR at h
  split at h
  · rename_i blk off
    split at h
    · rename_i fd hf
      obtain ⟨fs, hu, hf'⟩ := fieldsR_eq hf
      split at h
      · rename_i i hi
        cases hb : Nat.beq i.size 0 <;> simp only [hb, cond_true, cond_false] at h
        · simp [okR] at h; subst h
          have hz : ¬ i.size = 0 := fun e => by rw [e] at hb; cases hb
          refine ⟨fun w => ?_, hx⟩
          simp only [SV.den, C.den, Instr.fieldAt, Sem.run_bind, run_underlying hu, Result.andThen_ok, hf', Instr.sureAddr, Sem.run_pure, fieldPlace, run_sizeOf hi, hz, if_false, Addr.add_lit]
        · cases h
      · cases h
    · cases h
  · rename_i blk off m sz ix
    split at h
    · rename_i fd hf
      obtain ⟨fs, hu, hf'⟩ := fieldsR_eq hf
      split at h
      · rename_i i hi
        cases hb : Nat.beq i.size 0 <;> simp only [hb, cond_true, cond_false] at h
        · rw [forceN_eq] at h
          simp [okR] at h; subst h
          have hz : ¬ i.size = 0 := fun e => by rw [e] at hb; cases hb
          refine ⟨fun w => ?_, hx⟩
          simp only [SV.den, C.den, Instr.fieldAt, Sem.run_bind, run_underlying hu, Result.andThen_ok, hf', Instr.sureAddr, Sem.run_pure, fieldPlace, run_sizeOf hi, hz, if_false, Addr.add_lit]
          rw [Nat.add_right_comm]
        · cases h
      · cases h
    · cases h
  · cases h

theorem optR_some {v : Option SV} {r : R} (h : optR v = some r) : v = some r.v := by
  unfold optR at h; split at h
  · simp at h; subst h; rfl
  · cases h

theorem fieldR_sound {t : TypeId} {x : SV} {f : Nat} {r : R} (h : fieldR P t x f = some r) (hx : x.ok n = true) : Good P ρ n (Instr.field t (x.den ρ) f) r := by
  unfold fieldR at h
  split at h
  · rename_i cs
    split at h
    · rename_i fd hf
      obtain ⟨fs, hu, hf'⟩ := fieldsR_eq hf
      have hp := partR_sound (n := n) (ρ := ρ) (optR_some h) hx
      refine ⟨fun w => ?_, hp.2⟩
      simp only [SV.den, Instr.field, Sem.run_bind, run_underlying hu, Result.andThen_ok, hf', asAgg, Sem.run_pure, hp.1]
    · cases h
  · cases h

theorem inB_spec {i : Int} {len : Nat} (h : inB i len = true) : 0 ≤ i ∧ i < len := by
  simpa [inB] using h

theorem indexAddrR_sound {t : TypeId} {x ix : SV} {r : R} (h : indexAddrR P t x ix = some r) (hn : allT r.nd) (hx : x.ok n = true) : Good P ρ n (Instr.indexAt t (x.den ρ) (ix.den ρ)) r := by
  unfold indexAddrR at h
  split at h
  · rename_i blk off k i
    split at h
    · rename_i len elem hu
      split at h
      · rename_i e he
        cases hb : inB i len <;> simp only [hb, cond_true, cond_false] at h
        · cases h
        · rw [forceN_eq] at h
          simp [okR] at h; subst h
          have hi := inB_spec hb
          refine ⟨fun w => ?_, hx⟩
          simp only [SV.den, C.den, Instr.indexAt, asIntOf, Sem.run_bind, Sem.run_pure, run_underlying hu, Result.andThen_ok, Instr.sureAddr, if_pos hi, run_sizeOf he, Addr.add_lit]
      · cases h
    · cases h
  · rename_i blk off len cap k i
    split at h
    · rename_i elem hu
      split at h
      · rename_i e he
        cases hb : inB i len <;> simp only [hb, cond_true, cond_false] at h
        · cases h
        · rw [forceN_eq] at h
          simp [okR] at h; subst h
          have hi := inB_spec hb
          refine ⟨fun w => ?_, hx⟩
          simp only [SV.den, C.den, Instr.indexAt, asIntOf, Sem.run_bind, Sem.run_pure, run_underlying hu, Result.andThen_ok, if_pos hi, run_sizeOf he, Addr.add_lit]
      · cases h
    · cases h
  · rename_i blk off m sz jx k i
    split at h
    · rename_i len elem hu
      split at h
      · rename_i e he
        cases hb : inB i len <;> simp only [hb, cond_true, cond_false] at h
        · cases h
        · rw [forceN_eq] at h
          simp [okR] at h; subst h
          have hi := inB_spec hb
          refine ⟨fun w => ?_, hx⟩
          simp only [SV.den, C.den, Instr.indexAt, asIntOf, Sem.run_bind, Sem.run_pure, run_underlying hu, Result.andThen_ok, Instr.sureAddr, if_pos hi, run_sizeOf he, Addr.add_lit]
          rw [Nat.add_right_comm]
      · cases h
    · cases h
  · rename_i blk off k i
    split at h
    · rename_i len elem hu
      split at h
      · rename_i e he
        simp at h; subst h
        have hb : inB i len = true := hn _ (List.mem_cons_self)
        have hi := inB_spec hb
        refine ⟨fun w => ?_, ?_⟩
        · simp only [SV.den, C.den, Instr.indexAt, asIntOf, Sem.run_bind, Sem.run_pure, run_underlying hu, Result.andThen_ok, Instr.sureAddr, if_pos hi, run_sizeOf he, Addr.add_lit]
        · simp only [SV.ok, C.ok] at hx ⊢
          rw [hx, hb]; rfl
      · cases h
    · cases h
  · rename_i blk off len cap k i
    split at h
    · rename_i elem hu
      split at h
      · rename_i e he
        simp at h; subst h
        have hb : inB i len = true := hn _ (List.mem_cons_self)
        have hi := inB_spec hb
        refine ⟨fun w => ?_, ?_⟩
        · simp only [SV.den, C.den, Instr.indexAt, asIntOf, Sem.run_bind, Sem.run_pure, run_underlying hu, Result.andThen_ok, if_pos hi, run_sizeOf he, Addr.add_lit]
        · simp only [SV.ok, C.ok] at hx ⊢
          rw [hx, hb]; rfl
      · cases h
    · cases h
  · cases h

theorem indexR_sound {t : TypeId} {x ix : SV} {r : R} (h : indexR P t x ix = some r) (hn : allT r.nd) (hx : x.ok n = true) : Good P ρ n (Instr.index t (x.den ρ) (ix.den ρ)) r := by
  unfold indexR at h
  split at h
  · rename_i cs k i
    split at h
    · rename_i len elem hu
      split at h
      · rename_i e he
        cases hb : inB i len <;> simp only [hb, cond_true, cond_false] at h
        · cases h
        · have hi := inB_spec hb
          have hp := partR_sound (n := n) (ρ := ρ) (optR_some h) hx
          refine ⟨fun w => ?_, hp.2⟩
          simp only [SV.den, C.den, Instr.index, asIntOf, Sem.run_bind, Sem.run_pure, run_underlying hu, Result.andThen_ok, if_pos hi, run_sizeOf he, hp.1]
      · cases h
    · cases h
  · rename_i cs k i
    split at h
    · rename_i len elem hu
      split at h
      · rename_i e d he hd
        cases ha : aggB d <;> simp only [ha, cond_true, cond_false] at h
        · obtain ⟨l, h1, h2, h3⟩ := gatherK_spec _ _ _ _ h
          -- the need holds: it is the head of the result's
          have hb : inB i len = true := by
            unfold selK at h1
            split at h1
            · obtain ⟨_, h4, _⟩ := intsK_spec _ _ _ h1
              simp at h4; subst h4; exact hn _ (List.mem_cons_self)
            · obtain ⟨_, h4, _⟩ := boolsK_spec _ _ _ h1
              simp at h4; subst h4; exact hn _ (List.mem_cons_self)
            · cases h1
          obtain ⟨c, hc, hden, hok⟩ := selK_spec h1 (by rw [h2]; exact hb)
          simp at hc; subst hc
          have hi := inB_spec hb
          refine ⟨fun w => ?_, hok n⟩
          obtain ⟨h5, h6⟩ := h3 i.toNat (by omega)
          have hden' := hden ρ
          rw [h5, Nat.zero_add] at hden'
          simp only [SV.den, C.den, Instr.index, asIntOf, Sem.run_bind, Sem.run_pure, run_underlying hu, Result.andThen_ok, if_pos hi, run_sizeOf he, part, run_isAgg hd, ha, Bool.false_eq_true, if_false]
          have hc' : (denL ρ cs)[i.toNat * e.size]? = some (c.den ρ) := by simpa [denL] using hden'
          simp [hc']
          rfl
        · cases h
      · cases h
    · cases h
  · cases h

theorem extractR_sound {x : SV} {ix : Nat} {r : R} (h : extractR x ix = some r) (hx : x.ok n = true) : Good P ρ n (Instr.extract (x.den ρ) ix) r := by
  unfold extractR at h
  split at h
  · rename_i l
    split at h
    · rename_i v hv
      simp [okR] at h; subst h
      refine ⟨fun w => ?_, ?_⟩
      · rw [S1.sv_den]; simp [SV.den, Instr.extract, hv]
      · rw [S1.sv_ok]; exact List.all_eq_true.1 hx v (List.mem_of_getElem? hv)
    · cases h
  · cases h

theorem builtinR_sound {b : Builtin} {ts : Array TypeId} {type : TypeId} {cs : Array Bool} {args : List SV} {r : R} (h : builtinR P b ts args = some r) :
    (∀ w, (builtin b ts type cs (args.map (SV.den ρ)).toArray).run P w = .ok (.value (r.v.den ρ)) w) ∧ r.v.ok n = true := by
  unfold builtinR at h
  split at h
  · rw [intR_eq] at h; simp at h; subst h
    refine ⟨fun w => ?_, rfl⟩
    simp only [SV.den, C.den, builtin, List.map_cons, List.map_nil, Sem.run_bind, run_min_int2, Result.andThen_ok, Sem.run_pure]
  · rw [intR_eq] at h; simp at h; subst h
    refine ⟨fun w => ?_, rfl⟩
    simp only [SV.den, C.den, builtin, List.map_cons, List.map_nil, Sem.run_bind, run_max_int2, Result.andThen_ok, Sem.run_pure]
  · split at h
    · cases h
    · rename_i t ht
      have fin : ∀ (l : Bool) (x : SV) (m : Int), intR l .i64 m = some r → (∀ w, (Builtin.len_ ts type #[x.den ρ]).run P w = .ok (goInt m) w) →
          (∀ w, (builtin .len ts type cs (([x] : List SV).map (SV.den ρ)).toArray).run P w = .ok (.value (r.v.den ρ)) w) ∧ r.v.ok n = true := by
        intro l x m hr hm
        rw [intR_eq] at hr; simp at hr; subst hr
        refine ⟨fun w => ?_, rfl⟩
        simp only [builtin, List.map_cons, List.map_nil, Sem.run_bind, hm, Result.andThen_ok, Sem.run_pure]
        rfl
      split at h
      · rename_i hu; exact fin _ _ _ h fun w => by simp [Builtin.len_, ht, SV.den, C.den, run_underlying hu]
      · rename_i hu; exact fin _ _ _ h fun w => by simp [Builtin.len_, ht, SV.den, C.den, run_underlying hu]
      · rename_i hu; exact fin _ _ _ h fun w => by simp [Builtin.len_, ht, SV.den, C.den, run_underlying hu]
      · rename_i hu; exact fin _ _ _ h fun w => by simp [Builtin.len_, ht, run_underlying hu]
      · cases h
  · cases h

theorem litN_eq {v : SV} {m : Int} (h : litN v = some m) : ∃ k, v = .c (.i true k m) := by
  unfold litN at h
  split at h
  · simp at h; subst h; exact ⟨_, rfl⟩
  · cases h
theorem bndR_sound {x : Option (Option SV)} {d top m : Nat} (h : bndR x d top = some m) :
    (x = none ∧ m = d) ∨ ∃ v k j, x = some (some v) ∧ v = .c (.i true k j) ∧ 0 ≤ j ∧ j ≤ top ∧ m = j.toNat := by
  unfold bndR at h
  split at h
  · simp at h; exact .inl ⟨rfl, h.symm⟩
  · cases h
  · rename_i v
    split at h
    · rename_i j hj
      obtain ⟨k, rfl⟩ := litN_eq hj
      cases hb : (decide (0 ≤ j) && decide (j ≤ top)) <;> simp only [hb, cond_true, cond_false] at h
      · cases h
      · simp at h hb
        exact .inr ⟨_, k, j, rfl, rfl, hb.1, hb.2, h.symm⟩
    · cases h
theorem sliceBounds_sound {ev : Operand → Option SV} {val : Operand → Value} (hv : ∀ x y, ev x = some y → val x = y.den ρ ∧ y.ok n = true) {isS : Bool} {len cap l h : Nat} {lo hi : Option Operand}
    (h1 : bndR (hi.map ev) len cap = some h) (h2 : bndR (lo.map ev) 0 h = some l) (w : World) :
    (Instr.sliceBounds isS len cap (lo.map val) (hi.map val) none).run P w = .ok (l, h, cap) w := by
  have key : ∀ (x : Option Operand) (v : SV) (k : IntKind) (j : Int), x.map ev = some (some v) → v = .c (.i true k j) → ∃ o, x = some o ∧ val o = .int k j := by
    intro x v k j hx hvj
    cases x with
    | none => simp at hx
    | some o =>
      simp at hx
      refine ⟨o, rfl, ?_⟩
      rw [(hv _ _ hx).1, hvj]; rfl
  have bd : ∀ (o : Operand) (k : IntKind) (j : Int) (y : Nat) (c : BoundsCode), val o = .int k j → 0 ≤ j → j ≤ y → (Instr.sliceBound (val o) y c).run P w = .ok j.toNat w := by
    intro o k j y c ho hj0 hj1
    have hj2 : 0 ≤ j ∧ j ≤ y := ⟨hj0, hj1⟩
    simp only [ho, Instr.sliceBound, asIntOf, Sem.run_bind, Sem.run_pure, Result.andThen_ok, if_pos hj2]
  rcases bndR_sound h1 with ⟨e1, rfl⟩ | ⟨v, k, j, e1, e2, hj0, hj1, rfl⟩
  · have e1' : hi = none := by simpa using e1
    subst e1'
    rcases bndR_sound h2 with ⟨e3, rfl⟩ | ⟨v', k', j', e3, e4, hk0, hk1, rfl⟩
    · have e3' : lo = none := by simpa using e3
      subst e3'
      simp [Instr.sliceBounds]
    · obtain ⟨o, rfl, ho⟩ := key _ _ _ _ e3 e4
      simp [Instr.sliceBounds, bd o k' j' _ _ ho hk0 hk1]
  · obtain ⟨o, rfl, ho⟩ := key _ _ _ _ e1 e2
    rcases bndR_sound h2 with ⟨e3, rfl⟩ | ⟨v', k', j', e3, e4, hk0, hk1, rfl⟩
    · have e3' : lo = none := by simpa using e3
      subst e3'
      simp [Instr.sliceBounds, bd o k j _ _ ho hj0 hj1]
    · obtain ⟨o', rfl, ho'⟩ := key _ _ _ _ e3 e4
      simp [Instr.sliceBounds, bd o k j _ _ ho hj0 hj1, bd o' k' j' _ _ ho' hk0 hk1]

theorem beq_cond (a b : Nat) {α : Type} (x y : α) : cond (Nat.beq a b) x y = if a = b then x else y := by
  by_cases h : a = b
  · subst h; simp
  · have : Nat.beq a b = false := by
      cases hc : Nat.beq a b
      · rfl
      · exact absurd (Nat.eq_of_beq_eq_true hc) h
    rw [this]; simp [h]
theorem sliceR_sound {ev : Operand → Option SV} {val : Operand → Value} (hv : ∀ x y, ev x = some y → val x = y.den ρ ∧ y.ok n = true) {t : TypeId} {x : SV} {lo hi : Option Operand} {r : R}
    (h : sliceR P t x (lo.map ev) (hi.map ev) = some r) (hx : x.ok n = true) : Good P ρ n (Instr.sliceAt t (x.den ρ) (lo.map val) (hi.map val) none) r := by
  unfold sliceR at h
  split at h
  · rename_i blk off m elem hu
    split at h
    · rename_i e h0 he hh
      split at h
      · rename_i l hl
        simp only [forceN_eq, okR, Option.some.injEq] at h
        subst h
        refine ⟨fun w => ?_, hx⟩
        simp only [SV.den, C.den, Instr.sliceAt, Sem.run_bind, run_underlying hu, Result.andThen_ok, Instr.sureAddr, Sem.run_pure, sliceBounds_sound hv hh hl, run_sizeOf he, beq_cond]
        by_cases hc : m = l
        · simp [hc]
        · simp [hc, Addr.add_lit]
      · cases h
    · cases h
  · rename_i blk off len cap elem hu
    split at h
    · rename_i e h0 he hh
      split at h
      · rename_i l hl
        simp only [forceN_eq, okR, Option.some.injEq] at h
        subst h
        refine ⟨fun w => ?_, hx⟩
        simp only [SV.den, C.den, Instr.sliceAt, Instr.slice, Sem.run_bind, run_underlying hu, Result.andThen_ok, Sem.run_pure, sliceBounds_sound hv hh hl, run_sizeOf he, beq_cond]
        by_cases hc : cap = l
        · simp [hc]
        · simp [hc, Addr.add_lit]
      · cases h
    · cases h
  · cases h

theorem evs_sound {ev : Operand → Option SV} {val : Operand → Value} (hv : ∀ x y, ev x = some y → val x = y.den ρ ∧ y.ok n = true) :
    ∀ (l : List Operand) (vs : List SV), evs ev l = some vs → l.map val = vs.map (SV.den ρ) ∧ ∀ v ∈ vs, v.ok n = true
  | [], vs, h => by simp [evs] at h; subst h; simp
  | x :: l, vs, h => by
    simp only [evs] at h
    split at h
    · cases h
    · rename_i v hv'
      split at h
      · cases h
      · rename_i vs' hvs
        simp at h; subst h
        have := evs_sound hv l vs' hvs
        have h1 := hv x v hv'
        refine ⟨by simp [h1.1, this.1], ?_⟩
        intro u hu
        rcases List.mem_cons.1 hu with rfl | hu
        · exact h1.2
        · exact this.2 u hu

theorem evp_sound {ev : Operand → Option SV} {val : Operand → Value} (hv : ∀ x y, ev x = some y → val x = y.den ρ ∧ y.ok n = true) :
    ∀ (l : List (Nat × Operand)) (r : List (Nat × SV)), evp ev l = some r → l.map (fun p => (p.1, val p.2)) = r.map (fun p => (p.1, p.2.den ρ)) ∧ ∀ p ∈ r, p.2.ok n = true
  | [], r, h => by simp [evp] at h; subst h; simp
  | (i, x) :: l, r, h => by
    simp only [evp] at h
    split at h
    · rename_i v l' hx hl
      simp at h; subst h
      obtain ⟨h1, h2⟩ := evp_sound hv l l' hl
      have h3 := hv _ _ hx
      refine ⟨by simp [h1, h3.1], fun p hp => ?_⟩
      rcases List.mem_cons.1 hp with rfl | hp
      · exact h3.2
      · exact h2 p hp
    · cases h

theorem one_cells {v : SV} {vs : List C} (h : v.cells = some vs) (hs : vs.all C.one = true) : (v.den ρ).cells = denL ρ vs := by
  cases v with
  | c x =>
    simp [SV.cells] at h; subst h
    cases x with
    | x u => cases u <;> simp_all [C.one, SV.den, C.den, Value.cells, denL]
    | _ => rfl
  | a l => simp [SV.cells] at h; subst h; rfl
  | t l => simp [SV.cells] at h
  | any => simp [SV.cells] at h

theorem cells_okL {v : SV} {vs : List C} (h : v.cells = some vs) (hv : v.ok n = true) : okL n vs = true := by
  cases v with
  | c x => simp [SV.cells] at h; subst h; simpa [okL, SV.ok] using hv
  | a l => simp [SV.cells] at h; subst h; exact hv
  | t l => simp [SV.cells] at h
  | any => simp [SV.cells] at h

theorem lay_sound : ∀ (vs : List C) (cs : List C) (off j : Nat), okL n cs = true → okL n vs = true →
    ((vs.map (C.den ρ)).zipIdx j).foldl (fun (cs : Array Value) (p : Value × Nat) => cs.setIfInBounds (off + p.2) p.1) (denL ρ cs) = denL ρ (layL cs (off + j) vs) ∧ okL n (layL cs (off + j) vs) = true
  | [], cs, off, j, h, _ => ⟨rfl, h⟩
  | v :: vs, cs, off, j, h, hv => by
    have hv' : v.ok n = true ∧ okL n vs = true := by simpa [okL] using hv
    have hset : okL n (cs.set (off + j) v) = true := List.all_eq_true.2 fun x hx => by
      rcases List.mem_or_eq_of_mem_set hx with hx | rfl
      · exact List.all_eq_true.1 h x hx
      · exact hv'.1
    have ih := lay_sound vs (cs.set (off + j) v) off (j + 1) hset hv'.2
    simp only [List.map_cons, List.zipIdx_cons, List.foldl_cons, layL]
    have e : (denL ρ cs).setIfInBounds (off + j) (v.den ρ) = denL ρ (cs.set (off + j) v) := by
      simp only [denL, List.map_set, List.setIfInBounds_toArray]
    rw [e]
    exact ih

theorem fillS_sound {place : Nat → Option (Nat × Nat)} : ∀ (parts : List (Nat × SV)) (cs r : List C), fillS place cs parts = some r → okL n cs = true → (∀ p ∈ parts, p.2.ok n = true) →
    Instr.fill place (denL ρ cs) (parts.map fun p => (p.1, p.2.den ρ)) = some (denL ρ r) ∧ okL n r = true
  | [], cs, r, h, hcs, _ => by simp [fillS] at h; subst h; exact ⟨rfl, hcs⟩
  | (i, v) :: parts, cs, r, h, hcs, hp => by
    simp only [fillS] at h
    split at h
    · rename_i off size vs hpl hvs
      cases hc : Nat.beq vs.length size && vs.all C.one && Nat.ble (off + vs.length) cs.length <;> simp only [hc, cond_true, cond_false] at h
      · cases h
      · rw [layLK_eq] at h
        simp only [Bool.and_eq_true] at hc
        obtain ⟨⟨h1, h2⟩, h3⟩ := hc
        have h1 := Nat.eq_of_beq_eq_true h1
        have h3 := Nat.le_of_ble_eq_true h3
        have hcells := one_cells (ρ := ρ) hvs h2
        obtain ⟨hl, hok⟩ := lay_sound (ρ := ρ) vs cs off 0 hcs (cells_okL hvs (hp _ List.mem_cons_self))
        have ih := fillS_sound parts (layL cs off vs) r h hok (fun p hp' => hp p (List.mem_cons_of_mem _ hp'))
        refine ⟨?_, ih.2⟩
        simp only [List.map_cons, Instr.fill, hpl, hcells]
        have hs1 : (denL ρ vs).size = vs.length := by simp [denL]
        have hs2 : (denL ρ cs).size = cs.length := by simp [denL]
        rw [if_neg (by rw [hs1, hs2]; simp; omega)]
        have hf : ((denL ρ vs).zipIdx.foldl (fun cs (x : Value × Nat) => match x with | (c, j) => cs.setIfInBounds (off + j) c) (denL ρ cs)) = denL ρ (layL cs off vs) := by
          simp only [Nat.add_zero] at hl
          rw [← hl, ← Array.foldl_toList]
          simp only [Array.toList_zipIdx, denL]
        rw [hf]
        exact ih.1
    · cases h

theorem placesL_sound : ∀ (fs : List Field) (l : List (Nat × Nat)), placesL P fs = some l → ∀ w, (fs.mapM fun f => do pure (f.offset, ← sizeOf f.type) : Sem (List (Nat × Nat))).run P w = .ok l w
  | [], l, h, w => by simp [placesL] at h; subst h; simp
  | f :: fs, l, h, w => by
    simp only [placesL] at h
    split at h
    · rename_i i l' hi hl
      simp at h; subst h
      rw [List.mapM_cons]
      simp only [Sem.run_bind, run_sizeOf hi, Result.andThen_ok, Sem.run_pure, placesL_sound fs l' hl w]
    · cases h

theorem buildR_sound {t : TypeId} {parts : List (Nat × SV)} {r : R} (h : buildR P t parts = some r) (hp : ∀ p ∈ parts, p.2.ok n = true) :
    Good P ρ n (Instr.build t (parts.map fun p => (p.1, p.2.den ρ)).toArray) r := by
  unfold buildR at h
  split at h
  · cases h
  rename_i i hi
  split at h
  · cases h
  rename_i z hz
  rw [cellsOfK_eq] at h
  have hzero : ∀ w, (zeroValue t).run P w = .ok z w := fun w => by simp [zeroValue, typeInfo, hi, hz]
  have hzc : z.cells = denL ρ (z.cells.toList.map ofCell) := by rw [denL_ofCell]
  split at h
  · rename_i fields hu
    split at h
    · rename_i pl hpl
      split at h
      · rename_i cs hcs
        simp [okR] at h; subst h
        obtain ⟨h1, h2⟩ := fillS_sound (n := n) (ρ := ρ) parts _ cs hcs (okL_ofCell n _) hp
        refine ⟨fun w => ?_, h2⟩
        have hmap : (fields.mapM fun f => do pure (f.offset, ← sizeOf f.type) : Sem (Array (Nat × Nat))).run P w = .ok pl.toArray w := by
          have : (fields.mapM fun f => do pure (f.offset, ← sizeOf f.type) : Sem (Array (Nat × Nat))) = List.toArray <$> (fields.toList.mapM (fun f => (do pure (f.offset, ← sizeOf f.type) : Sem (Nat × Nat)))) := by
            conv => lhs; rw [← Array.toArray_toList (xs := fields)]
            exact List.mapM_toArray
          rw [this]
          simp only [Sem.run_map, placesL_sound fields.toList pl hpl w, Result.andThen_ok]
        have hf : (fun (i : Nat) => pl.toArray[i]?) = fun (i : Nat) => pl[i]? := funext fun i => by simp
        have h1' : Instr.fill (fun i => pl.toArray[i]?) z.cells (parts.map fun p => (p.1, p.2.den ρ)) = some (denL ρ cs) := by rw [hzc, hf]; exact h1
        simp only [Instr.build, Sem.run_bind, hzero, Result.andThen_ok, run_underlying hu, hmap, h1', Sem.run_pure]
        rfl
      · cases h
    · cases h
  · rename_i elem hu
    split at h
    · rename_i e he
      split at h
      · rename_i cs hcs
        simp [okR] at h; subst h
        obtain ⟨h1, h2⟩ := fillS_sound (n := n) (ρ := ρ) parts _ cs hcs (okL_ofCell n _) hp
        refine ⟨fun w => ?_, h2⟩
        have h1' : Instr.fill (fun i => some (i * e.size, e.size)) z.cells (parts.map fun p => (p.1, p.2.den ρ)) = some (denL ρ cs) := by rw [hzc]; exact h1
        simp only [Instr.build, Sem.run_bind, hzero, Result.andThen_ok, run_underlying hu, run_sizeOf he, h1', Sem.run_pure]
        rfl
      · cases h
    · cases h
  · cases h

theorem capsOf_sound : ∀ (vs : List SV) (l : List (Nat × Nat)), capsOf vs = some l → vs.map (SV.den ρ) = l.map (fun p => Value.pointer (some ⟨ρ p.1, p.2, none⟩)) ∧
    ((∀ v ∈ vs, v.ok n = true) → (l.all fun p => Nat.blt p.1 n) = true)
  | [], l, h => by simp [capsOf] at h; subst h; simp
  | .c (.p blk off) :: r, l, h => by
    simp only [capsOf] at h
    split at h
    · rename_i l' hl
      simp at h; subst h
      obtain ⟨h1, h2⟩ := capsOf_sound r l' hl
      refine ⟨by simp [h1, SV.den, C.den], fun hv => ?_⟩
      simp only [List.all_cons, Bool.and_eq_true]
      exact ⟨hv _ List.mem_cons_self, h2 fun v hv' => hv v (List.mem_cons_of_mem _ hv')⟩
    · cases h
  | .c (.b _ _) :: _, _, h | .c (.i _ _ _) :: _, _, h | .c (.str _) :: _, _, h | .c (.slc _ _ _ _) :: _, _, h | .c (.fn _) :: _, _, h | .c (.clo _ _) :: _, _, h | .c (.x _) :: _, _, h
  | .a _ :: _, _, h | .t _ :: _, _, h | .any :: _, _, h => by simp [capsOf] at h

theorem pureOp_sound {ev : Operand → Option SV} {val : Operand → Value} (hv : ∀ x y, ev x = some y → val x = y.den ρ ∧ y.ok n = true)
    {o : Oper} {r : R} (h : pureOp P ev o.op = some r) (hn : allT r.nd) :
    (∀ w, (execOp val o).run P w = .ok (.value (r.v.den ρ)) w) ∧ r.v.ok n = true := by
  obtain ⟨dst, op, type, pos, after, guard⟩ := o
  have fin : ∀ (q : Sem Value), Good P ρ n q r → (∀ w, (do pure (.value (← q)) : Sem Next).run P w = .ok (.value (r.v.den ρ)) w) ∧ r.v.ok n = true :=
    fun q hq => ⟨fun w => by simp only [Sem.run_bind, hq.1, Result.andThen_ok, Sem.run_pure], hq.2⟩
  unfold pureOp at h
  simp only at h
  split at h
  · have := optR_some h; have h1 := hv _ _ this
    exact ⟨fun w => by simp only [execOp, h1.1, Sem.run_pure], h1.2⟩
  · have := optR_some h; have h1 := hv _ _ this
    exact ⟨fun w => by simp only [execOp, h1.1, Sem.run_pure], h1.2⟩
  · split at h
    · rename_i c a b _ v hc
      have := optR_some h
      have h1 := hv _ _ hc
      have h1' : val c = .bool v := h1.1
      cases v
      · have h2 := hv _ _ this
        exact ⟨fun w => by simp only [execOp, h1', asBool, Sem.run_bind, Sem.run_pure, Result.andThen_ok, h2.1, Bool.false_eq_true, if_false], h2.2⟩
      · have h2 := hv _ _ this
        exact ⟨fun w => by simp only [execOp, h1', asBool, Sem.run_bind, Sem.run_pure, Result.andThen_ok, h2.1, if_true], h2.2⟩
    · cases h
  · split at h
    · rename_i hu hw
      have h1 := hv _ _ hu; have h2 := hv _ _ hw
      simp only [execOp, h1.1, h2.1]
      exact fin _ (binR_sound h hn h1.2 h2.2 _ _)
    · cases h
  · split at h
    · rename_i hu
      have h1 := hv _ _ hu
      simp only [execOp, h1.1]
      exact fin _ (unR_sound h)
    · cases h
  · split at h
    · rename_i hu
      have h1 := hv _ _ hu
      simp only [execOp, h1.1]
      exact fin _ (convR_sound h)
    · cases h
  · split at h
    · rename_i hu
      have h1 := hv _ _ hu
      simp only [execOp, h1.1]
      exact fin _ (fieldAddrR_sound h h1.2)
    · cases h
  · split at h
    · rename_i hu
      have h1 := hv _ _ hu
      simp only [execOp, h1.1]
      exact fin _ (fieldR_sound h h1.2)
    · cases h
  · split at h
    · rename_i hu hw
      have h1 := hv _ _ hu; have h2 := hv _ _ hw
      simp only [execOp, h1.1, h2.1]
      exact fin _ (indexAddrR_sound h hn h1.2)
    · cases h
  · split at h
    · rename_i hu hw
      have h1 := hv _ _ hu; have h2 := hv _ _ hw
      simp only [execOp, h1.1, h2.1]
      exact fin _ (indexR_sound h hn h1.2)
    · cases h
  · split at h
    · rename_i hu
      have h1 := hv _ _ hu
      simp only [execOp, h1.1]
      exact fin _ (extractR_sound h h1.2)
    · cases h
  · split at h
    · rename_i hu
      have h1 := hv _ _ hu
      unfold nilCheckR at h
      split at h
      · simp [okR] at h; subst h
        exact ⟨fun w => by show Sem.run P (match val _ with | .pointer none | .nilIface | .nilFunc => _ | .func (.method name) first captured => _ | x => _) w = _; rw [h1.1]; rfl, h1.2⟩
      · simp [okR] at h; subst h
        exact ⟨fun w => by show Sem.run P (match val _ with | .pointer none | .nilIface | .nilFunc => _ | .func (.method name) first captured => _ | x => _) w = _; rw [h1.1]; rfl, h1.2⟩
      · simp [okR] at h; subst h
        exact ⟨fun w => by show Sem.run P (match val _ with | .pointer none | .nilIface | .nilFunc => _ | .func (.method name) first captured => _ | x => _) w = _; rw [h1.1]; rfl, h1.2⟩
      · cases h
    · cases h
  · rename_i t x lo hi
    split at h
    · rename_i u hu
      have h1 := hv _ _ hu
      simp only [execOp, h1.1]
      exact fin _ (sliceR_sound hv h h1.2)
    · cases h
  · rename_i t parts
    split at h
    · rename_i l hl
      obtain ⟨h1, h2⟩ := evp_sound hv _ _ hl
      have hb := buildR_sound (n := n) (ρ := ρ) h h2
      refine ⟨fun w => ?_, hb.2⟩
      have hparts : (parts.map fun (x : Nat × Operand) => match x with | (i, x) => (i, val x)) = (l.map fun p => (p.1, p.2.den ρ)).toArray := by
        apply Array.ext'
        rw [Array.toList_map]
        exact h1
      simp only [execOp]
      rw [hparts]
      simp only [Sem.run_bind, hb.1, Result.andThen_ok, Sem.run_pure]
    · cases h
  · rename_i f first captured
    cases hfe : first.isEmpty <;> simp only [hfe, cond_true, cond_false] at h
    · cases h
    split at h
    · rename_i vs hvs
      split at h
      · rename_i l hl
        simp [okR] at h; subst h
        have h1 := evs_sound hv _ _ hvs
        have h2 := capsOf_sound (n := n) (ρ := ρ) vs l hl
        refine ⟨fun w => ?_, h2.2 h1.2⟩
        have hcap : captured.map val = (l.map fun p => Value.pointer (some ⟨ρ p.1, p.2, none⟩)).toArray := Array.ext' (by rw [Array.toList_map, h1.1, h2.1])
        have hfst : first.map val = #[] := by
          have : first = #[] := by simpa using hfe
          rw [this]; simp
        simp only [execOp, Instr.makeFunc, hcap, hfst, Sem.run_bind, Sem.run_pure, Result.andThen_ok]
        rfl
      · cases h
    · cases h
  · split at h
    · rename_i b args argTypes _ vs hvs
      have h1 := evs_sound hv _ _ hvs
      have := builtinR_sound (n := n) (ρ := ρ) (type := type) (cs := args.map fun | .const _ => true | _ => false) h
      refine ⟨fun w => ?_, this.2⟩
      have hargs : args.map val = (vs.map (SV.den ρ)).toArray := by
        exact Array.ext' (by rw [Array.toList_map, h1.1])
      simp only [execOp, resolve, Sem.run_bind, Sem.run_pure, Result.andThen_ok, invoke, hargs]
      exact this.1 w
    · cases h
  · cases h
end
end Go.Proofs.Ytpfdemmoapjjpaa.Ev

namespace Go.Proofs.Ytpfdemmoapjjpaa.Ev
open Go

/-! ### 6. Operations on the memory -/

def setLK {α β : Type} : List α → Nat → α → (List α → β) → β
  | [], _, _, K => K []
  | x :: xs, i, v, K => cond (Nat.beq i 0) (K (v :: xs)) (setLK xs (i - 1) v fun ys => K (x :: ys))
theorem setLK_eq {α β : Type} (l : List α) : ∀ (i : Nat) (v : α) (K : List α → β), setLK l i v K = K (l.set i v) := by
  induction l with
  | nil => intros; rfl
  | cons x xs ih =>
    intro i v K
    simp only [setLK, ih]
    cases i with
    | zero => rfl
    | succ i => rfl
def appLK {α β : Type} : List α → α → (List α → β) → β
  | [], v, K => K [v]
  | x :: xs, v, K => appLK xs v fun ys => K (x :: ys)
theorem appLK_eq {α β : Type} (l : List α) : ∀ (v : α) (K : List α → β), appLK l v K = K (l ++ [v]) := by
  induction l with
  | nil => intros; rfl
  | cons x xs ih => intro v K; simp only [appLK, ih]; rfl
def takeLK {α β : Type} : Nat → List α → (List α → β) → β
  | 0, _, K => K []
  | _ + 1, [], K => K []
  | n + 1, x :: xs, K => takeLK n xs fun ys => K (x :: ys)
theorem takeLK_eq {α β : Type} : ∀ (n : Nat) (l : List α) (K : List α → β), takeLK n l K = K (l.take n)
  | 0, l, K => by simp [takeLK]
  | n + 1, [], K => by simp [takeLK]
  | n + 1, x :: xs, K => by simp [takeLK, takeLK_eq n xs]
def cellsK {β : Type} : List Value → (List C → β) → β
  | [], K => K []
  | v :: vs, K => cellsK vs fun cs => match v with
    | .bool b => K (.b true b :: cs)
    | .int k n => K (.i true k n :: cs)
    | .string s => K (.str s :: cs)
    | v => K (.x v :: cs)
theorem cellsK_eq {β : Type} (l : List Value) : ∀ (K : List C → β), cellsK l K = K (l.map ofCell) := by
  induction l with
  | nil => intros; rfl
  | cons v vs ih => intro K; simp only [cellsK, ih]; cases v <;> rfl

def C.storable : C → Bool
  | .x (.agg _) => false
  | .x (.tuple _) => false
  | _ => true

def writeLK {β : Type} : List C → Nat → List C → (List C → β) → β
  | cs, _, [], K => K cs
  | cs, off, v :: vs, K => setLK cs off v fun cs' => writeLK cs' (off + 1) vs K
def writeL : List C → Nat → List C → List C
  | cs, _, [] => cs
  | cs, off, v :: vs => writeL (cs.set off v) (off + 1) vs
theorem writeLK_eq {β : Type} (vs : List C) : ∀ (cs : List C) (off : Nat) (K : List C → β), writeLK cs off vs K = K (writeL cs off vs) := by
  induction vs with
  | nil => intros; rfl
  | cons v vs ih => intro cs off K; simp only [writeLK, writeL, setLK_eq, ih]

/-- A part of a struct in a row, by a place that is not known. -/
def selsK {γ : Type} (cs : List C) (m sz : Nat) (ix : Int) : Nat → Nat → (List C → Option γ) → Option γ
  | 0, _, K => K []
  | n + 1, off, K => gatherK cs sz m off fun l => selK l ix fun c => selsK cs m sz ix n (off + 1) fun r => K (c :: r)
theorem selsK_spec {γ : Type} {cs : List C} {m sz : Nat} {ix : Int} (hi : inB ix m = true) : ∀ (n off : Nat) (K : List C → Option γ) (r : γ), selsK cs m sz ix n off K = some r →
    ∃ l, K l = some r ∧ l.length = n ∧ (∀ N, okL N l = true) ∧ ∀ j c, l[j]? = some c → ∃ c', cs[off + j + ix.toNat * sz]? = some c' ∧ ∀ ρ, c'.den ρ = c.den ρ
  | 0, off, K, r, h => ⟨[], h, rfl, fun _ => rfl, fun j c hc => by simp at hc⟩
  | n + 1, off, K, r, h => by
    simp only [selsK] at h
    obtain ⟨l, h1, h2, h3⟩ := gatherK_spec _ _ _ _ h
    obtain ⟨c, hc, hden, hok⟩ := selK_spec h1 (by rw [h2]; exact hi)
    obtain ⟨l', h4, h5, h6, h7⟩ := selsK_spec hi n (off + 1) _ r hc
    refine ⟨c :: l', h4, by simp [h5], fun N => by simp only [okL, List.all_cons, Bool.and_eq_true]; exact ⟨hok N, h6 N⟩, fun j u hu => ?_⟩
    cases j with
    | zero =>
      simp at hu; subst hu
      have hb := hi
      simp only [inB, Bool.and_eq_true, decide_eq_true_eq] at hb
      obtain ⟨h8, h9⟩ := h3 ix.toNat (by omega)
      obtain ⟨c', hc'⟩ := Option.isSome_iff_exists.1 h9
      refine ⟨c', by simpa using hc', fun ρ => ?_⟩
      have := hden ρ
      rw [h8, hc'] at this
      simpa using this
    | succ j =>
      simp at hu
      obtain ⟨c', h8, h9⟩ := h7 j u hu
      exact ⟨c', by rw [show off + (j + 1) + ix.toNat * sz = off + 1 + j + ix.toNat * sz by omega]; exact h8, h9⟩

/-- A cell that is written if it is the one. -/
def upK {γ : Type} (b : Bool) (v old : C) (K : C → Option γ) : Option γ :=
  match v, old with
  | .i _ k x, .i _ k' y => if k = k' then K (.i false k (cond b x y)) else none
  | .b _ x, .b _ y => K (.b false (cond b x y))
  | _, _ => none
theorem upK_spec {γ : Type} {b : Bool} {v old : C} {K : C → Option γ} {r : γ} (h : upK b v old K = some r) : ∃ c, K c = some r ∧ (∀ N, c.ok N = true) ∧ ∀ ρ, c.den ρ = cond b (v.den ρ) (old.den ρ) := by
  unfold upK at h
  split at h
  · split at h
    · rename_i hk
      subst hk
      exact ⟨_, h, fun _ => rfl, fun ρ => by cases b <;> rfl⟩
    · cases h
  · exact ⟨_, h, fun _ => rfl, fun ρ => by cases b <;> rfl⟩
  · cases h
def updK {γ : Type} : List C → Nat → Nat → Nat → Nat → Int → C → (List C → Option γ) → Option γ
  | cs, 0, _, _, _, _, _, K => K cs
  | cs, m + 1, off, sz, j, ix, v, K => match cs[off]? with
    | none => none
    | some old => upK (ix == Int.ofNat j) v old fun c => setLK cs off c fun cs' => updK cs' m (off + sz) sz (j + 1) ix v K
theorem denL_set {ρ : Nat → Nat} (cs : List C) (i : Nat) (v : C) : denL ρ (cs.set i v) = (denL ρ cs).setIfInBounds i (v.den ρ) := by
  unfold denL
  rw [List.map_set, List.setIfInBounds_toArray]
theorem denL_set_same {ρ : Nat → Nat} {cs : List C} {i : Nat} {u v : C} (h : cs[i]? = some u) (e : v.den ρ = u.den ρ) : denL ρ (cs.set i v) = denL ρ cs := by
  rw [denL_set, e]
  apply Array.ext_getElem?
  intro j
  by_cases hj : i = j
  · subst hj
    have hlt : i < cs.length := (List.getElem?_eq_some_iff.1 h).1
    rw [Array.getElem?_setIfInBounds_self]
    have h' := (List.getElem?_eq_some_iff.1 h).2
    simp [denL, hlt, h']
  · rw [Array.getElem?_setIfInBounds_ne hj]
theorem okL_set {n i : Nat} {cs : List C} {v : C} (h : okL n cs = true) (hv : v.ok n = true) : okL n (cs.set i v) = true :=
  List.all_eq_true.2 fun x hx => (List.mem_or_eq_of_mem_set hx).elim (fun hx => List.all_eq_true.1 h x hx) (fun e => e ▸ hv)
theorem updK_spec {γ : Type} {sz : Nat} {ix : Int} {v : C} {K : List C → Option γ} {r : γ} : ∀ (m : Nat) (cs : List C) (off j : Nat), updK cs m off sz j ix v K = some r → 0 ≤ ix →
    ∃ cs', K cs' = some r ∧ cs'.length = cs.length ∧ (∀ N, okL N cs = true → okL N cs' = true) ∧
      ((ix.toNat < j ∨ j + m ≤ ix.toNat) → ∀ ρ, denL ρ cs' = denL ρ cs) ∧
      ((j ≤ ix.toNat ∧ ix.toNat < j + m) → off + (ix.toNat - j) * sz < cs.length ∧ ∀ ρ, denL ρ cs' = denL ρ (cs.set (off + (ix.toNat - j) * sz) v))
  | 0, cs, off, j, h, _ => ⟨cs, h, rfl, fun _ h => h, fun _ _ => rfl, fun h => by omega⟩
  | m + 1, cs, off, j, h, h0 => by
    simp only [updK] at h
    split at h
    · cases h
    rename_i old hold
    obtain ⟨c, hc, hok, hden⟩ := upK_spec h
    rw [setLK_eq] at hc
    obtain ⟨cs', h1, h2, h3, h4, h5⟩ := updK_spec m (cs.set off c) (off + sz) (j + 1) hc h0
    have hoff : off < cs.length := (List.getElem?_eq_some_iff.1 hold).1
    refine ⟨cs', h1, by rw [h2, List.length_set], fun N hN => h3 N (okL_set hN (hok N)), fun hout ρ => ?_, fun hin => ?_⟩
    · have hne : (ix == Int.ofNat j) = false := by
        have : ¬ ix = Int.ofNat j := fun e => by rw [e] at hout; simp at hout; omega
        simpa using this
      rw [h4 (by omega) ρ]
      exact denL_set_same hold (by rw [hden ρ, hne]; rfl)
    · by_cases e : ix.toNat = j
      · have he : (ix == Int.ofNat j) = true := by
          have : ix = Int.ofNat j := by rw [← e]; simp; omega
          simpa using this
        rw [e, Nat.sub_self, Nat.zero_mul, Nat.add_zero]
        refine ⟨hoff, fun ρ => ?_⟩
        rw [h4 (by omega) ρ, denL_set, denL_set, hden ρ, he]; rfl
      · have hne : (ix == Int.ofNat j) = false := by
          have : ¬ ix = Int.ofNat j := fun e' => e (by rw [e']; simp)
          simpa using this
        obtain ⟨h6, h7⟩ := h5 (by omega)
        have ep : off + sz + (ix.toNat - (j + 1)) * sz = off + (ix.toNat - j) * sz := by
          rw [show ix.toNat - j = (ix.toNat - (j + 1)) + 1 by omega, Nat.add_mul]; omega
        rw [ep] at h6 h7
        rw [List.length_set] at h6
        refine ⟨h6, fun ρ => ?_⟩
        rw [h7 ρ, denL_set, denL_set_same hold (by rw [hden ρ, hne]; rfl), ← denL_set]

def newS (s : SW) (cs : List C) (ty : TypeId) : Option (SV × SW) :=
  forceN s.length fun n => appLK s ⟨cs, ty⟩ fun s' => some (.c (.p n 0), s')

def loadS (P : Program) (s : SW) (t : TypeId) (x : SV) : Option (SV × SW) :=
  match x with
  | .c (.p blk off) => (match s[blk]? with
    | none => none
    | some b => match P.underlying t with
      | none => none
      | some d => cond (aggB d)
        (match P.info? t with
          | none => none
          | some i => takeLK i.size (b.cs.drop off) fun l => cond (Nat.beq l.length i.size) (some (.a l, s)) none)
        (match b.cs[off]? with | some c => some (.c c, s) | none => none))
  | .c (.q blk off m sz ix) => (match s[blk]? with
    | none => none
    | some b => match P.underlying t with
      | none => none
      | some d => cond (aggB d)
        (match P.info? t with
          | none => none
          | some i => selsK b.cs m sz ix i.size off fun l => some (.a l, s))
        (gatherK b.cs sz m off fun l => selK l ix fun c => some (.c c, s)))
  | _ => none

def storeS (P : Program) (s : SW) (t : TypeId) (x v : SV) : Option (SV × SW) :=
  match x with
  | .c (.p blk off) => (match s[blk]? with
    | none => none
    | some b => match v.cells, P.info? t with
      | some vs, some i => cond (Nat.beq vs.length i.size && vs.all C.storable && Nat.ble (off + vs.length) b.cs.length)
          (writeLK b.cs off vs fun cs => setLK s blk ⟨cs, b.ty⟩ fun s' => some (undefS, s')) none
      | _, _ => none)
  | .c (.q blk off m sz ix) => (match s[blk]? with
    | none => none
    | some b => match v, P.info? t with
      | .c c, some i => cond (Nat.beq i.size 1 && c.storable) (updK b.cs m off sz 0 ix c fun cs => setLK s blk ⟨cs, b.ty⟩ fun s' => some (undefS, s')) none
      | _, _ => none)
  | _ => none

def heapOp (P : Program) (ev : Operand → Option SV) (s : SW) (op : Op) : Option (SV × SW) :=
  match op with
  | .alloc elem => (match P.info? elem with
    | some i => (match i.zero with
      | some z => cellsK z.cells.toList fun cs => newS s cs elem
      | none => none)
    | none => none)
  | .box elem x => (match ev x with
    | some v => (match v.cells with | some cs => cond (cs.all C.storable) (newS s cs elem) none | none => none)
    | none => none)
  | .load t x => (match ev x with | some v => loadS P s t v | none => none)
  | .store t a x => (match ev a, ev x with | some u, some v => storeS P s t u v | _, _ => none)
  | .buildSlice t len parts => (match P.underlying t with
    | some (.slice elem) => (match P.info? elem with
      | some e => cond (Nat.beq (len * e.size) 0 || Nat.blt (2 ^ 24) (len * e.size)) none (match e.zero with
        | some z => cellsOfK ((List.range (len * e.size)).map fun i => z.cells[i % z.cells.size]!) fun zs => (match evp ev parts.toList with
          | some l => (match fillS (fun i => some (i * e.size, e.size)) zs l with
            | some cs => (match newS s cs elem with | some (.c (.p n off), s') => some (.c (.slc n off len len), s') | _ => none)
            | none => none)
          | none => none)
        | none => none)
      | none => none)
    | _ => none)
  | .call { callee := .builtin .copy, args, argTypes } => (match evs ev args.toList, argTypes[0]? with
    | some [.c (.slc b1 o1 l1 _), .c (.slc b2 o2 l2 _)], some t => (match P.underlying t with
      | some (.slice elem) => (match P.info? elem, s[b2]?, s[b1]? with
        | some e, some src, some dst => forceN (min l2 l1) fun n => takeLK (n * e.size) (src.cs.drop o2) fun cells =>
            cond (Nat.beq cells.length (n * e.size) && cells.all C.storable && Nat.ble (o1 + cells.length) dst.cs.length)
              (writeLK dst.cs o1 cells fun cs => setLK s b1 ⟨cs, dst.ty⟩ fun s' => some (.c (.i true .i64 n), s')) none
        | _, _, _ => none)
      | _ => none)
    | _, _ => none)
  | _ => none

section
variable {P : Program} {ρ : Nat → Nat} {W : World} {L : Nat} {s : SW} {w : World}

theorem run_load_cell {a : Addr} {v : Value} (h : w.cell? a = some v) : (load a).run P w = .ok v w := by
  simp [load, Sem.run, h]

theorem run_loadCellsFrom (a : Addr) : ∀ (n i : Nat) (acc : Array Value) (vs : List Value), vs.length = n →
    (∀ j v, vs[j]? = some v → w.cell? (a.add (i + j)) = some v) → (loadCellsFrom a i n acc).run P w = .ok (acc ++ vs.toArray) w
  | 0, i, acc, vs, hl, _ => by
    obtain rfl : vs = [] := List.length_eq_zero_iff.1 hl
    simp [loadCellsFrom]
  | n + 1, i, acc, [], hl, _ => by simp at hl
  | n + 1, i, acc, v :: vs, hl, h => by
    have h0 := h 0 v rfl
    simp only [loadCellsFrom, Sem.run_bind]
    rw [run_load_cell (by simpa using h0)]
    simp only [Result.andThen_ok]
    rw [run_loadCellsFrom a n (i + 1) (acc.push v) vs (by simpa using hl) (fun j u hj => by
      have := h (j + 1) u (by simpa using hj)
      rw [show i + 1 + j = i + (j + 1) by omega]; exact this)]
    simp

theorem loadS_sound (hI : Inv W L ρ s w) {t : TypeId} {x v : SV} {s' : SW} (h : loadS P s t x = some (v, s')) (hx : x.ok s.length = true) :
    s' = s ∧ v.ok s.length = true ∧ (Instr.loadAt t (x.den ρ)).run P w = .ok (v.den ρ) w := by
  unfold loadS at h
  split at h
  · rename_i blk off
    split at h
    · cases h
    rename_i b hb
    split at h
    · cases h
    rename_i d hd
    simp only [SV.den, C.den, Instr.loadAt, Instr.sureAddr, Sem.run_bind, Sem.run_pure, Result.andThen_ok, loadVar, run_isAgg hd]
    cases ha : aggB d <;> simp only [ha, cond_true, cond_false] at h
    · split at h
      · rename_i c hc
        simp at h; obtain ⟨rfl, rfl⟩ := h
        have := hI.cell hb hc
        refine ⟨rfl, this.2, ?_⟩
        simp only [Bool.false_eq_true, if_false]
        exact run_load_cell this.1
      · cases h
    · split at h
      · cases h
      rename_i i hi
      rw [takeLK_eq] at h
      cases hl : Nat.beq ((b.cs.drop off).take i.size).length i.size <;> simp only [hl, cond_true, cond_false] at h
      · cases h
      · simp at h; obtain ⟨rfl, rfl⟩ := h
        have hl' := Nat.eq_of_beq_eq_true hl
        refine ⟨rfl, List.all_eq_true.2 fun c hc => List.all_eq_true.1 (hI.okc blk b hb) c (List.mem_of_mem_drop (List.mem_of_mem_take hc)), ?_⟩
        simp only [if_true, Sem.run_bind, run_sizeOf hi, Result.andThen_ok, loadCells]
        rw [run_loadCellsFrom (w := w) (P := P) ⟨ρ blk, off, none⟩ i.size 0 #[] (((b.cs.drop off).take i.size).map (C.den ρ)) (by rw [List.length_map]; exact hl') (fun j u hj => by
          rw [List.getElem?_map] at hj
          cases hc : ((b.cs.drop off).take i.size)[j]? with
          | none => rw [hc] at hj; simp at hj
          | some c =>
            rw [hc] at hj; simp at hj; subst hj
            have hj' : j < i.size := by
              have := (List.getElem?_eq_some_iff.1 hc).1
              simp at this; omega
            rw [List.getElem?_take_of_lt hj', List.getElem?_drop] at hc
            rw [Nat.zero_add, Addr.add_lit]
            exact (hI.cell hb hc).1)]
        simp [denL]
  · rename_i blk off m sz ix
    split at h
    · cases h
    rename_i b hb
    split at h
    · cases h
    rename_i d hd
    have hin : inB ix m = true := by
      simp only [SV.ok, C.ok, Bool.and_eq_true] at hx; exact hx.2
    have hbd := inB_spec hin
    simp only [SV.den, C.den, Instr.loadAt, Instr.sureAddr, Sem.run_bind, Sem.run_pure, Result.andThen_ok, loadVar, run_isAgg hd]
    cases ha : aggB d <;> simp only [ha, cond_true, cond_false] at h
    · obtain ⟨l, h1, h2, h3⟩ := gatherK_spec _ _ _ _ h
      obtain ⟨c, hc, hden, hok⟩ := selK_spec h1 (by rw [h2]; exact hin)
      simp at hc; obtain ⟨rfl, rfl⟩ := hc
      obtain ⟨h4, h5⟩ := h3 ix.toNat (by omega)
      obtain ⟨c', hc'⟩ := Option.isSome_iff_exists.1 h5
      have hdc := hden ρ
      rw [h4, hc'] at hdc
      simp at hdc
      refine ⟨rfl, hok _, ?_⟩
      simp only [Bool.false_eq_true, if_false]
      have := (hI.cell hb hc').1
      rw [hdc] at this
      exact run_load_cell this
    · split at h
      · cases h
      rename_i i hi
      obtain ⟨l, h1, h2, h3, h4⟩ := selsK_spec hin _ _ _ _ h
      simp at h1; obtain ⟨rfl, rfl⟩ := h1
      refine ⟨rfl, h3 _, ?_⟩
      simp only [if_true, Sem.run_bind, run_sizeOf hi, Result.andThen_ok, loadCells]
      rw [run_loadCellsFrom (w := w) (P := P) ⟨ρ blk, off + ix.toNat * sz, none⟩ i.size 0 #[] (l.map (C.den ρ)) (by rw [List.length_map]; exact h2) (fun j u hj => by
        rw [List.getElem?_map] at hj
        cases hc : l[j]? with
        | none => rw [hc] at hj; simp at hj
        | some c =>
          rw [hc] at hj; simp at hj; subst hj
          obtain ⟨c', h5, h6⟩ := h4 j c hc
          rw [Nat.zero_add, Addr.add_lit, show off + ix.toNat * sz + j = off + j + ix.toNat * sz by omega, ← h6 ρ]
          exact (hI.cell hb h5).1)]
      simp [denL]
  · cases h

theorem C.storable_one {c : C} (h : c.storable = true) : (c.den ρ).oneCell' = true := by
  cases c with
  | x v => cases v <;> simp_all [C.storable, C.den, Value.oneCell']
  | _ => rfl

theorem run_store_cell {a : Addr} {v u : Value} (h : w.cell? a = some u) (hf : w.frozen? a = false) (hv : v.oneCell' = true) :
    (store a v).run P w = .ok () (w.setCell a v) := by
  cases v <;> simp_all [store, Sem.run, Value.oneCell']

theorem storeCells_sound : ∀ (vs : List C) (s : SW) (w : World) (blk off : Nat) (b : Bl) (i : Nat), Inv W L ρ s w → s[blk]? = some b → vs.all C.storable = true →
    off + i + vs.length ≤ b.cs.length → okL s.length vs = true →
    ∃ w', (storeCells ⟨ρ blk, off, none⟩ (vs.map (C.den ρ)) i).run P w = .ok () w' ∧ Inv W L ρ (s.set blk ⟨writeL b.cs (off + i) vs, b.ty⟩) w'
  | [], s, w, blk, off, b, i, hI, hb, _, _, _ => by
    refine ⟨w, by simp [storeCells], ?_⟩
    have : s.set blk ⟨writeL b.cs (off + i) [], b.ty⟩ = s := by
      obtain ⟨hlt, he⟩ := List.getElem?_eq_some_iff.1 hb
      simp only [writeL]
      rw [← he, List.set_getElem_self]
    rw [this]; exact hI
  | v :: vs, s, w, blk, off, b, i, hI, hb, hst, hle, hok => by
    simp only [List.all_cons, Bool.and_eq_true] at hst
    simp only [List.length_cons] at hle
    have hoff : off + i < b.cs.length := by omega
    have hokv : v.ok s.length = true ∧ okL s.length vs = true := by simpa [okL] using hok
    have hc := (hI.cell hb (List.getElem?_eq_getElem hoff)).1
    have hf := hI.thawed (off := off + i) hb
    have h1 := run_store_cell (P := P) hc hf (C.storable_one (ρ := ρ) hst.1)
    have hI1 := hI.store hb hoff hokv.1
    have hblk : blk < s.length := (List.getElem?_eq_some_iff.1 hb).1
    obtain ⟨w', hr, hI'⟩ := storeCells_sound vs (s.set blk ⟨b.cs.set (off + i) v, b.ty⟩) _ blk off ⟨b.cs.set (off + i) v, b.ty⟩ (i + 1) hI1
      (by rw [List.getElem?_set_self hblk]) hst.2 (by simp only [List.length_set]; omega) (by rw [List.length_set]; exact hokv.2)
    refine ⟨w', ?_, ?_⟩
    · simp only [List.map_cons, storeCells, Sem.run_bind]
      rw [show (⟨ρ blk, off, none⟩ : Addr).add i = ⟨ρ blk, off + i, none⟩ from Addr.add_lit _ _ _, h1]
      exact hr
    · rw [List.set_set] at hI'
      exact hI'

theorem cells_den {v : SV} {vs : List C} (h : v.cells = some vs) : (v.den ρ).cells = denL ρ vs ∨ ∃ u, v = .c (.x u) := by
  cases v with
  | c x =>
    cases x with
    | x u => exact .inr ⟨u, rfl⟩
    | _ => simp [SV.cells] at h; subst h; left; rfl
  | a l => simp [SV.cells] at h; subst h; left; rfl
  | t l => simp [SV.cells] at h
  | any => simp [SV.cells] at h

theorem cells_den' {v : SV} {vs : List C} (h : v.cells = some vs) (hs : vs.all C.storable = true) : (v.den ρ).cells = denL ρ vs := by
  rcases cells_den (ρ := ρ) h with h' | ⟨u, rfl⟩
  · exact h'
  · simp [SV.cells] at h; subst h
    cases u <;> simp_all [C.storable, SV.den, C.den, Value.cells, denL]

theorem cells_ok {v : SV} {vs : List C} {n : Nat} (h : v.cells = some vs) (hv : v.ok n = true) : okL n vs = true := by
  cases v with
  | c x => simp [SV.cells] at h; subst h; simpa [okL, SV.ok] using hv
  | a l => simp [SV.cells] at h; subst h; exact hv
  | t l => simp [SV.cells] at h
  | any => simp [SV.cells] at h

/-- Cells that mean the same. -/
theorem Inv.redo {W : World} {L : Nat} {ρ : Nat → Nat} {s : SW} {w : World} (h : Inv W L ρ s w) {blk : Nat} {b : Bl} (hb : s[blk]? = some b) {cs' : List C}
    (he : ∀ ρ, denL ρ b.cs = denL ρ cs') (hok : okL s.length cs' = true) : Inv W L ρ (s.set blk ⟨cs', b.ty⟩) w := by
  have hblk : blk < s.length := (List.getElem?_eq_some_iff.1 hb).1
  refine ⟨fun i c hc => ?_, fun i c hc => ?_, fun i j hi hj => h.inj i j (by simpa using hi) (by simpa using hj), h.grow, h.old, fun i h1 h2 => h.fresh i h1 (by simpa using h2), h.frz, h.os, h.out, h.tape, by simpa using h.len⟩
  · by_cases e : blk = i
    · subst e
      rw [List.getElem?_set_self hblk] at hc
      simp at hc; subst hc
      rw [h.blk blk b hb, he ρ]
    · rw [List.getElem?_set_ne e] at hc
      exact h.blk i c hc
  · rw [List.length_set]
    by_cases e : blk = i
    · subst e
      rw [List.getElem?_set_self hblk] at hc
      simp at hc; subst hc
      exact hok
    · rw [List.getElem?_set_ne e] at hc
      exact h.okc i c hc

theorem storeS_sound (hI : Inv W L ρ s w) {t : TypeId} {x v u : SV} {s' : SW} (h : storeS P s t x v = some (u, s')) (hx : x.ok s.length = true) (hv : v.ok s.length = true) :
    u = undefS ∧ s'.length = s.length ∧ ∃ w', (Instr.storeAt t (x.den ρ) (v.den ρ)).run P w = .ok () w' ∧ Inv W L ρ s' w' := by
  unfold storeS at h
  split at h
  · rename_i blk off
    split at h
    · cases h
    rename_i b hb
    split at h
    · rename_i vs i hvs hi
      cases hc : Nat.beq vs.length i.size && vs.all C.storable && Nat.ble (off + vs.length) b.cs.length <;> simp only [hc, cond_true, cond_false] at h
      · cases h
      · rw [writeLK_eq, setLK_eq] at h
        simp at h; obtain ⟨rfl, rfl⟩ := h
        simp only [Bool.and_eq_true] at hc
        obtain ⟨⟨h1, h2⟩, h3⟩ := hc
        have h1' := Nat.eq_of_beq_eq_true h1
        obtain ⟨w', hr, hI'⟩ := storeCells_sound (P := P) vs s w blk off b 0 hI hb h2 (by have := Nat.le_of_ble_eq_true h3; omega) (cells_ok hvs hv)
        refine ⟨rfl, by simp, w', ?_, hI'⟩
        have hcells := cells_den' (ρ := ρ) hvs h2
        show (Instr.storeAt t (.pointer (some ⟨ρ blk, off, none⟩)) (v.den ρ)).run P w = _
        simp only [Instr.storeAt, Instr.sureAddr, Sem.run_bind, Sem.run_pure, Result.andThen_ok, storeVar, hcells, run_sizeOf hi]
        have : (denL ρ vs).size = i.size := by simp [denL, h1']
        simp only [this, ne_eq, not_true_eq_false, if_false]
        simpa [denL] using hr
    · cases h
  · rename_i blk off m sz ix
    split at h
    · cases h
    rename_i b hb
    split at h
    · rename_i _ _ c i hi
      cases hc : Nat.beq i.size 1 && c.storable <;> simp only [hc, cond_true, cond_false] at h
      · cases h
      · have hin : inB ix m = true := by
          simp only [SV.ok, C.ok, Bool.and_eq_true] at hx; exact hx.2
        have hbd := inB_spec hin
        simp only [Bool.and_eq_true] at hc
        obtain ⟨h1, h2⟩ := hc
        have h1' := Nat.eq_of_beq_eq_true h1
        obtain ⟨cs', h3, h4, h5, _, h6⟩ := updK_spec m b.cs off 0 h hbd.1
        rw [setLK_eq] at h3
        simp at h3; obtain ⟨rfl, rfl⟩ := h3
        obtain ⟨h7, h8⟩ := h6 (by omega)
        rw [Nat.sub_zero] at h7 h8
        have hce := (hI.cell hb (List.getElem?_eq_getElem h7)).1
        have hf := hI.thawed (off := off + ix.toNat * sz) hb
        have hr := run_store_cell (P := P) hce hf (C.storable_one (ρ := ρ) h2)
        have hI1 := hI.store hb h7 hv
        have hblk : blk < s.length := (List.getElem?_eq_some_iff.1 hb).1
        refine ⟨rfl, by simp, w.setCell ⟨ρ blk, off + ix.toNat * sz, none⟩ (c.den ρ), ?_, ?_⟩
        · show (Instr.storeAt t (.pointer (some ⟨ρ blk, off + ix.toNat * sz, none⟩)) (c.den ρ)).run P w = .ok () (w.setCell ⟨ρ blk, off + ix.toNat * sz, none⟩ (c.den ρ))
          have hcells : (c.den ρ).cells = denL ρ [c] := cells_den' (v := .c c) (ρ := ρ) rfl (by simp [h2])
          have hsz : (denL ρ [c]).size = i.size := by rw [h1']; rfl
          simp only [Instr.storeAt, Instr.sureAddr, Sem.run_bind, Sem.run_pure, Result.andThen_ok, storeVar, hcells, run_sizeOf hi, hsz, ne_eq, not_true_eq_false, if_false]
          simp only [denL, List.map_cons, List.map_nil, storeCells, Sem.run_bind]
          rw [show (⟨ρ blk, off + ix.toNat * sz, none⟩ : Addr).add 0 = ⟨ρ blk, off + ix.toNat * sz, none⟩ from Addr.add_lit _ _ _, hr]
          simp
        · have hI2 := hI1.redo (blk := blk) (b := ⟨b.cs.set (off + ix.toNat * sz) c, b.ty⟩) (by rw [List.getElem?_set_self hblk]) (cs' := cs') (fun ρ => (h8 ρ).symm) (by
            rw [List.length_set]; exact h5 _ (hI.okc blk b hb))
          rw [List.set_set] at hI2
          exact hI2
    · cases h
  · cases h

theorem newS_sound (hI : Inv W L ρ s w) {cs : List C} {ty : TypeId} {v : SV} {s' : SW} (h : newS s cs ty = some (v, s')) (hcs : okL s.length cs = true) :
    ∃ ρ' w', Agree s.length ρ ρ' ∧ s.length ≤ s'.length ∧ v.ok s'.length = true ∧ v.den ρ' = .pointer (some ⟨w.heap.size, 0, none⟩) ∧
      w' = { w with heap := w.heap.push (.cells (denL ρ cs) ty) } ∧ Inv W L ρ' s' w' := by
  unfold newS at h
  rw [forceN_eq, appLK_eq] at h
  simp at h; obtain ⟨rfl, rfl⟩ := h
  obtain ⟨ρ', hag, hn, hI'⟩ := hI.alloc cs ty hcs
  refine ⟨ρ', _, hag, by simp, ?_, by simp [SV.den, C.den, hn], rfl, hI'⟩
  simp [SV.ok, C.ok]

theorem heapOp_sound (hI : Inv W L ρ s w) {ev : Operand → Option SV} {val : Operand → Value} (hv : ∀ x y, ev x = some y → val x = y.den ρ ∧ y.ok s.length = true)
    {o : Oper} {v : SV} {s' : SW} (h : heapOp P ev s o.op = some (v, s')) :
    ∃ ρ' w' nx, Agree s.length ρ ρ' ∧ s.length ≤ s'.length ∧ v.ok s'.length = true ∧ (execOp val o).run P w = .ok nx w' ∧ Inv W L ρ' s' w' ∧
      (nx = .value (v.den ρ') ∨ (nx = .skip ∧ v = undefS)) := by
  obtain ⟨dst, op, type, pos, after, guard⟩ := o
  unfold heapOp at h
  simp only at h
  split at h
  · rename_i elem
    split at h
    · rename_i i hi
      split at h
      · rename_i z hz
        rw [cellsK_eq] at h
        obtain ⟨ρ', w', hag, hle, hok, hd, hw, hI'⟩ := newS_sound hI h (okL_ofCell _ _)
        refine ⟨ρ', w', _, hag, hle, hok, ?_, hI', .inl rfl⟩
        rw [denL_ofCell] at hw
        simp only [execOp, Sem.run_bind, Instr.alloc, zeroValue, typeInfo, run_program, Result.andThen_ok, hi, Sem.run_pure, hz, newVar, newRow, run_newObj, hd, hw]
      · cases h
    · cases h
  · split at h
    · rename_i elem x _ v' hx
      split at h
      · rename_i cs hcs
        cases hst : cs.all C.storable <;> simp only [hst, cond_true, cond_false] at h
        · cases h
        have h1 := hv _ _ hx
        obtain ⟨ρ', w', hag, hle, hok, hd, hw, hI'⟩ := newS_sound hI h (cells_ok hcs h1.2)
        refine ⟨ρ', w', _, hag, hle, hok, ?_, hI', .inl rfl⟩
        have hc : (val x).cells = denL ρ cs := by rw [h1.1]; exact cells_den' hcs hst
        simp only [execOp, Sem.run_bind, Instr.box, newVar, newRow, run_newObj, Result.andThen_ok, Sem.run_pure, hc, hd, hw]
      · cases h
    · cases h
  · split at h
    · rename_i t x _ v' hx
      have h1 := hv _ _ hx
      obtain ⟨rfl, hok, hr⟩ := loadS_sound hI h h1.2
      refine ⟨ρ, w, _, Agree.refl _ _, Nat.le_refl _, hok, ?_, hI, .inl rfl⟩
      simp only [execOp, Sem.run_bind, h1.1, hr, Result.andThen_ok, Sem.run_pure]
    · cases h
  · split at h
    · rename_i t a x _ _ u v' ha hx
      have h1 := hv _ _ ha; have h2 := hv _ _ hx
      obtain ⟨rfl, hlen, w', hr, hI'⟩ := storeS_sound hI h h1.2 h2.2
      refine ⟨ρ, w', .skip, Agree.refl _ _, by omega, undefS_ok _, ?_, hI', .inr ⟨rfl, rfl⟩⟩
      simp only [execOp, Sem.run_bind, h1.1, h2.1, hr, Result.andThen_ok, Sem.run_pure]
    · cases h
  · rename_i t len parts
    split at h
    · rename_i elem hu
      split at h
      · rename_i e he
        cases hz : (Nat.beq (len * e.size) 0 || Nat.blt (2 ^ 24) (len * e.size)) <;> simp only [hz, cond_true, cond_false] at h
        · split at h
          · rename_i z hze
            rw [cellsOfK_eq] at h
            split at h
            · rename_i l hl
              obtain ⟨hm, ho⟩ := evp_sound hv _ _ hl
              split at h
              · rename_i cs hcs
                obtain ⟨h1, h2⟩ := fillS_sound (n := s.length) (ρ := ρ) l _ cs hcs (okL_ofCell _ _) ho
                split at h
                · rename_i n off s1 hn
                  simp at h; obtain ⟨rfl, rfl⟩ := h
                  obtain ⟨ρ', w', hag, hle, hok, hd, hw, hI'⟩ := newS_sound hI hn h2
                  refine ⟨ρ', w', _, hag, hle, hok, ?_, hI', .inl rfl⟩
                  simp only [Bool.or_eq_false_iff] at hz
                  have hz1 : ¬ (len * e.size = 0) := fun e0 => by rw [e0] at hz; simp at hz
                  have hz2 : ¬ (len * e.size > 2 ^ 24) := fun e0 => by
                    have := Nat.ble_eq_true_of_le (show 2 ^ 24 + 1 ≤ len * e.size from e0)
                    have h3 : Nat.blt (2 ^ 24) (len * e.size) = true := this
                    rw [h3] at hz; simp at hz
                  have hparts : (parts.map fun (x : Nat × Operand) => match x with | (i, x) => (i, val x)).toList = l.map fun p => (p.1, p.2.den ρ) := by
                    rw [Array.toList_map]; exact hm
                  have hzc : (Array.range (len * e.size)).map (fun i => z.cells[i % z.cells.size]!) = denL ρ (((List.range (len * e.size)).map fun i => z.cells[i % z.cells.size]!).map ofCell) := by
                    rw [denL_ofCell]
                    apply Array.ext'
                    simp
                  have hd' : ρ' n = w.heap.size ∧ off = 0 := by
                    simpa [SV.den, C.den] using hd
                  simp only [execOp]
                  simp only [Sem.run_bind, Instr.buildSlice, run_underlying hu, Result.andThen_ok, run_sizeOf he, if_neg hz1, if_neg hz2, zeroValue, typeInfo, run_program, he, hze, Sem.run_pure, hparts, hzc, h1, newRow, run_newObj]
                  rw [hw]
                  simp [SV.den, C.den, hd'.1, hd'.2]
                · cases h
              · cases h
            · cases h
          · cases h
        · cases h
      · cases h
    · cases h
  · rename_i args argTypes
    split at h
    · rename_i b1 o1 l1 c1 b2 o2 l2 c2 t hargs ht
      obtain ⟨ha, hok⟩ := evs_sound hv _ _ hargs
      split at h
      · rename_i elem hu
        split at h
        · rename_i e src dst he hb2 hb1
          rw [forceN_eq, takeLK_eq] at h
          cases hc : (Nat.beq ((src.cs.drop o2).take (min l2 l1 * e.size)).length (min l2 l1 * e.size) && ((src.cs.drop o2).take (min l2 l1 * e.size)).all C.storable && Nat.ble (o1 + ((src.cs.drop o2).take (min l2 l1 * e.size)).length) dst.cs.length) <;>
            simp only [hc, cond_true, cond_false] at h
          · cases h
          · rw [writeLK_eq, setLK_eq] at h
            simp at h; obtain ⟨rfl, rfl⟩ := h
            simp only [Bool.and_eq_true] at hc
            obtain ⟨⟨h1, h2⟩, h3⟩ := hc
            have h1' := Nat.eq_of_beq_eq_true h1
            have hcl : okL s.length ((src.cs.drop o2).take (min l2 l1 * e.size)) = true :=
              List.all_eq_true.2 fun c hc => List.all_eq_true.1 (hI.okc b2 src hb2) c (List.mem_of_mem_drop (List.mem_of_mem_take hc))
            obtain ⟨w', hr, hI'⟩ := storeCells_sound (P := P) _ s w b1 o1 dst 0 hI hb1 h2 (by have := Nat.le_of_ble_eq_true h3; omega) hcl
            have hload : (loadCells (⟨ρ b2, o2, none⟩ : Addr) (min l2 l1 * e.size)).run P w = .ok (((src.cs.drop o2).take (min l2 l1 * e.size)).map (C.den ρ)).toArray w := by
              unfold loadCells
              rw [run_loadCellsFrom (w := w) (P := P) ⟨ρ b2, o2, none⟩ (min l2 l1 * e.size) 0 #[] (((src.cs.drop o2).take (min l2 l1 * e.size)).map (C.den ρ)) (by rw [List.length_map]; exact h1') (fun j u hj => by
                rw [List.getElem?_map] at hj
                cases hc : ((src.cs.drop o2).take (min l2 l1 * e.size))[j]? with
                | none => rw [hc] at hj; simp at hj
                | some c =>
                  rw [hc] at hj; simp at hj; subst hj
                  have hj' : j < min l2 l1 * e.size := by
                    have := (List.getElem?_eq_some_iff.1 hc).1
                    simp at this; omega
                  rw [List.getElem?_take_of_lt hj', List.getElem?_drop] at hc
                  rw [Nat.zero_add, Addr.add_lit]
                  exact (hI.cell hb2 hc).1)]
              simp
            refine ⟨ρ, w', _, Agree.refl _ _, by simp, rfl, ?_, hI', .inl rfl⟩
            have hav : args.map val = #[.slice (some ⟨ρ b1, o1, none⟩) l1 c1, .slice (some ⟨ρ b2, o2, none⟩) l2 c2] := by
              apply Array.ext'
              rw [Array.toList_map, ha]; rfl
            have hlen : (Builtin.lenOf (.slice (some ⟨ρ b2, o2, none⟩) l2 c2)).run P w = .ok l2 w := rfl
            have hcp : (Builtin.copy_ argTypes type #[.slice (some ⟨ρ b1, o1, none⟩) l1 c1, .slice (some ⟨ρ b2, o2, none⟩) l2 c2]).run P w = .ok (goInt (min l2 l1 : Nat)) w' := by
              simp only [Builtin.copy_, ht, List.getElem?_toArray, List.getElem?_cons_zero, List.getElem?_cons_succ, Sem.run_bind, run_underlying hu, Result.andThen_ok, hlen, run_sizeOf he, Builtin.firstCells]
              have hm : Nat.min l2 l1 = min l2 l1 := rfl
              rw [hm, hload]
              simp only [Result.andThen_ok]
              have hr' : (storeCells (⟨ρ b1, o1, none⟩ : Addr) (((src.cs.drop o2).take (min l2 l1 * e.size)).map (C.den ρ)) 0).run P w = .ok () w' := hr
              simp only [Sem.run_bind, hr', Result.andThen_ok, Sem.run_pure]
            simp only [execOp, resolve, Sem.run_bind, Sem.run_pure, Result.andThen_ok, invoke, hav, builtin, hcp]
            rfl
        · cases h
      · cases h
    · cases h
  · cases h
end
end Go.Proofs.Ytpfdemmoapjjpaa.Ev

namespace Go.Proofs.Ytpfdemmoapjjpaa.Ev
open Go

/-! ### 7. Trees of ends -/

inductive Tree (α : Type) where
  | leaf (x : α)
  | node (b : Bool) (t f : Tree α)
  | need (b : Bool) (t : Tree α)
  | fail

def Tree.OK {α : Type} (post : α → Prop) : Tree α → Prop
  | .leaf x => post x
  | .node b t f => (b = true → t.OK post) ∧ (b = false → f.OK post)
  | .need b t => b = true ∧ t.OK post
  | .fail => False

def Tree.bind {α β : Type} (k : α → Tree β) : Tree α → Tree β
  | .leaf x => k x
  | .node b t f => .node b (t.bind k) (f.bind k)
  | .need b t => .need b (t.bind k)
  | .fail => .fail

theorem Tree.OK_bind {α β : Type} {k : α → Tree β} {post : β → Prop} (t : Tree α) : (t.bind k).OK post → t.OK fun x => (k x).OK post := by
  induction t with
  | leaf x => exact id
  | node b t f iht ihf => exact fun h => ⟨fun hb => iht (h.1 hb), fun hb => ihf (h.2 hb)⟩
  | need b t ih => exact fun h => ⟨h.1, ih h.2⟩
  | fail => exact id
theorem Tree.OK_one {α : Type} {p : α → Prop} (t : Tree α) : t.OK p → ∃ x, p x ∧ t.OK fun y => y = x := by
  induction t with
  | leaf x => exact fun h => ⟨x, h, rfl⟩
  | node b t f iht ihf =>
    intro h
    cases b
    · obtain ⟨x, h1, h2⟩ := ihf (h.2 rfl)
      exact ⟨x, h1, ⟨(fun e => by cases e), fun _ => h2⟩⟩
    · obtain ⟨x, h1, h2⟩ := iht (h.1 rfl)
      exact ⟨x, h1, ⟨fun _ => h2, (fun e => by cases e)⟩⟩
  | need b t ih => exact fun h => let ⟨x, h1, h2⟩ := ih h.2; ⟨x, h1, h.1, h2⟩
  | fail => exact fun h => h.elim
theorem Tree.OK_mono {α : Type} {p q : α → Prop} (t : Tree α) (h : ∀ x, p x → q x) : t.OK p → t.OK q := by
  induction t with
  | leaf x => exact h x
  | node b t f iht ihf => exact fun h => ⟨fun hb => iht (h.1 hb), fun hb => ihf (h.2 hb)⟩
  | need b t ih => exact fun h => ⟨h.1, ih h.2⟩
  | fail => exact id

/-- One way for each place. -/
def chain {α : Type} (i : Int) (f : Nat → Tree α) : Nat → Nat → Tree α
  | 0, _ => .fail
  | m + 1, j => .node (i == (Int.ofNat j)) (f j) (chain i f m (j + 1))
theorem chain_OK {α : Type} {i : Int} {f : Nat → Tree α} {post : α → Prop} : ∀ {m j : Nat}, (chain i f m j).OK post → ∃ k, k < j + m ∧ i = Int.ofNat k ∧ (f k).OK post
  | 0, _, h => h.elim
  | m + 1, j, h => by
    by_cases e : i = Int.ofNat j
    · exact ⟨j, by omega, e, h.1 (by simpa using e)⟩
    · obtain ⟨k, h1, h2, h3⟩ := chain_OK (h.2 (by simpa using e))
      exact ⟨k, by omega, h2, h3⟩

def needsT {α : Type} : List Bool → Tree α → Tree α
  | [], t => t
  | b :: l, t => .need b (needsT l t)
theorem needsT_OK {α : Type} {post : α → Prop} : ∀ {l : List Bool} {t : Tree α}, (needsT l t).OK post → allT l ∧ t.OK post
  | [], _, h => ⟨(fun _ hb => nomatch hb), h⟩
  | b :: l, t, h => by
    have := needsT_OK (l := l) h.2
    exact ⟨fun c hc => (List.mem_cons.1 hc).elim (fun e => e ▸ h.1) (fun hc => this.1 c hc), this.2⟩

/-! ### 8. Regions -/

/-- How an operation of a region is gone through: in its turn alone; as one that looks at no memory; as one that reads. -/
inductive Fl where
  | loud | pure | load

/-- Going through a list of operations. -/
def SeqWp (P : Program) (ops : Array Oper) (Q : Exit → Act → World → Prop) : List (Nat × Fl) → Act → World → Prop
  | [], a, w => Q .normal a w
  | (i, .pure) :: r, a, w => ∃ o v, ops[i]? = some o ∧ Yields P ops o v a ∧ SeqWp P ops Q r (a.put o.dst v) w
  | (i, .load) :: r, a, w => ∃ o v, ops[i]? = some o ∧ YieldsIf P ops (fun w' => w' = w) o v a ∧ SeqWp P ops Q r (a.put o.dst v) w
  | (i, .loud) :: r, a, w => wpOp P ops Q i (SeqWp P ops Q r) a w

theorem SeqWp.ops {P : Program} {ops : Array Oper} {Q : Exit → Act → World → Prop} : ∀ (l : List Nat) (a : Act) (w : World),
    SeqWp P ops Q (l.map fun i => (i, .loud)) a w → wpOps P ops Q l a w
  | [], _, _, h => h
  | i :: l, a, w, h => by
    rw [wpOps_cons]
    exact wpOp_mono (fun a w => SeqWp.ops l a w) h

def kindPure : Op → Bool
  | .move _ | .assign _ | .pick .. | .binOp .. | .unOp .. | .convert .. | .fieldAddr .. | .field .. | .indexAddr .. | .index .. | .extract .. | .nilCheck _ | .makeFunc .. | .build .. | .slice .. => true
  | .call { callee := .builtin .len, .. } => true
  | .call { callee := .builtin .min, .. } => true
  | .call { callee := .builtin .max, .. } => true
  | _ => false
def kindLoad : Op → Bool
  | .load .. => true
  | _ => false
def roAt (ops : Array Oper) (j : Nat) : Bool := match ops[j]? with | some o => kindPure o.op || kindLoad o.op | none => true

/-- Whatever order is picked, and what only reads leaves the world as it is. -/
def wpAnyR (P : Program) (ops : Array Oper) (Q : Exit → Act → World → Prop) : Nat → Array Bool → Act → World → Prop
  | 0, listed, a, w => Region.ready .any ops listed = [] ∧ Q .normal a w
  | fuel + 1, listed, a, w =>
    (Region.ready .any ops listed = [] → Q .normal a w) ∧
    ∀ i ∈ Region.ready .any ops listed, wpOp P ops Q i (fun a' w' => (roAt ops i = true → w' = w) ∧ wpAnyR P ops Q fuel (listed.setIfInBounds i true) a' w') a w

theorem wpAny_of_R {P : Program} {ops : Array Oper} {Q : Exit → Act → World → Prop} : ∀ (fuel : Nat) (listed : Array Bool) (a : Act) (w : World), wpAnyR P ops Q fuel listed a w → wpAny P .any ops Q fuel listed a w
  | 0, _, _, _, h => h
  | fuel + 1, _, _, _, h => ⟨h.1, fun i hi => wpOp_mono (fun a' w' h' => wpAny_of_R fuel _ a' w' h'.2) (h.2 i hi)⟩

/-- An operation may be taken first. 'T': those that wait for it. -/
theorem takeR {P : Program} {ops : Array Oper} {K : Act → World → Prop} {S : World → Prop} {i : Nat} {oi : Oper} {v : Value} (T : Nat → Bool) (hi : ops[i]? = some oi)
    (hsel : ∀ (j : Nat) (o : Oper) cs b, ops[j]? = some o → o.op ≠ .select cs b)
    (hTc : ∀ j oj, T j = true → ops[j]? = some oj → ∃ e ∈ oj.after, Region.binds .any e = true ∧ (e.on = i ∨ T e.on = true)) :
    ∀ (fuel : Nat) (listed : Array Bool) (a : Act) (w : World),
      (∀ j oj, ops[j]? = some oj → j ≠ i → listed.getD j true = false → T j = true ∨ (oi.apart ops oj = true ∧ (roAt ops j = true ∨ ∀ w, S w))) →
      (∀ j, T j = true → listed.getD j false = false) →
      i ∈ Region.ready .any ops listed → YieldsIf P ops S oi v a → S w → (roAt ops i = true) →
      wpAnyR P ops (Only K) fuel (listed.setIfInBounds i true) (a.put oi.dst v) w → wpAnyR P ops (Only K) (fuel + 1) listed a w := by
  intro fuel
  induction fuel with
  | zero =>
    intro listed a w _ _ hr hy hS hro H
    refine ⟨fun h => (by rw [h] at hr; cases hr), fun j hj => ?_⟩
    by_cases hji : j = i
    · subst hji; exact hy.wpOp hi hS ⟨fun _ => rfl, H⟩
    · have := ready_mono hj hji
      rw [H.1] at this
      cases this
  | succ fuel ih =>
    intro listed a w hfree hTu hr hy hS hro H
    refine ⟨fun h => (by rw [h] at hr; cases hr), fun j hj => ?_⟩
    by_cases hji : j = i
    · subst hji; exact hy.wpOp hi hS ⟨fun _ => rfl, H⟩
    · have h1 := H.2 j (ready_mono hj hji)
      obtain ⟨hjun, oj, hoj, hall⟩ := mem_ready.1 hj
      have hTj : T j = false := by
        cases hT : T j
        · rfl
        · obtain ⟨e, he, hb, hon⟩ := hTc j oj hT hoj
          have hl := hall e he hb
          rcases hon with hon | hon
          · rw [hon] at hl
            have h0 := (mem_ready.1 hr).1
            rcases Nat.lt_or_ge i listed.size with h' | h'
            · simp [h'] at h0 hl; rw [h0] at hl; cases hl
            · simp [Array.getElem?_eq_none h'] at hl
          · rw [hTu _ hon] at hl; cases hl
      have hap := (hfree j oj hoj hji hjun).resolve_left (by rw [hTj]; decide)
      have h2 := wpOp_putIf hoj hap.1 (fun cs b => hsel i oi cs b hi) (fun cs b => hsel j oj cs b hoj) (fun _ _ _ h => h) hy h1
      refine wpOp_mono (fun a' w' h3 => ⟨h3.2.1, ih (listed.setIfInBounds j true) a' w' ?_ ?_ (ready_mono hr (Ne.symm hji)) h3.1 ?_ hro ?_⟩) h2
      · intro k ok hk hki hun
        refine hfree k ok hk hki ?_
        by_cases hjk : j = k
        · subst hjk; exact hjun
        · rw [getD_set_ne true hjk] at hun; exact hun
      · intro k hk
        have : j ≠ k := fun e => by rw [← e, hTj] at hk; cases hk
        rw [getD_set_ne false this]; exact hTu k hk
      · rcases hap.2 with h4 | h4
        · rw [h3.2.1 h4]; exact hS
        · exact h4 w'
      · rw [Array.setIfInBounds_comm _ _ hji]
        exact h3.2.2

/-- Those that wait for operation i, in the text's order. -/
def waitGo (ops : Array Oper) (i : Nat) : List Nat → List Nat → List Nat
  | [], acc => acc
  | j :: r, acc => waitGo ops i r (cond (match ops[j]? with | some o => o.after.any fun e => Region.binds .any e && (Nat.beq e.on i || acc.any (Nat.beq e.on)) | none => false) (j :: acc) acc)
def waiters (ops : Array Oper) (i : Nat) : List Nat := waitGo ops i (List.range ops.size) []
def memN (l : List Nat) (j : Nat) : Bool := l.any (Nat.beq j)

/-- May a reading operation be taken first? -/
def loadOK (ops : Array Oper) (listed : Array Bool) (i : Nat) : Bool :=
  match ops[i]? with
  | none => false
  | some oi =>
    let T := waiters ops i
    (List.range ops.size).all (fun j => Nat.beq j i || listed.getD j true || memN T j || (match ops[j]? with | some oj => roAt ops j && oi.apart ops oj | none => true)) &&
    T.all (fun j => !(listed.getD j false)) &&
    T.all (fun j => match ops[j]? with | some o => o.after.any fun e => Region.binds .any e && (Nat.beq e.on i || memN T e.on) | none => true)

def firstPure (ops : Array Oper) (listed : Array Bool) : List Nat → Option Nat
  | [] => none
  | i :: r => cond ((match ops[i]? with | some o => kindPure o.op | none => false) && Region.free .any ops listed i) (some i) (firstPure ops listed r)
def firstLoad (ops : Array Oper) (listed : Array Bool) : List Nat → Option Nat
  | [] => none
  | i :: r => cond ((match ops[i]? with | some o => kindLoad o.op | none => false) && loadOK ops listed i) (some i) (firstLoad ops listed r)

/-- The order in which a region that draws its order is gone through. -/
def sched (ops : Array Oper) : Nat → Array Bool → Option (List (Nat × Fl))
  | 0, listed => (match Region.ready .any ops listed with | [] => some [] | _ => none)
  | n + 1, listed =>
    match Region.ready .any ops listed with
    | [] => some []
    | i0 :: rs => match firstPure ops listed (i0 :: rs) with
      | some i => (match sched ops n (listed.setIfInBounds i true) with | some l => some ((i, .pure) :: l) | none => none)
      | none => match firstLoad ops listed (i0 :: rs) with
        | some i => (match sched ops n (listed.setIfInBounds i true) with | some l => some ((i, .load) :: l) | none => none)
        | none => (match rs with
          | [] => (match sched ops n (listed.setIfInBounds i0 true) with | some l => cond (roAt ops i0) none (some ((i0, .loud) :: l)) | none => none)
          | _ => none)

theorem firstPure_spec {ops : Array Oper} {listed : Array Bool} : ∀ {l : List Nat} {i : Nat}, firstPure ops listed l = some i →
    i ∈ l ∧ (match ops[i]? with | some o => kindPure o.op | none => false) = true ∧ Region.free .any ops listed i = true
  | [], _, h => by simp [firstPure] at h
  | j :: r, i, h => by
    simp only [firstPure] at h
    cases hc : ((match ops[j]? with | some o => kindPure o.op | none => false) && Region.free .any ops listed j)
    · rw [hc] at h
      simp only [cond_false] at h
      have := firstPure_spec h
      exact ⟨List.mem_cons_of_mem _ this.1, this.2⟩
    · rw [hc] at h
      simp only [cond_true] at h
      simp at h; subst h
      simp only [Bool.and_eq_true] at hc
      exact ⟨List.mem_cons_self, hc.1, hc.2⟩
theorem firstLoad_spec {ops : Array Oper} {listed : Array Bool} : ∀ {l : List Nat} {i : Nat}, firstLoad ops listed l = some i →
    i ∈ l ∧ (match ops[i]? with | some o => kindLoad o.op | none => false) = true ∧ loadOK ops listed i = true
  | [], _, h => by simp [firstLoad] at h
  | j :: r, i, h => by
    simp only [firstLoad] at h
    cases hc : ((match ops[j]? with | some o => kindLoad o.op | none => false) && loadOK ops listed j)
    · rw [hc] at h
      simp only [cond_false] at h
      have := firstLoad_spec h
      exact ⟨List.mem_cons_of_mem _ this.1, this.2⟩
    · rw [hc] at h
      simp only [cond_true] at h
      simp at h; subst h
      simp only [Bool.and_eq_true] at hc
      exact ⟨List.mem_cons_self, hc.1, hc.2⟩

theorem memN_iff {l : List Nat} {j : Nat} : memN l j = true ↔ j ∈ l := by
  simp only [memN, List.any_eq_true]
  constructor
  · rintro ⟨x, hx, he⟩; rw [Nat.eq_of_beq_eq_true he]; exact hx
  · exact fun h => ⟨j, h, Nat.beq_refl j⟩

theorem take_pure {P : Program} {ops : Array Oper} {K : Act → World → Prop} {i : Nat} {oi : Oper} {v : Value} (hi : ops[i]? = some oi) (hs : Region.noSelect ops = true) {fuel : Nat} {listed : Array Bool} {a : Act} {w : World}
    (hr : i ∈ Region.ready .any ops listed) (hf : Region.free .any ops listed i = true) (hk : roAt ops i = true) (hy : Yields P ops oi v a)
    (h : wpAnyR P ops (Only K) fuel (listed.setIfInBounds i true) (a.put oi.dst v) w) : wpAnyR P ops (Only K) (fuel + 1) listed a w := by
  have hfs := Region.free_spec hi hf
  have hun : listed.getD i true = false := (mem_ready.1 hr).1
  have hil : i < listed.size ∧ listed.getD i false = false := by
    rcases Nat.lt_or_ge i listed.size with h' | h'
    · simp [h'] at hun ⊢; exact hun
    · simp [Array.getElem?_eq_none h'] at hun
  refine takeR (S := fun _ => True) (fun j => match ops[j]? with | some oj => oj.after.any (fun e => Region.binds .any e && (e.on == i)) && !(listed.getD j false) && j != i | none => false) hi (Region.noSelect_spec hs) ?_ fuel listed a w ?_ ?_ hr hy.yieldsIf trivial hk h
  · intro j oj hT hoj
    simp only [hoj, Bool.and_eq_true] at hT
    obtain ⟨e, he, hb⟩ := Array.any_eq_true'.1 hT.1.1
    simp only [Bool.and_eq_true, beq_iff_eq] at hb
    exact ⟨e, he, hb.1, .inl hb.2⟩
  · intro j oj hoj hne hjun
    simp only [hoj]
    by_cases hd : oj.after.any (fun e => Region.binds .any e && (e.on == i)) = true
    · refine .inl ?_
      have : listed.getD j false = false := by
        rcases Nat.lt_or_ge j listed.size with h' | h'
        · simp [h'] at hjun ⊢; exact hjun
        · simp [Array.getElem?_eq_none h']
      simp [hd, this, hne]
    · refine .inr ⟨hfs j oj hoj hne hjun fun e he hb heq => hd (Array.any_eq_true'.2 ⟨e, he, by simp [hb, heq]⟩), .inr fun _ => trivial⟩
  · intro j hT
    cases ho : ops[j]? with
    | none => simp [ho] at hT
    | some oj => simp only [ho, Bool.and_eq_true] at hT; simpa using hT.1.2

theorem take_load {P : Program} {ops : Array Oper} {K : Act → World → Prop} {i : Nat} {oi : Oper} {v : Value} (hi : ops[i]? = some oi) (hs : Region.noSelect ops = true) {fuel : Nat} {listed : Array Bool} {a : Act} {w : World}
    (hr : i ∈ Region.ready .any ops listed) (hf : loadOK ops listed i = true) (hk : roAt ops i = true) (hy : YieldsIf P ops (fun w' => w' = w) oi v a)
    (h : wpAnyR P ops (Only K) fuel (listed.setIfInBounds i true) (a.put oi.dst v) w) : wpAnyR P ops (Only K) (fuel + 1) listed a w := by
  simp only [loadOK, hi, Bool.and_eq_true] at hf
  obtain ⟨⟨h1, h2⟩, h3⟩ := hf
  refine takeR (S := fun w' => w' = w) (memN (waiters ops i)) hi (Region.noSelect_spec hs) ?_ fuel listed a w ?_ ?_ hr hy rfl hk h
  · intro j oj hT hoj
    have := List.all_eq_true.1 h3 j (memN_iff.1 hT)
    simp only [hoj] at this
    obtain ⟨e, he, hb⟩ := Array.any_eq_true'.1 this
    simp only [Bool.and_eq_true, Bool.or_eq_true] at hb
    exact ⟨e, he, hb.1, hb.2.imp Nat.eq_of_beq_eq_true id⟩
  · intro j oj hoj hne hjun
    have := List.all_eq_true.1 h1 j (List.mem_range.2 (Array.getElem?_eq_some_iff.1 hoj).1)
    have hb : Nat.beq j i = false := by
      cases hc : Nat.beq j i
      · rfl
      · exact absurd (Nat.eq_of_beq_eq_true hc) hne
    simp only [hoj, hb, hjun, Bool.false_or, Bool.or_eq_true, Bool.and_eq_true] at this
    rcases this with h4 | h4
    · exact .inl h4
    · exact .inr ⟨h4.2, .inl h4.1⟩
  · intro j hT
    have := List.all_eq_true.1 h2 j (memN_iff.1 hT)
    simpa using this

theorem sched_sound {P : Program} {ops : Array Oper} {K : Act → World → Prop} (hs : Region.noSelect ops = true) :
    ∀ (n : Nat) (listed : Array Bool) (l : List (Nat × Fl)) (a : Act) (w : World), sched ops n listed = some l → SeqWp P ops (Only K) l a w →
      wpAnyR P ops (Only K) n listed a w := by
  intro n
  induction n with
  | zero =>
    intro listed l a w h hw
    simp only [sched] at h
    split at h
    · rename_i hr; simp at h; subst h; exact ⟨hr, hw⟩
    · cases h
  | succ n ih =>
    intro listed l a w h hw
    simp only [sched] at h
    split at h
    · rename_i hr; simp at h; subst h; exact ⟨fun _ => hw, by rw [hr]; simp⟩
    · rename_i i0 rs hr
      split at h
      · rename_i i hf
        split at h
        · rename_i l' hl
          simp at h; subst h
          obtain ⟨o, v, ho, hy, hw'⟩ := hw
          have hsp := firstPure_spec hf
          have hk : roAt ops i = true := by have := hsp.2.1; simp only [ho] at this; simp [roAt, ho, this]
          exact take_pure ho hs (by rw [hr]; exact hsp.1) hsp.2.2 hk hy (ih _ _ _ _ hl hw')
        · cases h
      · split at h
        · rename_i i hf
          split at h
          · rename_i l' hl
            simp at h; subst h
            obtain ⟨o, v, ho, hy, hw'⟩ := hw
            have hsp := firstLoad_spec hf
            have hk : roAt ops i = true := by have := hsp.2.1; simp only [ho] at this; simp [roAt, ho, this]
            exact take_load ho hs (by rw [hr]; exact hsp.1) hsp.2.2 hk hy (ih _ _ _ _ hl hw')
          · cases h
        · split at h
          · split at h
            · rename_i l' hl
              cases hro : roAt ops i0 <;> simp only [hro, cond_true, cond_false] at h
              · simp at h; subst h
                refine ⟨fun h0 => (by rw [hr] at h0; cases h0), fun i hi => ?_⟩
                rw [hr] at hi
                simp at hi; subst hi
                exact wpOp_mono (fun a w h => ⟨(fun e => by rw [hro] at e; cases e), ih _ _ a w hl h⟩) hw
              · cases h
            · cases h
          · cases h

theorem sched_wp {P : Program} {ops : Array Oper} {K : Act → World → Prop} {id : Nat} {a : Act} {w : World} {l : List (Nat × Fl)}
    (hm : P.follows .mixedOrders = true) (hs : Region.noSelect ops = true) (h : sched ops ops.size (Array.replicate ops.size false) = some l)
    (hw : SeqWp P ops (Only K) l a { w with drawn := w.drawn + 1 }) : (Code.region id ops true).wp P (Only K) a w :=
  wp_region_any hm (wpAny_of_R _ _ _ _ (sched_sound hs _ _ _ _ _ h hw))

/-! ### 8b. Regions whose calls keep what the loads read -/
def changes : Op → Bool
  | .alloc _ | .box .. | .store .. | .buildSlice .. => true
  | .call { callee := .builtin .copy, .. } => true
  | _ => false
def makes : Op → Bool
  | .alloc _ | .box .. | .buildSlice .. => true
  | _ => false
/-- Is the operation one that keeps what the others read? -/
def mildAt (ops : Array Oper) (j : Nat) : Bool := match ops[j]? with | some o => !(changes o.op) || makes o.op | none => true

/-- What an operation gives, in whatever world of a kind. -/
def Gives (P : Program) (o : Oper) (v : Value) (S : World → Prop) (a : Act) : Prop :=
  ∀ w, S w → (execOp a.eval o).run P w = .ok (.value v) w ∨ ∃ f args, (execOp a.eval o).run P w = .ok (.enter f args) w ∧ Calls P f args w fun e w' => e = .returned v ∧ S w'
def YieldsX (P : Program) (ops : Array Oper) (C : (World → Prop) → Prop) (o : Oper) (v : Value) (a : Act) : Prop :=
  (Region.wanted o (yielded ops a.tmps) = true ∧ ∀ S, C S → Gives P o v S a) ∨ (Region.wanted o (yielded ops a.tmps) = false ∧ v = undef)
theorem YieldsX.of_same {P : Program} {ops : Array Oper} {C : (World → Prop) → Prop} {o : Oper} {v : Value} {a a' : Act} (hy : YieldsX P ops C o v a) (he : execOp a'.eval o = execOp a.eval o)
    (hw : Region.wanted o (yielded ops a'.tmps) = Region.wanted o (yielded ops a.tmps)) : YieldsX P ops C o v a' := by
  unfold YieldsX Gives at *
  rw [he, hw]
  exact hy
theorem YieldsX.sub {P : Program} {ops : Array Oper} {C C' : (World → Prop) → Prop} {o : Oper} {v : Value} {a : Act} (hy : YieldsX P ops C o v a) (h : ∀ S, C' S → C S) : YieldsX P ops C' o v a :=
  hy.imp (fun ⟨h1, h2⟩ => ⟨h1, fun S hS => h2 S (h S hS)⟩) id
theorem YieldsX.wpOp {P : Program} {ops : Array Oper} {Q : Exit → Act → World → Prop} {C : (World → Prop) → Prop} {i : Nat} {o : Oper} {v : Value} {a : Act} (hi : ops[i]? = some o) (hy : YieldsX P ops C o v a)
    {K : Act → World → Prop} {w : World} {S : World → Prop} (hS : C S) (hw : S w) (h : ∀ w', S w' → K (a.put o.dst v) w') : wpOp P ops Q i K a w := by
  unfold Go.wpOp
  simp only [hi]
  rcases hy with ⟨h1, h2⟩ | ⟨h1, rfl⟩
  · simp only [h1, if_true]
    refine .inl ?_
    unfold Oper.wp
    rcases h2 S hS w hw with hr | ⟨f, args, hr, hc⟩
    · rw [hr]; exact h w hw
    · rw [hr]
      refine Calls.mono hc ?_
      rintro e w' ⟨rfl, hw'⟩
      exact h w' hw'
  · simp only [h1, Bool.false_eq_true, if_false]; exact h w hw

/-- One operation 'oj', apart from 'oi', whose value is in its place already: as without it. -/
theorem wpOp_putX {P : Program} {ops : Array Oper} {Q : Exit → Act → World → Prop} {C : (World → Prop) → Prop} {j : Nat} {oi oj : Oper} {v : Value} (hj : ops[j]? = some oj) (hap : oi.apart ops oj = true)
    (hsi : ∀ cs b, oi.op ≠ .select cs b) (hsj : ∀ cs b, oj.op ≠ .select cs b)
    (hQ : ∀ c a w, Q (.panic c) (a.put oi.dst v) w → Q (.panic c) a w) {K : Act → World → Prop} {a : Act} {w : World}
    (hy : YieldsX P ops C oi v a) (h : wpOp P ops Q j K (a.put oi.dst v) w) :
    wpOp P ops Q j (fun a' w' => YieldsX P ops C oi v a' ∧ K (a'.put oi.dst v) w') a w := by
  obtain ⟨h1, h2, h3⟩ := Oper.apart_spec hap
  have keep : ∀ (a : Act), YieldsX P ops C oi v a → ∀ u, YieldsX P ops C oi v (a.put oj.dst u) := fun a hy u =>
    hy.of_same (execOp_put oi hsi a oj.dst u h3) (wanted_put oi a oj.dst u h3)
  have keepD : ∀ d, YieldsX P ops C oi v { a with defers := d :: a.defers } := fun d => hy.of_same rfl rfl
  unfold wpOp at *
  simp only [hj] at *
  rw [wanted_put oj a oi.dst v h1] at h
  split
  · rename_i hw
    simp only [hw, if_true] at h
    rcases h with h | ⟨hasks, hlets⟩
    case inr => exact .inr ⟨by unfold Oper.asks at *; rw [execOp_put oj hsj a oi.dst v h1] at hasks; exact hasks, hlets⟩
    refine .inl ?_
    unfold Oper.wp at *
    rw [execOp_put oj hsj a oi.dst v h1] at h
    generalize (execOp a.eval oj).run P w = r at *
    cases r with
    | ok n w' =>
      cases n <;> simp only [Oper.upon] at h ⊢
      case value u => exact ⟨keep a hy u, by rw [← Act.put_comm a v u h2]; exact h⟩
      case skip => exact ⟨keep a hy _, by rw [← Act.put_comm a v undef h2]; exact h⟩
      case defer d =>
        refine ⟨keep _ (keepD d) _, ?_⟩
        rw [← Act.put_comm _ v undef h2, ← Act.put_defers]
        exact h
      case enter f args =>
        refine Calls.mono h fun e w'' he => ?_
        cases e with
        | returned u => exact ⟨keep a hy u, by rw [← Act.put_comm a v u h2]; exact he⟩
        | panicked c => exact hQ _ _ _ he
        | outgrown => exact he
      case row row args => exact Rows.mono h fun u w'' he => ⟨keep a hy u, by rw [← Act.put_comm a v u h2]; exact he⟩
    | halt x w' =>
      cases x <;> simp only [Oper.upon] at h ⊢
      case panic u => exact hQ _ _ _ h
  · rename_i hw
    simp only [hw] at h
    exact ⟨keep a hy _, by rw [← Act.put_comm a v undef h2]; exact h⟩

/-- Whatever order is picked, in every world of a class of kinds of them. -/
def wpAnyX (P : Program) (ops : Array Oper) (Q : Exit → Act → World → Prop) : Nat → ((World → Prop) → Prop) → Array Bool → Act → Prop
  | 0, C, listed, a => ∀ S, C S → ∀ w, S w → Region.ready .any ops listed = [] ∧ Q .normal a w
  | fuel + 1, C, listed, a => ∀ S, C S → ∀ w, S w →
    (Region.ready .any ops listed = [] → Q .normal a w) ∧
    ∀ i ∈ Region.ready .any ops listed, wpOp P ops Q i (fun a' w' => ∃ C' : (World → Prop) → Prop, (mildAt ops i = true → ∀ T, C' T → C T) ∧ (∃ S', C' S' ∧ S' w') ∧ wpAnyX P ops Q fuel C' (listed.setIfInBounds i true) a') a w

theorem wpAny_of_X {P : Program} {ops : Array Oper} {Q : Exit → Act → World → Prop} : ∀ (fuel : Nat) (C : (World → Prop) → Prop) (listed : Array Bool) (a : Act) (w : World) (S : World → Prop), C S → S w → wpAnyX P ops Q fuel C listed a → wpAny P .any ops Q fuel listed a w
  | 0, _, _, _, _, _, hS, hw, h => h _ hS _ hw
  | fuel + 1, _, _, _, _, _, hS, hw, h => ⟨(h _ hS _ hw).1, fun i hi => wpOp_mono (fun a' w' ⟨_, _, ⟨S', hS', hw'⟩, h'⟩ => wpAny_of_X fuel _ _ a' w' S' hS' hw' h') ((h _ hS _ hw).2 i hi)⟩

theorem takeX {P : Program} {ops : Array Oper} {K : Act → World → Prop} {i : Nat} {oi : Oper} {v : Value} (T : Nat → Bool) (hi : ops[i]? = some oi)
    (hsel : ∀ (j : Nat) (o : Oper) cs b, ops[j]? = some o → o.op ≠ .select cs b)
    (hTc : ∀ j oj, T j = true → ops[j]? = some oj → ∃ e ∈ oj.after, Region.binds .any e = true ∧ (e.on = i ∨ T e.on = true)) :
    ∀ (fuel : Nat) (C : (World → Prop) → Prop) (listed : Array Bool) (a : Act),
      (∀ j oj, ops[j]? = some oj → j ≠ i → listed.getD j true = false → T j = true ∨ (oi.apart ops oj = true ∧ mildAt ops j = true)) →
      (∀ j, T j = true → listed.getD j false = false) →
      i ∈ Region.ready .any ops listed → YieldsX P ops C oi v a →
      wpAnyX P ops (Only K) fuel C (listed.setIfInBounds i true) (a.put oi.dst v) → wpAnyX P ops (Only K) (fuel + 1) C listed a := by
  intro fuel
  induction fuel with
  | zero =>
    intro C listed a _ _ hr hy H S hS w hw
    refine ⟨fun h => (by rw [h] at hr; cases hr), fun j hj => ?_⟩
    by_cases hji : j = i
    · subst hji; exact hy.wpOp hi hS hw fun w' hw' => ⟨C, fun _ _ h => h, ⟨S, hS, hw'⟩, H⟩
    · have := ready_mono hj hji
      rw [(H S hS w hw).1] at this
      cases this
  | succ fuel ih =>
    intro C listed a hfree hTu hr hy H S hS w hw
    refine ⟨fun h => (by rw [h] at hr; cases hr), fun j hj => ?_⟩
    by_cases hji : j = i
    · subst hji; exact hy.wpOp hi hS hw fun w' hw' => ⟨C, fun _ _ h => h, ⟨S, hS, hw'⟩, H⟩
    · have h1 := (H S hS w hw).2 j (ready_mono hj hji)
      obtain ⟨hjun, oj, hoj, hall⟩ := mem_ready.1 hj
      have hTj : T j = false := by
        cases hT : T j
        · rfl
        · obtain ⟨e, he, hb, hon⟩ := hTc j oj hT hoj
          have hl := hall e he hb
          rcases hon with hon | hon
          · rw [hon] at hl
            have h0 := (mem_ready.1 hr).1
            rcases Nat.lt_or_ge i listed.size with h' | h'
            · simp [h'] at h0 hl; rw [h0] at hl; cases hl
            · simp [Array.getElem?_eq_none h'] at hl
          · rw [hTu _ hon] at hl; cases hl
      have hap := (hfree j oj hoj hji hjun).resolve_left (by rw [hTj]; decide)
      have h2 := wpOp_putX hoj hap.1 (fun cs b => hsel i oi cs b hi) (fun cs b => hsel j oj cs b hoj) (fun _ _ _ h => h) hy h1
      refine wpOp_mono (fun a' w' h3 => ?_) h2
      obtain ⟨hy', C', hC', hw', hrest⟩ := h3
      have hsub := hC' hap.2
      refine ⟨C', fun _ => hsub, hw', ih C' (listed.setIfInBounds j true) a' ?_ ?_ (ready_mono hr (Ne.symm hji)) (hy'.sub hsub) ?_⟩
      · intro k ok hk hki hun
        refine hfree k ok hk hki ?_
        by_cases hjk : j = k
        · subst hjk; exact hjun
        · rw [getD_set_ne true hjk] at hun; exact hun
      · intro k hk
        have : j ≠ k := fun e => by rw [← e, hTj] at hk; cases hk
        rw [getD_set_ne false this]; exact hTu k hk
      · rw [Array.setIfInBounds_comm _ _ hji]
        exact hrest

def loadOKC (ops : Array Oper) (listed : Array Bool) (i : Nat) : Bool :=
  match ops[i]? with
  | none => false
  | some oi =>
    let T := waiters ops i
    (List.range ops.size).all (fun j => Nat.beq j i || listed.getD j true || memN T j || (match ops[j]? with | some oj => oi.apart ops oj && mildAt ops j | none => true)) &&
    T.all (fun j => !(listed.getD j false)) &&
    T.all (fun j => match ops[j]? with | some o => o.after.any fun e => Region.binds .any e && (Nat.beq e.on i || memN T e.on) | none => true)
def firstLoadC (ops : Array Oper) (listed : Array Bool) : List Nat → Option Nat
  | [] => none
  | i :: r => cond ((match ops[i]? with | some o => !(changes o.op) | none => false) && loadOKC ops listed i) (some i) (firstLoadC ops listed r)

/-- The order in which such a region is gone through. -/
def schedC (ops : Array Oper) : Nat → Array Bool → Option (List (Nat × Fl))
  | 0, listed => (match Region.ready .any ops listed with | [] => some [] | _ => none)
  | n + 1, listed =>
    match Region.ready .any ops listed with
    | [] => some []
    | i0 :: rs => match firstLoadC ops listed (i0 :: rs) with
      | some i => (match schedC ops n (listed.setIfInBounds i true) with | some l => some ((i, .load) :: l) | none => none)
      | none => (match rs with
          | [] => (match schedC ops n (listed.setIfInBounds i0 true) with | some l => some ((i0, .loud) :: l) | none => none)
          | _ => none)

def SeqX (P : Program) (ops : Array Oper) (Q : Exit → Act → World → Prop) : List (Nat × Fl) → ((World → Prop) → Prop) → Act → Prop
  | [], C, a => ∀ S, C S → ∀ w, S w → Q .normal a w
  | (i, .pure) :: r, C, a => ∃ o v, ops[i]? = some o ∧ YieldsX P ops C o v a ∧ SeqX P ops Q r C (a.put o.dst v)
  | (i, .load) :: r, C, a => ∃ o v, ops[i]? = some o ∧ YieldsX P ops C o v a ∧ SeqX P ops Q r C (a.put o.dst v)
  | (i, .loud) :: r, C, a => ∀ S, C S → ∀ w, S w → wpOp P ops Q i (fun a' w' => ∃ C' : (World → Prop) → Prop, (mildAt ops i = true → ∀ T, C' T → C T) ∧ (∃ S', C' S' ∧ S' w') ∧ SeqX P ops Q r C' a') a w

theorem firstLoadC_spec {ops : Array Oper} {listed : Array Bool} : ∀ {l : List Nat} {i : Nat}, firstLoadC ops listed l = some i →
    i ∈ l ∧ loadOKC ops listed i = true
  | [], _, h => by simp [firstLoadC] at h
  | j :: r, i, h => by
    simp only [firstLoadC] at h
    cases hc : ((match ops[j]? with | some o => !(changes o.op) | none => false) && loadOKC ops listed j)
    · rw [hc] at h
      simp only [cond_false] at h
      have := firstLoadC_spec h
      exact ⟨List.mem_cons_of_mem _ this.1, this.2⟩
    · rw [hc] at h
      simp only [cond_true] at h
      simp at h; subst h
      simp only [Bool.and_eq_true] at hc
      exact ⟨List.mem_cons_self, hc.2⟩

theorem take_loadC {P : Program} {ops : Array Oper} {K : Act → World → Prop} {C : (World → Prop) → Prop} {i : Nat} {oi : Oper} {v : Value} (hi : ops[i]? = some oi) (hs : Region.noSelect ops = true) {fuel : Nat} {listed : Array Bool} {a : Act}
    (hr : i ∈ Region.ready .any ops listed) (hf : loadOKC ops listed i = true) (hy : YieldsX P ops C oi v a)
    (h : wpAnyX P ops (Only K) fuel C (listed.setIfInBounds i true) (a.put oi.dst v)) : wpAnyX P ops (Only K) (fuel + 1) C listed a := by
  simp only [loadOKC, hi, Bool.and_eq_true] at hf
  obtain ⟨⟨h1, h2⟩, h3⟩ := hf
  refine takeX (memN (waiters ops i)) hi (Region.noSelect_spec hs) ?_ fuel C listed a ?_ ?_ hr hy h
  · intro j oj hT hoj
    have := List.all_eq_true.1 h3 j (memN_iff.1 hT)
    simp only [hoj] at this
    obtain ⟨e, he, hb⟩ := Array.any_eq_true'.1 this
    simp only [Bool.and_eq_true, Bool.or_eq_true] at hb
    exact ⟨e, he, hb.1, hb.2.imp Nat.eq_of_beq_eq_true id⟩
  · intro j oj hoj hne hjun
    have := List.all_eq_true.1 h1 j (List.mem_range.2 (Array.getElem?_eq_some_iff.1 hoj).1)
    have hb : Nat.beq j i = false := by
      cases hc : Nat.beq j i
      · rfl
      · exact absurd (Nat.eq_of_beq_eq_true hc) hne
    simp only [hoj, hb, hjun, Bool.false_or, Bool.or_eq_true, Bool.and_eq_true] at this
    exact this
  · intro j hT
    have := List.all_eq_true.1 h2 j (memN_iff.1 hT)
    simpa using this

theorem schedC_sound {P : Program} {ops : Array Oper} {K : Act → World → Prop} (hs : Region.noSelect ops = true) :
    ∀ (n : Nat) (C : (World → Prop) → Prop) (listed : Array Bool) (l : List (Nat × Fl)) (a : Act), schedC ops n listed = some l → SeqX P ops (Only K) l C a →
      wpAnyX P ops (Only K) n C listed a := by
  intro n
  induction n with
  | zero =>
    intro C listed l a h hw S hS w hSw
    simp only [schedC] at h
    split at h
    · rename_i hr; simp at h; subst h; exact ⟨hr, hw S hS w hSw⟩
    · cases h
  | succ n ih =>
    intro C listed l a h hw
    simp only [schedC] at h
    split at h
    · rename_i hr; simp at h; subst h; exact fun S hS w hSw => ⟨fun _ => hw S hS w hSw, by rw [hr]; simp⟩
    · rename_i i0 rs hr
      split at h
      · rename_i i hf
        split at h
        · rename_i l' hl
          simp at h; subst h
          obtain ⟨o, v, ho, hy, hw'⟩ := hw
          have hsp := firstLoadC_spec hf
          exact take_loadC ho hs (by rw [hr]; exact hsp.1) hsp.2 hy (ih _ _ _ _ hl hw')
        · cases h
      · split at h
        · split at h
          · rename_i l' hl
            simp at h; subst h
            intro S hS w hSw
            refine ⟨fun h0 => (by rw [hr] at h0; cases h0), fun i hi => ?_⟩
            rw [hr] at hi
            simp at hi; subst hi
            exact wpOp_mono (fun a w ⟨C', h1, h2, h3⟩ => ⟨C', h1, h2, ih _ _ _ a hl h3⟩) (hw S hS w hSw)
          · cases h
        · cases h

theorem schedC_wp {P : Program} {ops : Array Oper} {C : (World → Prop) → Prop} {S : World → Prop} {K : Act → World → Prop} {id : Nat} {a : Act} {w : World} {l : List (Nat × Fl)}
    (hm : P.follows .mixedOrders = true) (hs : Region.noSelect ops = true) (h : schedC ops ops.size (Array.replicate ops.size false) = some l)
    (hC : C S) (hS : S { w with drawn := w.drawn + 1 }) (hw : SeqX P ops (Only K) l C a) : (Code.region id ops true).wp P (Only K) a w :=
  wp_region_any hm (wpAny_of_X _ _ _ _ _ _ hC hS (schedC_sound hs _ _ _ _ _ h hw))

/-! ### 9. The run -/

abbrev CallK (β : Type) := FuncId → List SV → SW → (SV → SW → Tree β) → Tree β

def Fr.ev (f : Fr) : Operand → Option SV
  | .tmp t => f.get t
  | .const v => some (ofVal v)
  | .func g => some (.c (.fn g))
  | .global _ => none

/-- An index that is not known: one way for each place. -/
def idxK {β : Type} (P : Program) (op : Op) (fr : Fr) (s : SW) (K : SV → SW → Tree β) : Tree β :=
  match op with
  | .indexAddr t x ix => (match fr.ev x, fr.ev ix with
    | some x, some (.c (.i false k i)) => (match x, P.underlying t with
      | .c (.p _ _), some (.array len _) => chain i (fun j => (match indexAddrR P t x (.c (.i true k (Int.ofNat j))) with | some r => needsT r.nd (K r.v s) | none => .fail)) len 0
      | .c (.slc _ _ len _), some (.slice _) => chain i (fun j => (match indexAddrR P t x (.c (.i true k (Int.ofNat j))) with | some r => needsT r.nd (K r.v s) | none => .fail)) len 0
      | _, _ => .fail)
    | _, _ => .fail)
  | .index t x ix => (match fr.ev x, fr.ev ix with
    | some x, some (.c (.i false k i)) => (match x, P.underlying t with
      | .a _, some (.array len _) => chain i (fun j => (match indexR P t x (.c (.i true k (Int.ofNat j))) with | some r => needsT r.nd (K r.v s) | none => .fail)) len 0
      | _, _ => .fail)
    | _, _ => .fail)
  | _ => .fail

def operK {β : Type} (P : Program) (call : CallK β) (fl : Fl) (o : Oper) (fr : Fr) (s : SW) (K : SV → SW → Tree β) : Tree β :=
  match pureOp P fr.ev o.op with
  | some r => needsT r.nd (K r.v s)
  | none => match fl with
    | .pure => .fail
    | .load => (match o.op with
      | .load t x => (match fr.ev x with | some v => (match loadS P s t v with | some (u, _) => K u s | none => .fail) | none => .fail)
      | _ => .fail)
    | .loud => (match heapOp P fr.ev s o.op with
      | some (v, s') => K v s'
      | none => match o.op with
        | .call { callee := .value f, args, .. } => (match fr.ev f, evs fr.ev args.toList with
            | some (.c (.fn g)), some vs => call g vs s K
            | some (.c (.clo g caps)), some vs => call g (vs ++ caps.map fun p => .c (.p p.1 p.2)) s K
            | _, _ => .fail)
        | op => idxK P op fr s K)

def guardK {β : Type} (ops : Array Oper) (o : Oper) (fr : Fr) (K : Bool → Fr → Tree β) : Tree β :=
  match o.guard with
  | none => K true fr
  | some (j, want) => match (ops[j]?).bind (·.dst) with
    | none => .fail
    | some d => match fr.get d with
      | some (.c (.b lit v)) => cond lit (K (v == want) fr)
          (.node v (fr.putK (some d) (.c (.b true true)) .fail fun fr' => K want fr') (fr.putK (some d) (.c (.b true false)) .fail fun fr' => K (!want) fr'))
      | some (.t []) => K false fr
      | _ => .fail

def opsK {β : Type} (P : Program) (call : CallK β) (ops : Array Oper) : List (Nat × Fl) → Fr → SW → (Fr → SW → Tree β) → Tree β
  | [], fr, s, K => K fr s
  | (i, p) :: r, fr, s, K => match ops[i]? with
    | none => .fail
    | some o => guardK ops o fr fun wanted fr =>
        cond wanted (operK P call p o fr s fun v s' => fr.putK o.dst v .fail fun fr' => opsK P call ops r fr' s' K)
          (fr.putK o.dst undefS .fail fun fr' => opsK P call ops r fr' s K)

abbrev CallC (β : Type) := FuncId → List SV → (SV → Tree β) → Tree β
def operC {β : Type} (P : Program) (call : CallC β) (o : Oper) (fr : Fr) (s : SW) (K : SV → Tree β) : Tree β :=
  match pureOp P fr.ev o.op with
  | some r => needsT r.nd (K r.v)
  | none => match o.op with
      | .load t x => (match fr.ev x with | some v => (match loadS P s t v with | some (u, _) => K u | none => .fail) | none => .fail)
      | .call { callee := .value f, args, .. } => (match fr.ev f, evs fr.ev args.toList with
            | some (.c (.fn g)), some vs => cond (vs.all (SV.ok 0)) (call g vs K) .fail
            | _, _ => .fail)
      | _ => .fail
def isLoud : Fl → Bool | .loud => true | _ => false
def opsC {β : Type} (P : Program) (call : CallC β) (ops : Array Oper) : List (Nat × Fl) → Fr → SW → (Fr → SW → Tree β) → Tree β
  | [], fr, s, K => K fr s
  | (i, p) :: r, fr, s, K => match ops[i]? with
    | none => .fail
    | some o => guardK ops o fr fun wanted fr =>
        cond wanted (cond (isLoud p)
            (cond (changes o.op) (match heapOp P fr.ev s o.op with
              | some (v, s') => fr.putK o.dst v .fail fun fr' => opsC P call ops r fr' s' K
              | none => .fail) .fail)
            (operC P call o fr s fun v => fr.putK o.dst v .fail fun fr' => opsC P call ops r fr' s K))
          (fr.putK o.dst undefS .fail fun fr' => opsC P call ops r fr' s K)

/-- A test that is not known: its slot is known behind it. -/
def forkK {β : Type} (fr : Fr) (c : Operand) (v : Bool) (Kt Kf : Fr → Tree β) : Tree β :=
  match c with
  | .tmp d => .node v (fr.putK (some d) (.c (.b true true)) .fail Kt) (fr.putK (some d) (.c (.b true false)) .fail Kf)
  | _ => .node v (Kt fr) (Kf fr)

structure Lf where
  todo : List Item
  ended : Bool
  fr : Fr
  s : SW

def resS (P : Program) (fr : Fr) (s : SW) : ResultVar → Option SV
  | .tmp t => fr.get t
  | .cell a t => (match fr.get a with | some v => (match loadS P s t v with | some (u, _) => some u | none => none) | none => none)

def resL (P : Program) (fr : Fr) (s : SW) : List ResultVar → Option (List SV)
  | [] => some []
  | r :: rs => match resS P fr s r with
    | none => none
    | some v => (match resL P fr s rs with | some vs => some (v :: vs) | none => none)

def s1L : List SV → Option (List S1)
  | [] => some []
  | v :: vs => match v.s1 with
    | none => none
    | some x => (match s1L vs with | some xs => some (x :: xs) | none => none)

def results1 (P : Program) (fn : Func) (fr : Fr) (s : SW) : Option SV :=
  match resL P fr s fn.results.toList with
  | none => none
  | some [v] => some v
  | some vs => (match s1L vs with | some xs => some (.t xs) | none => none)

def mkFrGo : Tr → Nat → List SV → Tr
  | t, _, [] => t
  | t, i, v :: vs => mkFrGo (t.set i v) (i + 1) vs
def mkFrK {β : Type} : Tr → Nat → List SV → (Tr → β) → β
  | t, _, [], K => K t
  | t, i, v :: vs, K => t.setK i v fun t' => mkFrK t' (i + 1) vs K

abbrev Orc := FuncId → List SV → SW → Option (Tree (SV × SW))
abbrev Tab := FuncId → Option Func

def run (P : Program) (orc : Orc) (tab : Tab) : Nat → Nat → List Item → Fr → SW → Tree Lf
  | 0, _, _, _, _ => .fail
  | n + 1, brk, todo, fr, s => match todo with
    | [] => .leaf ⟨[], true, fr, s⟩
    | .code .ret :: _ => .leaf ⟨[], true, fr, s⟩
    | .code .skip :: k => run P orc tab n brk k fr s
    | .code (.label _) :: k => run P orc tab n brk k fr s
    | .inBlock _ :: k => run P orc tab n brk k fr s
    | .inScope _ :: k => run P orc tab n brk k fr s
    | .code (.seq a b) :: k => run P orc tab n brk (.code a :: .code b :: k) fr s
    | .code (.scope c) :: k => run P orc tab n brk (.code c :: .inScope c :: k) fr s
    | .code (.block id c) :: k => run P orc tab n brk (.code c :: .inBlock id :: k) fr s
    | .code (.loop c) :: k => cond (Nat.blt k.length brk) (.leaf ⟨.code c :: .inLoop c :: k, false, fr, s⟩) (run P orc tab n brk (.code c :: .inLoop c :: k) fr s)
    | .inLoop c :: k => cond (Nat.blt k.length brk) (.leaf ⟨.code c :: .inLoop c :: k, false, fr, s⟩) (run P orc tab n brk (.code c :: .inLoop c :: k) fr s)
    | .code (.exit id) :: k => (match exitTo id k with | some k' => run P orc tab n brk k' fr s | none => .fail)
    | .code (.cond c x y) :: k => (match fr.ev c with
      | some (.c (.b lit v)) => cond lit (cond v (run P orc tab n brk (.code x :: k) fr s) (run P orc tab n brk (.code y :: k) fr s))
          (forkK fr c v (fun fr => run P orc tab n brk (.code x :: k) fr s) (fun fr => run P orc tab n brk (.code y :: k) fr s))
      | _ => .fail)
    | .code (.region _ ops draw) :: k =>
      let call : CallK Lf := fun g vs s K => match tab g with
        | none => .fail
        | some fn => match orc g vs s with
          | some t => t.bind fun r => K r.1 r.2
          | none => match fn.body with
            | none => .fail
            | some c => cond (Nat.ble vs.length fn.ntmps) (mkFrK (Tr.mk 12) 0 vs fun t =>
                (run P orc tab n 0 [.code c] ⟨fn.ntmps, t⟩ s).bind fun lf => cond lf.ended (match results1 P fn lf.fr lf.s with | some v => K v lf.s | none => .fail) .fail) .fail
      let callC : CallC Lf := fun g vs K => match tab g with
        | none => .fail
        | some fn => match orc g vs [] with
          | some t => t.bind fun r => cond (r.1.ok 0) (K r.1) .fail
          | none => match fn.body with
            | none => .fail
            | some c => cond (Nat.ble vs.length fn.ntmps) (mkFrK (Tr.mk 12) 0 vs fun t =>
                (run P orc tab n 0 [.code c] ⟨fn.ntmps, t⟩ []).bind fun lf => cond lf.ended (match results1 P fn lf.fr lf.s with | some v => cond (v.ok 0) (K v) .fail | none => .fail) .fail) .fail
      cond draw
        (cond (Region.noSelect ops) (match sched ops ops.size (Array.replicate ops.size false) with
          | some l => opsK P call ops l fr s fun fr' s' => run P orc tab n brk k fr' s'
          | none => match schedC ops ops.size (Array.replicate ops.size false) with
            | some l => opsC P callC ops l fr s fun fr' s' => run P orc tab n brk k fr' s'
            | none => .fail) .fail)
        (opsK P call ops ((List.range ops.size).map fun i => (i, .loud)) fr s fun fr' s' => run P orc tab n brk k fr' s')
    | _ => .fail
end Go.Proofs.Ytpfdemmoapjjpaa.Ev
