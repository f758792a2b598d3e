import Derived.Orders
import Derived.RowKit3
import Derived.KernelRfl
import Derived.Laws.Entries
import Derived.Laws.Small
import Derived.Laws.Shifts
import Derived.Laws.StructEq
import Derived.Laws.Pointers
import Derived.DataElems
import Derived.Laws.BytesString
import Derived.Laws.AppendOwn
/- A verified symbolic evaluator over the step machine: a function's body is run by the kernel on values that may be unknown; the run forks where a test is not known; the tree of its ends is sound for the machine. -/
set_option linter.unusedVariables false
set_option linter.unusedSimpArgs false
namespace Go.Proofs.Ytdomhmajoclpeaa.Ev
open Go


noncomputable def TodoWp (P : Program) (t : List Item) (Q : Exit → Act → World → Prop) (a : Act) (w : World) : Prop :=
  ∀ (b : Frame) (k : List Item) (cs : List Frame),
    ∃ e a' w', Q e a' w' ∧ Arrives P (lone (b.at a (t ++ k)) cs w) b k cs e a' w'

theorem exitTo_append {id : Nat} {t t' : List Item} (h : exitTo id t = some t') (k : List Item) : exitTo id (t ++ k) = some (t' ++ k) := by
  induction t with
  | nil => simp [exitTo] at h
  | cons x t ih =>
    cases x <;> simp only [exitTo, List.cons_append] at h ⊢ <;> first | exact ih h | skip
    split at h
    · rename_i hh; simp only [hh, if_true]; simp at h; subst h; rfl
    · rename_i hh; simp only [hh]; exact ih h

section
variable {P : Program} {Q : Exit → Act → World → Prop} {a : Act} {w : World} {t : List Item}

theorem TodoWp.nil (h : Q .normal a w) : TodoWp P [] Q a w := fun b k cs => ⟨.normal, a, w, h, .refl _ _⟩

theorem TodoWp.step {x : Item} {t' : List Item}
    (hs : ∀ (b : Frame) (k : List Item) (cs : List Frame), step P (lone (b.at a (x :: (t ++ k))) cs w) = .next (lone (b.at a (t' ++ k)) cs w))
    (h : TodoWp P t' Q a w) : TodoWp P (x :: t) Q a w := fun b k cs =>
  let ⟨e, a', w', q, r⟩ := h b k cs
  ⟨e, a', w', q, .of_steps (.one (hs b k cs)) r⟩

theorem TodoWp.skip (h : TodoWp P t Q a w) : TodoWp P (.code .skip :: t) Q a w := .step (fun _ _ _ => step_skip) h
theorem TodoWp.label {l : Nat} (h : TodoWp P t Q a w) : TodoWp P (.code (.label l) :: t) Q a w := .step (fun _ _ _ => step_label) h
theorem TodoWp.inBlock {id : Nat} (h : TodoWp P t Q a w) : TodoWp P (.inBlock id :: t) Q a w := .step (fun _ _ _ => step_inBlock) h
theorem step_inScope' {P : Program} {b : Frame} {a : Act} {k : List Item} {cs : List Frame} {w : World} {c : Code} :
    step P (lone (b.at a (.inScope c :: k)) cs w) = .next (lone (b.at a k) cs w) :=
  step_lone_go (by simp [stepG, stepG.exec, Frame.at])
theorem step_scope' {P : Program} {b : Frame} {a : Act} {k : List Item} {cs : List Frame} {w : World} {c : Code} :
    step P (lone (b.at a (.code (.scope c) :: k)) cs w) = .next (lone (b.at a (.code c :: .inScope c :: k)) cs w) :=
  step_lone_go (by simp [stepG, stepG.exec, Frame.at])
theorem TodoWp.inScope {c : Code} (h : TodoWp P t Q a w) : TodoWp P (.inScope c :: t) Q a w := .step (fun _ _ _ => step_inScope') h
theorem TodoWp.scope {c : Code} (h : TodoWp P (.code c :: .inScope c :: t) Q a w) : TodoWp P (.code (.scope c) :: t) Q a w :=
  .step (fun _ _ _ => step_scope') h
theorem TodoWp.seq {x y : Code} (h : TodoWp P (.code x :: .code y :: t) Q a w) : TodoWp P (.code (.seq x y) :: t) Q a w :=
  .step (fun _ _ _ => step_seq) h
theorem TodoWp.block {id : Nat} {c : Code} (h : TodoWp P (.code c :: .inBlock id :: t) Q a w) : TodoWp P (.code (.block id c) :: t) Q a w :=
  .step (fun _ _ _ => step_block) h
theorem TodoWp.loop {c : Code} (h : TodoWp P (.code c :: .inLoop c :: t) Q a w) : TodoWp P (.code (.loop c) :: t) Q a w :=
  .step (fun _ _ _ => step_loop) h
theorem TodoWp.inLoop {c : Code} (h : TodoWp P (.code c :: .inLoop c :: t) Q a w) : TodoWp P (.inLoop c :: t) Q a w :=
  .step (fun _ _ _ => step_inLoop) h
theorem TodoWp.cond {c : Operand} {x y : Code} {b : Bool} (hc : a.eval c = .bool b) (h : TodoWp P (.code (if b then x else y) :: t) Q a w) :
    TodoWp P (.code (.cond c x y) :: t) Q a w := .step (fun _ _ _ => step_cond hc) h
theorem TodoWp.exit {id : Nat} {t' : List Item} (hk : exitTo id t = some t') (h : TodoWp P t' Q a w) : TodoWp P (.code (.exit id) :: t) Q a w :=
  .step (fun _ k _ => step_exit (exitTo_append hk k)) h
theorem TodoWp.ret (h : Q .ret a w) : TodoWp P (.code .ret :: t) Q a w := fun _ _ _ => ⟨.ret, a, w, h, _, .one step_ret⟩

noncomputable def Only (K : Act → World → Prop) : Exit → Act → World → Prop
  | .normal, a, w => K a w
  | _, _, _ => False

theorem TodoWp.code {c : Code} (h : c.wp P (Only (TodoWp P t Q)) a w) : TodoWp P (.code c :: t) Q a w := by
  intro b k cs
  obtain ⟨e, a₁, w₁, hq, harr⟩ := h b (t ++ k) cs
  cases e with
  | normal =>
    obtain ⟨e₂, a₂, w₂, hq₂, harr₂⟩ := hq b k cs
    exact ⟨e₂, a₂, w₂, hq₂, .of_steps harr harr₂⟩
  | _ => exact hq.elim

theorem TodoWp.wp {c : Code} (h : TodoWp P [.code c] Q a w) : c.wp P Q a w := fun b k cs => h b k cs

theorem TodoWp.mono {Q' : Exit → Act → World → Prop} (h : TodoWp P t Q a w) (hq : ∀ e a w, Q e a w → Q' e a w) : TodoWp P t Q' a w :=
  fun b k cs => let ⟨e, a', w', q, r⟩ := h b k cs; ⟨e, a', w', hq _ _ _ q, r⟩

end
end Go.Proofs.Ytdomhmajoclpeaa.Ev

namespace Go.Proofs.Ytdomhmajoclpeaa.Ev
open Go


noncomputable def inB (i : Int) (len : Nat) : Bool := decide (0 ≤ i) && decide (i < len)

inductive C where
  | b (lit : Bool) (v : Bool)
  | i (lit : Bool) (k : IntKind) (n : Int)
  | str (lit : Bool) (s : ByteArray)
  | p (blk off : Nat)
  | q (blk base n sz : Nat) (i : Int)
  | slc (blk off len cap : Nat)
  | fn (f : FuncId)
  | clo (f : FuncId) (caps : List (Nat × Nat))
  | e (a : Option Addr) (o sz : Nat) (i : Int)
  | es (a : Option Addr) (len cap : Nat)
  | sla (blk off len sz : Nat)
  | ifc (t : TypeId) (blk off : Nat)
  | fm (name : String) (t : TypeId) (blk off : Nat)
  | x (v : Value)
  | strn (n : Nat) (s : ByteArray)
  | mp (blk : Nat)
  | rs (blk sz len : Nat)
  | rp (blk c sz : Nat) (i : Int)
  | rn (blk sz len : Nat)

inductive S1 where
  | c (x : C)
  | a (l : List C)

inductive SV where
  | c (x : C)
  | a (l : List C)
  | t (l : List S1)
  | any

structure Rh where
  b : Nat → Nat
  c : Nat → Nat
instance : CoeFun Rh (fun _ => Nat → Nat) := ⟨Rh.b⟩
noncomputable def Rh0 : Rh := ⟨fun _ => 0, fun _ => 0⟩

noncomputable def CLOB : Nat := 1000000
noncomputable def decC (f : FuncId) : FuncId := f - CLOB
noncomputable def cloV (f : FuncId) (vals : Array Value) : Value := cond (Nat.blt f CLOB) (.func (.func f) #[] vals) (.func (.func (decC f)) vals #[])
theorem cloV_lt {f : FuncId} {vals : Array Value} (h : Nat.blt f CLOB = true) : cloV f vals = .func (.func f) #[] vals := by unfold cloV; rw [h]; rfl
theorem cloV_ge {f : FuncId} {vals : Array Value} (h : Nat.blt f CLOB = false) : cloV f vals = .func (.func (decC f)) vals #[] := by unfold cloV; rw [h]; rfl
noncomputable def C.den (ρ : Rh) : C → Value
  | .b _ v => .bool v
  | .i _ k n => .int k n
  | .str _ s => .string s
  | .p blk off => .pointer (some ⟨ρ blk, off, none⟩)
  | .q blk base _ sz ix => .pointer (some ⟨ρ blk, base + ix.toNat * sz, none⟩)
  | .slc blk off len cap => .slice (some ⟨ρ blk, off, none⟩) len cap
  | .fn f => .func (.func f) #[] #[]
  | .clo f caps => cloV f (caps.map fun p => Value.pointer (some ⟨ρ p.1, p.2, none⟩)).toArray
  | .e a o sz ix => .pointer (a.map fun a => a.add (ix.toNat * sz + o))
  | .es a len cap => .slice a len cap
  | .sla blk off len sz => .slice (some ⟨ρ blk, off, none⟩) len (ρ.c blk / sz - off / sz)
  | .ifc t blk off => .iface t (.pointer (some ⟨ρ blk, off, none⟩))
  | .fm name t blk off => .func (.method name) #[.iface t (.pointer (some ⟨ρ blk, off, none⟩))] #[]
  | .x v => v
  | .strn _ s => .string s
  | .mp blk => .map (some (ρ blk))
  | .rs blk sz len => .slice (some ⟨ρ blk, 0, none⟩) len (ρ.c blk / sz)
  | .rp blk c sz ix => .pointer (some ⟨ρ blk, ix.toNat * sz + c, none⟩)
  | .rn blk sz len => if len = 0 then .slice none 0 0 else .slice (some ⟨ρ blk, 0, none⟩) len (ρ.c blk / sz)

noncomputable def denL (ρ : Rh) (l : List C) : Array Value := (l.map (C.den ρ)).toArray
noncomputable def S1.den (ρ : Rh) : S1 → Value
  | .c x => x.den ρ
  | .a l => .agg (denL ρ l)
noncomputable def SV.den (ρ : Rh) : SV → Value
  | .c x => x.den ρ
  | .a l => .agg (denL ρ l)
  | .t l => .tuple (l.map (S1.den ρ)).toArray
  | .any => .tuple #[]
noncomputable def SV.isAny : SV → Bool | .any => true | _ => false

noncomputable def C.ok (n : Nat) : C → Bool
  | .p blk _ => Nat.blt blk n
  | .q blk _ m _ ix => Nat.blt blk n && inB ix m
  | .slc blk _ _ _ => Nat.blt blk n
  | .sla blk _ _ _ => Nat.blt blk n
  | .ifc _ blk _ => Nat.blt blk n
  | .mp blk => Nat.blt blk n
  | .rs blk _ _ => Nat.blt blk n
  | .rp blk _ _ _ => Nat.blt blk n
  | .rn blk _ len => Nat.blt blk n || Nat.beq len 0
  | .fm _ _ blk _ => Nat.blt blk n
  | .clo _ caps => caps.all fun p => Nat.blt p.1 n
  | _ => true
noncomputable def okL (n : Nat) (l : List C) : Bool := l.all (C.ok n)
noncomputable def S1.ok (n : Nat) : S1 → Bool
  | .c x => x.ok n
  | .a l => okL n l
noncomputable def SV.ok (n : Nat) : SV → Bool
  | .c x => x.ok n
  | .a l => okL n l
  | .t l => l.all (S1.ok n)
  | .any => true

noncomputable def Agree (n : Nat) (ρ ρ' : Rh) : Prop := ∀ i, i < n → ρ' i = ρ i ∧ ρ'.c i = ρ.c i
theorem Agree.refl (n : Nat) (ρ : Rh) : Agree n ρ ρ := fun _ _ => ⟨rfl, rfl⟩
theorem Agree.trans {n m : Nat} {ρ ρ' ρ'' : Rh} (h : Agree n ρ ρ') (h' : Agree m ρ' ρ'') (hn : n ≤ m) : Agree n ρ ρ'' :=
  fun i hi => ⟨(h' i (Nat.lt_of_lt_of_le hi hn)).1.trans (h i hi).1, (h' i (Nat.lt_of_lt_of_le hi hn)).2.trans (h i hi).2⟩

theorem den_clo {ρ : Rh} {g : FuncId} {caps : List (Nat × Nat)} {v u : Value} (h : v = SV.den ρ (.c (.clo g caps))) (hu : cloV g (caps.map fun p => Value.pointer (some ⟨ρ p.1, p.2, none⟩)).toArray = u) : v = u := by
  rw [h, ← hu]
  simp only [SV.den, C.den]
theorem C.den_agree {n : Nat} {ρ ρ' : Rh} (h : Agree n ρ ρ') {x : C} (hx : x.ok n = true) : x.den ρ' = x.den ρ := by
  cases x with
  | clo f caps =>
    simp only [C.den, C.ok] at hx ⊢
    congr 2
    exact List.map_congr_left fun p hp => by rw [(h _ (Nat.le_of_ble_eq_true (List.all_eq_true.1 hx p hp))).1]
  | p blk off => simp only [C.den, C.ok] at hx ⊢; rw [(h _ (Nat.le_of_ble_eq_true hx)).1]
  | q blk base m sz ix => simp only [C.den, C.ok, Bool.and_eq_true] at hx ⊢; rw [(h _ (Nat.le_of_ble_eq_true hx.1)).1]
  | slc blk off len cap => simp only [C.den, C.ok] at hx ⊢; rw [(h _ (Nat.le_of_ble_eq_true hx)).1]
  | ifc t blk off => simp only [C.den, C.ok] at hx ⊢; rw [(h _ (Nat.le_of_ble_eq_true hx)).1]
  | mp blk => simp only [C.den, C.ok] at hx ⊢; rw [(h _ (Nat.le_of_ble_eq_true hx)).1]
  | rs blk sz len => simp only [C.den, C.ok] at hx ⊢; rw [(h _ (Nat.le_of_ble_eq_true hx)).1, (h _ (Nat.le_of_ble_eq_true hx)).2]
  | rp blk c sz ix => simp only [C.den, C.ok] at hx ⊢; rw [(h _ (Nat.le_of_ble_eq_true hx)).1]
  | rn blk sz len =>
    simp only [C.den, C.ok, Bool.or_eq_true] at hx ⊢
    rcases hx with hx | hx
    · rw [(h _ (Nat.le_of_ble_eq_true hx)).1, (h _ (Nat.le_of_ble_eq_true hx)).2]
    · rw [if_pos (Nat.eq_of_beq_eq_true hx), if_pos (Nat.eq_of_beq_eq_true hx)]
  | fm name t blk off => simp only [C.den, C.ok] at hx ⊢; rw [(h _ (Nat.le_of_ble_eq_true hx)).1]
  | sla blk off len sz => simp only [C.den, C.ok] at hx ⊢; rw [(h _ (Nat.le_of_ble_eq_true hx)).1, (h _ (Nat.le_of_ble_eq_true hx)).2]
  | _ => rfl
theorem denL_agree {n : Nat} {ρ ρ' : Rh} (h : Agree n ρ ρ') {l : List C} (hl : okL n l = true) : denL ρ' l = denL ρ l := by
  unfold denL
  congr 1
  refine List.map_congr_left fun x hx => ?_
  exact C.den_agree h (List.all_eq_true.1 hl x hx)
theorem S1.den_agree {n : Nat} {ρ ρ' : Rh} (h : Agree n ρ ρ') {x : S1} (hx : x.ok n = true) : x.den ρ' = x.den ρ := by
  cases x with
  | c x => exact C.den_agree h hx
  | a l => simp only [S1.den]; rw [denL_agree h hx]
theorem SV.den_agree {n : Nat} {ρ ρ' : Rh} (h : Agree n ρ ρ') {x : SV} (hx : x.ok n = true) : x.den ρ' = x.den ρ := by
  cases x with
  | c x => exact C.den_agree h hx
  | a l => simp only [SV.den]; rw [denL_agree h hx]
  | t l =>
    simp only [SV.den]
    congr 2
    exact List.map_congr_left fun x hx' => S1.den_agree h (List.all_eq_true.1 hx x hx')
  | any => rfl

theorem C.ok_mono {n m : Nat} (h : n ≤ m) {x : C} (hx : x.ok n = true) : x.ok m = true := by
  cases x with
  | clo f caps =>
    simp only [C.ok] at hx ⊢
    exact List.all_eq_true.2 fun p hp => Nat.ble_eq_true_of_le (Nat.le_trans (Nat.le_of_ble_eq_true (List.all_eq_true.1 hx p hp)) h)
  | p blk off => simp only [C.ok] at hx ⊢; exact Nat.ble_eq_true_of_le (Nat.le_trans (Nat.le_of_ble_eq_true hx) h)
  | q blk base m' sz ix =>
    simp only [C.ok, Bool.and_eq_true] at hx ⊢
    exact ⟨Nat.ble_eq_true_of_le (Nat.le_trans (Nat.le_of_ble_eq_true hx.1) h), hx.2⟩
  | slc blk off len cap => simp only [C.ok] at hx ⊢; exact Nat.ble_eq_true_of_le (Nat.le_trans (Nat.le_of_ble_eq_true hx) h)
  | fm name t blk off => simp only [C.ok] at hx ⊢; exact Nat.ble_eq_true_of_le (Nat.le_trans (Nat.le_of_ble_eq_true hx) h)
  | ifc t blk off => simp only [C.ok] at hx ⊢; exact Nat.ble_eq_true_of_le (Nat.le_trans (Nat.le_of_ble_eq_true hx) h)
  | mp blk => simp only [C.ok] at hx ⊢; exact Nat.ble_eq_true_of_le (Nat.le_trans (Nat.le_of_ble_eq_true hx) h)
  | rs blk sz len => simp only [C.ok] at hx ⊢; exact Nat.ble_eq_true_of_le (Nat.le_trans (Nat.le_of_ble_eq_true hx) h)
  | rp blk c sz ix => simp only [C.ok] at hx ⊢; exact Nat.ble_eq_true_of_le (Nat.le_trans (Nat.le_of_ble_eq_true hx) h)
  | rn blk sz len =>
    simp only [C.ok, Bool.or_eq_true] at hx ⊢
    exact hx.imp (fun hx => Nat.ble_eq_true_of_le (Nat.le_trans (Nat.le_of_ble_eq_true hx) h)) id
  | sla blk off len sz => simp only [C.ok] at hx ⊢; exact Nat.ble_eq_true_of_le (Nat.le_trans (Nat.le_of_ble_eq_true hx) h)
  | _ => rfl
theorem okL_mono {n m : Nat} (h : n ≤ m) {l : List C} (hl : okL n l = true) : okL m l = true :=
  List.all_eq_true.2 fun x hx => C.ok_mono h (List.all_eq_true.1 hl x hx)
theorem S1.ok_mono {n m : Nat} (h : n ≤ m) {x : S1} (hx : x.ok n = true) : x.ok m = true := by
  cases x with
  | c x => exact C.ok_mono h hx
  | a l => exact okL_mono h hx
theorem SV.ok_mono {n m : Nat} (h : n ≤ m) {x : SV} (hx : x.ok n = true) : x.ok m = true := by
  cases x with
  | c x => exact C.ok_mono h hx
  | a l => exact okL_mono h hx
  | t l => exact List.all_eq_true.2 fun x hx' => S1.ok_mono h (List.all_eq_true.1 hx x hx')
  | any => rfl

noncomputable def undefS : SV := .t []
theorem undefS_den (ρ : Rh) : undefS.den ρ = undef := rfl
theorem undefS_ok (n : Nat) : undefS.ok n = true := rfl

noncomputable def ofCell : Value → C
  | .bool v => .b true v
  | .int k n => .i true k n
  | .string s => .str true s
  | v => .x v
theorem ofCell_den (ρ : Rh) (v : Value) : (ofCell v).den ρ = v := by cases v <;> rfl
theorem ofCell_ok (n : Nat) (v : Value) : (ofCell v).ok n = true := by cases v <;> rfl
noncomputable def ofVal : Value → SV
  | .agg cs => .a (cs.toList.map ofCell)
  | v => .c (ofCell v)
theorem denL_ofCell (ρ : Rh) (cs : List Value) : denL ρ (cs.map ofCell) = cs.toArray := by
  unfold denL
  rw [List.map_map]
  congr 1
  have : (C.den ρ ∘ ofCell) = id := funext fun v => ofCell_den ρ v
  rw [this, List.map_id]
theorem okL_ofCell (n : Nat) (cs : List Value) : okL n (cs.map ofCell) = true :=
  List.all_eq_true.2 fun x hx => by obtain ⟨v, _, rfl⟩ := List.mem_map.1 hx; exact ofCell_ok n v
theorem ofVal_den (ρ : Rh) (v : Value) : (ofVal v).den ρ = v := by
  cases v with
  | agg cs => simp only [ofVal, SV.den]; rw [denL_ofCell]
  | _ => rfl
theorem ofVal_ok (n : Nat) (v : Value) : (ofVal v).ok n = true := by
  cases v with
  | agg cs => exact okL_ofCell n _
  | _ => rfl

noncomputable def selI : List Int → Int → Int
  | [], _ => 0
  | x :: r, i => match r with
    | [] => x
    | _ :: _ => cond (i == 0) x (selI r (i - 1))
noncomputable def selB : List Bool → Int → Bool
  | [], _ => false
  | x :: r, i => match r with
    | [] => x
    | _ :: _ => cond (i == 0) x (selB r (i - 1))
theorem selI_spec : ∀ (l : List Int) (i : Int), 0 ≤ i → i < l.length → l[i.toNat]? = some (selI l i)
  | [], i, h0, h1 => by simp at h1; omega
  | [x], i, h0, h1 => by
    have : i = 0 := by simp at h1; omega
    subst this; rfl
  | x :: y :: r, i, h0, h1 => by
    by_cases h : i = 0
    · subst h; rfl
    · have ih := selI_spec (y :: r) (i - 1) (by omega) (by simp at h1 ⊢; omega)
      have e : i.toNat = (i - 1).toNat + 1 := by omega
      have hb : (i == 0) = false := by simpa using h
      rw [e, List.getElem?_cons_succ, ih]
      show _ = some (cond (i == 0) x (selI (y :: r) (i - 1)))
      rw [hb]; rfl
theorem selB_spec : ∀ (l : List Bool) (i : Int), 0 ≤ i → i < l.length → l[i.toNat]? = some (selB l i)
  | [], i, h0, h1 => by simp at h1; omega
  | [x], i, h0, h1 => by
    have : i = 0 := by simp at h1; omega
    subst this; rfl
  | x :: y :: r, i, h0, h1 => by
    by_cases h : i = 0
    · subst h; rfl
    · have ih := selB_spec (y :: r) (i - 1) (by omega) (by simp at h1 ⊢; omega)
      have e : i.toNat = (i - 1).toNat + 1 := by omega
      have hb : (i == 0) = false := by simpa using h
      rw [e, List.getElem?_cons_succ, ih]
      show _ = some (cond (i == 0) x (selB (y :: r) (i - 1)))
      rw [hb]; rfl
noncomputable def intsK {γ : Type} : List C → IntKind → (List Int → Option γ) → Option γ
  | [], _, K => K []
  | .i _ k' n :: r, k, K => if k' = k then intsK r k fun l => K (n :: l) else none
  | _, _, _ => none
noncomputable def boolsK {γ : Type} : List C → (List Bool → Option γ) → Option γ
  | [], K => K []
  | .b _ v :: r, K => boolsK r fun l => K (v :: l)
  | _, _ => none
noncomputable def selK {γ : Type} (cs : List C) (i : Int) (K : C → Option γ) : Option γ :=
  match cs with
  | .i _ k _ :: _ => intsK cs k fun l => K (.i false k (selI l i))
  | .b _ _ :: _ => boolsK cs fun l => K (.b false (selB l i))
  | _ => none
theorem intsK_spec {γ : Type} {k : IntKind} : ∀ (cs : List C) (K : List Int → Option γ) (r : γ), intsK cs k K = some r → ∃ l, K l = some r ∧ ∀ ρ, cs.map (C.den ρ) = l.map (Value.int k)
  | [], K, r, h => ⟨[], h, fun _ => rfl⟩
  | .i _ k' n :: cs, K, r, h => by
    simp only [intsK] at h
    split at h
    · rename_i hk
      subst hk
      obtain ⟨l, h1, h2⟩ := intsK_spec cs _ r h
      exact ⟨n :: l, h1, fun ρ => by simp only [List.map_cons, h2 ρ, C.den]⟩
    · cases h
  | .b _ _ :: _, _, _, h => by cases h
  | .str _ _ :: _, _, _, h => by cases h
  | .p _ _ :: _, _, _, h => by cases h
  | .q _ _ _ _ _ :: _, _, _, h => by cases h
  | .slc _ _ _ _ :: _, _, _, h => by cases h
  | .fn _ :: _, _, _, h => by cases h
  | .clo _ _ :: _, _, _, h => by cases h
  | .e _ _ _ _ :: _, _, _, h => by cases h
  | .es _ _ _ :: _, _, _, h => by cases h
  | .sla _ _ _ _ :: _, _, _, h => by cases h
  | .ifc _ _ _ :: _, _, _, h => by cases h
  | .fm _ _ _ _ :: _, _, _, h => by cases h
  | .x _ :: _, _, _, h => by cases h
  | .strn _ _ :: _, _, _, h => by cases h
  | .mp _ :: _, _, _, h => by cases h
  | .rs _ _ _ :: _, _, _, h => by cases h
  | .rp _ _ _ _ :: _, _, _, h => by cases h
  | .rn _ _ _ :: _, _, _, h => by cases h
theorem boolsK_spec {γ : Type} : ∀ (cs : List C) (K : List Bool → Option γ) (r : γ), boolsK cs K = some r → ∃ l, K l = some r ∧ ∀ ρ, cs.map (C.den ρ) = l.map Value.bool
  | [], K, r, h => ⟨[], h, fun _ => rfl⟩
  | .b _ v :: cs, K, r, h => by
    obtain ⟨l, h1, h2⟩ := boolsK_spec cs _ r h
    exact ⟨v :: l, h1, fun ρ => by simp only [List.map_cons, h2 ρ, C.den]⟩
  | .i _ _ _ :: _, _, _, h => by cases h
  | .str _ _ :: _, _, _, h => by cases h
  | .p _ _ :: _, _, _, h => by cases h
  | .q _ _ _ _ _ :: _, _, _, h => by cases h
  | .slc _ _ _ _ :: _, _, _, h => by cases h
  | .fn _ :: _, _, _, h => by cases h
  | .clo _ _ :: _, _, _, h => by cases h
  | .e _ _ _ _ :: _, _, _, h => by cases h
  | .es _ _ _ :: _, _, _, h => by cases h
  | .sla _ _ _ _ :: _, _, _, h => by cases h
  | .ifc _ _ _ :: _, _, _, h => by cases h
  | .fm _ _ _ _ :: _, _, _, h => by cases h
  | .x _ :: _, _, _, h => by cases h
  | .strn _ _ :: _, _, _, h => by cases h
  | .mp _ :: _, _, _, h => by cases h
  | .rs _ _ _ :: _, _, _, h => by cases h
  | .rp _ _ _ _ :: _, _, _, h => by cases h
  | .rn _ _ _ :: _, _, _, h => by cases h
theorem selK_spec {γ : Type} {cs : List C} {i : Int} {K : C → Option γ} {r : γ} (h : selK cs i K = some r) (hi : inB i cs.length = true) :
    ∃ c, K c = some r ∧ (∀ ρ, (cs[i.toNat]?).map (C.den ρ) = some (c.den ρ)) ∧ ∀ n, c.ok n = true := by
  simp only [inB, Bool.and_eq_true, decide_eq_true_eq] at hi
  unfold selK at h
  split at h
  · rename_i _ k _ _
    obtain ⟨l, h1, h2⟩ := intsK_spec _ _ _ h
    refine ⟨_, h1, fun ρ => ?_, fun n => rfl⟩
    have h3 := h2 ρ
    have hl := (congrArg List.length h3).symm
    rw [List.length_map, List.length_map] at hl
    rw [← List.getElem?_map, h3, List.getElem?_map, selI_spec l i hi.1 (by rw [hl]; exact hi.2)]
    rfl
  · obtain ⟨l, h1, h2⟩ := boolsK_spec _ _ _ h
    refine ⟨_, h1, fun ρ => ?_, fun n => rfl⟩
    have h3 := h2 ρ
    have hl := (congrArg List.length h3).symm
    rw [List.length_map, List.length_map] at hl
    rw [← List.getElem?_map, h3, List.getElem?_map, selB_spec l i hi.1 (by rw [hl]; exact hi.2)]
    rfl
  · cases h


inductive Tr where
  | e
  | n (l : Tr) (v : SV) (r : Tr)

noncomputable def Tr.get : Tr → Nat → SV
  | .e, _ => undefS
  | .n l v r, k => cond (Nat.beq k 0) v (cond (Nat.beq (k % 2) 1) (l.get (k / 2)) (r.get (k / 2 - 1)))
noncomputable def Tr.has : Tr → Nat → Bool
  | .e, _ => false
  | .n l _ r, k => cond (Nat.beq k 0) true (cond (Nat.beq (k % 2) 1) (l.has (k / 2)) (r.has (k / 2 - 1)))
noncomputable def Tr.set : Tr → Nat → SV → Tr
  | .e, _, _ => .e
  | .n l x r, k, v => cond (Nat.beq k 0) (.n l v r) (cond (Nat.beq (k % 2) 1) (.n (l.set (k / 2) v) x r) (.n l x (r.set (k / 2 - 1) v)))
noncomputable def Tr.setK {β : Type} : Tr → Nat → SV → (Tr → β) → β
  | .e, _, _, K => K .e
  | .n l x r, k, v, K => cond (Nat.beq k 0) (K (.n l v r))
      (cond (Nat.beq (k % 2) 1) (l.setK (k / 2) v fun l' => K (.n l' x r)) (r.setK (k / 2 - 1) v fun r' => K (.n l x r')))

theorem Tr.setK_eq {β : Type} (t : Tr) : ∀ (k : Nat) (v : SV) (K : Tr → β), t.setK k v K = K (t.set k v) := by
  induction t with
  | e => intros; rfl
  | n l x r ihl ihr =>
    intro k v K
    simp only [Tr.setK, Tr.set, ihl, ihr]
    cases Nat.beq k 0 <;> cases Nat.beq (k % 2) 1 <;> rfl

theorem Tr.get_set (t : Tr) : ∀ (k : Nat) (v : SV) (j : Nat), t.has k = true → (t.set k v).get j = if j = k then v else t.get j := by
  induction t with
  | e => intro k v j h; simp [Tr.has] at h
  | n l x r ihl ihr =>
    intro k v j h
    simp only [Tr.has, Tr.set] at h ⊢
    by_cases hk : k = 0
    · subst hk
      simp only [Nat.beq, cond_true]
      by_cases hj : j = 0
      · subst hj; simp [Tr.get]
      · have : Nat.beq j 0 = false := by cases j <;> simp_all [Nat.beq]
        simp [Tr.get, this, hj]
    · have hk0 : Nat.beq k 0 = false := by cases k <;> simp_all [Nat.beq]
      simp only [hk0, cond_false] at h ⊢
      by_cases hp : k % 2 = 1
      · have hp1 : Nat.beq (k % 2) 1 = true := by rw [hp]; rfl
        simp only [hp1, cond_true] at h ⊢
        by_cases hj : j = 0
        · subst hj; simp [Tr.get, Ne.symm hk]
        · have hj0 : Nat.beq j 0 = false := by cases j <;> simp_all [Nat.beq]
          simp only [Tr.get, hj0, cond_false]
          by_cases hq : j % 2 = 1
          · have hq1 : Nat.beq (j % 2) 1 = true := by rw [hq]; rfl
            simp only [hq1, cond_true]
            rw [ihl _ _ _ h]
            have : (j / 2 = k / 2) ↔ (j = k) := by omega
            simp only [this]
          · have hq1 : Nat.beq (j % 2) 1 = false := by
              have : j % 2 = 0 := by omega
              rw [this]; rfl
            have : j ≠ k := by omega
            simp [hq1, this]
      · have hp1 : Nat.beq (k % 2) 1 = false := by
          have : k % 2 = 0 := by omega
          rw [this]; rfl
        simp only [hp1, cond_false] at h ⊢
        by_cases hj : j = 0
        · subst hj; simp [Tr.get, Ne.symm hk]
        · have hj0 : Nat.beq j 0 = false := by cases j <;> simp_all [Nat.beq]
          simp only [Tr.get, hj0, cond_false]
          by_cases hq : j % 2 = 1
          · have hq1 : Nat.beq (j % 2) 1 = true := by rw [hq]; rfl
            have : j ≠ k := by omega
            simp [hq1, this]
          · have hq1 : Nat.beq (j % 2) 1 = false := by
              have : j % 2 = 0 := by omega
              rw [this]; rfl
            simp only [hq1, cond_false]
            rw [ihr _ _ _ h]
            have : (j / 2 - 1 = k / 2 - 1) ↔ (j = k) := by omega
            simp only [this]

noncomputable def Tr.mk : Nat → Tr
  | 0 => .e
  | d + 1 => .n (Tr.mk d) undefS (Tr.mk d)
theorem Tr.get_mk (d : Nat) : ∀ k, (Tr.mk d).get k = undefS := by
  induction d with
  | zero => intro; rfl
  | succ d ih =>
    intro k
    simp only [Tr.mk, Tr.get, ih]
    cases Nat.beq k 0 <;> cases Nat.beq (k % 2) 1 <;> rfl
theorem Tr.has_set (t : Tr) : ∀ (k : Nat) (v : SV) (j : Nat), (t.set k v).has j = t.has j := by
  induction t with
  | e => intros; rfl
  | n l x r ihl ihr =>
    intro k v j
    simp only [Tr.set]
    cases Nat.beq k 0 <;> cases Nat.beq (k % 2) 1 <;> simp [Tr.has, ihl, ihr]

structure Fr where
  nt : Nat
  tr : Tr

noncomputable def Tr.getR (t : Tr) : Nat → SV :=
  @Tr.rec (fun _ => Nat → SV) (fun _ => undefS) (fun _ v _ ihl ihr k => @Bool.rec (fun _ => SV) (@Bool.rec (fun _ => SV) (ihr (Nat.sub (Nat.div k (nat_lit 2)) (nat_lit 1))) (ihl (Nat.div k (nat_lit 2))) (Nat.beq (Nat.mod k (nat_lit 2)) (nat_lit 1))) v (Nat.beq k (nat_lit 0))) t
noncomputable def Tr.hasR (t : Tr) : Nat → Bool :=
  @Tr.rec (fun _ => Nat → Bool) (fun _ => false) (fun _ _ _ ihl ihr k => @Bool.rec (fun _ => Bool) (@Bool.rec (fun _ => Bool) (ihr (Nat.sub (Nat.div k (nat_lit 2)) (nat_lit 1))) (ihl (Nat.div k (nat_lit 2))) (Nat.beq (Nat.mod k (nat_lit 2)) (nat_lit 1))) true (Nat.beq k (nat_lit 0))) t
noncomputable def Tr.setR {β : Type} (t : Tr) (k : Nat) (v : SV) (K : Tr → β) : β :=
  @Tr.rec (fun _ => Nat → (Tr → β) → β) (fun _ K => K .e) (fun l x r ihl ihr k K => @Bool.rec (fun _ => β) (@Bool.rec (fun _ => β) (ihr (Nat.sub (Nat.div k (nat_lit 2)) (nat_lit 1)) fun r' => K (.n l x r')) (ihl (Nat.div k (nat_lit 2)) fun l' => K (.n l' x r)) (Nat.beq (Nat.mod k (nat_lit 2)) (nat_lit 1))) (K (.n l v r)) (Nat.beq k (nat_lit 0))) t k K
theorem bool_rec_cond {α : Type} (b : Bool) (x y : α) : @Bool.rec (fun _ => α) y x b = cond b x y := by cases b <;> rfl
theorem Tr.getR_eq (t : Tr) : ∀ k, t.getR k = t.get k := by
  induction t with
  | e => intro k; rfl
  | n l v r ihl ihr =>
    intro k
    show @Bool.rec (fun _ => SV) (@Bool.rec (fun _ => SV) (r.getR (k / 2 - 1)) (l.getR (k / 2)) (Nat.beq (k % 2) 1)) v (Nat.beq k 0) = _
    rw [bool_rec_cond, bool_rec_cond, ihl, ihr]; rfl
theorem Tr.hasR_eq (t : Tr) : ∀ k, t.hasR k = t.has k := by
  induction t with
  | e => intro k; rfl
  | n l v r ihl ihr =>
    intro k
    show @Bool.rec (fun _ => Bool) (@Bool.rec (fun _ => Bool) (r.hasR (k / 2 - 1)) (l.hasR (k / 2)) (Nat.beq (k % 2) 1)) true (Nat.beq k 0) = _
    rw [bool_rec_cond, bool_rec_cond, ihl, ihr]; rfl
theorem Tr.setR_eq {β : Type} (t : Tr) (v : SV) : ∀ (k : Nat) (K : Tr → β), t.setR k v K = K (t.set k v) := by
  induction t with
  | e => intro k K; rfl
  | n l x r ihl ihr =>
    intro k K
    show @Bool.rec (fun _ => β) (@Bool.rec (fun _ => β) (r.setR (k / 2 - 1) v fun r' => K (.n l x r')) (l.setR (k / 2) v fun l' => K (.n l' x r)) (Nat.beq (k % 2) 1)) (K (.n l v r)) (Nat.beq k 0) = _
    rw [bool_rec_cond, bool_rec_cond, ihl, ihr]
    simp only [Tr.set]
    cases Nat.beq k 0 <;> cases Nat.beq (k % 2) 1 <;> rfl
noncomputable def Fr.get (f : Fr) (t : Nat) : Option SV := match f with
  | ⟨nt, tr⟩ => @Bool.rec (fun _ => Option SV) none (match tr.getR t with | .any => none | v => some v) (Nat.blt t nt)
theorem Fr.get_def (f : Fr) (t : Nat) : f.get t = cond (Nat.blt t f.nt) (match f.tr.get t with | .any => none | v => some v) none := by
  cases f; simp only [Fr.get, Tr.getR_eq, bool_rec_cond]
noncomputable def Fr.putK {β : Type} (f : Fr) (dst : Option Nat) (v : SV) (fail : β) (K : Fr → β) : β :=
  match dst with
  | none => K f
  | some d => match f with
    | ⟨nt, tr⟩ => @Bool.rec (fun _ => β) fail (tr.setR d v fun t => K ⟨nt, t⟩) (and (Nat.blt d nt) (tr.hasR d))
theorem Fr.putK_def {β : Type} (f : Fr) (dst : Option Nat) (v : SV) (fail : β) (K : Fr → β) : f.putK dst v fail K = (match dst with
  | none => K f
  | some d => cond (Nat.blt d f.nt && f.tr.has d) (f.tr.setK d v fun t => K ⟨f.nt, t⟩) fail) := by
  cases f
  cases dst with
  | none => rfl
  | some d => simp only [Fr.putK, Tr.hasR_eq, Tr.setR_eq, Tr.setK_eq, bool_rec_cond]

structure FrRel (n : Nat) (ρ : Rh) (f : Fr) (a : Act) : Prop where
  size : a.tmps.size = f.nt
  val : ∀ t, t < f.nt → (f.tr.get t).isAny = false → a.tmps[t]? = some ((f.tr.get t).den ρ)
  ok : ∀ t, t < f.nt → (f.tr.get t).ok n = true
  defers : a.defers = []

theorem FrRel.agree {n m : Nat} {ρ ρ' : Rh} {f : Fr} {a : Act} (h : FrRel n ρ f a) (hag : Agree n ρ ρ') (hn : n ≤ m) : FrRel m ρ' f a :=
  ⟨h.size, fun t ht hn' => by rw [SV.den_agree hag (h.ok t ht)]; exact h.val t ht hn', fun t ht => SV.ok_mono hn (h.ok t ht), h.defers⟩

theorem FrRel.get {n : Nat} {ρ : Rh} {f : Fr} {a : Act} (h : FrRel n ρ f a) {t : Nat} {v : SV} (hg : f.get t = some v) :
    a.tmps.getD t undef = v.den ρ ∧ v.ok n = true ∧ a.tmps[t]? = some (v.den ρ) := by
  rw [Fr.get_def] at hg
  by_cases ht : t < f.nt
  · have hb : Nat.blt t f.nt = true := Nat.ble_eq_true_of_le ht
    simp only [hb, cond_true] at hg
    have key : (f.tr.get t).isAny = false ∧ f.tr.get t = v := by
      split at hg
      · cases hg
      · rename_i hne
        simp at hg
        refine ⟨?_, hg⟩
        cases hc : f.tr.get t <;> first | rfl | exact absurd hc hne
    obtain ⟨hna, rfl⟩ := key
    refine ⟨?_, h.ok t ht, h.val t ht hna⟩
    have := h.val t ht hna
    rw [Array.getD_eq_getD_getElem?, this]; rfl
  · have hb : Nat.blt t f.nt = false := by
      cases hc : Nat.blt t f.nt
      · rfl
      · exact absurd (Nat.le_of_ble_eq_true hc) ht
    simp [hb] at hg

theorem FrRel.put {n : Nat} {ρ : Rh} {f : Fr} {a : Act} (h : FrRel n ρ f a) {d : Nat} {v : SV} (hd : d < f.nt) (hh : f.tr.has d = true) (hv : v.ok n = true) :
    FrRel n ρ ⟨f.nt, f.tr.set d v⟩ (a.put (some d) (v.den ρ)) := by
  refine ⟨by simp [Act.put, h.size], fun t ht hna => ?_, fun t ht => ?_, h.defers⟩
  · simp only [Act.put]
    simp only [] at hna
    rw [Tr.get_set _ _ _ _ hh] at hna ⊢
    by_cases htd : t = d
    · subst htd
      simp [h.size, hd]
    · have htd' : d ≠ t := fun e => htd e.symm
      rw [if_neg htd] at hna
      rw [Array.getElem?_setIfInBounds_ne htd', if_neg htd]
      exact h.val t ht hna
  · simp only []
    rw [Tr.get_set _ _ _ _ hh]
    split
    · exact hv
    · exact h.ok t ht


structure Bl where
  cs : List C
  ty : TypeId

abbrev SW := List Bl

noncomputable def ExtI (E : World) (ρ : Rh) (n : Nat) (w : World) : Prop :=
  E.heap.size ≤ w.heap.size ∧ (∀ b, b < E.heap.size → w.heap[b]? = E.heap[b]?) ∧ ∀ i, i < n → E.heap.size ≤ ρ i
theorem ExtI.refl (E : World) (ρ : Rh) : ExtI E ρ 0 E := ⟨Nat.le_refl _, fun _ _ => rfl, fun _ h => absurd h (Nat.not_lt_zero _)⟩
theorem ExtI.none {E w : World} {ρ : Rh} {n : Nat} (h : ExtI E ρ n w) (ρ' : Rh) : ExtI E ρ' 0 w := ⟨h.1, h.2.1, fun _ h => absurd h (Nat.not_lt_zero _)⟩

noncomputable def MAPTY : Nat := 4294967296
noncomputable def mapDec : Nat → Nat → List (Nat × Nat)
  | 0, _ => []
  | n + 1, x => cond (Nat.beq x 0) [] ((x % 4294967296 - 1, x / 4294967296 % 4294967296) :: mapDec n (x / 18446744073709551616))
noncomputable def mapOf (ty : Nat) : List (Nat × Nat) := mapDec 64 (ty / MAPTY - 1)
noncomputable def mapEs : Nat → List (Nat × Nat) → List MapEntry
  | _, [] => []
  | n, (k, v) :: r => { key := .int .i64 k, val := .int .i64 v, born := n } :: mapEs (n + 1) r
noncomputable def mapObj (ty : Nat) : Obj := .map (mapEs 0 (mapOf ty)).toArray (mapOf ty).length
noncomputable def HasC (ρ : Rh) (w : World) (i : Nat) (b : Bl) : Prop :=
  ∃ rest : List Value, (∃ fr : Nat × Nat, w.heap[ρ i]? = some (.cells (b.cs.map (C.den ρ) ++ rest).toArray b.ty fr) ∧ (fr = (0, 0) ∨ (b.cs.map (C.den ρ) ++ rest).length ≤ fr.1)) ∧ b.cs.length + rest.length = ρ.c i
noncomputable def HasB (ρ : Rh) (w : World) (i : Nat) (b : Bl) : Prop :=
  (b.ty < MAPTY ∧ b.cs ≠ [] ∧ HasC ρ w i b) ∨ (MAPTY ≤ b.ty ∧ b.cs = [] ∧ w.heap[ρ i]? = some (mapObj b.ty)) ∨ (b.ty < MAPTY ∧ b.cs = [] ∧ ρ i < w.heap.size)
noncomputable def live (s : SW) (i : Nat) : Prop := ∃ b, s[i]? = some b ∧ (b.cs ≠ [] ∨ MAPTY ≤ b.ty)
theorem HasB.cells {ρ : Rh} {w : World} {i : Nat} {b : Bl} (h : HasB ρ w i b) (hne : b.cs ≠ []) : b.ty < MAPTY ∧ HasC ρ w i b := by
  rcases h with h | ⟨_, h, _⟩ | ⟨_, h, _⟩
  · exact ⟨h.1, h.2.2⟩
  · exact absurd h hne
  · exact absurd h hne
theorem HasB.map {ρ : Rh} {w : World} {i : Nat} {b : Bl} (h : HasB ρ w i b) (hm : MAPTY ≤ b.ty) : b.cs = [] ∧ w.heap[ρ i]? = some (mapObj b.ty) := by
  rcases h with h | ⟨_, h⟩ | ⟨h, _⟩
  · exact absurd h.1 (Nat.not_lt_of_le hm)
  · exact h
  · exact absurd h (Nat.not_lt_of_le hm)
theorem HasB.lt {ρ : Rh} {w : World} {i : Nat} {b : Bl} (h : HasB ρ w i b) : ρ i < w.heap.size := by
  rcases h with ⟨_, _, r, ⟨_, h2, _⟩, _⟩ | ⟨_, _, h3⟩ | ⟨_, _, h3⟩
  · exact (Array.getElem?_eq_some_iff.1 h2).1
  · exact (Array.getElem?_eq_some_iff.1 h3).1
  · exact h3
theorem HasB.of {ρ : Rh} {w : World} {i : Nat} {b : Bl} (ht : b.ty < MAPTY) (h : HasC ρ w i b) : HasB ρ w i b := by
  by_cases hc : b.cs = []
  · obtain ⟨r, ⟨_, h2, _⟩, _⟩ := h
    exact .inr (.inr ⟨ht, hc, (Array.getElem?_eq_some_iff.1 h2).1⟩)
  · exact .inl ⟨ht, hc, h⟩
theorem HasB.heapL {ρ : Rh} {w w' : World} {i : Nat} {b : Bl} (h : HasB ρ w i b) (hs : w.heap.size ≤ w'.heap.size) (he : b.cs ≠ [] ∨ MAPTY ≤ b.ty → w'.heap[ρ i]? = w.heap[ρ i]?) : HasB ρ w' i b := by
  rcases h with ⟨h1, h0, r, h2, h3⟩ | ⟨h1, h2, h3⟩ | ⟨h1, h2, h3⟩
  · exact .inl ⟨h1, h0, r, by rw [he (.inl h0)]; exact h2, h3⟩
  · exact .inr (.inl ⟨h1, h2, by rw [he (.inr h1)]; exact h3⟩)
  · exact .inr (.inr ⟨h1, h2, Nat.lt_of_lt_of_le h3 hs⟩)
theorem HasB.heap {ρ : Rh} {w w' : World} {i : Nat} {b : Bl} (h : HasB ρ w i b) (he : w'.heap[ρ i]? = w.heap[ρ i]?) : HasB ρ w' i b := by
  rcases h with ⟨h1, h0, r, h2, h3⟩ | ⟨h1, h2, h3⟩ | ⟨h1, h2, h3⟩
  · exact .inl ⟨h1, h0, r, by rw [he]; exact h2, h3⟩
  · exact .inr (.inl ⟨h1, h2, by rw [he]; exact h3⟩)
  · refine .inr (.inr ⟨h1, h2, ?_⟩)
    rw [Array.getElem?_eq_getElem h3] at he
    exact (Array.getElem?_eq_some_iff.1 he).1
theorem HasB.ren {ρ ρ' : Rh} {w w' : World} {i : Nat} {b : Bl} (h : HasB ρ w i b) (hb : ρ' i = ρ i) (hc : ρ'.c i = ρ.c i) (hd : b.cs.map (C.den ρ') = b.cs.map (C.den ρ)) (he : w'.heap[ρ i]? = w.heap[ρ i]?) : HasB ρ' w' i b := by
  rcases h with ⟨h1, h0, r, h2, h3⟩ | ⟨h1, h2, h3⟩ | ⟨h1, h2, h3⟩
  · exact .inl ⟨h1, h0, r, by rw [hb, he, hd]; exact h2, by rw [hc]; exact h3⟩
  · exact .inr (.inl ⟨h1, h2, by rw [hb, he]; exact h3⟩)
  · refine .inr (.inr ⟨h1, h2, ?_⟩)
    rw [Array.getElem?_eq_getElem h3] at he
    rw [hb]
    exact (Array.getElem?_eq_some_iff.1 he).1

structure Inv (E W : World) (L : Nat → Prop) (ρ : Rh) (s : SW) (w : World) : Prop where
  blk : ∀ (i : Nat) (b : Bl), s[i]? = some b → HasB ρ w i b
  okc : ∀ (i : Nat) (b : Bl), s[i]? = some b → okL s.length b.cs = true
  inj : ∀ i j, live s i → live s j → ρ i = ρ j → i = j
  grow : W.heap.size ≤ w.heap.size
  old : ∀ b, b < W.heap.size → L b → w.heap[b]? = W.heap[b]?
  fresh : ∀ i, live s i → ρ i < W.heap.size → ¬ L (ρ i)
  frz : True
  os : w.os = W.os
  out : w.output = W.output
  tape : w.tape = W.tape
  ext : ExtI E ρ s.length w

theorem live.lt {s : SW} {i : Nat} (h : live s i) : i < s.length := by
  obtain ⟨b, hb, _⟩ := h; exact (List.getElem?_eq_some_iff.1 hb).1
theorem Inv.lt {E W : World} {L : Nat → Prop} {ρ : Rh} {s : SW} {w : World} (h : Inv E W L ρ s w) {i : Nat} (hi : i < s.length) : ρ i < w.heap.size := by
  exact (h.blk i s[i] (List.getElem?_eq_getElem hi)).lt

theorem Inv.drawn {E W : World} {L : Nat → Prop} {ρ : Rh} {s : SW} {w : World} (h : Inv E W L ρ s w) (n : Nat) : Inv E W L ρ s { w with drawn := n } :=
  ⟨h.blk, h.okc, h.inj, h.grow, h.old, h.fresh, h.frz, h.os, h.out, h.tape, h.ext⟩

theorem map_agree {n : Nat} {ρ ρ' : Rh} (h : Agree n ρ ρ') {l : List C} (hl : okL n l = true) : l.map (C.den ρ') = l.map (C.den ρ) :=
  List.map_congr_left fun x hx => C.den_agree h (List.all_eq_true.1 hl x hx)

theorem Inv.allocRF {E W : World} {L : Nat → Prop} {ρ : Rh} {s : SW} {w : World} (h : Inv E W L ρ s w) (cs : List C) (rest : List Value) (ty : TypeId) (hty : Nat.blt ty MAPTY = true) (hcs : okL s.length cs = true) (fr : Nat × Nat) (hfr : fr = (0, 0) ∨ cs.length + rest.length ≤ fr.1) :
    ∃ ρ', Agree s.length ρ ρ' ∧ ρ' s.length = w.heap.size ∧ ρ'.c s.length = cs.length + rest.length ∧
      Inv E W L ρ' (s ++ [⟨cs, ty⟩]) { w with heap := w.heap.push (.cells (cs.map (C.den ρ) ++ rest).toArray ty fr) } := by
  refine ⟨⟨fun i => if i = s.length then w.heap.size else ρ i, fun i => if i = s.length then cs.length + rest.length else ρ.c i⟩, fun i hi => by simp [Nat.ne_of_lt hi], by simp, by simp, ?_⟩
  have hag : Agree s.length ρ ⟨fun i => if i = s.length then w.heap.size else ρ i, fun i => if i = s.length then cs.length + rest.length else ρ.c i⟩ := fun i hi => by simp [Nat.ne_of_lt hi]
  have hb0 : ∀ i, (⟨fun i => if i = s.length then w.heap.size else ρ i, fun i => if i = s.length then cs.length + rest.length else ρ.c i⟩ : Rh) i = if i = s.length then w.heap.size else ρ i := fun _ => rfl
  have hgetL : ∀ i (b : Bl), (s ++ [⟨cs, ty⟩])[i]? = some b → (i < s.length ∧ s[i]? = some b) ∨ (i = s.length ∧ b = ⟨cs, ty⟩) := by
    intro i b hb
    by_cases hi : i < s.length
    · rw [List.getElem?_append_left hi] at hb; exact .inl ⟨hi, hb⟩
    · have hi' : i = s.length := by
        have := (List.getElem?_eq_some_iff.1 hb).1
        simp at this; omega
      subst hi'
      simp at hb
      exact .inr ⟨rfl, hb.symm⟩
  refine ⟨fun i b hb => ?_, fun i b hb => ?_, fun i j hi hj hij => ?_, ?_, fun b hb hL => ?_, fun i hi hlt => ?_, ?_, h.os, h.out, h.tape, ?_⟩
  · rcases hgetL i b hb with ⟨hi, hb⟩ | ⟨rfl, rfl⟩
    · have hlt : ρ i < w.heap.size := h.lt hi
      refine (h.blk i b hb).ren (by rw [hb0, if_neg (Nat.ne_of_lt hi)]) (by simp [Nat.ne_of_lt hi]) (map_agree hag (h.okc i b hb)) ?_
      rw [Array.getElem?_push_lt hlt, Array.getElem?_eq_getElem hlt]
    · refine HasB.of (Nat.le_of_ble_eq_true hty) ⟨rest, ?_, ?_⟩
      · rw [hb0, if_pos rfl, map_agree hag hcs]
        exact ⟨fr, by simp, hfr.imp id fun h => by simpa using h⟩
      · simp
  · have hlen : (s ++ [⟨cs, ty⟩] : List Bl).length = s.length + 1 := by simp
    rw [hlen]
    rcases hgetL i b hb with ⟨hi, hb⟩ | ⟨rfl, rfl⟩
    · exact okL_mono (Nat.le_succ _) (h.okc i b hb)
    · exact okL_mono (Nat.le_succ _) hcs
  · obtain ⟨b1, hb1, n1⟩ := hi
    obtain ⟨b2, hb2, n2⟩ := hj
    rw [hb0, hb0] at hij
    rcases hgetL i b1 hb1 with ⟨h1, e1⟩ | ⟨rfl, rfl⟩ <;> rcases hgetL j b2 hb2 with ⟨h2, e2⟩ | ⟨rfl, rfl⟩
    · rw [if_neg (Nat.ne_of_lt h1), if_neg (Nat.ne_of_lt h2)] at hij
      exact h.inj i j ⟨b1, e1, n1⟩ ⟨b2, e2, n2⟩ hij
    · rw [if_neg (Nat.ne_of_lt h1), if_pos rfl] at hij
      have := h.lt h1; omega
    · rw [if_pos rfl, if_neg (Nat.ne_of_lt h2)] at hij
      have := h.lt h2; omega
    · rfl
  · simp; have := h.grow; omega
  · rw [← h.old b hb hL]
    exact Array.getElem?_push_lt (Nat.lt_of_lt_of_le hb h.grow) |>.trans (Array.getElem?_eq_getElem (Nat.lt_of_lt_of_le hb h.grow)).symm
  · obtain ⟨b1, hb1, n1⟩ := hi
    rw [hb0] at hlt ⊢
    rcases hgetL i b1 hb1 with ⟨h1, e1⟩ | ⟨rfl, rfl⟩
    · rw [if_neg (Nat.ne_of_lt h1)] at hlt ⊢
      exact h.fresh i ⟨b1, e1, n1⟩ hlt
    · rw [if_pos rfl] at hlt
      have := h.grow; omega
  · trivial
  · refine ⟨by simp; have := h.ext.1; omega, fun b hb => ?_, fun i hi => ?_⟩
    · rw [← h.ext.2.1 b hb]
      have hb' := Nat.lt_of_lt_of_le hb h.ext.1
      exact Array.getElem?_push_lt hb' |>.trans (Array.getElem?_eq_getElem hb').symm
    · simp at hi
      rw [hb0]
      by_cases h1 : i = s.length
      · simp [h1]; exact h.ext.1
      · simp only [h1, if_false]; exact h.ext.2.2 i (by omega)

theorem Inv.allocR {E W : World} {L : Nat → Prop} {ρ : Rh} {s : SW} {w : World} (h : Inv E W L ρ s w) (cs : List C) (rest : List Value) (ty : TypeId) (hty : Nat.blt ty MAPTY = true) (hcs : okL s.length cs = true) :
    ∃ ρ', Agree s.length ρ ρ' ∧ ρ' s.length = w.heap.size ∧ ρ'.c s.length = cs.length + rest.length ∧
      Inv E W L ρ' (s ++ [⟨cs, ty⟩]) { w with heap := w.heap.push (.cells (cs.map (C.den ρ) ++ rest).toArray ty) } :=
  h.allocRF cs rest ty hty hcs (0, 0) (.inl rfl)

theorem Inv.alloc {E W : World} {L : Nat → Prop} {ρ : Rh} {s : SW} {w : World} (h : Inv E W L ρ s w) (cs : List C) (ty : TypeId) (hty : Nat.blt ty MAPTY = true) (hcs : okL s.length cs = true) :
    ∃ ρ', Agree s.length ρ ρ' ∧ ρ' s.length = w.heap.size ∧
      Inv E W L ρ' (s ++ [⟨cs, ty⟩]) { w with heap := w.heap.push (.cells (denL ρ cs) ty) } := by
  obtain ⟨ρ', h1, h2, _, h3⟩ := h.allocR cs [] ty hty hcs
  refine ⟨ρ', h1, h2, ?_⟩
  simpa [denL] using h3

theorem Inv.put {E W : World} {L : Nat → Prop} {ρ : Rh} {s : SW} {w w' : World} (h : Inv E W L ρ s w) {i : Nat} {b : Bl} (hb : s[i]? = some b) (hne : b.cs ≠ []) (cs' : List C) (rest : List Value)
    (hl : cs'.length + rest.length = ρ.c i) (hok : okL s.length cs' = true)
    (hheap0 : ∀ old fr, w.heap[ρ i]? = some (.cells old b.ty fr) → w'.heap = w.heap.setIfInBounds (ρ i) (.cells (cs'.map (C.den ρ) ++ rest).toArray b.ty fr))
    (hos : w'.os = w.os) (hout : w'.output = w.output) (htape : w'.tape = w.tape) : Inv E W L ρ (s.set i ⟨cs', b.ty⟩) w' := by
  have hi : i < s.length := (List.getElem?_eq_some_iff.1 hb).1
  have hlt := h.lt hi
  obtain ⟨hbt, r0, ⟨fr, hw, hfr⟩, hc0⟩ := (h.blk i b hb).cells hne
  have hheap := hheap0 _ fr hw
  have hget : ∀ j (c : Bl), (s.set i ⟨cs', b.ty⟩)[j]? = some c → (j = i ∧ c = ⟨cs', b.ty⟩) ∨ (j ≠ i ∧ s[j]? = some c) := by
    intro j c hc
    by_cases hji : i = j
    · subst hji
      rw [List.getElem?_set_self hi] at hc
      simp at hc; exact .inl ⟨rfl, hc.symm⟩
    · rw [List.getElem?_set_ne hji] at hc
      exact .inr ⟨fun e => hji e.symm, hc⟩
  have hlive : ∀ j, live (s.set i ⟨cs', b.ty⟩) j → live s j := by
    rintro j ⟨c, hc, hn⟩
    rcases hget j c hc with ⟨rfl, rfl⟩ | ⟨_, h2⟩
    · exact ⟨b, hb, .inl hne⟩
    · exact ⟨c, h2, hn⟩
  refine ⟨fun j c hc => ?_, fun j c hc => ?_, fun j k hj hk e => h.inj j k (hlive j hj) (hlive k hk) e, ?_, fun c hc hL => ?_, fun j hj hlt' => h.fresh j (hlive j hj) hlt', ?_, hos.trans h.os, hout.trans h.out, htape.trans h.tape, ?_⟩
  · rcases hget j c hc with ⟨rfl, rfl⟩ | ⟨hji, hc⟩
    · exact HasB.of hbt ⟨rest, ⟨fr, by rw [hheap]; simp [hlt], hfr.imp id fun h => by simp at h ⊢; omega⟩, hl⟩
    · refine (h.blk j c hc).heapL (by rw [hheap]; simp) fun hn => ?_
      have e : ρ i ≠ ρ j := fun e => hji (h.inj i j ⟨b, hb, .inl hne⟩ ⟨c, hc, hn⟩ e).symm
      rw [hheap, Array.getElem?_setIfInBounds_ne e]
  · rw [List.length_set]
    rcases hget j c hc with ⟨rfl, rfl⟩ | ⟨_, hc⟩
    · exact hok
    · exact h.okc j c hc
  · rw [hheap]; simpa using h.grow
  · rw [hheap]
    have : ρ i ≠ c := fun e => h.fresh i ⟨b, hb, .inl hne⟩ (by rw [e]; exact hc) (by rw [e]; exact hL)
    rw [Array.getElem?_setIfInBounds_ne this]
    exact h.old c hc hL
  · trivial
  · refine ⟨by rw [hheap]; simpa using h.ext.1, fun b hb => ?_, fun j hj => h.ext.2.2 j (by simpa using hj)⟩
    rw [hheap, Array.getElem?_setIfInBounds_ne (by have := h.ext.2.2 i hi; omega)]
    exact h.ext.2.1 b hb

theorem Inv.store {E W : World} {L : Nat → Prop} {ρ : Rh} {s : SW} {w : World} (h : Inv E W L ρ s w) {i off : Nat} {b : Bl} {v : C} (hb : s[i]? = some b) (ho : off < b.cs.length)
    (hv : v.ok s.length = true) : Inv E W L ρ (s.set i ⟨b.cs.set off v, b.ty⟩) (w.setCell ⟨ρ i, off, none⟩ (v.den ρ)) := by
  have hi : i < s.length := (List.getElem?_eq_some_iff.1 hb).1
  have hlt := h.lt hi
  have hne : b.cs ≠ [] := by intro e; rw [e] at ho; simp at ho
  obtain ⟨_, r, ⟨fr0, hw, hfr0⟩, hc⟩ := (h.blk i b hb).cells hne
  refine h.put hb hne (b.cs.set off v) r (by simpa using hc) (List.all_eq_true.2 fun x hx => ?_) (fun old fr hold => ?_) rfl rfl rfl
  · rcases List.mem_or_eq_of_mem_set hx with hx | rfl
    · exact List.all_eq_true.1 (h.okc i b hb) x hx
    · exact hv
  · obtain rfl : fr = fr0 := by rw [hold] at hw; simp at hw; exact hw.2
    unfold World.setCell
    simp only [Option.isSome_none, Bool.false_eq_true, if_false]
    apply Array.ext_getElem?
    intro j
    rw [Array.getElem?_modify]
    by_cases hj : ρ i = j
    · subst hj
      simp only [if_true]
      rw [hw]
      simp only [Option.map_some]
      rw [Array.getElem?_setIfInBounds_self]
      simp only [hlt, if_true, List.map_set, List.setIfInBounds_toArray]
      rw [List.set_append_left _ _ (by simpa using ho)]
    · rw [Array.getElem?_setIfInBounds_ne hj]
      simp [hj]

noncomputable def Grew (W w : World) : Prop := W.keptBut w (fun _ => False) ∧ W.heap.size ≤ w.heap.size
theorem Inv.grown {E W : World} {ρ : Rh} {s : SW} {w : World} (h : Inv E W (fun _ => True) ρ s w) : Grew W w := by
  refine ⟨⟨h.os, h.out, fun i hi => ?_⟩, h.grow⟩
  have := h.old i hi trivial
  rw [this]
  cases hW : W.heap[i]? with
  | none => simp
  | some o => cases o <;> simp

theorem Inv.start {E W : World} {ρ : Rh} {n : Nat} (h : ExtI E ρ n W) : Inv E W (fun _ => True) (Rh0) [] W :=
  ⟨by simp, by simp, fun i j hi => by obtain ⟨b, hb, _⟩ := hi; simp at hb, Nat.le_refl _, fun _ _ _ => rfl, fun i hi => by obtain ⟨b, hb, _⟩ := hi; simp at hb, trivial, rfl, rfl, rfl, h.none _⟩

theorem Inv.cell {E W : World} {L : Nat → Prop} {ρ : Rh} {s : SW} {w : World} (h : Inv E W L ρ s w) {i off : Nat} {b : Bl} {v : C} (hb : s[i]? = some b) (hv : b.cs[off]? = some v) :
    w.cell? ⟨ρ i, off, none⟩ = some (v.den ρ) ∧ v.ok s.length = true := by
  refine ⟨?_, List.all_eq_true.1 (h.okc i b hb) v (List.mem_of_getElem? hv)⟩
  have hlt := (List.getElem?_eq_some_iff.1 hv).1
  obtain ⟨_, r, ⟨_, hw, _⟩, _⟩ := (h.blk i b hb).cells (by intro e; rw [e] at hlt; simp at hlt)
  unfold World.cell?
  simp only [hw, Option.isSome_none, Bool.false_eq_true, if_false]
  rw [List.getElem?_toArray, List.getElem?_append_left (by simpa using hlt)]
  simp [hv]
theorem Inv.thawed {E W : World} {L : Nat → Prop} {ρ : Rh} {s : SW} {w : World} (h : Inv E W L ρ s w) {i off : Nat} {b : Bl} (hb : s[i]? = some b) (hlt : off < b.cs.length) :
    w.frozen? ⟨ρ i, off, none⟩ = false := by
  obtain ⟨_, r, ⟨fr, hw, hfr⟩, _⟩ := (h.blk i b hb).cells (by intro e; rw [e] at hlt; simp at hlt)
  unfold World.frozen?
  rcases hfr with rfl | hfr
  · simp [hw]
  · obtain ⟨lo, hi⟩ := fr
    simp at hfr
    simp [hw]
    omega
theorem Inv.newMap {E W : World} {L : Nat → Prop} {ρ : Rh} {s : SW} {w : World} (h : Inv E W L ρ s w) :
    ∃ ρ', Agree s.length ρ ρ' ∧ ρ' s.length = w.heap.size ∧ Inv E W L ρ' (s ++ [⟨[], MAPTY⟩]) { w with heap := w.heap.push (.map #[] 0) } := by
  refine ⟨⟨fun i => if i = s.length then w.heap.size else ρ i, fun i => if i = s.length then 0 else ρ.c i⟩, fun i hi => by simp [Nat.ne_of_lt hi], by simp, ?_⟩
  have hag : Agree s.length ρ ⟨fun i => if i = s.length then w.heap.size else ρ i, fun i => if i = s.length then 0 else ρ.c i⟩ := fun i hi => by simp [Nat.ne_of_lt hi]
  have hb0 : ∀ i, (⟨fun i => if i = s.length then w.heap.size else ρ i, fun i => if i = s.length then 0 else ρ.c i⟩ : Rh) i = if i = s.length then w.heap.size else ρ i := fun _ => rfl
  have hgetL : ∀ i (b : Bl), (s ++ [⟨[], MAPTY⟩])[i]? = some b → (i < s.length ∧ s[i]? = some b) ∨ (i = s.length ∧ b = ⟨[], MAPTY⟩) := by
    intro i b hb
    by_cases hi : i < s.length
    · rw [List.getElem?_append_left hi] at hb; exact .inl ⟨hi, hb⟩
    · have hi' : i = s.length := by
        have := (List.getElem?_eq_some_iff.1 hb).1
        simp at this; omega
      subst hi'
      simp at hb
      exact .inr ⟨rfl, hb.symm⟩
  refine ⟨fun i b hb => ?_, fun i b hb => ?_, fun i j hi hj hij => ?_, ?_, fun b hb hL => ?_, fun i hi hlt => ?_, ?_, h.os, h.out, h.tape, ?_⟩
  · rcases hgetL i b hb with ⟨hi, hb⟩ | ⟨rfl, rfl⟩
    · have hlt : ρ i < w.heap.size := h.lt hi
      refine (h.blk i b hb).ren (by rw [hb0, if_neg (Nat.ne_of_lt hi)]) (by simp [Nat.ne_of_lt hi]) (map_agree hag (h.okc i b hb)) ?_
      rw [Array.getElem?_push_lt hlt, Array.getElem?_eq_getElem hlt]
    · refine .inr (.inl ⟨Nat.le_refl _, rfl, ?_⟩)
      rw [hb0, if_pos rfl]
      have : mapObj MAPTY = .map #[] 0 := rfl
      simp [this]
  · have hlen : (s ++ [⟨[], MAPTY⟩] : List Bl).length = s.length + 1 := by simp
    rw [hlen]
    rcases hgetL i b hb with ⟨hi, hb⟩ | ⟨rfl, rfl⟩
    · exact okL_mono (Nat.le_succ _) (h.okc i b hb)
    · rfl
  · obtain ⟨b1, hb1, n1⟩ := hi
    obtain ⟨b2, hb2, n2⟩ := hj
    rw [hb0, hb0] at hij
    rcases hgetL i b1 hb1 with ⟨h1, e1⟩ | ⟨rfl, rfl⟩ <;> rcases hgetL j b2 hb2 with ⟨h2, e2⟩ | ⟨rfl, rfl⟩
    · rw [if_neg (Nat.ne_of_lt h1), if_neg (Nat.ne_of_lt h2)] at hij
      exact h.inj i j ⟨b1, e1, n1⟩ ⟨b2, e2, n2⟩ hij
    · rw [if_neg (Nat.ne_of_lt h1), if_pos rfl] at hij
      have := h.lt h1; omega
    · rw [if_pos rfl, if_neg (Nat.ne_of_lt h2)] at hij
      have := h.lt h2; omega
    · rfl
  · simp; have := h.grow; omega
  · rw [← h.old b hb hL]
    exact Array.getElem?_push_lt (Nat.lt_of_lt_of_le hb h.grow) |>.trans (Array.getElem?_eq_getElem (Nat.lt_of_lt_of_le hb h.grow)).symm
  · obtain ⟨b1, hb1, n1⟩ := hi
    rw [hb0] at hlt ⊢
    rcases hgetL i b1 hb1 with ⟨h1, e1⟩ | ⟨rfl, rfl⟩
    · rw [if_neg (Nat.ne_of_lt h1)] at hlt ⊢
      exact h.fresh i ⟨b1, e1, n1⟩ hlt
    · rw [if_pos rfl] at hlt
      have := h.grow; omega
  · trivial
  · refine ⟨by simp; have := h.ext.1; omega, fun b hb => ?_, fun i hi => ?_⟩
    · rw [← h.ext.2.1 b hb]
      have hb' := Nat.lt_of_lt_of_le hb h.ext.1
      exact Array.getElem?_push_lt hb' |>.trans (Array.getElem?_eq_getElem hb').symm
    · simp at hi
      rw [hb0]
      by_cases h1 : i = s.length
      · simp [h1]; exact h.ext.1
      · simp only [h1, if_false]; exact h.ext.2.2 i (by omega)
theorem Inv.setMap {E W : World} {L : Nat → Prop} {ρ : Rh} {s : SW} {w : World} (h : Inv E W L ρ s w) {i : Nat} {b : Bl} (hb : s[i]? = some b) (hm : MAPTY ≤ b.ty) (ty : Nat) (hty : MAPTY ≤ ty) :
    Inv E W L ρ (s.set i ⟨[], ty⟩) { w with heap := w.heap.setIfInBounds (ρ i) (mapObj ty) } := by
  have hi : i < s.length := (List.getElem?_eq_some_iff.1 hb).1
  have hlt := h.lt hi
  have hw : w.heap[ρ i]? = some (mapObj b.ty) := ((h.blk i b hb).map hm).2
  have hget : ∀ j (c : Bl), (s.set i ⟨[], ty⟩)[j]? = some c → (j = i ∧ c = ⟨[], ty⟩) ∨ (j ≠ i ∧ s[j]? = some c) := by
    intro j c hc
    by_cases hji : i = j
    · subst hji
      rw [List.getElem?_set_self hi] at hc
      simp at hc; exact .inl ⟨rfl, hc.symm⟩
    · rw [List.getElem?_set_ne hji] at hc
      exact .inr ⟨fun e => hji e.symm, hc⟩
  have hlive : ∀ j, live (s.set i ⟨[], ty⟩) j → live s j := by
    rintro j ⟨c, hc, hn⟩
    rcases hget j c hc with ⟨rfl, rfl⟩ | ⟨_, h2⟩
    · exact ⟨b, hb, .inr hm⟩
    · exact ⟨c, h2, hn⟩
  refine ⟨fun j c hc => ?_, fun j c hc => ?_, fun j k hj hk e => h.inj j k (hlive j hj) (hlive k hk) e, ?_, fun c hc hL => ?_, fun j hj hlt' => h.fresh j (hlive j hj) hlt', trivial, h.os, h.out, h.tape, ?_⟩
  · rcases hget j c hc with ⟨rfl, rfl⟩ | ⟨hji, hc⟩
    · exact .inr (.inl ⟨hty, rfl, by simp [hlt]⟩)
    · refine (h.blk j c hc).heapL (by simp) fun hn => ?_
      have e : ρ i ≠ ρ j := fun e => hji (h.inj i j ⟨b, hb, .inr hm⟩ ⟨c, hc, hn⟩ e).symm
      exact Array.getElem?_setIfInBounds_ne e
  · rw [List.length_set]
    rcases hget j c hc with ⟨rfl, rfl⟩ | ⟨_, hc⟩
    · rfl
    · exact h.okc j c hc
  · simpa using h.grow
  · have : ρ i ≠ c := fun e => h.fresh i ⟨b, hb, .inr hm⟩ (by rw [e]; exact hc) (by rw [e]; exact hL)
    rw [Array.getElem?_setIfInBounds_ne this]
    exact h.old c hc hL
  · refine ⟨by simpa using h.ext.1, fun b hb => ?_, fun j hj => h.ext.2.2 j (by simpa using hj)⟩
    rw [Array.getElem?_setIfInBounds_ne (by have := h.ext.2.2 i hi; omega)]
    exact h.ext.2.1 b hb
theorem Inv.hasMap {E W : World} {L : Nat → Prop} {ρ : Rh} {s : SW} {w : World} (h : Inv E W L ρ s w) {i : Nat} {b : Bl} (hb : s[i]? = some b) (hm : MAPTY ≤ b.ty) : w.heap[ρ i]? = some (mapObj b.ty) := ((h.blk i b hb).map hm).2
end Go.Proofs.Ytdomhmajoclpeaa.Ev

namespace Go.Proofs.Ytdomhmajoclpeaa.Ev
open Go


noncomputable def forceN {β : Type} (n : Nat) (k : Nat → β) : β := match n with | 0 => k 0 | m + 1 => k (m + 1)
theorem forceN_eq {β : Type} (n : Nat) (k : Nat → β) : forceN n k = k n := by cases n <;> rfl
noncomputable def forceI {β : Type} (n : Int) (k : Int → β) : β :=
  match n with | .ofNat m => forceN m fun m' => k (.ofNat m') | .negSucc m => forceN m fun m' => k (.negSucc m')
theorem forceI_eq {β : Type} (n : Int) (k : Int → β) : forceI n k = k n := by cases n <;> simp [forceI, forceN_eq]

structure R where
  nd : List Bool
  v : SV

noncomputable def intR (lit : Bool) (k : IntKind) (n : Int) : Option R :=
  cond lit (forceI n fun n' => some ⟨[], .c (.i true k n')⟩) (some ⟨[], .c (.i false k n)⟩)
noncomputable def boolR (lit : Bool) (v : Bool) : Option R :=
  cond lit (cond v (some ⟨[], .c (.b true true)⟩) (some ⟨[], .c (.b true false)⟩)) (some ⟨[], .c (.b false v)⟩)

theorem intR_eq (lit : Bool) (k : IntKind) (n : Int) : intR lit k n = some ⟨[], .c (.i lit k n)⟩ := by
  cases lit <;> simp [intR, forceI_eq]
theorem boolR_eq (lit : Bool) (v : Bool) : boolR lit v = some ⟨[], .c (.b lit v)⟩ := by
  cases lit <;> cases v <;> rfl

noncomputable def needR (lit : Bool) (nd : Bool) (r : Option R) : Option R :=
  cond lit (cond nd r none) (match r with | some ⟨l, v⟩ => some ⟨nd :: l, v⟩ | none => none)

noncomputable def bitsOp (op : BinOp) (k : IntKind) (a b : Int) : Int := bits op k a b

noncomputable def intBin (op : BinOp) (l : Bool) (k : IntKind) (a : Int) (l' : Bool) (k' : IntKind) (b : Int) : Option R :=
  match op with
  | .shl => needR l' (decide (0 ≤ b)) (cond l' (forceN (min b.toNat k.bits) fun n => intR l k (k.wrap (a * 2 ^ n))) (intR false k (k.wrap (a * 2 ^ min b.toNat k.bits))))
  | .shr => needR l' (decide (0 ≤ b)) (cond l' (forceN (min b.toNat k.bits) fun n => intR l k (a.fdiv (2 ^ n))) (intR false k (a.fdiv (2 ^ min b.toNat k.bits))))
  | op => if k = k' then
      match op with
      | .add => intR (l && l') k (k.wrap (a + b))
      | .sub => intR (l && l') k (k.wrap (a - b))
      | .mul => intR (l && l') k (k.wrap (a * b))
      | .quo => needR l' (!(decide (b = 0))) (intR (l && l') k (k.wrap (a.tdiv b)))
      | .rem => needR l' (!(decide (b = 0))) (intR (l && l') k (a.tmod b))
      | .and => intR (l && l') k (bits .and k a b)
      | .or => intR (l && l') k (bits .or k a b)
      | .xor => intR (l && l') k (bits .xor k a b)
      | .andNot => intR (l && l') k (bits .andNot k a b)
      | .eql => boolR (l && l') (a == b)
      | .neq => boolR (l && l') (a != b)
      | .lss => boolR (l && l') (decide (a < b))
      | .leq => boolR (l && l') (decide (a ≤ b))
      | .gtr => boolR (l && l') (decide (a > b))
      | .geq => boolR (l && l') (decide (a ≥ b))
      | _ => none
    else none

noncomputable def allT (l : List Bool) : Prop := ∀ b, b ∈ l → b = true

theorem needR_sound {lit nd : Bool} {r : Option R} {x : R} (h : needR lit nd r = some x) (hn : allT x.nd) :
    nd = true ∧ ∃ y, r = some y ∧ y.v = x.v ∧ allT y.nd := by
  cases lit
  · simp only [needR, cond_false] at h
    cases r with
    | none => simp at h
    | some y =>
      obtain ⟨l, v⟩ := y
      simp at h
      subst h
      exact ⟨hn _ (List.mem_cons_self), _, rfl, rfl, fun b hb => hn b (List.mem_cons_of_mem _ hb)⟩
  · simp only [needR, cond_true] at h
    cases nd
    · simp at h
    · simp at h
      exact ⟨rfl, x, h, rfl, hn⟩

section
variable {P : Program} {ρ : Rh} {n : Nat}

theorem intBin_sound {op : BinOp} {l l' : Bool} {k k' : IntKind} {a b : Int} {r : R} (h : intBin op l k a l' k' b = some r) (hn : allT r.nd)
    (t : TypeId) (x y : Operand) :
    (∀ w, (do eqGuard op t x y (.int k a) (.int k' b); binOp op t (.int k a) (.int k' b) : Sem Value).run P w = .ok (r.v.den ρ) w) ∧ r.v.ok n = true := by
  have hg : eqGuard op t x y (.int k a) (.int k' b) = pure () := eqGuard_at_int ..
  simp only [hg]
  have key : ∀ (q : Sem Value) (v : SV), q = pure (v.den ρ) → v.ok n = true → r.v = v → (∀ w, (do (pure () : Sem Unit); q : Sem Value).run P w = .ok (r.v.den ρ) w) ∧ r.v.ok n = true := by
    intro q v hq hv hr
    subst hq
    rw [hr]
    exact ⟨fun w => rfl, hv⟩
  by_cases hs : op = .shl
  · subst hs
    simp only [intBin] at h
    obtain ⟨h0, y, hy, hv, _⟩ := needR_sound h hn
    have h0' : ¬ (b < 0) := by have := of_decide_eq_true h0; omega
    refine key _ (.c (.i (l && l') k (k.wrap (a * 2 ^ min b.toNat k.bits)))) ?_ rfl ?_
    · rw [binOp_shl]; simp [Op.shift, h0', SV.den, C.den]
    · rw [← hv]
      cases l' <;> simp [forceN_eq, intR_eq] at hy <;> subst hy <;> simp
  by_cases hs' : op = .shr
  · subst hs'
    simp only [intBin] at h
    obtain ⟨h0, y, hy, hv, _⟩ := needR_sound h hn
    have h0' : ¬ (b < 0) := by have := of_decide_eq_true h0; omega
    refine key _ (.c (.i (l && l') k (a.fdiv (2 ^ min b.toNat k.bits)))) ?_ rfl ?_
    · rw [binOp_shr]; simp [Op.shift, h0', SV.den, C.den]
    · rw [← hv]
      cases l' <;> simp [forceN_eq, intR_eq] at hy <;> subst hy <;> simp
  by_cases hk : k = k'
  · subst hk
    cases op <;> simp only [intBin, if_true, intR_eq, boolR_eq] at h <;> try contradiction
    case quo =>
      obtain ⟨h0, y, hy, hv, _⟩ := needR_sound h hn
      have h0' : ¬ (b = 0) := by simpa using h0
      simp at hy; subst hy
      refine key _ _ ?_ ?_ hv.symm
      · rw [binOp_quo]; simp [Op.intDiv, h0', SV.den, C.den]
      · rfl
    case rem =>
      obtain ⟨h0, y, hy, hv, _⟩ := needR_sound h hn
      have h0' : ¬ (b = 0) := by simpa using h0
      simp at hy; subst hy
      refine key _ _ ?_ ?_ hv.symm
      · rw [binOp_rem]; simp [Op.intDiv, h0', SV.den, C.den]
      · rfl
    all_goals
      simp only [Option.some.injEq] at h
      subst h
      refine key _ _ ?_ ?_ rfl
      · simp [go_sem, Op.intArith, SV.den, C.den, binOp_eql, binOp_neq, binOp_lss, binOp_leq, binOp_gtr, binOp_geq, binOp_add, binOp_sub, binOp_mul, binOp_and, binOp_or, binOp_xor, binOp_andNot]
      · rfl
  · cases op <;> simp [intBin, hk] at h hs hs'

theorem run_sizeOf {t : TypeId} {i : TypeInfo} (h : P.info? t = some i) (w : World) : (sizeOf t).run P w = .ok i.size w := by
  simp [sizeOf, typeInfo, h]
noncomputable def aggB : TypeDesc → Bool | .struct _ | .array _ _ => true | _ => false

theorem run_isAgg {t : TypeId} {d : TypeDesc} (h : P.underlying t = some d) (w : World) : (isAgg t).run P w = .ok (aggB d) w := by
  unfold isAgg
  simp only [Sem.run_bind, run_underlying h, Result.andThen_ok]
  cases d <;> rfl

noncomputable def partR (P : Program) (t : TypeId) (cs : List C) (off : Nat) : Option SV :=
  match P.underlying t with
  | none => none
  | some d => cond (aggB d)
      (match P.info? t with
       | none => none
       | some i => some (.a ((cs.drop off).take i.size)))
      (match cs[off]? with | some c => some (.c c) | none => none)

theorem partR_sound {t : TypeId} {cs : List C} {off : Nat} {v : SV} (h : partR P t cs off = some v) (hcs : okL n cs = true) :
    (∀ w, (part t (denL ρ cs) off).run P w = .ok (v.den ρ) w) ∧ v.ok n = true := by
  unfold partR at h
  split at h
  · cases h
  rename_i d hd
  cases hb : aggB d
  · simp only [hb, cond_false] at h
    split at h
    · rename_i c hc
      simp at h; subst h
      refine ⟨fun w => ?_, List.all_eq_true.1 hcs c (List.mem_of_getElem? hc)⟩
      unfold part
      simp only [Sem.run_bind, run_isAgg hd, Result.andThen_ok]
      simp only [hb, Bool.false_eq_true, if_false]
      have hc' : (denL ρ cs)[off]? = some (c.den ρ) := by simp [denL, hc]
      simp [hc', SV.den]
    · cases h
  · simp only [hb, cond_true] at h
    split at h
    · cases h
    · rename_i i hi
      simp at h; subst h
      refine ⟨fun w => ?_, List.all_eq_true.2 fun x hx => List.all_eq_true.1 hcs x (List.mem_of_mem_drop (List.mem_of_mem_take hx))⟩
      unfold part
      simp only [Sem.run_bind, run_isAgg hd, Result.andThen_ok]
      simp only [hb, if_true]
      simp only [Sem.run_bind, run_sizeOf hi, Result.andThen_ok, Sem.run_pure]
      simp only [SV.den, denL]
      congr 2
      rw [List.extract_toArray, List.extract_eq_take_drop]
      simp [List.map_drop, List.map_take]

noncomputable def eqIn (P : Program) : Nat → TypeId → SV → SV → Option Bool
  | 0, _, _, _ => none
  | d + 1, t, x, y =>
    match P.underlying t, x, y with
    | some .bool, .c (.b _ a), .c (.b _ b) => some (a == b)
    | some (.int _), .c (.i _ k a), .c (.i _ k' b) => if k = k' then some (a == b) else none
    | some .string, .c (.str _ a), .c (.str _ b) => some (a == b)
    | some .string, .c (.strn _ a), .c (.str _ b) => some (a == b)
    | some .string, .c (.str _ a), .c (.strn _ b) => some (a == b)
    | some .string, .c (.strn _ a), .c (.strn _ b) => some (a == b)
    | some (.struct fields), .a xs, .a ys =>
      cond (P.stoodInHeld t) none
        (fields.toList.foldr (fun f acc => match acc with
          | none => none
          | some r => if f.name = "_" then some r else
            match partR P f.type xs f.offset, partR P f.type ys f.offset with
            | some u, some v => (match eqIn P d f.type u v with | some q => some (q && r) | none => none)
            | _, _ => none) (some true))
    | some (.array len elem), .a xs, .a ys =>
      match P.info? elem with
      | none => none
      | some i =>
        (List.range len).foldr (fun j acc => match acc with
          | none => none
          | some r =>
            match partR P elem xs (j * i.size), partR P elem ys (j * i.size) with
            | some u, some v => (match eqIn P d elem u v with | some q => some (q && r) | none => none)
            | _, _ => none) (some true)
    | _, _, _ => none
end
end Go.Proofs.Ytdomhmajoclpeaa.Ev

namespace Go.Proofs.Ytdomhmajoclpeaa.Ev
open Go
section
variable {P : Program} {ρ : Rh} {n : Nat}

theorem eqIn_sound : ∀ (d : Nat) (t : TypeId) (x y : SV) (r : Bool), eqIn P d t x y = some r → x.ok n = true → y.ok n = true →
    ∀ e, d ≤ e → ∀ w, (Op.equalIn e t (x.den ρ) (y.den ρ)).run P w = .ok r w := by
  intro d
  induction d with
  | zero => intro t x y r h; simp [eqIn] at h
  | succ d ih =>
    intro t x y r h hx hy e he w
    obtain ⟨e, rfl⟩ : ∃ e', e = e' + 1 := ⟨e - 1, by omega⟩
    have he' : d ≤ e := by omega
    simp only [eqIn] at h
    split at h
    · rename_i hu; simp at h; subst h
      exact run_equalIn_bool w e t _ _ hu
    · rename_i hu
      split at h
      · rename_i hk; simp at h; subst h
        simp only [SV.den, C.den, Op.equalIn, Sem.run_bind, run_underlying hu, Result.andThen_ok, hk, if_true, Sem.run_pure]
      · cases h
    · rename_i hu; simp at h; subst h
      simp only [SV.den, C.den, Op.equalIn, Sem.run_bind, run_underlying hu, Result.andThen_ok, Sem.run_pure]
    · rename_i hu; simp at h; subst h
      simp only [SV.den, C.den, Op.equalIn, Sem.run_bind, run_underlying hu, Result.andThen_ok, Sem.run_pure]
    · rename_i hu; simp at h; subst h
      simp only [SV.den, C.den, Op.equalIn, Sem.run_bind, run_underlying hu, Result.andThen_ok, Sem.run_pure]
    · rename_i hu; simp at h; subst h
      simp only [SV.den, C.den, Op.equalIn, Sem.run_bind, run_underlying hu, Result.andThen_ok, Sem.run_pure]
    · rename_i fields xs ys hu
      cases hs : P.stoodInHeld t
      · simp only [hs, cond_false] at h
        have hf : P.fieldsOf t = fields := by simp [Program.fieldsOf, hu]
        simp only [SV.den]
        rw [run_equalIn_struct w e t _ _ (by rw [hf]; exact hu) hs, hf]
        generalize fields.toList = fs at h
        revert r w
        induction fs with
        | nil => intro r w h; simp at h; subst h; rfl
        | cons f fs ihf =>
          intro r w h
          simp only [List.foldr_cons] at h
          split at h
          · cases h
          · rename_i r' hr'
            by_cases hn : f.name = "_"
            · rw [if_pos hn] at h
              simp at h; subst h
              simp only [Op.eqFields, hn, ne_eq, not_true_eq_false, if_false]
              exact ihf _ w hr'
            · rw [if_neg hn] at h
              split at h
              · rename_i u v hpu hpv
                split at h
                · rename_i q hq
                  simp at h; subst h
                  obtain ⟨h1, o1⟩ := partR_sound (n := n) (ρ := ρ) hpu hx
                  obtain ⟨h2, o2⟩ := partR_sound (n := n) (ρ := ρ) hpv hy
                  have h3 := ih _ _ _ _ hq o1 o2 e he'
                  simp only [Op.eqFields, ne_eq, hn, not_false_eq_true, if_true, Sem.run_bind, h1, h2, h3, Result.andThen_ok]
                  cases q
                  · simp
                  · simp only [Bool.not_true, Bool.false_eq_true, if_false, Bool.true_and]
                    exact ihf _ w hr'
                · cases h
              · cases h
      · simp [hs] at h
    · rename_i len elem xs ys hu
      split at h
      · cases h
      · rename_i i hi
        simp only [SV.den, Op.equalIn, Sem.run_bind, run_underlying hu, Result.andThen_ok, run_sizeOf hi]
        have key : ∀ (m s : Nat) (r : Bool) (w : World), (List.range' s m).foldr (fun j acc => match acc with
          | none => none
          | some r =>
            match partR P elem xs (j * i.size), partR P elem ys (j * i.size) with
            | some u, some v => (match eqIn P d elem u v with | some q => some (q && r) | none => none)
            | _, _ => none) (some true) = some r →
            ((forIn (List.range' s m) ((none, ()) : Option Bool × Unit) fun j r => do
              let a ← part elem (denL ρ xs) (j * i.size)
              let b ← part elem (denL ρ ys) (j * i.size)
              let q ← Op.equalIn e elem a b
              if (!q) = true then pure (ForInStep.done (some false, ())) else pure (ForInStep.yield (none, ())) : Sem _).run P w) =
              .ok (if r then (none, ()) else (some false, ())) w := by
          intro m
          induction m with
          | zero => intro s r w h; simp at h; subst h; simp
          | succ m ihm =>
            intro s r w h
            rw [List.range'_succ] at h ⊢
            simp only [List.foldr_cons] at h
            split at h
            · cases h
            rename_i r' hr'
            split at h
            · rename_i u v hpu hpv
              split at h
              · rename_i q hq
                simp at h; subst h
                obtain ⟨h1, o1⟩ := partR_sound (n := n) (ρ := ρ) hpu hx
                obtain ⟨h2, o2⟩ := partR_sound (n := n) (ρ := ρ) hpv hy
                have h3 := ih _ _ _ _ hq o1 o2 e he'
                rw [List.forIn_cons]
                simp only [Sem.run_bind, h1, h2, h3, Result.andThen_ok]
                cases q
                · simp
                · simp only [Bool.not_true, Bool.false_eq_true, if_false, Bool.true_and, Sem.run_pure, Result.andThen_ok]
                  exact ihm _ _ w hr'
              · cases h
            · cases h
        rw [Std.Legacy.Range.forIn_eq_forIn_range']
        simp only [Std.Legacy.Range.size, Nat.sub_zero, Nat.add_sub_cancel, Nat.div_one]
        rw [List.range_eq_range'] at h
        rw [key len 0 r w h]
        cases r <;> rfl
    · cases h
end
end Go.Proofs.Ytdomhmajoclpeaa.Ev

namespace Go.Proofs.Ytdomhmajoclpeaa.Ev
open Go

noncomputable def okR (v : SV) : Option R := some ⟨[], v⟩
noncomputable def optR (v : Option SV) : Option R := match v with | some v => some ⟨[], v⟩ | none => none
noncomputable def S1.sv : S1 → SV | .c x => .c x | .a l => .a l
noncomputable def SV.s1 : SV → Option S1 | .c x => some (.c x) | .a l => some (.a l) | _ => none
noncomputable def SV.cells : SV → Option (List C) | .c x => some [x] | .a l => some l | _ => none

noncomputable def isNilP : Value → Bool | .pointer none => true | _ => false
noncomputable def isNilS : Value → Bool | .slice none _ _ => true | _ => false

noncomputable def C.lit : C → Bool
  | .b l _ => l
  | .i l _ _ => l
  | .str l _ => l
  | _ => false
noncomputable def eqCells (P : Program) (neg : Bool) (t : TypeId) (x y : SV) : Option R :=
  match x, y with
  | .c (.b l a), .c (.b l' b) => (match P.underlying t with | some .bool => boolR (l && l') (xor neg (a == b)) | _ => none)
  | .c (.str l a), .c (.str l' b) => boolR (l && l') (xor neg (a == b))
  | .c (.strn _ a), .c (.str _ b) => boolR false (xor neg (a == b))
  | .c (.str _ a), .c (.strn _ b) => boolR false (xor neg (a == b))
  | .c (.strn _ a), .c (.strn _ b) => boolR false (xor neg (a == b))
  | .c (.p _ _), .c (.x v) => (match P.underlying t with | some (.pointer _) => cond (isNilP v) (boolR true neg) none | _ => none)
  | .c (.x v), .c (.p _ _) => (match P.underlying t with | some (.pointer _) => cond (isNilP v) (boolR true neg) none | _ => none)
  | .c (.q _ _ _ _ _), .c (.x v) => (match P.underlying t with | some (.pointer _) => cond (isNilP v) (boolR true neg) none | _ => none)
  | .c (.x v), .c (.x u) => (match P.underlying t with
      | some (.pointer _) => cond (isNilP v && isNilP u) (boolR true (!neg)) none
      | some (.slice _) => cond (isNilS v && isNilS u) (boolR true (!neg)) none
      | _ => none)
  | .c (.slc _ _ _ _), .c (.x v) => (match P.underlying t with | some (.slice _) => cond (isNilS v) (boolR true neg) none | _ => none)
  | .c (.es a _ _), .c (.x v) => (match P.underlying t with | some (.slice _) => cond (isNilS v) (boolR false (xor neg a.isNone)) none | _ => none)
  | .c (.rs _ _ _), .c (.x v) => (match P.underlying t with | some (.slice _) => cond (isNilS v) (boolR true neg) none | _ => none)
  | .c (.rn _ _ n), .c (.x v) => (match P.underlying t with | some (.slice _) => cond (isNilS v) (boolR false (xor neg (decide (n = 0)))) none | _ => none)
  | .c (.rp _ _ _ _), .c (.x v) => (match P.underlying t with | some (.pointer _) => cond (isNilP v) (boolR true neg) none | _ => none)
  | .a xs, .a ys => cond (P.eqGuardType P.depth t) none (match eqIn P 100 t (.a xs) (.a ys) with | some q => boolR (xs.all C.lit && ys.all C.lit) (xor neg q) | none => none)
  | _, _ => none

noncomputable def binR (P : Program) (op : BinOp) (t : TypeId) (x y : SV) : Option R :=
  match x, y with
  | .c (.i l k a), .c (.i l' k' b) => intBin op l k a l' k' b
  | x, y => match op with
    | .eql => eqCells P false t x y
    | .neq => eqCells P true t x y
    | _ => none

noncomputable def unR (op : UnOp) (x : SV) : Option R :=
  match op, x with
  | .neg, .c (.i l k n) => intR l k (k.wrap (0 - n))
  | .xor, .c (.i l k n) => intR l k (bits .xor k (if k.signed then -1 else k.max) n)
  | .not, .c (.b l v) => boolR l (!v)
  | _, _ => none

noncomputable def convR (P : Program) (src dst : TypeId) (x : SV) : Option R :=
  match x with
  | .c (.i l _ m) => match P.underlying src, P.underlying dst with
    | some _, some (.int k') => intR l k' (k'.wrap m)
    | _, _ => none
  | .c (.str l s) => match P.underlying src, P.underlying dst with
    | some .string, some .string => okR (.c (.str l s))
    | _, _ => none
  | _ => none

noncomputable def fieldsR (P : Program) (t : TypeId) (f : Nat) : Option Field :=
  match P.underlying t with
  | some (.struct fs) => fs[f]?
  | _ => none

noncomputable def fieldAddrR (P : Program) (s : TypeId) (x : SV) (f : Nat) : Option R :=
  match x with
  | .c (.p blk off) => match fieldsR P s f with
    | some fd => (match P.info? fd.type with
      | some i => cond (Nat.beq i.size 0) none (okR (.c (.p blk (off + fd.offset))))
      | none => none)
    | none => none
  | .c (.q blk off m sz ix) => match fieldsR P s f with
    | some fd => (match P.info? fd.type with
      | some i => cond (Nat.beq i.size 0) none (forceN (off + fd.offset) fun o => okR (.c (.q blk o m sz ix)))
      | none => none)
    | none => none
  | .c (.e a o sz ix) => match fieldsR P s f with
    | some fd => (match P.info? fd.type with
      | some i => cond (Nat.beq i.size 0) none (forceN (o + fd.offset) fun o => some ⟨[a.isSome], .c (.e a o sz ix)⟩)
      | none => none)
    | none => none
  | .c (.rp blk o sz ix) => match fieldsR P s f with
    | some fd => (match P.info? fd.type with
      | some i => cond (Nat.beq i.size 0) none (forceN (o + fd.offset) fun o => okR (.c (.rp blk o sz ix)))
      | none => none)
    | none => none
  | _ => none

noncomputable def fieldR (P : Program) (t : TypeId) (x : SV) (f : Nat) : Option R :=
  match x with
  | .a cs => (match fieldsR P t f with
    | some fd => optR (partR P fd.type cs fd.offset)
    | none => none)
  | _ => none

noncomputable def indexAddrR (P : Program) (t : TypeId) (x ix : SV) : Option R :=
  match x, ix with
  | .c (.p blk off), .c (.i true _ i) => (match P.underlying t with
    | some (.array len elem) => (match P.info? elem with
      | some e => cond (inB i len) (forceN (off + i.toNat * e.size) fun o => okR (.c (.p blk o))) none
      | none => none)
    | _ => none)
  | .c (.slc blk off len _), .c (.i true _ i) => (match P.underlying t with
    | some (.slice elem) => (match P.info? elem with
      | some e => cond (inB i len) (forceN (off + i.toNat * e.size) fun o => okR (.c (.p blk o))) none
      | none => none)
    | _ => none)
  | .c (.q blk off m sz ix), .c (.i true _ i) => (match P.underlying t with
    | some (.array len elem) => (match P.info? elem with
      | some e => cond (inB i len) (forceN (off + i.toNat * e.size) fun o => okR (.c (.q blk o m sz ix))) none
      | none => none)
    | _ => none)
  | .c (.q blk off m sz jx), .c (.i false _ i) => (match P.underlying t with
    | some (.array len elem) => (match P.info? elem with
      | some e => cond (Nat.blt 0 e.size && Nat.beq (sz % e.size) 0 && Nat.ble len (sz / e.size)) (forceN (sz / e.size) fun q => forceN (m * q) fun mq => some ⟨[inB i len], .c (.q blk off mq e.size (jx * q + i))⟩) none
      | none => none)
    | _ => none)
  | .c (.p blk off), .c (.i false _ i) => (match P.underlying t with
    | some (.array len elem) => (match P.info? elem with
      | some e => some ⟨[inB i len], .c (.q blk off len e.size i)⟩
      | none => none)
    | _ => none)
  | .c (.slc blk off len _), .c (.i false _ i) => (match P.underlying t with
    | some (.slice elem) => (match P.info? elem with
      | some e => some ⟨[inB i len], .c (.q blk off len e.size i)⟩
      | none => none)
    | _ => none)
  | .c (.es a len _), .c (.i _ _ i) => (match P.underlying t with
    | some (.slice elem) => (match P.info? elem with
      | some e => forceN e.size fun sz => some ⟨[inB i len, a.isSome], .c (.e a 0 sz i)⟩
      | none => none)
    | _ => none)
  | .c (.e a o sz ix), .c (.i true _ i) => (match P.underlying t with
    | some (.array len elem) => (match P.info? elem with
      | some e => cond (inB i len) (forceN (o + i.toNat * e.size) fun o => some ⟨[a.isSome], .c (.e a o sz ix)⟩) none
      | none => none)
    | _ => none)
  | .c (.e a o sz _), .c (.i false _ i) => (match P.underlying t with
    | some (.array len elem) => (match P.info? elem with
      | some e => cond (Nat.beq sz 0) (forceN e.size fun sz' => some ⟨[inB i len, a.isSome], .c (.e a o sz' i)⟩) none
      | none => none)
    | _ => none)
  | .c (.rs blk sz len), .c (.i _ _ i) => (match P.underlying t with
    | some (.slice elem) => (match P.info? elem with
      | some e => cond (Nat.beq e.size sz) (some ⟨[inB i len], .c (.rp blk 0 sz i)⟩) none
      | none => none)
    | _ => none)
  | .c (.rn blk sz len), .c (.i _ _ i) => (match P.underlying t with
    | some (.slice elem) => (match P.info? elem with
      | some e => cond (Nat.beq e.size sz) (some ⟨[inB i len], .c (.rp blk 0 sz i)⟩) none
      | none => none)
    | _ => none)
  | .c (.rp blk o sz ix), .c (.i true _ i) => (match P.underlying t with
    | some (.array len elem) => (match P.info? elem with
      | some e => cond (inB i len) (forceN (o + i.toNat * e.size) fun o => okR (.c (.rp blk o sz ix))) none
      | none => none)
    | _ => none)
  | _, _ => none

noncomputable def gatherK {γ : Type} (cs : List C) (sz : Nat) : Nat → Nat → (List C → Option γ) → Option γ
  | 0, _, K => K []
  | n + 1, off, K => match cs[off]? with
    | none => none
    | some c => gatherK cs sz n (off + sz) fun l => K (c :: l)
theorem gatherK_spec {γ : Type} {cs : List C} {sz : Nat} : ∀ (n off : Nat) (K : List C → Option γ) (r : γ), gatherK cs sz n off K = some r →
    ∃ l, K l = some r ∧ l.length = n ∧ ∀ j, j < n → l[j]? = cs[off + j * sz]? ∧ (cs[off + j * sz]?).isSome = true
  | 0, off, K, r, h => ⟨[], h, rfl, fun j hj => absurd hj (Nat.not_lt_zero _)⟩
  | n + 1, off, K, r, h => by
    simp only [gatherK] at h
    split at h
    · cases h
    · rename_i c hc
      obtain ⟨l, h1, h2, h3⟩ := gatherK_spec n (off + sz) _ r h
      refine ⟨c :: l, h1, by simp [h2], fun j hj => ?_⟩
      cases j with
      | zero => simp [hc]
      | succ j =>
        have := h3 j (by omega)
        rw [show off + (j + 1) * sz = off + sz + j * sz by rw [Nat.add_mul]; omega]
        exact ⟨by simpa using this.1, this.2⟩

noncomputable def indexR (P : Program) (t : TypeId) (x ix : SV) : Option R :=
  match x, ix with
  | .a cs, .c (.i true _ i) => (match P.underlying t with
    | some (.array len elem) => (match P.info? elem with
      | some e => cond (inB i len) (optR (partR P elem cs (i.toNat * e.size))) none
      | none => none)
    | _ => none)
  | .a cs, .c (.i false _ i) => (match P.underlying t with
    | some (.array len elem) => (match P.info? elem, P.underlying elem with
      | some e, some d => cond (aggB d) none (gatherK cs e.size len 0 fun l => selK l i fun c => some ⟨[inB i len], .c c⟩)
      | _, _ => none)
    | _ => none)
  | _, _ => none

noncomputable def extractR (x : SV) (ix : Nat) : Option R :=
  match x with
  | .t l => (match l[ix]? with | some v => okR v.sv | none => none)
  | _ => none

noncomputable def nilCheckR (x : SV) : Option R :=
  match x with
  | .c (.p blk off) => okR (.c (.p blk off))
  | .c (.q blk off m sz ix) => okR (.c (.q blk off m sz ix))
  | .c (.rp blk off sz ix) => okR (.c (.rp blk off sz ix))
  | .c (.fn f) => okR (.c (.fn f))
  | .c (.clo f l) => okR (.c (.clo f l))
  | .c (.e a o sz i) => some ⟨[a.isSome], .c (.e a o sz i)⟩
  | _ => none

noncomputable def builtinR (P : Program) (b : Builtin) (ts : Array TypeId) (args : List SV) : Option R :=
  match b, args with
  | .min, [.c (.i l k a), .c (.i l' _ b)] => intR (l && l') k (if b < a then b else a)
  | .max, [.c (.i l k a), .c (.i l' _ b)] => intR (l && l') k (if b > a then b else a)
  | .len, [x] => (match ts[0]? with
    | none => none
    | some t => match P.underlying t, x with
      | some (.slice _), .c (.slc _ _ len _) => intR true .i64 len
      | some (.slice _), .c (.x (.slice none len _)) => intR true .i64 len
      | some (.slice _), .c (.es _ len _) => intR false .i64 len
      | some (.slice _), .c (.rs _ _ len) => intR false .i64 len
      | some (.slice _), .c (.rn _ _ len) => intR false .i64 len
      | some .string, .c (.str l s) => intR l .i64 s.size
      | some (.array m _), _ => intR true .i64 m
      | _, _ => none)
  | _, _ => none

noncomputable def evs (ev : Operand → Option SV) : List Operand → Option (List SV)
  | [] => some []
  | x :: xs => match ev x with
    | none => none
    | some v => (match evs ev xs with | none => none | some vs => some (v :: vs))

noncomputable def putLK {β : Type} : List C → Nat → C → (List C → β) → β
  | [], _, _, K => K []
  | x :: xs, i, v, K => cond (Nat.beq i 0) (K (v :: xs)) (putLK xs (i - 1) v fun ys => K (x :: ys))
noncomputable def overStep {β : Type} (ih : List C → (List C → β) → β) (K : List C → β) (v : C) (cs : List C) : β := ih cs fun ys => K (@List.cons C v ys)
noncomputable def dropStep {β : Type} (ih : List C → β) (xs : List C) : β := ih xs
noncomputable def overK {β : Type} (cs vs : List C) (K : List C → β) : β :=
  @List.rec C (fun _ => List C → (List C → β) → β) (fun cs K => K cs) (fun v _ ih cs K => @List.rec C (fun _ => β) (K []) (fun _ cs _ => overStep ih K v cs) cs) vs cs K
noncomputable def layLK {β : Type} (cs : List C) (i : Nat) (vs : List C) (K : List C → β) : β :=
  @Nat.rec (fun _ => List C → (List C → β) → β) (fun cs K => overK cs vs K) (fun _ ih cs K => @List.rec C (fun _ => β) (K []) (fun x xs _ => overStep ih K x xs) cs) i cs K
noncomputable def lenOK (cs : List C) (n : Nat) : Bool :=
  @Nat.rec (fun _ => List C → Bool) (fun _ => true) (fun _ ih cs => @List.rec C (fun _ => Bool) false (fun _ xs _ => dropStep ih xs) cs) n cs
noncomputable def dropL (n : Nat) (cs : List C) : List C :=
  @Nat.rec (fun _ => List C → List C) (fun cs => cs) (fun _ ih cs => @List.rec C (fun _ => List C) [] (fun _ xs _ => dropStep ih xs) cs) n cs
noncomputable def drop2 (k : Nat) (cs : List C) : List C :=
  @Nat.rec (fun _ => List C → List C) (fun cs => @List.rec C (fun _ => List C) [] (fun _ xs _ => xs) cs) (fun _ ih cs => dropStep ih (ih cs)) k cs
noncomputable def dropB (k n : Nat) (cs : List C) : List C :=
  @Nat.rec (fun _ => Nat → List C → List C) (fun _ cs => cs) (fun k ih n cs => @Bool.rec (fun _ => List C) (ih n cs) (ih (Nat.sub n (Nat.pow (nat_lit 2) k)) (drop2 k cs)) (Nat.ble (Nat.pow (nat_lit 2) k) n)) k n cs
noncomputable def dropR (n : Nat) (cs : List C) : List C := @Bool.rec (fun _ => List C) (dropL n cs) (dropB (nat_lit 12) n cs) (Nat.blt n (nat_lit 4096))
noncomputable def nthR (cs : List C) (n : Nat) : Option C := match dropR n cs with | [] => none | c :: _ => some c
theorem lenOK_eq : ∀ (n : Nat) (cs : List C), lenOK cs n = Nat.ble n cs.length
  | 0, cs => (Nat.ble_eq_true_of_le (Nat.zero_le _)).symm
  | n + 1, [] => rfl
  | n + 1, x :: xs => lenOK_eq n xs
theorem dropL_eq : ∀ (n : Nat) (cs : List C), dropL n cs = cs.drop n
  | 0, cs => rfl
  | n + 1, [] => rfl
  | n + 1, x :: xs => dropL_eq n xs
theorem drop2_eq : ∀ (k : Nat) (cs : List C), drop2 k cs = cs.drop (2 ^ k)
  | 0, [] => rfl
  | 0, x :: xs => rfl
  | k + 1, cs => by
    show drop2 k (drop2 k cs) = _
    rw [drop2_eq k, drop2_eq k, List.drop_drop, Nat.pow_succ, Nat.mul_two]
theorem dropB_eq : ∀ (k n : Nat) (cs : List C), n < 2 ^ k → dropB k n cs = cs.drop n
  | 0, n, cs, h => by
    have : n = 0 := by simpa using h
    subst this; rfl
  | k + 1, n, cs, h => by
    show @Bool.rec (fun _ => List C) (dropB k n cs) (dropB k (n - 2 ^ k) (drop2 k cs)) (Nat.ble (2 ^ k) n) = _
    rw [Nat.pow_succ] at h
    cases hb : Nat.ble (2 ^ k) n
    · have : ¬ 2 ^ k ≤ n := fun h' => by rw [Nat.ble_eq_true_of_le h'] at hb; cases hb
      exact dropB_eq k n cs (by omega)
    · have hle := Nat.le_of_ble_eq_true hb
      show dropB k (n - 2 ^ k) (drop2 k cs) = _
      rw [dropB_eq k _ _ (by omega), drop2_eq, List.drop_drop]
      congr 1; omega
theorem dropR_eq (n : Nat) (cs : List C) : dropR n cs = cs.drop n := by
  show @Bool.rec (fun _ => List C) (dropL n cs) (dropB 12 n cs) (Nat.blt n 4096) = _
  cases hb : Nat.blt n 4096
  · exact dropL_eq n cs
  · exact dropB_eq 12 n cs (Nat.le_of_ble_eq_true hb)
theorem nthR_eq (cs : List C) (n : Nat) : nthR cs n = cs[n]? := by
  unfold nthR
  rw [dropR_eq]
  split
  · rename_i h; exact (List.getElem?_eq_none (List.drop_eq_nil_iff.1 h)).symm
  · rename_i c r h
    have := congrArg List.head? h
    rw [List.head?_drop] at this
    exact this.symm
noncomputable def layL : List C → Nat → List C → List C
  | cs, _, [] => cs
  | cs, off, v :: vs => layL (cs.set off v) (off + 1) vs
theorem layL_nil (vs : List C) : ∀ off, layL [] off vs = [] := by
  induction vs with
  | nil => intros; rfl
  | cons v vs ih => intro off; simp only [layL, List.set_nil, ih]
theorem layL_succ (vs : List C) : ∀ (y : C) (xs : List C) (k : Nat), layL (y :: xs) (k + 1) vs = y :: layL xs k vs := by
  induction vs with
  | nil => intros; rfl
  | cons v vs ih => intro y xs k; simp only [layL, List.set_cons_succ, ih]
theorem overK_eq {β : Type} (vs : List C) : ∀ (cs : List C) (K : List C → β), overK cs vs K = K (layL cs 0 vs) := by
  induction vs with
  | nil => intro cs K; cases cs <;> rfl
  | cons v vs ih =>
    intro cs K
    cases cs with
    | nil => show K [] = _; rw [layL_nil]
    | cons x xs =>
      show overK xs vs (fun ys => K (v :: ys)) = _
      simp only [ih, layL, List.set_cons_zero, layL_succ]
theorem layLK_eq {β : Type} (vs : List C) : ∀ (cs : List C) (off : Nat) (K : List C → β), layLK cs off vs K = K (layL cs off vs) := by
  intro cs off
  induction off generalizing cs with
  | zero => intro K; exact overK_eq vs cs K
  | succ off ih =>
    intro K
    cases cs with
    | nil => show K [] = _; rw [layL_nil]
    | cons x xs =>
      show layLK xs off vs (fun ys => K (x :: ys)) = _
      rw [ih, layL_succ]
noncomputable def C.one : C → Bool
  | .x (.agg _) => false
  | .x (.tuple _) => false
  | _ => true

noncomputable def cellsOfK {β : Type} : List Value → (List C → β) → β
  | [], K => K []
  | v :: vs, K => cellsOfK vs fun cs => match v with
    | .bool b => K (.b true b :: cs)
    | .int k n => K (.i true k n :: cs)
    | .string s => K (.str true s :: cs)
    | v => K (.x v :: cs)
theorem cellsOfK_eq {β : Type} (l : List Value) : ∀ (K : List C → β), cellsOfK l K = K (l.map ofCell) := by
  induction l with
  | nil => intros; rfl
  | cons v vs ih => intro K; simp only [cellsOfK, ih]; cases v <;> rfl

noncomputable def fillS (place : Nat → Option (Nat × Nat)) : List C → List (Nat × SV) → Option (List C)
  | cs, [] => some cs
  | cs, (i, v) :: r => match place i, v.cells with
    | some (off, size), some vs => cond (Nat.beq vs.length size && vs.all C.one && Nat.ble (off + vs.length) cs.length) (layLK cs off vs fun cs' => fillS place cs' r) none
    | _, _ => none

noncomputable def placesL (P : Program) : List Field → Option (List (Nat × Nat))
  | [] => some []
  | f :: fs => match P.info? f.type, placesL P fs with
    | some i, some l => some ((f.offset, i.size) :: l)
    | _, _ => none

noncomputable def buildR (P : Program) (t : TypeId) (parts : List (Nat × SV)) : Option R :=
  match P.info? t with
  | none => none
  | some i => match i.zero with
    | none => none
    | some z => cellsOfK z.cells.toList fun zs => match P.underlying t with
      | some (.struct fields) => (match placesL P fields.toList with
        | some pl => (match fillS (fun i => pl[i]?) zs parts with | some cs => okR (.a cs) | none => none)
        | none => none)
      | some (.array _ elem) => (match P.info? elem with
        | some e => (match fillS (fun i => some (i * e.size, e.size)) zs parts with | some cs => okR (.a cs) | none => none)
        | none => none)
      | _ => none

noncomputable def evp (ev : Operand → Option SV) : List (Nat × Operand) → Option (List (Nat × SV))
  | [] => some []
  | (i, x) :: r => match ev x, evp ev r with
    | some v, some l => some ((i, v) :: l)
    | _, _ => none

noncomputable def capsOf : List SV → Option (List (Nat × Nat))
  | [] => some []
  | .c (.p blk off) :: r => (match capsOf r with | some l => some ((blk, off) :: l) | none => none)
  | _ => none

noncomputable def litN : SV → Option Int
  | .c (.i true _ n) => some n
  | _ => none
noncomputable def bndR (x : Option (Option SV)) (dflt top : Nat) : Option Nat :=
  match x with
  | none => some dflt
  | some none => none
  | some (some v) => match litN v with
    | some n => cond (decide (0 ≤ n) && decide (n ≤ top)) (some n.toNat) none
    | none => none
noncomputable def sliceR (P : Program) (t : TypeId) (x : SV) (lo hi : Option (Option SV)) : Option R :=
  match x, P.underlying t with
  | .c (.p blk off), some (.array n elem) => (match P.info? elem, bndR hi n n with
    | some e, some h => (match bndR lo 0 h with
      | some l => forceN (cond (Nat.beq n l) off (off + l * e.size)) fun o => forceN (h - l) fun a => forceN (n - l) fun b => okR (.c (.slc blk o a b))
      | none => none)
    | _, _ => none)
  | .c (.slc blk off len cap), some (.slice elem) => (match P.info? elem, bndR hi len cap with
    | some e, some h => (match bndR lo 0 h with
      | some l => forceN (cond (Nat.beq cap l) off (off + l * e.size)) fun o => forceN (h - l) fun a => forceN (cap - l) fun b => okR (.c (.slc blk o a b))
      | none => none)
    | _, _ => none)
  | _, _ => none

noncomputable def pureOpA (P : Program) (ev : Operand → Option SV) (op : Op) : Option R :=
  match op with
  | .move x => optR (ev x)
  | .assign x => optR (ev x)
  | .pick c a b => (match ev c with | some (.c (.b true v)) => optR (cond v (ev a) (ev b)) | _ => none)
  | .binOp op t x y _ => (match ev x, ev y with | some u, some v => binR P op t u v | _, _ => none)
  | .unOp op _ x => (match ev x with | some u => unR op u | _ => none)
  | .convert src dst x => (match ev x with | some u => convR P src dst u | _ => none)
  | .fieldAddr s x f => (match ev x with | some u => fieldAddrR P s u f | _ => none)
  | .field s x f => (match ev x with | some u => fieldR P s u f | _ => none)
  | .indexAddr t x i => (match ev x, ev i with | some u, some v => indexAddrR P t u v | _, _ => none)
  | .index t x i => (match ev x, ev i with | some u, some v => indexR P t u v | _, _ => none)
  | .extract x ix => (match ev x with | some u => extractR u ix | _ => none)
  | .nilCheck x => (match ev x with | some u => nilCheckR u | _ => none)
  | .slice t x lo hi none => (match ev x with | some u => sliceR P t u (lo.map ev) (hi.map ev) | _ => none)
  | .build t parts => (match evp ev parts.toList with | some l => buildR P t l | none => none)
  | .makeFunc (.func f) first captured => cond (first.isEmpty) (match evs ev captured.toList with
      | some vs => (match capsOf vs with | some l => cond (Nat.blt f CLOB) (okR (.c (.clo f l))) none | none => none)
      | none => none) (cond captured.isEmpty (match evs ev first.toList with
      | some vs => (match capsOf vs with | some l => forceN (f + CLOB) fun g => okR (.c (.clo g l)) | none => none)
      | none => none) none)
  | .call { callee := .builtin b, args, argTypes } => (match evs ev args.toList with | some vs => builtinR P b argTypes vs | none => none)
  | _ => none

section
variable {P : Program} {ρ : Rh} {n : Nat}

theorem S1.sv_den (x : S1) : x.sv.den ρ = x.den ρ := by cases x <;> rfl
theorem S1.sv_ok (x : S1) : x.sv.ok n = x.ok n := by cases x <;> rfl

abbrev Good (P : Program) (ρ : Rh) (n : Nat) (q : Sem Value) (r : R) : Prop :=
  (∀ w, q.run P w = .ok (r.v.den ρ) w) ∧ r.v.ok n = true

theorem good_pure {q : Sem Value} {v : SV} (hq : q = pure (v.den ρ)) (hv : v.ok n = true) : Good P ρ n q ⟨[], v⟩ := by
  subst hq; exact ⟨fun w => rfl, hv⟩

theorem eqI_pn {t e : TypeId} (hu : P.underlying t = some (.pointer e)) (d : Nat) (a : Addr) (w : World) : (Op.equalIn (d + 1) t (.pointer (some a)) (.pointer none)).run P w = .ok false w := by
  simp only [Op.equalIn, Sem.run_bind, run_underlying hu, Result.andThen_ok]; rfl
theorem eqI_np {t e : TypeId} (hu : P.underlying t = some (.pointer e)) (d : Nat) (a : Addr) (w : World) : (Op.equalIn (d + 1) t (.pointer none) (.pointer (some a))).run P w = .ok false w := by
  simp only [Op.equalIn, Sem.run_bind, run_underlying hu, Result.andThen_ok]; rfl
theorem eqI_nn {t e : TypeId} (hu : P.underlying t = some (.pointer e)) (d : Nat) (w : World) : (Op.equalIn (d + 1) t (.pointer none) (.pointer none)).run P w = .ok true w := by
  simp only [Op.equalIn, Sem.run_bind, run_underlying hu, Result.andThen_ok]; rfl
theorem eqI_ss {t e : TypeId} (hu : P.underlying t = some (.slice e)) (d : Nat) (a b a' b' : Nat) (w : World) : (Op.equalIn (d + 1) t (.slice none a b) (.slice none a' b')).run P w = .ok true w := by
  simp only [Op.equalIn, Sem.run_bind, run_underlying hu, Result.andThen_ok]; rfl
theorem eqI_sn {t e : TypeId} (hu : P.underlying t = some (.slice e)) (d : Nat) (p : Addr) (a b a' b' : Nat) (w : World) : (Op.equalIn (d + 1) t (.slice (some p) a b) (.slice none a' b')).run P w = .ok false w := by
  simp only [Op.equalIn, Sem.run_bind, run_underlying hu, Result.andThen_ok]; rfl
theorem isNilP_eq {v : Value} (hb : isNilP v = true) : v = .pointer none := by
  cases v <;> first | (rename_i a; cases a <;> first | rfl | (simp [isNilP] at hb)) | (simp [isNilP] at hb)
theorem isNilS_eq {v : Value} (hb : isNilS v = true) : ∃ a b, v = .slice none a b := by
  cases v <;> first | (rename_i a _ _; cases a <;> first | exact ⟨_, _, rfl⟩ | (simp [isNilS] at hb)) | (simp [isNilS] at hb)

theorem eqCells_sound {neg : Bool} {t : TypeId} {x y : SV} {r : R} (h : eqCells P neg t x y = some r) (hx : x.ok n = true) (hy : y.ok n = true) (ox oy : Operand) :
    Good P ρ n (do eqGuard (if neg then .neq else .eql) t ox oy (x.den ρ) (y.den ρ); binOp (if neg then .neq else .eql) t (x.den ρ) (y.den ρ)) r := by
  have fin : ∀ (q : Bool) (l : Bool), boolR l (xor neg q) = some r →
      (∀ w, (eqGuard (if neg then .neq else .eql) t ox oy (x.den ρ) (y.den ρ)).run P w = .ok () w) →
      (∀ w, (Op.equal t (x.den ρ) (y.den ρ)).run P w = .ok q w) →
      (binOp .eql t (x.den ρ) (y.den ρ) = (do pure (.bool (← Op.equal t (x.den ρ) (y.den ρ))) : Sem Value)) →
      (binOp .neq t (x.den ρ) (y.den ρ) = (do pure (.bool (!(← Op.equal t (x.den ρ) (y.den ρ)))) : Sem Value)) →
      Good P ρ n (do eqGuard (if neg then .neq else .eql) t ox oy (x.den ρ) (y.den ρ); binOp (if neg then .neq else .eql) t (x.den ρ) (y.den ρ)) r := by
    intro q l hr hg he h1 h2
    rw [boolR_eq] at hr
    simp at hr; subst hr
    refine ⟨fun w => ?_, rfl⟩
    simp only [Sem.run_bind, hg, Result.andThen_ok]
    cases neg
    · simp only [Bool.false_eq_true, if_false, h1, Sem.run_bind, he, Result.andThen_ok, Sem.run_pure, Bool.false_xor]
      rfl
    · simp only [if_true, h2, Sem.run_bind, he, Result.andThen_ok, Sem.run_pure, Bool.true_xor]
      rfl
  have nb : neg = xor neg false := by cases neg <;> rfl
  have nb' : (!neg) = xor neg true := by cases neg <;> rfl
  unfold eqCells at h
  split at h
  · split at h
    · rename_i hu
      exact fin _ _ h (fun w => by simp only [SV.den, C.den, eqGuard_at_bool]; rfl) (fun w => run_equal_bool w t _ _ hu) rfl rfl
    · cases h
  · rename_i a b
    rw [boolR_eq] at h
    simp at h; subst h
    refine ⟨fun w => ?_, rfl⟩
    simp only [SV.den, C.den, eqGuard_at_string]
    cases neg <;> simp [binOp, Op.stringOp, beq_toListBytes, bne]
  · rename_i a b
    rw [boolR_eq] at h
    simp at h; subst h
    refine ⟨fun w => ?_, rfl⟩
    simp only [SV.den, C.den, eqGuard_at_string]
    cases neg <;> simp [binOp, Op.stringOp, beq_toListBytes, bne]
  · rename_i a b
    rw [boolR_eq] at h
    simp at h; subst h
    refine ⟨fun w => ?_, rfl⟩
    simp only [SV.den, C.den, eqGuard_at_string]
    cases neg <;> simp [binOp, Op.stringOp, beq_toListBytes, bne]
  · rename_i a b
    rw [boolR_eq] at h
    simp at h; subst h
    refine ⟨fun w => ?_, rfl⟩
    simp only [SV.den, C.den, eqGuard_at_string]
    cases neg <;> simp [binOp, Op.stringOp, beq_toListBytes, bne]
  · rename_i blk off v
    split at h
    · rename_i el hu
      cases hb : isNilP v <;> simp only [hb, cond_true, cond_false] at h
      · cases h
      obtain rfl := isNilP_eq hb
      rw [nb] at h
      exact fin _ _ h (fun w => by simp only [SV.den, C.den, eqGuard_at_pointer]; rfl)
        (fun w => eqI_pn hu 9999 _ w) rfl rfl
    · cases h
  · rename_i v blk off
    split at h
    · rename_i el hu
      cases hb : isNilP v <;> simp only [hb, cond_true, cond_false] at h
      · cases h
      obtain rfl := isNilP_eq hb
      rw [nb] at h
      exact fin _ _ h (fun w => by simp only [SV.den, C.den, eqGuard_at_pointer]; rfl)
        (fun w => eqI_np hu 9999 _ w) rfl rfl
    · cases h
  · rename_i blk off m sz ix v
    split at h
    · rename_i el hu
      cases hb : isNilP v <;> simp only [hb, cond_true, cond_false] at h
      · cases h
      obtain rfl := isNilP_eq hb
      rw [nb] at h
      exact fin _ _ h (fun w => by simp only [SV.den, C.den, eqGuard_at_pointer]; rfl)
        (fun w => eqI_pn hu 9999 _ w) rfl rfl
    · cases h
  · rename_i v u
    split at h
    · rename_i el hu
      cases hb : isNilP v && isNilP u <;> simp only [hb, cond_true, cond_false] at h
      · cases h
      simp at hb
      obtain rfl := isNilP_eq hb.1
      obtain rfl := isNilP_eq hb.2
      rw [nb'] at h
      exact fin _ _ h (fun w => by simp only [SV.den, C.den, eqGuard_at_pointer]; rfl)
        (fun w => eqI_nn hu 9999 w) rfl rfl
    · rename_i el hu
      cases hb : isNilS v && isNilS u <;> simp only [hb, cond_true, cond_false] at h
      · cases h
      simp at hb
      obtain ⟨a1, b1, rfl⟩ := isNilS_eq hb.1
      obtain ⟨a2, b2, rfl⟩ := isNilS_eq hb.2
      rw [nb'] at h
      exact fin _ _ h (fun w => by simp only [SV.den, C.den, eqGuard_at_slice]; rfl)
        (fun w => eqI_ss hu 9999 _ _ _ _ w) rfl rfl
    · cases h
  · rename_i b o l c v
    split at h
    · rename_i el hu
      cases hb : isNilS v <;> simp only [hb, cond_true, cond_false] at h
      · cases h
      obtain ⟨a1, b1, rfl⟩ := isNilS_eq hb
      rw [nb] at h
      exact fin _ _ h (fun w => by simp only [SV.den, C.den, eqGuard_at_slice]; rfl)
        (fun w => eqI_sn hu 9999 _ _ _ _ _ w) rfl rfl
    · cases h
  · rename_i a l c v
    split at h
    · rename_i el hu
      cases hb : isNilS v <;> simp only [hb, cond_true, cond_false] at h
      · cases h
      obtain ⟨a1, b1, rfl⟩ := isNilS_eq hb
      exact fin _ _ h (fun w => by simp only [SV.den, C.den, eqGuard_at_slice]; rfl)
        (fun w => by cases a <;> first | exact eqI_sn hu 9999 _ _ _ _ _ w | exact eqI_ss hu 9999 _ _ _ _ w) rfl rfl
    · cases h
  · rename_i b l c v
    split at h
    · rename_i el hu
      cases hb : isNilS v <;> simp only [hb, cond_true, cond_false] at h
      · cases h
      obtain ⟨a1, b1, rfl⟩ := isNilS_eq hb
      rw [nb] at h
      exact fin _ _ h (fun w => by simp only [SV.den, C.den, eqGuard_at_slice]; rfl)
        (fun w => eqI_sn hu 9999 _ _ _ _ _ w) rfl rfl
    · cases h
  · rename_i b l m v
    split at h
    · rename_i el hu
      cases hb : isNilS v <;> simp only [hb, cond_true, cond_false] at h
      · cases h
      obtain ⟨a1, b1, rfl⟩ := isNilS_eq hb
      by_cases h0 : m = 0
      · have hd : (SV.c (C.rn b l m)).den ρ = .slice none 0 0 := by simp only [SV.den, C.den, h0, if_true]
        rw [hd] at fin ⊢
        rw [decide_eq_true h0] at h
        exact fin _ _ h (fun w => by simp only [SV.den, C.den, eqGuard_at_slice]; rfl) (fun w => eqI_ss hu 9999 _ _ _ _ w) rfl rfl
      · have hd : (SV.c (C.rn b l m)).den ρ = .slice (some ⟨ρ b, 0, none⟩) m (ρ.c b / l) := by simp only [SV.den, C.den, h0, if_false]
        rw [hd] at fin ⊢
        rw [decide_eq_false h0] at h
        exact fin _ _ h (fun w => by simp only [SV.den, C.den, eqGuard_at_slice]; rfl) (fun w => eqI_sn hu 9999 _ _ _ _ _ w) rfl rfl
    · cases h
  · rename_i blk o sz ix v
    split at h
    · rename_i el hu
      cases hb : isNilP v <;> simp only [hb, cond_true, cond_false] at h
      · cases h
      obtain rfl := isNilP_eq hb
      rw [nb] at h
      exact fin _ _ h (fun w => by simp only [SV.den, C.den, eqGuard_at_pointer]; rfl)
        (fun w => eqI_pn hu 9999 _ w) rfl rfl
    · cases h
  · rename_i xs ys
    cases hg : P.eqGuardType P.depth t <;> simp only [hg, cond_true, cond_false] at h
    · split at h
      · rename_i q hq
        exact fin q _ h (fun w => by cases neg <;> simp [SV.den, eqGuard, hg])
          (fun w => eqIn_sound 100 t _ _ q hq hx hy _ (by simp [Op.maxDepth]) w) rfl rfl
      · cases h
    · cases h
  · cases h
end
end Go.Proofs.Ytdomhmajoclpeaa.Ev

namespace Go.Proofs.Ytdomhmajoclpeaa.Ev
open Go
section
variable {P : Program} {ρ : Rh} {n : Nat}

theorem binR_sound {op : BinOp} {t : TypeId} {x y : SV} {r : R} (h : binR P op t x y = some r) (hn : allT r.nd) (hx : x.ok n = true) (hy : y.ok n = true) (ox oy : Operand) :
    Good P ρ n (do eqGuard op t ox oy (x.den ρ) (y.den ρ); binOp op t (x.den ρ) (y.den ρ)) r := by
  unfold binR at h
  split at h
  · exact intBin_sound h hn t ox oy
  · split at h
    · exact eqCells_sound (neg := false) h hx hy ox oy
    · exact eqCells_sound (neg := true) h hx hy ox oy
    · cases h

theorem unR_sound {op : UnOp} {x : SV} {r : R} (h : unR op x = some r) : Good P ρ n (Op.unary op (x.den ρ)) r := by
  unfold unR at h
  split at h
  · rw [intR_eq] at h; simp at h; subst h; exact good_pure (by simp [SV.den, C.den, Op.unary, Op.intArith]) rfl
  · rw [intR_eq] at h; simp at h; subst h; exact good_pure (by simp only [SV.den, C.den, Op.unary, intBits_xor]) rfl
  · rw [boolR_eq] at h; simp at h; subst h; exact good_pure (by simp [SV.den, C.den, Op.unary]) rfl
  · cases h

theorem convR_sound {src dst : TypeId} {x : SV} {r : R} (h : convR P src dst x = some r) : Good P ρ n (convert src dst (x.den ρ)) r := by
  unfold convR at h
  split at h
  · split at h
    · rename_i hs hd
      rw [intR_eq] at h; simp at h; subst h
      refine ⟨fun w => ?_, rfl⟩
      rename_i ds _
      simp only [SV.den, C.den, convert, Sem.run_bind, run_underlying hs, run_underlying hd, Result.andThen_ok]
      cases ds <;> rfl
    · cases h
  · split at h
    · rename_i hs hd
      simp [okR] at h; subst h
      refine ⟨fun w => ?_, rfl⟩
      simp only [SV.den, C.den, convert, Sem.run_bind, run_underlying hs, run_underlying hd, Result.andThen_ok]
      rfl
    · cases h
  · cases h

theorem fieldsR_eq {t : TypeId} {f : Nat} {fd : Field} (h : fieldsR P t f = some fd) : ∃ fs, P.underlying t = some (.struct fs) ∧ fs[f]? = some fd := by
  unfold fieldsR at h
  split at h
  · exact ⟨_, by assumption, h⟩
  · cases h

theorem fieldAddrR_sound {s : TypeId} {x : SV} {f : Nat} {r : R} (h : fieldAddrR P s x f = some r) (hn : allT r.nd) (hx : x.ok n = true) : Good P ρ n (Instr.fieldAt s (x.den ρ) f) r := by
  unfold fieldAddrR at h
  split at h
  · rename_i blk off
    split at h
    · rename_i fd hf
      obtain ⟨fs, hu, hf'⟩ := fieldsR_eq hf
      split at h
      · rename_i i hi
        cases hb : Nat.beq i.size 0 <;> simp only [hb, cond_true, cond_false] at h
        · simp [okR] at h; subst h
          have hz : ¬ i.size = 0 := fun e => by rw [e] at hb; cases hb
          refine ⟨fun w => ?_, hx⟩
          simp only [SV.den, C.den, Instr.fieldAt, Sem.run_bind, run_underlying hu, Result.andThen_ok, hf', Instr.sureAddr, Sem.run_pure, fieldPlace, run_sizeOf hi, hz, if_false, Addr.add_lit]
        · cases h
      · cases h
    · cases h
  · rename_i blk off m sz ix
    split at h
    · rename_i fd hf
      obtain ⟨fs, hu, hf'⟩ := fieldsR_eq hf
      split at h
      · rename_i i hi
        cases hb : Nat.beq i.size 0 <;> simp only [hb, cond_true, cond_false] at h
        · rw [forceN_eq] at h
          simp [okR] at h; subst h
          have hz : ¬ i.size = 0 := fun e => by rw [e] at hb; cases hb
          refine ⟨fun w => ?_, hx⟩
          simp only [SV.den, C.den, Instr.fieldAt, Sem.run_bind, run_underlying hu, Result.andThen_ok, hf', Instr.sureAddr, Sem.run_pure, fieldPlace, run_sizeOf hi, hz, if_false, Addr.add_lit]
          rw [Nat.add_right_comm]
        · cases h
      · cases h
    · cases h
  · rename_i a o sz ix
    split at h
    · rename_i fd hf
      obtain ⟨fs, hu, hf'⟩ := fieldsR_eq hf
      split at h
      · rename_i i hi
        cases hb : Nat.beq i.size 0 <;> simp only [hb, cond_true, cond_false] at h
        · rw [forceN_eq] at h
          simp at h; subst h
          have hz : ¬ i.size = 0 := fun e => by rw [e] at hb; cases hb
          obtain ⟨a', rfl⟩ := Option.isSome_iff_exists.1 (hn _ (List.mem_cons_self))
          refine ⟨fun w => ?_, rfl⟩
          simp only [SV.den, C.den, Option.map_some, Instr.fieldAt, Sem.run_bind, run_underlying hu, Result.andThen_ok, hf', Instr.sureAddr, Sem.run_pure, fieldPlace, run_sizeOf hi, hz, if_false, Addr.add_add, Nat.add_assoc]
        · cases h
      · cases h
    · cases h
  · rename_i blk o sz ix
    split at h
    · rename_i fd hf
      obtain ⟨fs, hu, hf'⟩ := fieldsR_eq hf
      split at h
      · rename_i i hi
        cases hb : Nat.beq i.size 0 <;> simp only [hb, cond_true, cond_false] at h
        · rw [forceN_eq] at h
          simp [okR] at h; subst h
          have hz : ¬ i.size = 0 := fun e => by rw [e] at hb; cases hb
          refine ⟨fun w => ?_, hx⟩
          simp only [SV.den, C.den, Instr.fieldAt, Sem.run_bind, run_underlying hu, Result.andThen_ok, hf', Instr.sureAddr, Sem.run_pure, fieldPlace, run_sizeOf hi, hz, if_false, Addr.add_lit, Nat.add_assoc]
        · cases h
      · cases h
    · cases h
  · cases h

theorem optR_some {v : Option SV} {r : R} (h : optR v = some r) : v = some r.v := by
  unfold optR at h; split at h
  · simp at h; subst h; rfl
  · cases h

theorem fieldR_sound {t : TypeId} {x : SV} {f : Nat} {r : R} (h : fieldR P t x f = some r) (hx : x.ok n = true) : Good P ρ n (Instr.field t (x.den ρ) f) r := by
  unfold fieldR at h
  split at h
  · rename_i cs
    split at h
    · rename_i fd hf
      obtain ⟨fs, hu, hf'⟩ := fieldsR_eq hf
      have hp := partR_sound (n := n) (ρ := ρ) (optR_some h) hx
      refine ⟨fun w => ?_, hp.2⟩
      simp only [SV.den, Instr.field, Sem.run_bind, run_underlying hu, Result.andThen_ok, hf', asAgg, Sem.run_pure, hp.1]
    · cases h
  · cases h

theorem inB_spec {i : Int} {len : Nat} (h : inB i len = true) : 0 ≤ i ∧ i < len := by
  simpa [inB] using h

theorem indexAddrR_sound {t : TypeId} {x ix : SV} {r : R} (h : indexAddrR P t x ix = some r) (hn : allT r.nd) (hx : x.ok n = true) : Good P ρ n (Instr.indexAt t (x.den ρ) (ix.den ρ)) r := by
  unfold indexAddrR at h
  split at h
  · rename_i blk off k i
    split at h
    · rename_i len elem hu
      split at h
      · rename_i e he
        cases hb : inB i len <;> simp only [hb, cond_true, cond_false] at h
        · cases h
        · rw [forceN_eq] at h
          simp [okR] at h; subst h
          have hi := inB_spec hb
          refine ⟨fun w => ?_, hx⟩
          simp only [SV.den, C.den, Instr.indexAt, asIntOf, Sem.run_bind, Sem.run_pure, run_underlying hu, Result.andThen_ok, Instr.sureAddr, if_pos hi, run_sizeOf he, Addr.add_lit]
      · cases h
    · cases h
  · rename_i blk off len cap k i
    split at h
    · rename_i elem hu
      split at h
      · rename_i e he
        cases hb : inB i len <;> simp only [hb, cond_true, cond_false] at h
        · cases h
        · rw [forceN_eq] at h
          simp [okR] at h; subst h
          have hi := inB_spec hb
          refine ⟨fun w => ?_, hx⟩
          simp only [SV.den, C.den, Instr.indexAt, asIntOf, Sem.run_bind, Sem.run_pure, run_underlying hu, Result.andThen_ok, if_pos hi, run_sizeOf he, Addr.add_lit]
      · cases h
    · cases h
  · rename_i blk off m sz jx k i
    split at h
    · rename_i len elem hu
      split at h
      · rename_i e he
        cases hb : inB i len <;> simp only [hb, cond_true, cond_false] at h
        · cases h
        · rw [forceN_eq] at h
          simp [okR] at h; subst h
          have hi := inB_spec hb
          refine ⟨fun w => ?_, hx⟩
          simp only [SV.den, C.den, Instr.indexAt, asIntOf, Sem.run_bind, Sem.run_pure, run_underlying hu, Result.andThen_ok, Instr.sureAddr, if_pos hi, run_sizeOf he, Addr.add_lit]
          rw [Nat.add_right_comm]
      · cases h
    · cases h
  · rename_i blk off m sz jx k i
    split at h
    · rename_i len elem hu
      split at h
      · rename_i e he
        cases hc : (Nat.blt 0 e.size && Nat.beq (sz % e.size) 0 && Nat.ble len (sz / e.size)) <;> simp only [hc, cond_true, cond_false] at h
        · cases h
        · simp only [forceN_eq, Option.some.injEq] at h
          subst h
          simp only [Bool.and_eq_true] at hc
          obtain ⟨⟨c1, c2⟩, c3⟩ := hc
          have c1 : 0 < e.size := Nat.le_of_ble_eq_true c1
          have c2 : sz % e.size = 0 := Nat.eq_of_beq_eq_true c2
          have c3 : len ≤ sz / e.size := Nat.le_of_ble_eq_true c3
          have hb : inB i len = true := hn _ (List.mem_cons_self)
          have hi := inB_spec hb
          simp only [SV.ok, C.ok, Bool.and_eq_true] at hx
          have hj := inB_spec hx.2
          obtain ⟨j', rfl⟩ := Int.eq_ofNat_of_zero_le hj.1
          obtain ⟨i', rfl⟩ := Int.eq_ofNat_of_zero_le hi.1
          have hj' : j' < m := by omega
          have hi' : i' < len := by omega
          have hsz : sz = sz / e.size * e.size := by
            have := Nat.div_add_mod sz e.size
            rw [c2, Nat.add_zero, Nat.mul_comm] at this; exact this.symm
          generalize sz / e.size = q at hsz c3 ⊢
          have e1 : ((j' : Int) * (q : Int) + (i' : Int)).toNat = j' * q + i' := by
            have : ((j' : Int) * (q : Int) + (i' : Int)) = ((j' * q + i' : Nat) : Int) := by simp
            rw [this]; rfl
          refine ⟨fun w => ?_, ?_⟩
          · simp only [SV.den, C.den, Instr.indexAt, asIntOf, Sem.run_bind, Sem.run_pure, run_underlying hu, Result.andThen_ok, Instr.sureAddr, if_pos hi, run_sizeOf he, Addr.add_lit, e1]
            have e2 : j' * sz = j' * q * e.size := by rw [hsz, Nat.mul_assoc]
            simp only [Int.toNat_natCast, Nat.add_mul, e2, Nat.add_assoc]
          · simp only [SV.ok, C.ok, Bool.and_eq_true]
            refine ⟨hx.1, ?_⟩
            have e3 : j' * q + i' < m * q := by
              have : (j' + 1) * q ≤ m * q := Nat.mul_le_mul_right q hj'
              rw [Nat.add_mul] at this; omega
            have e4 : ((j' : Int) * (q : Int) + (i' : Int)) = ((j' * q + i' : Nat) : Int) := by simp
            rw [e4]
            simp only [inB, Bool.and_eq_true, decide_eq_true_eq]
            exact ⟨by omega, by exact_mod_cast e3⟩
      · cases h
    · cases h
  · rename_i blk off k i
    split at h
    · rename_i len elem hu
      split at h
      · rename_i e he
        simp at h; subst h
        have hb : inB i len = true := hn _ (List.mem_cons_self)
        have hi := inB_spec hb
        refine ⟨fun w => ?_, ?_⟩
        · simp only [SV.den, C.den, Instr.indexAt, asIntOf, Sem.run_bind, Sem.run_pure, run_underlying hu, Result.andThen_ok, Instr.sureAddr, if_pos hi, run_sizeOf he, Addr.add_lit]
        · simp only [SV.ok, C.ok] at hx ⊢
          rw [hx, hb]; rfl
      · cases h
    · cases h
  · rename_i blk off len cap k i
    split at h
    · rename_i elem hu
      split at h
      · rename_i e he
        simp at h; subst h
        have hb : inB i len = true := hn _ (List.mem_cons_self)
        have hi := inB_spec hb
        refine ⟨fun w => ?_, ?_⟩
        · simp only [SV.den, C.den, Instr.indexAt, asIntOf, Sem.run_bind, Sem.run_pure, run_underlying hu, Result.andThen_ok, if_pos hi, run_sizeOf he, Addr.add_lit]
        · simp only [SV.ok, C.ok] at hx ⊢
          rw [hx, hb]; rfl
      · cases h
    · cases h
  · rename_i a len cap lit k i
    split at h
    · rename_i elem hu
      split at h
      · rename_i e he
        rw [forceN_eq] at h
        simp at h; subst h
        have hb : inB i len = true := hn _ (List.mem_cons_self)
        have hi := inB_spec hb
        obtain ⟨a', rfl⟩ := Option.isSome_iff_exists.1 (hn a.isSome (by simp))
        refine ⟨fun w => ?_, rfl⟩
        simp only [SV.den, C.den, Option.map_some, Instr.indexAt, asIntOf, Sem.run_bind, Sem.run_pure, run_underlying hu, Result.andThen_ok, if_pos hi, run_sizeOf he, Nat.add_zero]
      · cases h
    · cases h
  · rename_i a o sz jx k i
    split at h
    · rename_i len elem hu
      split at h
      · rename_i e he
        cases hb : inB i len <;> simp only [hb, cond_true, cond_false] at h
        · cases h
        · rw [forceN_eq] at h
          simp at h; subst h
          have hi := inB_spec hb
          obtain ⟨a', rfl⟩ := Option.isSome_iff_exists.1 (hn a.isSome (by simp))
          refine ⟨fun w => ?_, rfl⟩
          simp only [SV.den, C.den, Option.map_some, Instr.indexAt, asIntOf, Sem.run_bind, Sem.run_pure, run_underlying hu, Result.andThen_ok, Instr.sureAddr, if_pos hi, run_sizeOf he, Addr.add_add, Nat.add_assoc]
      · cases h
    · cases h
  · rename_i a o sz jx k i
    split at h
    · rename_i len elem hu
      split at h
      · rename_i e he
        cases hb0 : Nat.beq sz 0 <;> simp only [hb0, cond_true, cond_false] at h
        · cases h
        · obtain rfl := Nat.eq_of_beq_eq_true hb0
          rw [forceN_eq] at h
          simp at h; subst h
          have hb : inB i len = true := hn _ (List.mem_cons_self)
          have hi := inB_spec hb
          obtain ⟨a', rfl⟩ := Option.isSome_iff_exists.1 (hn a.isSome (by simp))
          refine ⟨fun w => ?_, rfl⟩
          simp only [SV.den, C.den, Option.map_some, Instr.indexAt, asIntOf, Sem.run_bind, Sem.run_pure, run_underlying hu, Result.andThen_ok, Instr.sureAddr, if_pos hi, run_sizeOf he, Addr.add_add, Nat.mul_zero, Nat.zero_add, Nat.add_comm o]
      · cases h
    · cases h
  · rename_i blk sz len lit k i
    split at h
    · rename_i elem hu
      split at h
      · rename_i e he
        cases hc : Nat.beq e.size sz <;> simp only [hc, cond_true, cond_false] at h
        · cases h
        obtain rfl := Nat.eq_of_beq_eq_true hc
        simp at h; subst h
        have hb : inB i len = true := hn _ (List.mem_cons_self)
        have hi := inB_spec hb
        refine ⟨fun w => ?_, hx⟩
        simp only [SV.den, C.den, Instr.indexAt, asIntOf, Sem.run_bind, Sem.run_pure, run_underlying hu, Result.andThen_ok, if_pos hi, run_sizeOf he, Addr.add_lit, Nat.zero_add, Nat.add_zero]
      · cases h
    · cases h
  · rename_i blk sz len lit k i
    split at h
    · rename_i elem hu
      split at h
      · rename_i e he
        cases hc : Nat.beq e.size sz <;> simp only [hc, cond_true, cond_false] at h
        · cases h
        obtain rfl := Nat.eq_of_beq_eq_true hc
        simp at h; subst h
        have hb : inB i len = true := hn _ (List.mem_cons_self)
        have hi := inB_spec hb
        have h0 : len ≠ 0 := by simp only [inB, Bool.and_eq_true, decide_eq_true_eq] at hb; omega
        refine ⟨fun w => ?_, by simp only [SV.ok, C.ok, Bool.or_eq_true, Nat.beq_eq] at hx ⊢; exact hx.resolve_right h0⟩
        simp only [SV.den, C.den, if_neg h0, Instr.indexAt, asIntOf, Sem.run_bind, Sem.run_pure, run_underlying hu, Result.andThen_ok, if_pos hi, run_sizeOf he, Addr.add_lit, Nat.zero_add, Nat.add_zero]
      · cases h
    · cases h
  · rename_i blk o sz jx k i
    split at h
    · rename_i len elem hu
      split at h
      · rename_i e he
        cases hb : inB i len <;> simp only [hb, cond_true, cond_false] at h
        · cases h
        · rw [forceN_eq] at h
          simp [okR] at h; subst h
          have hi := inB_spec hb
          refine ⟨fun w => ?_, hx⟩
          simp only [SV.den, C.den, Instr.indexAt, asIntOf, Sem.run_bind, Sem.run_pure, run_underlying hu, Result.andThen_ok, Instr.sureAddr, if_pos hi, run_sizeOf he, Addr.add_lit, Nat.add_assoc]
      · cases h
    · cases h
  · cases h

theorem indexR_sound {t : TypeId} {x ix : SV} {r : R} (h : indexR P t x ix = some r) (hn : allT r.nd) (hx : x.ok n = true) : Good P ρ n (Instr.index t (x.den ρ) (ix.den ρ)) r := by
  unfold indexR at h
  split at h
  · rename_i cs k i
    split at h
    · rename_i len elem hu
      split at h
      · rename_i e he
        cases hb : inB i len <;> simp only [hb, cond_true, cond_false] at h
        · cases h
        · have hi := inB_spec hb
          have hp := partR_sound (n := n) (ρ := ρ) (optR_some h) hx
          refine ⟨fun w => ?_, hp.2⟩
          simp only [SV.den, C.den, Instr.index, asIntOf, Sem.run_bind, Sem.run_pure, run_underlying hu, Result.andThen_ok, if_pos hi, run_sizeOf he, hp.1]
      · cases h
    · cases h
  · rename_i cs k i
    split at h
    · rename_i len elem hu
      split at h
      · rename_i e d he hd
        cases ha : aggB d <;> simp only [ha, cond_true, cond_false] at h
        · obtain ⟨l, h1, h2, h3⟩ := gatherK_spec _ _ _ _ h
          -- the need holds: it is the head of the result's
          have hb : inB i len = true := by
            unfold selK at h1
            split at h1
            · obtain ⟨_, h4, _⟩ := intsK_spec _ _ _ h1
              simp at h4; subst h4; exact hn _ (List.mem_cons_self)
            · obtain ⟨_, h4, _⟩ := boolsK_spec _ _ _ h1
              simp at h4; subst h4; exact hn _ (List.mem_cons_self)
            · cases h1
          obtain ⟨c, hc, hden, hok⟩ := selK_spec h1 (by rw [h2]; exact hb)
          simp at hc; subst hc
          have hi := inB_spec hb
          refine ⟨fun w => ?_, hok n⟩
          obtain ⟨h5, h6⟩ := h3 i.toNat (by omega)
          have hden' := hden ρ
          rw [h5, Nat.zero_add] at hden'
          simp only [SV.den, C.den, Instr.index, asIntOf, Sem.run_bind, Sem.run_pure, run_underlying hu, Result.andThen_ok, if_pos hi, run_sizeOf he, part, run_isAgg hd, ha, Bool.false_eq_true, if_false]
          have hc' : (denL ρ cs)[i.toNat * e.size]? = some (c.den ρ) := by simpa [denL] using hden'
          simp [hc']
          rfl
        · cases h
      · cases h
    · cases h
  · cases h

theorem extractR_sound {x : SV} {ix : Nat} {r : R} (h : extractR x ix = some r) (hx : x.ok n = true) : Good P ρ n (Instr.extract (x.den ρ) ix) r := by
  unfold extractR at h
  split at h
  · rename_i l
    split at h
    · rename_i v hv
      simp [okR] at h; subst h
      refine ⟨fun w => ?_, ?_⟩
      · rw [S1.sv_den]; simp [SV.den, Instr.extract, hv]
      · rw [S1.sv_ok]; exact List.all_eq_true.1 hx v (List.mem_of_getElem? hv)
    · cases h
  · cases h

theorem builtinR_sound {b : Builtin} {ts : Array TypeId} {type : TypeId} {cs : Array Bool} {args : List SV} {r : R} (h : builtinR P b ts args = some r) :
    (∀ w, (builtin b ts type cs (args.map (SV.den ρ)).toArray).run P w = .ok (.value (r.v.den ρ)) w) ∧ r.v.ok n = true := by
  unfold builtinR at h
  split at h
  · rw [intR_eq] at h; simp at h; subst h
    refine ⟨fun w => ?_, rfl⟩
    simp only [SV.den, C.den, builtin, List.map_cons, List.map_nil, Sem.run_bind, run_min_int2, Result.andThen_ok, Sem.run_pure]
  · rw [intR_eq] at h; simp at h; subst h
    refine ⟨fun w => ?_, rfl⟩
    simp only [SV.den, C.den, builtin, List.map_cons, List.map_nil, Sem.run_bind, run_max_int2, Result.andThen_ok, Sem.run_pure]
  · split at h
    · cases h
    · rename_i t ht
      have fin : ∀ (l : Bool) (x : SV) (m : Int), intR l .i64 m = some r → (∀ w, (Builtin.len_ ts type #[x.den ρ]).run P w = .ok (goInt m) w) →
          (∀ w, (builtin .len ts type cs (([x] : List SV).map (SV.den ρ)).toArray).run P w = .ok (.value (r.v.den ρ)) w) ∧ r.v.ok n = true := by
        intro l x m hr hm
        rw [intR_eq] at hr; simp at hr; subst hr
        refine ⟨fun w => ?_, rfl⟩
        simp only [builtin, List.map_cons, List.map_nil, Sem.run_bind, hm, Result.andThen_ok, Sem.run_pure]
        rfl
      split at h
      · rename_i hu; exact fin _ _ _ h fun w => by simp [Builtin.len_, ht, SV.den, C.den, run_underlying hu]
      · rename_i hu; exact fin _ _ _ h fun w => by simp [Builtin.len_, ht, SV.den, C.den, run_underlying hu]
      · rename_i hu; exact fin _ _ _ h fun w => by simp [Builtin.len_, ht, SV.den, C.den, run_underlying hu]
      · rename_i hu; exact fin _ _ _ h fun w => by simp [Builtin.len_, ht, SV.den, C.den, run_underlying hu]
      · rename_i m hu; exact fin _ _ _ h fun w => by by_cases h0 : m = 0 <;> simp [Builtin.len_, ht, SV.den, C.den, h0, run_underlying hu]
      · rename_i hu; exact fin _ _ _ h fun w => by simp [Builtin.len_, ht, SV.den, C.den, run_underlying hu]
      · rename_i hu; exact fin _ _ _ h fun w => by simp [Builtin.len_, ht, run_underlying hu]
      · cases h
  · cases h

theorem litN_eq {v : SV} {m : Int} (h : litN v = some m) : ∃ k, v = .c (.i true k m) := by
  unfold litN at h
  split at h
  · simp at h; subst h; exact ⟨_, rfl⟩
  · cases h
theorem bndR_sound {x : Option (Option SV)} {d top m : Nat} (h : bndR x d top = some m) :
    (x = none ∧ m = d) ∨ ∃ v k j, x = some (some v) ∧ v = .c (.i true k j) ∧ 0 ≤ j ∧ j ≤ top ∧ m = j.toNat := by
  unfold bndR at h
  split at h
  · simp at h; exact .inl ⟨rfl, h.symm⟩
  · cases h
  · rename_i v
    split at h
    · rename_i j hj
      obtain ⟨k, rfl⟩ := litN_eq hj
      cases hb : (decide (0 ≤ j) && decide (j ≤ top)) <;> simp only [hb, cond_true, cond_false] at h
      · cases h
      · simp at h hb
        exact .inr ⟨_, k, j, rfl, rfl, hb.1, hb.2, h.symm⟩
    · cases h
theorem sliceBounds_sound {ev : Operand → Option SV} {val : Operand → Value} (hv : ∀ x y, ev x = some y → val x = y.den ρ ∧ y.ok n = true) {isS : Bool} {len cap l h : Nat} {lo hi : Option Operand}
    (h1 : bndR (hi.map ev) len cap = some h) (h2 : bndR (lo.map ev) 0 h = some l) (w : World) :
    (Instr.sliceBounds isS len cap (lo.map val) (hi.map val) none).run P w = .ok (l, h, cap) w := by
  have key : ∀ (x : Option Operand) (v : SV) (k : IntKind) (j : Int), x.map ev = some (some v) → v = .c (.i true k j) → ∃ o, x = some o ∧ val o = .int k j := by
    intro x v k j hx hvj
    cases x with
    | none => simp at hx
    | some o =>
      simp at hx
      refine ⟨o, rfl, ?_⟩
      rw [(hv _ _ hx).1, hvj]; rfl
  have bd : ∀ (o : Operand) (k : IntKind) (j : Int) (y : Nat) (c : BoundsCode), val o = .int k j → 0 ≤ j → j ≤ y → (Instr.sliceBound (val o) y c).run P w = .ok j.toNat w := by
    intro o k j y c ho hj0 hj1
    have hj2 : 0 ≤ j ∧ j ≤ y := ⟨hj0, hj1⟩
    simp only [ho, Instr.sliceBound, asIntOf, Sem.run_bind, Sem.run_pure, Result.andThen_ok, if_pos hj2]
  rcases bndR_sound h1 with ⟨e1, rfl⟩ | ⟨v, k, j, e1, e2, hj0, hj1, rfl⟩
  · have e1' : hi = none := by simpa using e1
    subst e1'
    rcases bndR_sound h2 with ⟨e3, rfl⟩ | ⟨v', k', j', e3, e4, hk0, hk1, rfl⟩
    · have e3' : lo = none := by simpa using e3
      subst e3'
      simp [Instr.sliceBounds]
    · obtain ⟨o, rfl, ho⟩ := key _ _ _ _ e3 e4
      simp [Instr.sliceBounds, bd o k' j' _ _ ho hk0 hk1]
  · obtain ⟨o, rfl, ho⟩ := key _ _ _ _ e1 e2
    rcases bndR_sound h2 with ⟨e3, rfl⟩ | ⟨v', k', j', e3, e4, hk0, hk1, rfl⟩
    · have e3' : lo = none := by simpa using e3
      subst e3'
      simp [Instr.sliceBounds, bd o k j _ _ ho hj0 hj1]
    · obtain ⟨o', rfl, ho'⟩ := key _ _ _ _ e3 e4
      simp [Instr.sliceBounds, bd o k j _ _ ho hj0 hj1, bd o' k' j' _ _ ho' hk0 hk1]

theorem beq_cond (a b : Nat) {α : Type} (x y : α) : cond (Nat.beq a b) x y = if a = b then x else y := by
  by_cases h : a = b
  · subst h; simp
  · have : Nat.beq a b = false := by
      cases hc : Nat.beq a b
      · rfl
      · exact absurd (Nat.eq_of_beq_eq_true hc) h
    rw [this]; simp [h]
theorem sliceR_sound {ev : Operand → Option SV} {val : Operand → Value} (hv : ∀ x y, ev x = some y → val x = y.den ρ ∧ y.ok n = true) {t : TypeId} {x : SV} {lo hi : Option Operand} {r : R}
    (h : sliceR P t x (lo.map ev) (hi.map ev) = some r) (hx : x.ok n = true) : Good P ρ n (Instr.sliceAt t (x.den ρ) (lo.map val) (hi.map val) none) r := by
  unfold sliceR at h
  split at h
  · rename_i blk off m elem hu
    split at h
    · rename_i e h0 he hh
      split at h
      · rename_i l hl
        simp only [forceN_eq, okR, Option.some.injEq] at h
        subst h
        refine ⟨fun w => ?_, hx⟩
        simp only [SV.den, C.den, Instr.sliceAt, Sem.run_bind, run_underlying hu, Result.andThen_ok, Instr.sureAddr, Sem.run_pure, sliceBounds_sound hv hh hl, run_sizeOf he, beq_cond]
        by_cases hc : m = l
        · simp [hc]
        · simp [hc, Addr.add_lit]
      · cases h
    · cases h
  · rename_i blk off len cap elem hu
    split at h
    · rename_i e h0 he hh
      split at h
      · rename_i l hl
        simp only [forceN_eq, okR, Option.some.injEq] at h
        subst h
        refine ⟨fun w => ?_, hx⟩
        simp only [SV.den, C.den, Instr.sliceAt, Instr.slice, Sem.run_bind, run_underlying hu, Result.andThen_ok, Sem.run_pure, sliceBounds_sound hv hh hl, run_sizeOf he, beq_cond]
        by_cases hc : cap = l
        · simp [hc]
        · simp [hc, Addr.add_lit]
      · cases h
    · cases h
  · cases h

theorem evs_sound {ev : Operand → Option SV} {val : Operand → Value} (hv : ∀ x y, ev x = some y → val x = y.den ρ ∧ y.ok n = true) :
    ∀ (l : List Operand) (vs : List SV), evs ev l = some vs → l.map val = vs.map (SV.den ρ) ∧ ∀ v ∈ vs, v.ok n = true
  | [], vs, h => by simp [evs] at h; subst h; simp
  | x :: l, vs, h => by
    simp only [evs] at h
    split at h
    · cases h
    · rename_i v hv'
      split at h
      · cases h
      · rename_i vs' hvs
        simp at h; subst h
        have := evs_sound hv l vs' hvs
        have h1 := hv x v hv'
        refine ⟨by simp [h1.1, this.1], ?_⟩
        intro u hu
        rcases List.mem_cons.1 hu with rfl | hu
        · exact h1.2
        · exact this.2 u hu

theorem evp_sound {ev : Operand → Option SV} {val : Operand → Value} (hv : ∀ x y, ev x = some y → val x = y.den ρ ∧ y.ok n = true) :
    ∀ (l : List (Nat × Operand)) (r : List (Nat × SV)), evp ev l = some r → l.map (fun p => (p.1, val p.2)) = r.map (fun p => (p.1, p.2.den ρ)) ∧ ∀ p ∈ r, p.2.ok n = true
  | [], r, h => by simp [evp] at h; subst h; simp
  | (i, x) :: l, r, h => by
    simp only [evp] at h
    split at h
    · rename_i v l' hx hl
      simp at h; subst h
      obtain ⟨h1, h2⟩ := evp_sound hv l l' hl
      have h3 := hv _ _ hx
      refine ⟨by simp [h1, h3.1], fun p hp => ?_⟩
      rcases List.mem_cons.1 hp with rfl | hp
      · exact h3.2
      · exact h2 p hp
    · cases h

theorem one_cells {v : SV} {vs : List C} (h : v.cells = some vs) (hs : vs.all C.one = true) : (v.den ρ).cells = denL ρ vs := by
  cases v with
  | c x =>
    simp [SV.cells] at h; subst h
    cases x with
    | x u => cases u <;> simp_all [C.one, SV.den, C.den, Value.cells, denL]
    | rn b z n => by_cases h0 : n = 0 <;> simp [SV.den, C.den, h0, Value.cells, denL]
    | clo f l => cases hb : Nat.blt f CLOB <;> simp [SV.den, C.den, cloV, hb, Value.cells, denL]
    | _ => rfl
  | a l => simp [SV.cells] at h; subst h; rfl
  | t l => simp [SV.cells] at h
  | any => simp [SV.cells] at h

theorem cells_okL {v : SV} {vs : List C} (h : v.cells = some vs) (hv : v.ok n = true) : okL n vs = true := by
  cases v with
  | c x => simp [SV.cells] at h; subst h; simpa [okL, SV.ok] using hv
  | a l => simp [SV.cells] at h; subst h; exact hv
  | t l => simp [SV.cells] at h
  | any => simp [SV.cells] at h

theorem lay_sound : ∀ (vs : List C) (cs : List C) (off j : Nat), okL n cs = true → okL n vs = true →
    ((vs.map (C.den ρ)).zipIdx j).foldl (fun (cs : Array Value) (p : Value × Nat) => cs.setIfInBounds (off + p.2) p.1) (denL ρ cs) = denL ρ (layL cs (off + j) vs) ∧ okL n (layL cs (off + j) vs) = true
  | [], cs, off, j, h, _ => ⟨rfl, h⟩
  | v :: vs, cs, off, j, h, hv => by
    have hv' : v.ok n = true ∧ okL n vs = true := by simpa [okL] using hv
    have hset : okL n (cs.set (off + j) v) = true := List.all_eq_true.2 fun x hx => by
      rcases List.mem_or_eq_of_mem_set hx with hx | rfl
      · exact List.all_eq_true.1 h x hx
      · exact hv'.1
    have ih := lay_sound vs (cs.set (off + j) v) off (j + 1) hset hv'.2
    simp only [List.map_cons, List.zipIdx_cons, List.foldl_cons, layL]
    have e : (denL ρ cs).setIfInBounds (off + j) (v.den ρ) = denL ρ (cs.set (off + j) v) := by
      simp only [denL, List.map_set, List.setIfInBounds_toArray]
    rw [e]
    exact ih

theorem fillS_sound {place : Nat → Option (Nat × Nat)} : ∀ (parts : List (Nat × SV)) (cs r : List C), fillS place cs parts = some r → okL n cs = true → (∀ p ∈ parts, p.2.ok n = true) →
    Instr.fill place (denL ρ cs) (parts.map fun p => (p.1, p.2.den ρ)) = some (denL ρ r) ∧ okL n r = true
  | [], cs, r, h, hcs, _ => by simp [fillS] at h; subst h; exact ⟨rfl, hcs⟩
  | (i, v) :: parts, cs, r, h, hcs, hp => by
    simp only [fillS] at h
    split at h
    · rename_i off size vs hpl hvs
      cases hc : Nat.beq vs.length size && vs.all C.one && Nat.ble (off + vs.length) cs.length <;> simp only [hc, cond_true, cond_false] at h
      · cases h
      · rw [layLK_eq] at h
        simp only [Bool.and_eq_true] at hc
        obtain ⟨⟨h1, h2⟩, h3⟩ := hc
        have h1 := Nat.eq_of_beq_eq_true h1
        have h3 := Nat.le_of_ble_eq_true h3
        have hcells := one_cells (ρ := ρ) hvs h2
        obtain ⟨hl, hok⟩ := lay_sound (ρ := ρ) vs cs off 0 hcs (cells_okL hvs (hp _ List.mem_cons_self))
        have ih := fillS_sound parts (layL cs off vs) r h hok (fun p hp' => hp p (List.mem_cons_of_mem _ hp'))
        refine ⟨?_, ih.2⟩
        simp only [List.map_cons, Instr.fill, hpl, hcells]
        have hs1 : (denL ρ vs).size = vs.length := by simp [denL]
        have hs2 : (denL ρ cs).size = cs.length := by simp [denL]
        rw [if_neg (by rw [hs1, hs2]; simp; omega)]
        have hf : ((denL ρ vs).zipIdx.foldl (fun cs (x : Value × Nat) => match x with | (c, j) => cs.setIfInBounds (off + j) c) (denL ρ cs)) = denL ρ (layL cs off vs) := by
          simp only [Nat.add_zero] at hl
          rw [← hl, ← Array.foldl_toList]
          simp only [Array.toList_zipIdx, denL]
        rw [hf]
        exact ih.1
    · cases h

theorem placesL_sound : ∀ (fs : List Field) (l : List (Nat × Nat)), placesL P fs = some l → ∀ w, (fs.mapM fun f => do pure (f.offset, ← sizeOf f.type) : Sem (List (Nat × Nat))).run P w = .ok l w
  | [], l, h, w => by simp [placesL] at h; subst h; simp
  | f :: fs, l, h, w => by
    simp only [placesL] at h
    split at h
    · rename_i i l' hi hl
      simp at h; subst h
      rw [List.mapM_cons]
      simp only [Sem.run_bind, run_sizeOf hi, Result.andThen_ok, Sem.run_pure, placesL_sound fs l' hl w]
    · cases h

theorem buildR_sound {t : TypeId} {parts : List (Nat × SV)} {r : R} (h : buildR P t parts = some r) (hp : ∀ p ∈ parts, p.2.ok n = true) :
    Good P ρ n (Instr.build t (parts.map fun p => (p.1, p.2.den ρ)).toArray) r := by
  unfold buildR at h
  split at h
  · cases h
  rename_i i hi
  split at h
  · cases h
  rename_i z hz
  rw [cellsOfK_eq] at h
  have hzero : ∀ w, (zeroValue t).run P w = .ok z w := fun w => by simp [zeroValue, typeInfo, hi, hz]
  have hzc : z.cells = denL ρ (z.cells.toList.map ofCell) := by rw [denL_ofCell]
  split at h
  · rename_i fields hu
    split at h
    · rename_i pl hpl
      split at h
      · rename_i cs hcs
        simp [okR] at h; subst h
        obtain ⟨h1, h2⟩ := fillS_sound (n := n) (ρ := ρ) parts _ cs hcs (okL_ofCell n _) hp
        refine ⟨fun w => ?_, h2⟩
        have hmap : (fields.mapM fun f => do pure (f.offset, ← sizeOf f.type) : Sem (Array (Nat × Nat))).run P w = .ok pl.toArray w := by
          have : (fields.mapM fun f => do pure (f.offset, ← sizeOf f.type) : Sem (Array (Nat × Nat))) = List.toArray <$> (fields.toList.mapM (fun f => (do pure (f.offset, ← sizeOf f.type) : Sem (Nat × Nat)))) := by
            conv => lhs; rw [← Array.toArray_toList (xs := fields)]
            exact List.mapM_toArray
          rw [this]
          simp only [Sem.run_map, placesL_sound fields.toList pl hpl w, Result.andThen_ok]
        have hf : (fun (i : Nat) => pl.toArray[i]?) = fun (i : Nat) => pl[i]? := funext fun i => by simp
        have h1' : Instr.fill (fun i => pl.toArray[i]?) z.cells (parts.map fun p => (p.1, p.2.den ρ)) = some (denL ρ cs) := by rw [hzc, hf]; exact h1
        simp only [Instr.build, Sem.run_bind, hzero, Result.andThen_ok, run_underlying hu, hmap, h1', Sem.run_pure]
        rfl
      · cases h
    · cases h
  · rename_i elem hu
    split at h
    · rename_i e he
      split at h
      · rename_i cs hcs
        simp [okR] at h; subst h
        obtain ⟨h1, h2⟩ := fillS_sound (n := n) (ρ := ρ) parts _ cs hcs (okL_ofCell n _) hp
        refine ⟨fun w => ?_, h2⟩
        have h1' : Instr.fill (fun i => some (i * e.size, e.size)) z.cells (parts.map fun p => (p.1, p.2.den ρ)) = some (denL ρ cs) := by rw [hzc]; exact h1
        simp only [Instr.build, Sem.run_bind, hzero, Result.andThen_ok, run_underlying hu, run_sizeOf he, h1', Sem.run_pure]
        rfl
      · cases h
    · cases h
  · cases h

theorem capsOf_sound : ∀ (vs : List SV) (l : List (Nat × Nat)), capsOf vs = some l → vs.map (SV.den ρ) = l.map (fun p => Value.pointer (some ⟨ρ p.1, p.2, none⟩)) ∧
    ((∀ v ∈ vs, v.ok n = true) → (l.all fun p => Nat.blt p.1 n) = true)
  | [], l, h => by simp [capsOf] at h; subst h; simp
  | .c (.p blk off) :: r, l, h => by
    simp only [capsOf] at h
    split at h
    · rename_i l' hl
      simp at h; subst h
      obtain ⟨h1, h2⟩ := capsOf_sound r l' hl
      refine ⟨by simp [h1, SV.den, C.den], fun hv => ?_⟩
      simp only [List.all_cons, Bool.and_eq_true]
      exact ⟨hv _ List.mem_cons_self, h2 fun v hv' => hv v (List.mem_cons_of_mem _ hv')⟩
    · cases h
  | .c (.b _ _) :: _, _, h | .c (.i _ _ _) :: _, _, h | .c (.str _ _) :: _, _, h | .c (.slc _ _ _ _) :: _, _, h | .c (.fn _) :: _, _, h | .c (.clo _ _) :: _, _, h | .c (.x _) :: _, _, h | .c (.strn _ _) :: _, _, h | .c (.mp _) :: _, _, h
  | .a _ :: _, _, h | .t _ :: _, _, h | .any :: _, _, h => by simp [capsOf] at h

theorem pureOpA_sound {ev : Operand → Option SV} {val : Operand → Value} (hv : ∀ x y, ev x = some y → val x = y.den ρ ∧ y.ok n = true)
    {o : Oper} {r : R} (h : pureOpA P ev o.op = some r) (hn : allT r.nd) :
    (∀ w, (execOp val o).run P w = .ok (.value (r.v.den ρ)) w) ∧ r.v.ok n = true := by
  obtain ⟨dst, op, type, pos, after, guard⟩ := o
  have fin : ∀ (q : Sem Value), Good P ρ n q r → (∀ w, (do pure (.value (← q)) : Sem Next).run P w = .ok (.value (r.v.den ρ)) w) ∧ r.v.ok n = true :=
    fun q hq => ⟨fun w => by simp only [Sem.run_bind, hq.1, Result.andThen_ok, Sem.run_pure], hq.2⟩
  unfold pureOpA at h
  simp only at h
  split at h
  · have := optR_some h; have h1 := hv _ _ this
    exact ⟨fun w => by simp only [execOp, h1.1, Sem.run_pure], h1.2⟩
  · have := optR_some h; have h1 := hv _ _ this
    exact ⟨fun w => by simp only [execOp, h1.1, Sem.run_pure], h1.2⟩
  · split at h
    · rename_i c a b _ v hc
      have := optR_some h
      have h1 := hv _ _ hc
      have h1' : val c = .bool v := h1.1
      cases v
      · have h2 := hv _ _ this
        exact ⟨fun w => by simp only [execOp, h1', asBool, Sem.run_bind, Sem.run_pure, Result.andThen_ok, h2.1, Bool.false_eq_true, if_false], h2.2⟩
      · have h2 := hv _ _ this
        exact ⟨fun w => by simp only [execOp, h1', asBool, Sem.run_bind, Sem.run_pure, Result.andThen_ok, h2.1, if_true], h2.2⟩
    · cases h
  · split at h
    · rename_i hu hw
      have h1 := hv _ _ hu; have h2 := hv _ _ hw
      simp only [execOp, h1.1, h2.1]
      exact fin _ (binR_sound h hn h1.2 h2.2 _ _)
    · cases h
  · split at h
    · rename_i hu
      have h1 := hv _ _ hu
      simp only [execOp, h1.1]
      exact fin _ (unR_sound h)
    · cases h
  · split at h
    · rename_i hu
      have h1 := hv _ _ hu
      simp only [execOp, h1.1]
      exact fin _ (convR_sound h)
    · cases h
  · split at h
    · rename_i hu
      have h1 := hv _ _ hu
      simp only [execOp, h1.1]
      exact fin _ (fieldAddrR_sound h hn h1.2)
    · cases h
  · split at h
    · rename_i hu
      have h1 := hv _ _ hu
      simp only [execOp, h1.1]
      exact fin _ (fieldR_sound h h1.2)
    · cases h
  · split at h
    · rename_i hu hw
      have h1 := hv _ _ hu; have h2 := hv _ _ hw
      simp only [execOp, h1.1, h2.1]
      exact fin _ (indexAddrR_sound h hn h1.2)
    · cases h
  · split at h
    · rename_i hu hw
      have h1 := hv _ _ hu; have h2 := hv _ _ hw
      simp only [execOp, h1.1, h2.1]
      exact fin _ (indexR_sound h hn h1.2)
    · cases h
  · split at h
    · rename_i hu
      have h1 := hv _ _ hu
      simp only [execOp, h1.1]
      exact fin _ (extractR_sound h h1.2)
    · cases h
  · split at h
    · rename_i hu
      have h1 := hv _ _ hu
      unfold nilCheckR at h
      split at h
      · simp [okR] at h; subst h
        exact ⟨fun w => by show Sem.run P (match val _ with | .pointer none | .nilIface | .nilFunc => _ | .func (.method name) first captured => _ | x => _) w = _; rw [h1.1]; rfl, h1.2⟩
      · simp [okR] at h; subst h
        exact ⟨fun w => by show Sem.run P (match val _ with | .pointer none | .nilIface | .nilFunc => _ | .func (.method name) first captured => _ | x => _) w = _; rw [h1.1]; rfl, h1.2⟩
      · simp [okR] at h; subst h
        exact ⟨fun w => by show Sem.run P (match val _ with | .pointer none | .nilIface | .nilFunc => _ | .func (.method name) first captured => _ | x => _) w = _; rw [h1.1]; rfl, h1.2⟩
      · simp [okR] at h; subst h
        exact ⟨fun w => by show Sem.run P (match val _ with | .pointer none | .nilIface | .nilFunc => _ | .func (.method name) first captured => _ | x => _) w = _; rw [h1.1]; rfl, h1.2⟩
      · rename_i g l
        simp [okR] at h; subst h
        refine ⟨fun w => ?_, h1.2⟩
        show Sem.run P (match val _ with | .pointer none | .nilIface | .nilFunc => _ | .func (.method name) first captured => _ | x => _) w = _
        rw [h1.1]
        simp only [SV.den, C.den]
        unfold cloV
        cases Nat.blt g CLOB <;> rfl
      · rename_i a o sz i
        simp at h; subst h
        obtain ⟨a', rfl⟩ := Option.isSome_iff_exists.1 (hn a.isSome (by simp))
        exact ⟨fun w => by show Sem.run P (match val _ with | .pointer none | .nilIface | .nilFunc => _ | .func (.method name) first captured => _ | x => _) w = _; rw [h1.1]; rfl, h1.2⟩
      · cases h
    · cases h
  · rename_i t x lo hi
    split at h
    · rename_i u hu
      have h1 := hv _ _ hu
      simp only [execOp, h1.1]
      exact fin _ (sliceR_sound hv h h1.2)
    · cases h
  · rename_i t parts
    split at h
    · rename_i l hl
      obtain ⟨h1, h2⟩ := evp_sound hv _ _ hl
      have hb := buildR_sound (n := n) (ρ := ρ) h h2
      refine ⟨fun w => ?_, hb.2⟩
      have hparts : (parts.map fun (x : Nat × Operand) => match x with | (i, x) => (i, val x)) = (l.map fun p => (p.1, p.2.den ρ)).toArray := by
        apply Array.ext'
        rw [Array.toList_map]
        exact h1
      simp only [execOp]
      rw [hparts]
      simp only [Sem.run_bind, hb.1, Result.andThen_ok, Sem.run_pure]
    · cases h
  · rename_i f first captured
    cases hfe : first.isEmpty <;> simp only [hfe, cond_true, cond_false] at h
    · cases hce : captured.isEmpty <;> simp only [hce, cond_true, cond_false] at h
      · cases h
      split at h
      · rename_i vs hvs
        split at h
        · rename_i l hl
          rw [forceN_eq] at h
          simp [okR] at h; subst h
          have h1 := evs_sound hv _ _ hvs
          have h2 := capsOf_sound (n := n) (ρ := ρ) vs l hl
          refine ⟨fun w => ?_, h2.2 h1.2⟩
          have hfst : first.map val = (l.map fun p => Value.pointer (some ⟨ρ p.1, p.2, none⟩)).toArray := Array.ext' (by rw [Array.toList_map, h1.1, h2.1])
          have hcap : captured.map val = #[] := by
            have : captured = #[] := by simpa using hce
            rw [this]; simp
          simp only [execOp, Instr.makeFunc, hcap, hfst, Sem.run_bind, Sem.run_pure, Result.andThen_ok, SV.den, C.den]
          have hb : Nat.blt (f + CLOB) CLOB = false := by
            cases hh : Nat.blt (f + CLOB) CLOB
            · rfl
            · have := Nat.le_of_ble_eq_true hh; omega
          rw [cloV_ge hb, show decC (f + CLOB) = f from Nat.add_sub_cancel f CLOB]
        · cases h
      · cases h
    split at h
    · rename_i vs hvs
      split at h
      · rename_i l hl
        cases hb : Nat.blt f CLOB <;> simp only [hb, cond_true, cond_false] at h
        · cases h
        simp [okR] at h; subst h
        have h1 := evs_sound hv _ _ hvs
        have h2 := capsOf_sound (n := n) (ρ := ρ) vs l hl
        refine ⟨fun w => ?_, h2.2 h1.2⟩
        have hcap : captured.map val = (l.map fun p => Value.pointer (some ⟨ρ p.1, p.2, none⟩)).toArray := Array.ext' (by rw [Array.toList_map, h1.1, h2.1])
        have hfst : first.map val = #[] := by
          have : first = #[] := by simpa using hfe
          rw [this]; simp
        simp only [execOp, Instr.makeFunc, hcap, hfst, Sem.run_bind, Sem.run_pure, Result.andThen_ok, SV.den, C.den]
        rw [cloV_lt hb]
      · cases h
    · cases h
  · split at h
    · rename_i b args argTypes _ vs hvs
      have h1 := evs_sound hv _ _ hvs
      have := builtinR_sound (n := n) (ρ := ρ) (type := type) (cs := args.map fun | .const _ => true | _ => false) h
      refine ⟨fun w => ?_, this.2⟩
      have hargs : args.map val = (vs.map (SV.den ρ)).toArray := by
        exact Array.ext' (by rw [Array.toList_map, h1.1])
      simp only [execOp, resolve, Sem.run_bind, Sem.run_pure, Result.andThen_ok, invoke, hargs]
      exact this.1 w
    · cases h
  · cases h
end
noncomputable def strB (s : ByteArray) (i : Int) : Int := match s[i.toNat]? with | some b => b.toNat | none => 0
noncomputable def isK : Operand → Bool | .const _ => true | _ => false
noncomputable def isNilI : Value → Bool | .nilIface => true | _ => false
noncomputable def methodS (P : Program) (t : TypeId) (name : String) : Option FuncId :=
  match P.info? t with
  | none => none
  | some inf => match inf.methods.find? (·.name == name) with
    | none => none
    | some m => cond m.path.isEmpty (match m.func, P.underlying t with
      | some (f, true), some (.pointer _) => some f
      | _, _ => none) none
theorem run_nilAhead {P : Program} {t : TypeId} {name : String} {g : FuncId} (h : methodS P t name = some g) (a : Addr) (w : World) :
    (nilAhead (P.types.size + Made.depth) t (.pointer (some a)) name).run P w = .ok (some false) w := by
  unfold methodS at h
  split at h
  · cases h
  rename_i inf hi
  split at h
  · cases h
  rename_i m hm
  cases hp : m.path.isEmpty <;> simp only [hp, cond_true, cond_false] at h
  · cases h
  split at h
  · rename_i f el hf hu
    have hpl : m.path.toList = [] := by simpa using hp
    have hd : ∃ n, P.types.size + Made.depth = n + 1 := ⟨P.types.size + (Made.depth - 1), by unfold Made.depth; omega⟩
    obtain ⟨n, hd⟩ := hd
    rw [hd]
    simp only [nilAhead, Sem.run_bind, typeInfo, run_program, Result.andThen_ok, hi, Sem.run_pure, hm, hpl, followBlind, hf]
  · cases h
noncomputable def methodV (P : Program) (t : TypeId) (name : String) : Option (FuncId × TypeId) :=
  match P.info? t with
  | none => none
  | some inf => match inf.methods.find? (·.name == name) with
    | none => none
    | some m => cond m.path.isEmpty (match m.func, P.underlying t with
      | some (f, false), some (.pointer el) => some (f, el)
      | _, _ => none) none
theorem run_nilAheadV {P : Program} {t : TypeId} {name : String} {g : FuncId × TypeId} (h : methodV P t name = some g) (a : Addr) (w : World) :
    (nilAhead (P.types.size + Made.depth) t (.pointer (some a)) name).run P w = .ok (some false) w := by
  unfold methodV at h
  split at h
  · cases h
  rename_i inf hi
  split at h
  · cases h
  rename_i m hm
  cases hp : m.path.isEmpty <;> simp only [hp, cond_true, cond_false] at h
  · cases h
  split at h
  · rename_i f el hf hu
    have hpl : m.path.toList = [] := by simpa using hp
    have hd : ∃ n, P.types.size + Made.depth = n + 1 := ⟨P.types.size + (Made.depth - 1), by unfold Made.depth; omega⟩
    obtain ⟨n, hd⟩ := hd
    rw [hd]
    simp only [nilAhead, Sem.run_bind, typeInfo, run_program, Result.andThen_ok, hi, Sem.run_pure, hm, hpl, followBlind, hf, run_underlying hu]
  · cases h
noncomputable def pureOpB (P : Program) (ev : Operand → Option SV) (op : Op) : Option R :=
  match op with
  | .makeInterface xt x => (match ev x, P.underlying xt with
    | some (.c (.p blk off)), some (.pointer _) => okR (.c (.ifc xt blk off))
    | _, _ => none)
  | .nilCheck x => (match ev x with
    | some (.c (.ifc t blk off)) => okR (.c (.ifc t blk off))
    | some (.c (.fm name t blk off)) => (match methodS P t name with | some _ => okR (.c (.fm name t blk off)) | none => (match methodV P t name with | some _ => okR (.c (.fm name t blk off)) | none => none))
    | _ => none)
  | .makeFunc (.method name) first captured => (match first.toList with
    | [x] => (match ev x with | some (.c (.ifc t blk off)) => cond captured.isEmpty (okR (.c (.fm name t blk off))) none | _ => none)
    | _ => none)
  | .index t x i => (match ev x, ev i, P.underlying t with
    | some (.c (.str l s)), some (.c (.i l' _ i)), some .string => cond (l && l') (cond (inB i s.size) (intR true .u8 (strB s i)) none) (some ⟨[inB i s.size], .c (.i false .u8 (strB s i))⟩)
    | _, _, _ => none)
  | .binOp .add t x y _ => (match ev x, ev y with
    | some (.c (.str l a)), some (.c (.str l' b)) => cond (l && l') (cond (Nat.ble (a.size + b.size) (2 ^ 62)) (okR (.c (.str true (a ++ b)))) none) (some ⟨[Nat.ble (a.size + b.size) (2 ^ 62)], .c (.str false (a ++ b))⟩)
    | _, _ => none)
  | .slice t x lo hi none => (match ev x, P.underlying t with
    | some (.c (.str true s)), some .string => (match bndR (hi.map ev) s.size s.size with
      | some h => (match bndR (lo.map ev) 0 h with
        | some l => okR (.c (.str true (s.extract l h)))
        | none => none)
      | none => none)
    | _, _ => none)
  | .indexAddr t x i => (match ev x, ev i, P.underlying t with
    | some (.c (.sla blk off len _)), some (.c (.i l _ i)), some (.slice elem) => (match P.info? elem with
      | some e => cond l (cond (inB i len) (forceN (off + i.toNat * e.size) fun o => okR (.c (.p blk o))) none) (some ⟨[inB i len], .c (.q blk off len e.size i)⟩)
      | none => none)
    | _, _, _ => none)
  | .call { callee := .builtin .len, args, argTypes } => (match evs ev args.toList, argTypes[0]? with
    | some [.c (.sla _ _ len _)], some t => (match P.underlying t with | some (.slice _) => intR true .i64 len | _ => none)
    | _, _ => none)
  | .binOp .eql t x y _ => (match ev x, ev y, P.underlying t with
    | some (.c (.sla _ _ _ _)), some (.c (.x v)), some (.slice _) => cond (isNilS v) (boolR true false) none
    | some (.c (.ifc _ _ _)), some (.c (.x v)), some (.interface _) => cond (isNilI v) (boolR true false) none
    | some (.c (.x u)), some (.c (.x v)), some (.interface _) => cond (isNilI u && isNilI v && (isK x || isK y)) (boolR true true) none
    | _, _, _ => none)
  | .binOp .neq t x y _ => (match ev x, ev y, P.underlying t with
    | some (.c (.sla _ _ _ _)), some (.c (.x v)), some (.slice _) => cond (isNilS v) (boolR true true) none
    | some (.c (.ifc _ _ _)), some (.c (.x v)), some (.interface _) => cond (isNilI v) (boolR true true) none
    | some (.c (.x u)), some (.c (.x v)), some (.interface _) => cond (isNilI u && isNilI v && (isK x || isK y)) (boolR true false) none
    | _, _, _ => none)
  | _ => none
noncomputable def ndK (lit b : Bool) (l : List Bool) : Option (List Bool) := cond lit (cond b (some l) none) (some (b :: l))
noncomputable def isLit0 : SV → Bool | .c (.i l _ _) => l | _ => false
theorem ndK_spec {lit b : Bool} {l r : List Bool} (h : ndK lit b l = some r) (hr : allT r) : b = true ∧ allT l := by
  cases lit <;> simp only [ndK, cond_true, cond_false] at h
  · simp at h; subst h
    exact ⟨hr _ List.mem_cons_self, fun c hc => hr c (List.mem_cons_of_mem _ hc)⟩
  · cases b <;> simp at h
    subst h; exact ⟨rfl, hr⟩
noncomputable def strSl (s : ByteArray) (a b : Int) : ByteArray := s.extract a.toNat b.toNat
noncomputable def pureOpC (P : Program) (ev : Operand → Option SV) (op : Op) : Option R :=
  match op with
  | .slice t x lo hi none => (match ev x, P.underlying t with
    | some (.c (.str ls s)), some .string => (match lo.map ev, hi.map ev with
      | none, none => some ⟨[], .c (.str ls (strSl s 0 s.size))⟩
      | some (some (.c (.i l _ a))), none => (match ndK l (decide (0 ≤ a)) [decide (a ≤ s.size)] with | some nd => some ⟨nd, .c (.str false (strSl s a s.size))⟩ | none => none)
      | none, some (some (.c (.i l _ b))) => (match ndK l (decide (0 ≤ b)) [decide (b ≤ s.size)] with | some nd => some ⟨nd, .c (.str false (strSl s 0 b))⟩ | none => none)
      | some (some (.c (.i l _ a))), some (some (.c (.i l' _ b))) => (match ndK (l && l') (decide (a ≤ b)) [decide (b ≤ s.size)] with
        | some nd => (match ndK l (decide (0 ≤ a)) nd with | some nd => some ⟨nd, .c (.str false (strSl s a b))⟩ | none => none)
        | none => none)
      | _, _ => none)
    | _, _ => none)
  | _ => none
noncomputable def hintC : C → Option (Option Nat × List Bool × ByteArray)
  | .str true s => some (some s.size, [], s)
  | .str false s => some (none, [], s)
  | .strn n s => some (some n, [decide (s.size = n)], s)
  | _ => none
noncomputable def litB (x : Option (Option SV)) (dflt : Nat) : Option Nat :=
  match x with
  | none => some dflt
  | some (some (.c (.i true _ b))) => cond (decide (0 ≤ b)) (some b.toNat) none
  | _ => none
noncomputable def pureOpD (P : Program) (ev : Operand → Option SV) (op : Op) : Option R :=
  match op with
  | .call { callee := .builtin .len, args, argTypes } => (match evs ev args.toList, argTypes[0]? with
    | some [.c (.strn n s)], some t => (match P.underlying t with | some .string => some ⟨[decide (s.size = n)], .c (.i true .i64 n)⟩ | _ => none)
    | _, _ => none)
  | .binOp .add _ x y _ => (match ev x, ev y with
    | some (.c u), some (.c v) => (match hintC u, hintC v with
      | some (some n, l, a), some (some m, l', b) => cond (Nat.ble (n + m) (2 ^ 62)) (some ⟨l ++ (l' ++ [decide (a.size = n), decide (b.size = m)]), .c (.strn (n + m) (a ++ b))⟩) none
      | some (_, _, a), some (_, _, b) => some ⟨[Nat.ble (a.size + b.size) (2 ^ 62)], .c (.str false (a ++ b))⟩
      | _, _ => none)
    | _, _ => none)
  | .index t x i => (match ev x, ev i, P.underlying t with
    | some (.c (.strn n s)), some (.c (.i l' _ i)), some .string => cond l' (cond (inB i n) (some ⟨[decide (s.size = n)], .c (.i false .u8 (strB s i))⟩) none) (some ⟨[decide (s.size = n), inB i n], .c (.i false .u8 (strB s i))⟩)
    | _, _, _ => none)
  | .slice t x lo hi none => (match ev x, P.underlying t with
    | some (.c u), some .string => (match u with
      | .strn n s => (match litB (lo.map ev) 0, litB (hi.map ev) n with
        | some a, some b => cond (Nat.ble a b && Nat.ble b n) (forceN (b - a) fun d => forceN a fun a => forceN b fun b => some ⟨[decide (s.size = n)], .c (.strn d (strSl s a b))⟩) none
        | _, _ => (match lo.map ev, hi.map ev with
          | some (some (.c (.i _ _ a))), none => some ⟨[decide (s.size = n), decide (0 ≤ a), decide (a ≤ n)], .c (.str false (strSl s a n))⟩
          | none, some (some (.c (.i _ _ b))) => some ⟨[decide (s.size = n), decide (0 ≤ b), decide (b ≤ n)], .c (.str false (strSl s 0 b))⟩
          | some (some (.c (.i _ _ a))), some (some (.c (.i _ _ b))) => some ⟨[decide (s.size = n), decide (0 ≤ a), decide (a ≤ b), decide (b ≤ n)], .c (.str false (strSl s a b))⟩
          | _, _ => none))
      | _ => none)
    | _, _ => none)
  | .convert src dst x => (match ev x, P.underlying src, P.underlying dst with
    | some (.c (.strn n s)), some .string, some .string => okR (.c (.strn n s))
    | _, _, _ => none)
  | _ => none
noncomputable def valsK {γ : Type} : List C → (List Value → Option γ) → Option γ
  | [], K => K []
  | .b true v :: r, K => valsK r fun l => K (.bool v :: l)
  | .i true k n :: r, K => valsK r fun l => K (.int k n :: l)
  | .str true s :: r, K => valsK r fun l => K (.string s :: l)
  | _, _ => none
noncomputable def litCells {γ : Type} : List Value → (List C → Option γ) → Option γ
  | [], K => K []
  | .bool b :: r, K => litCells r fun l => K (.b true b :: l)
  | .int k n :: r, K => litCells r fun l => K (.i true k n :: l)
  | .string s :: r, K => litCells r fun l => K (.str true s :: l)
  | _, _ => none
noncomputable def pureOpE (P : Program) (ev : Operand → Option SV) (op : Op) : Option R :=
  match op with
  | .makeInterface xt x => (match ev x, P.underlying xt with
    | some (.a l), some (.struct _) => valsK l fun vs => okR (.c (.x (.iface xt (.agg vs.toArray))))
    | _, _ => none)
  | .typeAssert x _ asserted commaOk => (match ev x, P.underlying asserted with
    | some (.c (.x (.iface t (.agg vs)))), some (.struct _) => cond (Nat.beq t asserted) (litCells vs.toList fun l => okR (cond commaOk (.t [.a l, .c (.b true true)]) (.a l))) none
    | _, _ => none)
  | _ => none
theorem valsK_spec {γ : Type} : ∀ (cs : List C) (K : List Value → Option γ) (r : γ), valsK cs K = some r → ∃ l, K l = some r ∧ ∀ ρ, cs.map (C.den ρ) = l
  | [], K, r, h => ⟨[], h, fun _ => rfl⟩
  | .b true v :: cs, K, r, h => by
    obtain ⟨l, h1, h2⟩ := valsK_spec cs _ r h
    exact ⟨_, h1, fun ρ => by simp only [List.map_cons, h2 ρ, C.den]⟩
  | .i true k n :: cs, K, r, h => by
    obtain ⟨l, h1, h2⟩ := valsK_spec cs _ r h
    exact ⟨_, h1, fun ρ => by simp only [List.map_cons, h2 ρ, C.den]⟩
  | .str true s :: cs, K, r, h => by
    obtain ⟨l, h1, h2⟩ := valsK_spec cs _ r h
    exact ⟨_, h1, fun ρ => by simp only [List.map_cons, h2 ρ, C.den]⟩
  | .b false _ :: _, _, _, h => by cases h
  | .i false _ _ :: _, _, _, h => by cases h
  | .str false _ :: _, _, _, h => by cases h
  | .p _ _ :: _, _, _, h => by cases h
  | .q _ _ _ _ _ :: _, _, _, h => by cases h
  | .slc _ _ _ _ :: _, _, _, h => by cases h
  | .fn _ :: _, _, _, h => by cases h
  | .clo _ _ :: _, _, _, h => by cases h
  | .e _ _ _ _ :: _, _, _, h => by cases h
  | .es _ _ _ :: _, _, _, h => by cases h
  | .sla _ _ _ _ :: _, _, _, h => by cases h
  | .ifc _ _ _ :: _, _, _, h => by cases h
  | .fm _ _ _ _ :: _, _, _, h => by cases h
  | .x _ :: _, _, _, h => by cases h
  | .strn _ _ :: _, _, _, h => by cases h
  | .mp _ :: _, _, _, h => by cases h
  | .rs _ _ _ :: _, _, _, h => by cases h
  | .rp _ _ _ _ :: _, _, _, h => by cases h
  | .rn _ _ _ :: _, _, _, h => by cases h
theorem litCells_spec {γ : Type} : ∀ (vs : List Value) (K : List C → Option γ) (r : γ), litCells vs K = some r → ∃ l, K l = some r ∧ (∀ ρ, l.map (C.den ρ) = vs) ∧ ∀ n, okL n l = true
  | [], K, r, h => ⟨[], h, fun _ => rfl, fun _ => rfl⟩
  | v :: vs, K, r, h => by
    unfold litCells at h
    split at h
    · rename_i e; cases e
    · rename_i b r' _ e
      cases e
      obtain ⟨l, h1, h2, h3⟩ := litCells_spec _ _ r h
      exact ⟨_, h1, fun ρ => by simp only [List.map_cons, h2 ρ, C.den], fun n => by have := h3 n; simp only [okL] at this ⊢; simp only [List.all_cons, C.ok, this, Bool.and_self]⟩
    · rename_i k m r' _ e
      cases e
      obtain ⟨l, h1, h2, h3⟩ := litCells_spec _ _ r h
      exact ⟨_, h1, fun ρ => by simp only [List.map_cons, h2 ρ, C.den], fun n => by have := h3 n; simp only [okL] at this ⊢; simp only [List.all_cons, C.ok, this, Bool.and_self]⟩
    · rename_i s r' _ e
      cases e
      obtain ⟨l, h1, h2, h3⟩ := litCells_spec _ _ r h
      exact ⟨_, h1, fun ρ => by simp only [List.map_cons, h2 ρ, C.den], fun n => by have := h3 n; simp only [okL] at this ⊢; simp only [List.all_cons, C.ok, this, Bool.and_self]⟩
    · cases h
noncomputable def pureOp (P : Program) (ev : Operand → Option SV) (op : Op) : Option R :=
  match pureOpA P ev op with
  | some r => some r
  | none => match pureOpB P ev op with
    | some r => some r
    | none => match pureOpC P ev op with
      | some r => some r
      | none => match pureOpD P ev op with
        | some r => some r
        | none => pureOpE P ev op
section
variable {P : Program} {ρ : Rh} {n : Nat}
theorem isNilI_eq {v : Value} (hb : isNilI v = true) : v = .nilIface := by cases v <;> simp_all [isNilI]
theorem eqI_in {t : TypeId} {ms : Array (String × TypeId)} (hu : P.underlying t = some (.interface ms)) (d : Nat) (u : TypeId) (v : Value) (w : World) : (Op.equalIn (d + 1) t (.iface u v) .nilIface).run P w = .ok false w := by
  simp only [Op.equalIn, Sem.run_bind, run_underlying hu, Result.andThen_ok]; rfl
theorem eqI_ni {t : TypeId} {ms : Array (String × TypeId)} (hu : P.underlying t = some (.interface ms)) (d : Nat) (w : World) : (Op.equalIn (d + 1) t .nilIface .nilIface).run P w = .ok true w := by
  simp only [Op.equalIn, Sem.run_bind, run_underlying hu, Result.andThen_ok]; rfl
theorem eqGuard_nils {t : TypeId} {x y : Operand} (op : BinOp) (h : (isK x || isK y) = true) : eqGuard op t x y .nilIface .nilIface = pure () := by
  cases x <;> cases y <;> cases op <;> first | rfl | (simp [isK] at h)
theorem strB_get {s : ByteArray} {i : Int} (h : inB i s.size = true) : ∃ b : UInt8, s[i.toNat]? = some b ∧ strB s i = b.toNat := by
  have hb := inB_spec h
  have hlt : i.toNat < s.size := by omega
  refine ⟨s[i.toNat], getElem?_pos s i.toNat hlt, ?_⟩
  unfold strB; rw [getElem?_pos s i.toNat hlt]
theorem pureOpB_sound {ev : Operand → Option SV} {val : Operand → Value} (hv : ∀ x y, ev x = some y → val x = y.den ρ ∧ y.ok n = true)
    {o : Oper} {r : R} (h : pureOpB P ev o.op = some r) (hn : allT r.nd) :
    (∀ w, (execOp val o).run P w = .ok (.value (r.v.den ρ)) w) ∧ r.v.ok n = true := by
  obtain ⟨dst, op, type, pos, after, guard⟩ := o
  have fin : ∀ (q : Sem Value), Good P ρ n q r → (∀ w, (do pure (.value (← q)) : Sem Next).run P w = .ok (.value (r.v.den ρ)) w) ∧ r.v.ok n = true :=
    fun q hq => ⟨fun w => by simp only [Sem.run_bind, hq.1, Result.andThen_ok, Sem.run_pure], hq.2⟩
  unfold pureOpB at h
  simp only at h
  split at h
  · split at h
    · rename_i xt x _ _ blk off _ hx hu
      simp [okR] at h; subst h
      have h1 := hv _ _ hx
      simp only [execOp, h1.1]
      refine fin _ ⟨fun w => ?_, h1.2⟩
      simp only [Instr.makeInterface, Sem.run_bind, run_underlying hu, Result.andThen_ok, Sem.run_pure]
      rfl
    · cases h
  · split at h
    · rename_i x _ t blk off hx
      simp [okR] at h; subst h
      have h1 := hv _ _ hx
      exact ⟨fun w => by show Sem.run P (match val _ with | .pointer none | .nilIface | .nilFunc => _ | .func (.method name) first captured => _ | x => _) w = _; rw [h1.1]; rfl, h1.2⟩
    · rename_i x _ name t blk off hx
      split at h
      · rename_i g hg
        simp [okR] at h; subst h
        have h1 := hv _ _ hx
        refine ⟨fun w => ?_, h1.2⟩
        have hval : val x = .func (.method name) #[.iface t (.pointer (some ⟨ρ blk, off, none⟩))] #[] := h1.1
        simp only [execOp, hval]
        have e0 : (#[Value.iface t (.pointer (some ⟨ρ blk, off, none⟩))] : Array Value)[0]? = some (.iface t (.pointer (some ⟨ρ blk, off, none⟩))) := rfl
        simp only [e0, Sem.run_bind, run_program, Result.andThen_ok, run_nilAhead hg]
        rfl
      · split at h
        · rename_i g hg
          simp [okR] at h; subst h
          have h1 := hv _ _ hx
          refine ⟨fun w => ?_, h1.2⟩
          have hval : val x = .func (.method name) #[.iface t (.pointer (some ⟨ρ blk, off, none⟩))] #[] := h1.1
          simp only [execOp, hval]
          have e0 : (#[Value.iface t (.pointer (some ⟨ρ blk, off, none⟩))] : Array Value)[0]? = some (.iface t (.pointer (some ⟨ρ blk, off, none⟩))) := rfl
          simp only [e0, Sem.run_bind, run_program, Result.andThen_ok, run_nilAheadV hg]
          rfl
        · cases h
    · cases h
  · rename_i name first captured
    split at h
    · rename_i x hfirst
      split at h
      · rename_i t blk off hx
        cases hc : captured.isEmpty <;> simp only [hc, cond_true, cond_false] at h
        · cases h
        simp [okR] at h; subst h
        have h1 := hv _ _ hx
        refine ⟨fun w => ?_, h1.2⟩
        have hfst : first = #[x] := Array.ext' hfirst
        have hcap : captured = #[] := Array.isEmpty_iff.1 hc
        have hval : val x = .iface t (.pointer (some ⟨ρ blk, off, none⟩)) := h1.1
        simp only [execOp, Instr.makeFunc, hfst, hcap, Sem.run_bind, Sem.run_pure, Result.andThen_ok, SV.den, C.den]
        simp [hval]
      · cases h
    · cases h
  · split at h
    · rename_i t x ix _ _ _ l s l' k i hx hi hu
      have h1 := hv _ _ hx; have h2 := hv _ _ hi
      simp only [execOp, h1.1, h2.1]
      have key : inB i s.size = true → r.v = .c (.i (l && l') .u8 (strB s i)) → Good P ρ n (Instr.index t (SV.den ρ (.c (.str l s))) (SV.den ρ (.c (.i l' k i)))) r := by
        intro hb hr
        obtain ⟨b, hb1, hb2⟩ := strB_get hb
        have hi := inB_spec hb
        refine ⟨fun w => ?_, by rw [hr]; rfl⟩
        rw [hr]
        simp only [SV.den, C.den, Instr.index, asIntOf, Sem.run_bind, Sem.run_pure, run_underlying hu, Result.andThen_ok, if_pos hi.1, hb1, hb2]
      cases hl : (l && l') <;> simp only [hl, cond_true, cond_false] at h
      · simp at h; subst h
        exact fin _ (key (hn _ List.mem_cons_self) (by rw [hl]))
      · cases hb : inB i s.size <;> simp only [hb, cond_true, cond_false] at h
        · cases h
        · rw [intR_eq] at h; simp at h; subst h
          exact fin _ (key hb (by rw [hl]))
    · cases h
  · split at h
    · rename_i t x y yt _ _ l a l' b hx hy
      have h1 := hv _ _ hx; have h2 := hv _ _ hy
      simp only [execOp, h1.1, h2.1]
      have key : Nat.ble (a.size + b.size) (2 ^ 62) = true → r.v = .c (.str (l && l') (a ++ b)) → Good P ρ n (do eqGuard .add t x y (SV.den ρ (.c (.str l a))) (SV.den ρ (.c (.str l' b))); binOp .add t (SV.den ρ (.c (.str l a))) (SV.den ρ (.c (.str l' b)))) r := by
        intro hb hr
        have hb := Nat.le_of_ble_eq_true hb
        have e62 : (2 : Nat) ^ 62 = 4611686018427387904 := by decide
        have hno : ¬ ((a.size : Int) + (b.size : Int) > 9223372036854775807) := by omega
        refine ⟨fun w => ?_, by rw [hr]; rfl⟩
        rw [hr]
        simp only [SV.den, C.den, eqGuard_at_string]
        simp [binOp, Op.stringOp, hno, IntKind.max, IntKind.bits, IntKind.signed]
      cases hl : (l && l') <;> simp only [hl, cond_true, cond_false] at h
      · simp at h; subst h
        exact fin _ (key (hn _ List.mem_cons_self) (by rw [hl]))
      · cases hb : Nat.ble (a.size + b.size) (2 ^ 62) <;> simp only [hb, cond_true, cond_false] at h
        · cases h
        · simp [okR] at h; subst h
          exact fin _ (key hb (by rw [hl]))
    · cases h
  · split at h
    · rename_i t x lo hi _ _ s hx hu
      have h1 := hv _ _ hx
      split at h
      · rename_i h' hh
        split at h
        · rename_i l hl
          simp [okR] at h; subst h
          simp only [execOp, h1.1]
          refine fin _ ⟨fun w => ?_, rfl⟩
          simp only [SV.den, C.den, Instr.sliceAt, Instr.slice, Option.map_none, Sem.run_bind, run_underlying hu, Result.andThen_ok, Sem.run_pure, Option.isSome_none, Bool.false_eq_true, if_false, sliceBounds_sound hv hh hl]
        · cases h
      · cases h
    · cases h
  · split at h
    · rename_i t x ix _ _ _ blk off len sz l k i elem hx hi hu
      have h1 := hv _ _ hx; have h2 := hv _ _ hi
      split at h
      · rename_i e he
        simp only [execOp, h1.1, h2.1]
        cases l <;> simp only [cond_true, cond_false] at h
        · simp at h; subst h
          have hb : inB i len = true := hn _ (List.mem_cons_self)
          have hi := inB_spec hb
          refine fin _ ⟨fun w => ?_, ?_⟩
          · simp only [SV.den, C.den, Instr.indexAt, asIntOf, Sem.run_bind, Sem.run_pure, run_underlying hu, Result.andThen_ok, if_pos hi, run_sizeOf he, Addr.add_lit]
          · have h3 := h1.2
            simp only [SV.ok, C.ok] at h3 ⊢
            rw [h3, hb]; rfl
        · cases hb : inB i len <;> simp only [hb, cond_true, cond_false] at h
          · cases h
          · rw [forceN_eq] at h
            simp [okR] at h; subst h
            have hi := inB_spec hb
            refine fin _ ⟨fun w => ?_, h1.2⟩
            simp only [SV.den, C.den, Instr.indexAt, asIntOf, Sem.run_bind, Sem.run_pure, run_underlying hu, Result.andThen_ok, if_pos hi, run_sizeOf he, Addr.add_lit]
      · cases h
    · cases h
  · split at h
    · rename_i args argTypes _ _ blk off len sz t hargs ht
      split at h
      · rename_i el hu
        rw [intR_eq] at h; simp at h; subst h
        obtain ⟨ha, _⟩ := evs_sound hv _ _ hargs
        refine ⟨fun w => ?_, rfl⟩
        have hav : args.map val = #[(SV.c (C.sla blk off len sz)).den ρ] := by
          apply Array.ext'
          rw [Array.toList_map, ha]; rfl
        have hl : (Builtin.len_ argTypes type #[(SV.c (C.sla blk off len sz)).den ρ]).run P w = .ok (goInt len) w := by
          simp [Builtin.len_, ht, SV.den, C.den, run_underlying hu]
        simp only [execOp, resolve, Sem.run_bind, Sem.run_pure, Result.andThen_ok, invoke, hav, builtin, hl]
        rfl
      · cases h
    · cases h
  · split at h
    · rename_i t x y yt _ _ _ b o l z v el hx hy hu
      have h1 := hv _ _ hx; have h2 := hv _ _ hy
      cases hb : isNilS v <;> simp only [hb, cond_true, cond_false] at h
      · cases h
      obtain ⟨a1, b1, rfl⟩ := isNilS_eq hb
      rw [boolR_eq] at h; simp at h; subst h
      simp only [execOp, h1.1, h2.1]
      refine fin _ ⟨fun w => ?_, rfl⟩
      simp only [SV.den, C.den, eqGuard_at_slice, Sem.run_bind, Sem.run_pure, Result.andThen_ok]
      show Sem.run P (do pure (.bool (← Op.equal t _ _)) : Sem Value) w = _
      simp only [Sem.run_bind, show ∀ x y, Op.equal t x y = Op.equalIn (9999 + 1) t x y from fun _ _ => rfl, eqI_sn hu, Result.andThen_ok, Sem.run_pure]
    · rename_i t x y yt _ _ _ ty b o v el hx hy hu
      have h1 := hv _ _ hx; have h2 := hv _ _ hy
      cases hb : isNilI v <;> simp only [hb, cond_true, cond_false] at h
      · cases h
      obtain rfl := isNilI_eq hb
      rw [boolR_eq] at h; simp at h; subst h
      simp only [execOp, h1.1, h2.1]
      refine fin _ ⟨fun w => ?_, rfl⟩
      simp only [SV.den, C.den, eqGuard_at_iface, Sem.run_bind, Sem.run_pure, Result.andThen_ok]
      show Sem.run P (do pure (.bool (← Op.equal t _ _)) : Sem Value) w = _
      simp only [Sem.run_bind, show ∀ x y, Op.equal t x y = Op.equalIn (9999 + 1) t x y from fun _ _ => rfl, eqI_in hu, Result.andThen_ok, Sem.run_pure]
    · rename_i t x y yt _ _ _ u v el hx hy hu
      have h1 := hv _ _ hx; have h2 := hv _ _ hy
      cases hb : (isNilI u && isNilI v && (isK x || isK y)) <;> simp only [hb, cond_true, cond_false] at h
      · cases h
      simp only [Bool.and_eq_true] at hb
      have hk := hb.2
      obtain rfl := isNilI_eq hb.1.1
      obtain rfl := isNilI_eq hb.1.2
      rw [boolR_eq] at h; simp at h; subst h
      simp only [execOp, h1.1, h2.1]
      refine fin _ ⟨fun w => ?_, rfl⟩
      simp only [SV.den, C.den, eqGuard_nils _ hk, Sem.run_bind, Sem.run_pure, Result.andThen_ok]
      show Sem.run P (do pure (.bool (← Op.equal t _ _)) : Sem Value) w = _
      simp only [Sem.run_bind, show ∀ x y, Op.equal t x y = Op.equalIn (9999 + 1) t x y from fun _ _ => rfl, eqI_ni hu, Result.andThen_ok, Sem.run_pure]
    · cases h
  · split at h
    · rename_i t x y yt _ _ _ b o l z v el hx hy hu
      have h1 := hv _ _ hx; have h2 := hv _ _ hy
      cases hb : isNilS v <;> simp only [hb, cond_true, cond_false] at h
      · cases h
      obtain ⟨a1, b1, rfl⟩ := isNilS_eq hb
      rw [boolR_eq] at h; simp at h; subst h
      simp only [execOp, h1.1, h2.1]
      refine fin _ ⟨fun w => ?_, rfl⟩
      simp only [SV.den, C.den, eqGuard_at_slice, Sem.run_bind, Sem.run_pure, Result.andThen_ok]
      show Sem.run P (do pure (.bool (!(← Op.equal t _ _))) : Sem Value) w = _
      simp only [Sem.run_bind, show ∀ x y, Op.equal t x y = Op.equalIn (9999 + 1) t x y from fun _ _ => rfl, eqI_sn hu, Result.andThen_ok, Sem.run_pure]
      rfl
    · rename_i t x y yt _ _ _ ty b o v el hx hy hu
      have h1 := hv _ _ hx; have h2 := hv _ _ hy
      cases hb : isNilI v <;> simp only [hb, cond_true, cond_false] at h
      · cases h
      obtain rfl := isNilI_eq hb
      rw [boolR_eq] at h; simp at h; subst h
      simp only [execOp, h1.1, h2.1]
      refine fin _ ⟨fun w => ?_, rfl⟩
      simp only [SV.den, C.den, eqGuard_at_iface, Sem.run_bind, Sem.run_pure, Result.andThen_ok]
      show Sem.run P (do pure (.bool (!(← Op.equal t _ _))) : Sem Value) w = _
      simp only [Sem.run_bind, show ∀ x y, Op.equal t x y = Op.equalIn (9999 + 1) t x y from fun _ _ => rfl, eqI_in hu, Result.andThen_ok, Sem.run_pure]
      rfl
    · rename_i t x y yt _ _ _ u v el hx hy hu
      have h1 := hv _ _ hx; have h2 := hv _ _ hy
      cases hb : (isNilI u && isNilI v && (isK x || isK y)) <;> simp only [hb, cond_true, cond_false] at h
      · cases h
      simp only [Bool.and_eq_true] at hb
      have hk := hb.2
      obtain rfl := isNilI_eq hb.1.1
      obtain rfl := isNilI_eq hb.1.2
      rw [boolR_eq] at h; simp at h; subst h
      simp only [execOp, h1.1, h2.1]
      refine fin _ ⟨fun w => ?_, rfl⟩
      simp only [SV.den, C.den, eqGuard_nils _ hk, Sem.run_bind, Sem.run_pure, Result.andThen_ok]
      show Sem.run P (do pure (.bool (!(← Op.equal t _ _))) : Sem Value) w = _
      simp only [Sem.run_bind, show ∀ x y, Op.equal t x y = Op.equalIn (9999 + 1) t x y from fun _ _ => rfl, eqI_ni hu, Result.andThen_ok, Sem.run_pure]
      rfl
    · cases h
  · cases h
theorem sliceBounds_sym {val : Operand → Value} {isS : Bool} {len cap : Nat} {lo hi : Option Operand} {a b : Int}
    (hlo : (lo = none ∧ a = 0) ∨ ∃ o k, lo = some o ∧ val o = .int k a) (hhi : (hi = none ∧ b = len) ∨ ∃ o k, hi = some o ∧ val o = .int k b)
    (h0 : 0 ≤ a) (h1 : a ≤ b) (h2 : b ≤ cap) (w : World) : (Instr.sliceBounds isS len cap (lo.map val) (hi.map val) none).run P w = .ok (a.toNat, b.toNat, cap) w := by
  have bd : ∀ (o : Operand) (k : IntKind) (j : Int) (y : Nat) (c : BoundsCode), val o = .int k j → 0 ≤ j → j ≤ y → (Instr.sliceBound (val o) y c).run P w = .ok j.toNat w := by
    intro o k j y c ho hj0 hj1
    have hj2 : 0 ≤ j ∧ j ≤ y := ⟨hj0, hj1⟩
    simp only [ho, Instr.sliceBound, asIntOf, Sem.run_bind, Sem.run_pure, Result.andThen_ok, if_pos hj2]
  rcases hhi with ⟨rfl, rfl⟩ | ⟨o, k, rfl, ho⟩
  · rcases hlo with ⟨rfl, rfl⟩ | ⟨o', k', rfl, ho'⟩
    · simp [Instr.sliceBounds]
    · simp [Instr.sliceBounds, bd o' k' a len _ ho' h0 h1]
  · rcases hlo with ⟨rfl, rfl⟩ | ⟨o', k', rfl, ho'⟩
    · simp [Instr.sliceBounds, bd o k b cap _ ho (by omega) h2]
    · simp [Instr.sliceBounds, bd o k b cap _ ho (by omega) h2, bd o' k' a b.toNat _ ho' h0 (by omega)]
theorem pureOpC_sound {ev : Operand → Option SV} {val : Operand → Value} (hv : ∀ x y, ev x = some y → val x = y.den ρ ∧ y.ok n = true)
    {o : Oper} {r : R} (h : pureOpC P ev o.op = some r) (hn : allT r.nd) :
    (∀ w, (execOp val o).run P w = .ok (.value (r.v.den ρ)) w) ∧ r.v.ok n = true := by
  obtain ⟨dst, op, type, pos, after, guard⟩ := o
  have fin : ∀ (q : Sem Value), Good P ρ n q r → (∀ w, (do pure (.value (← q)) : Sem Next).run P w = .ok (.value (r.v.den ρ)) w) ∧ r.v.ok n = true :=
    fun q hq => ⟨fun w => by simp only [Sem.run_bind, hq.1, Result.andThen_ok, Sem.run_pure], hq.2⟩
  unfold pureOpC at h
  simp only at h
  split at h
  · split at h
    · rename_i t x lo hi _ _ ls s hx hu
      have h1 := hv _ _ hx
      have bnd : ∀ (z : Option Operand) (l : Bool) (k : IntKind) (j : Int), z.map ev = some (some (.c (.i l k j))) → ∃ o k, z = some o ∧ val o = .int k j := by
        intro z l k j hz
        cases z with
        | none => simp at hz
        | some o => simp at hz; exact ⟨o, k, rfl, (hv _ _ hz).1⟩
      have key : ∀ (lit : Bool) (a b : Int), ((lo = none ∧ a = 0) ∨ ∃ o k, lo = some o ∧ val o = .int k a) → ((hi = none ∧ b = s.size) ∨ ∃ o k, hi = some o ∧ val o = .int k b) →
          0 ≤ a → a ≤ b → b ≤ s.size → r.v = .c (.str lit (strSl s a b)) → (∀ w, (execOp val ⟨dst, .slice t x lo hi none, type, pos, after, guard⟩).run P w = .ok (.value (r.v.den ρ)) w) ∧ r.v.ok n = true := by
        intro lit a b ha hb h0 h2 h3 hr
        simp only [execOp, h1.1]
        refine fin _ ⟨fun w => ?_, by rw [hr]; rfl⟩
        rw [hr]
        simp only [SV.den, C.den, Instr.sliceAt, Instr.slice, Option.map_none, Sem.run_bind, run_underlying hu, Result.andThen_ok, Sem.run_pure, Option.isSome_none, Bool.false_eq_true, if_false, sliceBounds_sym ha hb h0 h2 h3]
        rfl
      have none_of : ∀ z : Option Operand, z.map ev = none → z = none := fun z hz => by cases z <;> simp_all
      split at h
      · rename_i e1 e2
        simp at h; subst h
        exact key _ _ _ (.inl ⟨none_of _ e1, rfl⟩) (.inl ⟨none_of _ e2, rfl⟩) (by omega) (by omega) (by omega) rfl
      · rename_i l k a e1 e2
        split at h
        · rename_i nd hnd
          simp at h; subst h
          obtain ⟨g1, g2⟩ := ndK_spec hnd hn
          have g3 := of_decide_eq_true (g2 _ List.mem_cons_self)
          exact key _ _ _ (.inr (bnd _ _ _ _ e1)) (.inl ⟨none_of _ e2, rfl⟩) (of_decide_eq_true g1) g3 (by omega) rfl
        · cases h
      · rename_i l k a e1 e2
        split at h
        · rename_i nd hnd
          simp at h; subst h
          obtain ⟨g1, g2⟩ := ndK_spec hnd hn
          have g3 := of_decide_eq_true (g2 _ List.mem_cons_self)
          exact key _ _ _ (.inl ⟨none_of _ e1, rfl⟩) (.inr (bnd _ _ _ _ e2)) (by omega) (of_decide_eq_true g1) g3 rfl
        · cases h
      · rename_i l k a l' k' b e1 e2
        split at h
        · rename_i nd hnd
          split at h
          · rename_i nd' hnd'
            simp at h; subst h
            obtain ⟨g1, g2⟩ := ndK_spec hnd' hn
            obtain ⟨g3, g4⟩ := ndK_spec hnd g2
            have g5 := of_decide_eq_true (g4 _ List.mem_cons_self)
            exact key _ _ _ (.inr (bnd _ _ _ _ e1)) (.inr (bnd _ _ _ _ e2)) (of_decide_eq_true g1) (of_decide_eq_true g3) g5 rfl
          · cases h
        · cases h
      · cases h
    · cases h
  · cases h
theorem hintC_den {c : C} {n : Option Nat} {l : List Bool} {s : ByteArray} (h : hintC c = some (n, l, s)) : (∀ ρ, c.den ρ = .string s) := by
  unfold hintC at h
  split at h <;> simp at h <;> (obtain ⟨_, _, rfl⟩ := h; intro ρ; rfl)
theorem litB_spec {ev : Operand → Option SV} {val : Operand → Value} (hv : ∀ x y, ev x = some y → val x = y.den ρ ∧ y.ok n = true) {x : Option Operand} {d a : Nat} (h : litB (x.map ev) d = some a) :
    (x = none ∧ (a : Int) = d) ∨ ∃ o k, x = some o ∧ val o = .int k a := by
  unfold litB at h
  split at h
  · rename_i hx
    simp at h; subst h
    exact .inl ⟨by cases x <;> simp_all, rfl⟩
  · rename_i k b hx
    cases hb : decide (0 ≤ b) <;> simp only [hb, cond_true, cond_false] at h
    · cases h
    simp at h; subst h
    have hb := of_decide_eq_true hb
    cases x with
    | none => simp at hx
    | some o =>
      simp at hx
      refine .inr ⟨o, k, rfl, ?_⟩
      rw [(hv _ _ hx).1, Int.toNat_of_nonneg hb]; rfl
  · cases h
theorem pureOpD_sound {ev : Operand → Option SV} {val : Operand → Value} (hv : ∀ x y, ev x = some y → val x = y.den ρ ∧ y.ok n = true)
    {o : Oper} {r : R} (h : pureOpD P ev o.op = some r) (hn : allT r.nd) :
    (∀ w, (execOp val o).run P w = .ok (.value (r.v.den ρ)) w) ∧ r.v.ok n = true := by
  obtain ⟨dst, op, type, pos, after, guard⟩ := o
  have fin : ∀ (q : Sem Value), Good P ρ n q r → (∀ w, (do pure (.value (← q)) : Sem Next).run P w = .ok (.value (r.v.den ρ)) w) ∧ r.v.ok n = true :=
    fun q hq => ⟨fun w => by simp only [Sem.run_bind, hq.1, Result.andThen_ok, Sem.run_pure], hq.2⟩
  unfold pureOpD at h
  simp only at h
  split at h
  · split at h
    · rename_i args argTypes _ _ m s t hargs ht
      split at h
      · rename_i hu
        simp at h; subst h
        have hsz := of_decide_eq_true (hn _ List.mem_cons_self)
        obtain ⟨ha, _⟩ := evs_sound hv _ _ hargs
        refine ⟨fun w => ?_, rfl⟩
        have hav : args.map val = #[.string s] := by
          apply Array.ext'
          rw [Array.toList_map, ha]; rfl
        have hl : (Builtin.len_ argTypes type #[.string s]).run P w = .ok (goInt m) w := by
          simp [Builtin.len_, ht, run_underlying hu, hsz]
        simp only [execOp, resolve, Sem.run_bind, Sem.run_pure, Result.andThen_ok, invoke, hav, builtin, hl]
        rfl
      · cases h
    · cases h
  · split at h
    · rename_i t x y yt _ _ u v hx hy
      have h1 := hv _ _ hx; have h2 := hv _ _ hy
      have key : ∀ (a b : ByteArray), (∀ ρ, u.den ρ = .string a) → (∀ ρ, v.den ρ = .string b) → a.size + b.size ≤ 2 ^ 62 → r.v.den ρ = .string (a ++ b) → r.v.ok n = true →
          (∀ w, (execOp val ⟨dst, .binOp .add t x y yt, type, pos, after, guard⟩).run P w = .ok (.value (r.v.den ρ)) w) ∧ r.v.ok n = true := by
        intro a b ha hb hs hr hok
        simp only [execOp, h1.1, h2.1]
        refine fin _ ⟨fun w => ?_, hok⟩
        have e62 : (2 : Nat) ^ 62 = 4611686018427387904 := by decide
        have hno : ¬ ((a.size : Int) + (b.size : Int) > 9223372036854775807) := by omega
        rw [hr]
        simp only [SV.den, ha, hb, eqGuard_at_string]
        simp [binOp, Op.stringOp, hno, IntKind.max, IntKind.bits, IntKind.signed]
      split at h
      · rename_i n1 l1 a m1 l2 b hu hv'
        cases hc : Nat.ble (n1 + m1) (2 ^ 62) <;> simp only [hc, cond_true, cond_false] at h
        · cases h
        simp at h; subst h
        have e1 := of_decide_eq_true (hn (decide (a.size = n1)) (by simp))
        have e2 := of_decide_eq_true (hn (decide (b.size = m1)) (by simp))
        exact key a b (hintC_den hu) (hintC_den hv') (by rw [e1, e2]; exact Nat.le_of_ble_eq_true hc) rfl rfl
      · rename_i a _ _ b _ hu hv'
        simp at h; subst h
        exact key _ _ (hintC_den hu) (hintC_den hv') (Nat.le_of_ble_eq_true (hn _ List.mem_cons_self)) rfl rfl
      · cases h
    · cases h
  · split at h
    · rename_i t x ix _ _ _ m s l' k i hx hi hu
      have h1 := hv _ _ hx; have h2 := hv _ _ hi
      simp only [execOp, h1.1, h2.1]
      have key : s.size = m → inB i m = true → r.v = .c (.i false .u8 (strB s i)) → Good P ρ n (Instr.index t (SV.den ρ (.c (.strn m s))) (SV.den ρ (.c (.i l' k i)))) r := by
        intro hs hb hr
        rw [← hs] at hb
        obtain ⟨b, hb1, hb2⟩ := strB_get hb
        have hi := inB_spec hb
        refine ⟨fun w => ?_, by rw [hr]; rfl⟩
        rw [hr]
        simp only [SV.den, C.den, Instr.index, asIntOf, Sem.run_bind, Sem.run_pure, run_underlying hu, Result.andThen_ok, if_pos hi.1, hb1, hb2]
      cases l' <;> simp only [cond_true, cond_false] at h
      · simp at h; subst h
        exact fin _ (key (of_decide_eq_true (hn _ List.mem_cons_self)) (hn _ (by simp)) rfl)
      · cases hb : inB i m <;> simp only [hb, cond_true, cond_false] at h
        · cases h
        · simp at h; subst h
          exact fin _ (key (of_decide_eq_true (hn _ List.mem_cons_self)) hb rfl)
    · cases h
  · split at h
    · rename_i t x lo hi _ _ u hx hu
      have h1 := hv _ _ hx
      split at h
      · rename_i m s
        have key : ∀ (a b : Int), s.size = m → ((lo = none ∧ a = 0) ∨ ∃ o k, lo = some o ∧ val o = .int k a) → ((hi = none ∧ b = m) ∨ ∃ o k, hi = some o ∧ val o = .int k b) →
            0 ≤ a → a ≤ b → b ≤ m → r.v.den ρ = .string (strSl s a b) → r.v.ok n = true → (∀ w, (execOp val ⟨dst, .slice t x lo hi none, type, pos, after, guard⟩).run P w = .ok (.value (r.v.den ρ)) w) ∧ r.v.ok n = true := by
          intro a b hs ha hb h0 h2 h3 hr hok
          rw [← hs] at hb h3
          simp only [execOp, h1.1]
          refine fin _ ⟨fun w => ?_, hok⟩
          rw [hr]
          simp only [SV.den, C.den, Instr.sliceAt, Instr.slice, Option.map_none, Sem.run_bind, run_underlying hu, Result.andThen_ok, Sem.run_pure, Option.isSome_none, Bool.false_eq_true, if_false, sliceBounds_sym ha hb h0 h2 h3]
          rfl
        have bnd : ∀ (z : Option Operand) (l : Bool) (k : IntKind) (j : Int), z.map ev = some (some (.c (.i l k j))) → ∃ o k, z = some o ∧ val o = .int k j := by
          intro z l k j hz
          cases z with
          | none => simp at hz
          | some o => simp at hz; exact ⟨o, k, rfl, (hv _ _ hz).1⟩
        have none_of : ∀ z : Option Operand, z.map ev = none → z = none := fun z hz => by cases z <;> simp_all
        split at h
        · rename_i a b ha hb
          cases hc : (Nat.ble a b && Nat.ble b m) <;> simp only [hc, cond_true, cond_false] at h
          · cases h
          simp only [forceN_eq] at h
          simp at h; subst h
          simp only [Bool.and_eq_true] at hc
          have c1 := Nat.le_of_ble_eq_true hc.1; have c2 := Nat.le_of_ble_eq_true hc.2
          exact key a b (of_decide_eq_true (hn _ List.mem_cons_self)) (litB_spec hv ha) (litB_spec hv hb) (by omega) (by omega) (by omega) rfl rfl
        · split at h
          · rename_i l k a e1 e2
            simp at h; subst h
            exact key _ _ (of_decide_eq_true (hn _ List.mem_cons_self)) (.inr (bnd _ _ _ _ e1)) (.inl ⟨none_of _ e2, rfl⟩) (of_decide_eq_true (hn (decide (0 ≤ a)) (by simp))) (of_decide_eq_true (hn (decide (a ≤ m)) (by simp))) (by omega) rfl rfl
          · rename_i l k b e1 e2
            simp at h; subst h
            exact key _ _ (of_decide_eq_true (hn _ List.mem_cons_self)) (.inl ⟨none_of _ e1, rfl⟩) (.inr (bnd _ _ _ _ e2)) (by omega) (of_decide_eq_true (hn (decide (0 ≤ b)) (by simp))) (of_decide_eq_true (hn (decide (b ≤ m)) (by simp))) rfl rfl
          · rename_i l k a l' k' b e1 e2
            simp at h; subst h
            exact key _ _ (of_decide_eq_true (hn _ List.mem_cons_self)) (.inr (bnd _ _ _ _ e1)) (.inr (bnd _ _ _ _ e2)) (of_decide_eq_true (hn (decide (0 ≤ a)) (by simp))) (of_decide_eq_true (hn (decide (a ≤ b)) (by simp))) (of_decide_eq_true (hn (decide (b ≤ m)) (by simp))) rfl rfl
          · cases h
      · cases h
    · cases h
  · split at h
    · rename_i src dt x _ _ _ m s hx hs hd
      simp [okR] at h; subst h
      have h1 := hv _ _ hx
      simp only [execOp, h1.1]
      exact fin _ ⟨fun w => by simp only [SV.den, C.den, convert, Sem.run_bind, run_underlying hs, run_underlying hd, Result.andThen_ok, Sem.run_pure], rfl⟩
    · cases h
  · cases h
theorem pureOpE_sound {ev : Operand → Option SV} {val : Operand → Value} (hv : ∀ x y, ev x = some y → val x = y.den ρ ∧ y.ok n = true)
    {o : Oper} {r : R} (h : pureOpE P ev o.op = some r) (hn : allT r.nd) :
    (∀ w, (execOp val o).run P w = .ok (.value (r.v.den ρ)) w) ∧ r.v.ok n = true := by
  obtain ⟨dst, op, type, pos, after, guard⟩ := o
  have fin : ∀ (q : Sem Value), Good P ρ n q r → (∀ w, (do pure (.value (← q)) : Sem Next).run P w = .ok (.value (r.v.den ρ)) w) ∧ r.v.ok n = true :=
    fun q hq => ⟨fun w => by simp only [Sem.run_bind, hq.1, Result.andThen_ok, Sem.run_pure], hq.2⟩
  unfold pureOpE at h
  simp only at h
  split at h
  · split at h
    · rename_i xt x _ _ l fs hx hu
      obtain ⟨vs, h2, h3⟩ := valsK_spec _ _ _ h
      simp [okR] at h2; subst h2
      have h1 := hv _ _ hx
      have hd : (SV.a l).den ρ = .agg vs.toArray := by simp only [SV.den, denL, h3 ρ]
      simp only [execOp, h1.1]
      refine fin _ ⟨fun w => ?_, rfl⟩
      rw [hd]
      simp only [Instr.makeInterface, Sem.run_bind, run_underlying hu, Result.andThen_ok, Sem.run_pure]
      rfl
    · cases h
  · split at h
    · rename_i x xt asserted commaOk _ _ t vs fs hx hu
      cases hb : Nat.beq t asserted <;> simp only [hb, cond_true, cond_false] at h
      · cases h
      have ht := Nat.eq_of_beq_eq_true hb
      obtain ⟨l, h2, h3, h4⟩ := litCells_spec _ _ _ h
      simp [okR] at h2; subst h2
      have h1 := hv _ _ hx
      have hd : Value.agg vs = (SV.a l).den ρ := by simp only [SV.den, denL, h3 ρ]
      simp only [execOp, h1.1]
      refine fin _ ⟨fun w => ?_, ?_⟩
      · simp only [SV.den, C.den, Instr.typeAssert, Sem.run_bind, run_underlying hu, Result.andThen_ok, ht, if_true, Sem.run_pure]
        cases commaOk
        · simp only [cond_false, Bool.false_eq_true, if_false]
          rw [hd]; rfl
        · simp only [cond_true, if_true, SV.den, List.map_cons, List.map_nil, S1.den, C.den]
          rw [hd]; rfl
      · cases commaOk
        · exact h4 n
        · simp only [cond_true, SV.ok, List.all_cons, S1.ok, h4 n, C.ok, List.all_nil, Bool.and_self]
    · cases h
  · cases h
theorem pureOp_sound {ev : Operand → Option SV} {val : Operand → Value} (hv : ∀ x y, ev x = some y → val x = y.den ρ ∧ y.ok n = true)
    {o : Oper} {r : R} (h : pureOp P ev o.op = some r) (hn : allT r.nd) :
    (∀ w, (execOp val o).run P w = .ok (.value (r.v.den ρ)) w) ∧ r.v.ok n = true := by
  unfold pureOp at h
  split at h
  · rename_i r' hr
    simp at h; subst h
    exact pureOpA_sound hv hr hn
  · split at h
    · rename_i r' hr
      simp at h; subst h
      exact pureOpB_sound hv hr hn
    · split at h
      · rename_i r' hr
        simp at h; subst h
        exact pureOpC_sound hv hr hn
      · split at h
        · rename_i r' hr
          simp at h; subst h
          exact pureOpD_sound hv hr hn
        · exact pureOpE_sound hv h hn
end
end Go.Proofs.Ytdomhmajoclpeaa.Ev

namespace Go.Proofs.Ytdomhmajoclpeaa.Ev
open Go


noncomputable def consStep {α β : Type} (ih : List α → (List α → β) → β) (K : List α → β) (x : α) (xs : List α) : β := ih xs fun ys => K (@List.cons α x ys)
noncomputable def setLK {α β : Type} (l : List α) (i : Nat) (v : α) (K : List α → β) : β :=
  @Nat.rec (fun _ => List α → (List α → β) → β) (fun l K => @List.rec α (fun _ => β) (K []) (fun _ xs _ => K (@List.cons α v xs)) l) (fun _ ih l K => @List.rec α (fun _ => β) (K []) (fun x xs _ => consStep ih K x xs) l) i l K
theorem setLK_eq {α β : Type} (l : List α) : ∀ (i : Nat) (v : α) (K : List α → β), setLK l i v K = K (l.set i v) := by
  intro i
  induction i generalizing l with
  | zero => intro v K; cases l <;> rfl
  | succ i ih =>
    intro v K
    cases l with
    | nil => rfl
    | cons x xs =>
      show setLK xs i v (fun ys => K (x :: ys)) = _
      rw [ih]; rfl
noncomputable def appLK {α β : Type} : List α → α → (List α → β) → β
  | [], v, K => K [v]
  | x :: xs, v, K => appLK xs v fun ys => K (x :: ys)
theorem appLK_eq {α β : Type} (l : List α) : ∀ (v : α) (K : List α → β), appLK l v K = K (l ++ [v]) := by
  induction l with
  | nil => intros; rfl
  | cons x xs ih => intro v K; simp only [appLK, ih]; rfl
noncomputable def takeLK {α β : Type} (n : Nat) (l : List α) (K : List α → β) : β :=
  @Nat.rec (fun _ => List α → (List α → β) → β) (fun _ K => K []) (fun _ ih l K => @List.rec α (fun _ => β) (K []) (fun x xs _ => consStep ih K x xs) l) n l K
theorem takeLK_eq {α β : Type} : ∀ (n : Nat) (l : List α) (K : List α → β), takeLK n l K = K (l.take n)
  | 0, l, K => by rw [List.take_zero]; rfl
  | n + 1, [], K => rfl
  | n + 1, x :: xs, K => by
    show takeLK n xs (fun ys => K (x :: ys)) = _
    rw [takeLK_eq n xs]; rfl
noncomputable def cellsK {β : Type} : List Value → (List C → β) → β
  | [], K => K []
  | v :: vs, K => cellsK vs fun cs => match v with
    | .bool b => K (.b true b :: cs)
    | .int k n => K (.i true k n :: cs)
    | .string s => K (.str true s :: cs)
    | v => K (.x v :: cs)
theorem cellsK_eq {β : Type} (l : List Value) : ∀ (K : List C → β), cellsK l K = K (l.map ofCell) := by
  induction l with
  | nil => intros; rfl
  | cons v vs ih => intro K; simp only [cellsK, ih]; cases v <;> rfl

noncomputable def C.storable : C → Bool
  | .x (.agg _) => false
  | .x (.tuple _) => false
  | _ => true

noncomputable def writeLK {β : Type} (cs : List C) (off : Nat) (vs : List C) (K : List C → β) : β := layLK cs off vs K
noncomputable def writeL : List C → Nat → List C → List C
  | cs, _, [] => cs
  | cs, off, v :: vs => writeL (cs.set off v) (off + 1) vs
theorem writeL_lay (vs : List C) : ∀ (cs : List C) (off : Nat), writeL cs off vs = layL cs off vs := by
  induction vs with
  | nil => intros; rfl
  | cons v vs ih => intro cs off; simp only [writeL, layL, ih]
theorem writeLK_eq {β : Type} (vs : List C) : ∀ (cs : List C) (off : Nat) (K : List C → β), writeLK cs off vs K = K (writeL cs off vs) := by
  intro cs off K
  unfold writeLK
  rw [layLK_eq, writeL_lay]
noncomputable def selsK {γ : Type} (cs : List C) (m sz : Nat) (ix : Int) : Nat → Nat → (List C → Option γ) → Option γ
  | 0, _, K => K []
  | n + 1, off, K => gatherK cs sz m off fun l => selK l ix fun c => selsK cs m sz ix n (off + 1) fun r => K (c :: r)
theorem selsK_spec {γ : Type} {cs : List C} {m sz : Nat} {ix : Int} (hi : inB ix m = true) : ∀ (n off : Nat) (K : List C → Option γ) (r : γ), selsK cs m sz ix n off K = some r →
    ∃ l, K l = some r ∧ l.length = n ∧ (∀ N, okL N l = true) ∧ ∀ j c, l[j]? = some c → ∃ c', cs[off + j + ix.toNat * sz]? = some c' ∧ ∀ ρ, c'.den ρ = c.den ρ
  | 0, off, K, r, h => ⟨[], h, rfl, fun _ => rfl, fun j c hc => by simp at hc⟩
  | n + 1, off, K, r, h => by
    simp only [selsK] at h
    obtain ⟨l, h1, h2, h3⟩ := gatherK_spec _ _ _ _ h
    obtain ⟨c, hc, hden, hok⟩ := selK_spec h1 (by rw [h2]; exact hi)
    obtain ⟨l', h4, h5, h6, h7⟩ := selsK_spec hi n (off + 1) _ r hc
    refine ⟨c :: l', h4, by simp [h5], fun N => by simp only [okL, List.all_cons, Bool.and_eq_true]; exact ⟨hok N, h6 N⟩, fun j u hu => ?_⟩
    cases j with
    | zero =>
      simp at hu; subst hu
      have hb := hi
      simp only [inB, Bool.and_eq_true, decide_eq_true_eq] at hb
      obtain ⟨h8, h9⟩ := h3 ix.toNat (by omega)
      obtain ⟨c', hc'⟩ := Option.isSome_iff_exists.1 h9
      refine ⟨c', by simpa using hc', fun ρ => ?_⟩
      have := hden ρ
      rw [h8, hc'] at this
      simpa using this
    | succ j =>
      simp at hu
      obtain ⟨c', h8, h9⟩ := h7 j u hu
      exact ⟨c', by rw [show off + (j + 1) + ix.toNat * sz = off + 1 + j + ix.toNat * sz by omega]; exact h8, h9⟩

noncomputable def upK {γ : Type} (b : Bool) (v old : C) (K : C → Option γ) : Option γ :=
  match v, old with
  | .i _ k x, .i _ k' y => if k = k' then K (.i false k (cond b x y)) else none
  | .b _ x, .b _ y => K (.b false (cond b x y))
  | _, _ => none
theorem upK_spec {γ : Type} {b : Bool} {v old : C} {K : C → Option γ} {r : γ} (h : upK b v old K = some r) : ∃ c, K c = some r ∧ (∀ N, c.ok N = true) ∧ ∀ ρ, c.den ρ = cond b (v.den ρ) (old.den ρ) := by
  unfold upK at h
  split at h
  · split at h
    · rename_i hk
      subst hk
      exact ⟨_, h, fun _ => rfl, fun ρ => by cases b <;> rfl⟩
    · cases h
  · exact ⟨_, h, fun _ => rfl, fun ρ => by cases b <;> rfl⟩
  · cases h
noncomputable def updK {γ : Type} : List C → Nat → Nat → Nat → Nat → Int → C → (List C → Option γ) → Option γ
  | cs, 0, _, _, _, _, _, K => K cs
  | cs, m + 1, off, sz, j, ix, v, K => match cs[off]? with
    | none => none
    | some old => upK (ix == Int.ofNat j) v old fun c => setLK cs off c fun cs' => updK cs' m (off + sz) sz (j + 1) ix v K
theorem denL_set {ρ : Rh} (cs : List C) (i : Nat) (v : C) : denL ρ (cs.set i v) = (denL ρ cs).setIfInBounds i (v.den ρ) := by
  unfold denL
  rw [List.map_set, List.setIfInBounds_toArray]
theorem denL_set_same {ρ : Rh} {cs : List C} {i : Nat} {u v : C} (h : cs[i]? = some u) (e : v.den ρ = u.den ρ) : denL ρ (cs.set i v) = denL ρ cs := by
  rw [denL_set, e]
  apply Array.ext_getElem?
  intro j
  by_cases hj : i = j
  · subst hj
    have hlt : i < cs.length := (List.getElem?_eq_some_iff.1 h).1
    rw [Array.getElem?_setIfInBounds_self]
    have h' := (List.getElem?_eq_some_iff.1 h).2
    simp [denL, hlt, h']
  · rw [Array.getElem?_setIfInBounds_ne hj]
theorem okL_set {n i : Nat} {cs : List C} {v : C} (h : okL n cs = true) (hv : v.ok n = true) : okL n (cs.set i v) = true :=
  List.all_eq_true.2 fun x hx => (List.mem_or_eq_of_mem_set hx).elim (fun hx => List.all_eq_true.1 h x hx) (fun e => e ▸ hv)
theorem updK_spec {γ : Type} {sz : Nat} {ix : Int} {v : C} {K : List C → Option γ} {r : γ} : ∀ (m : Nat) (cs : List C) (off j : Nat), updK cs m off sz j ix v K = some r → 0 ≤ ix →
    ∃ cs', K cs' = some r ∧ cs'.length = cs.length ∧ (∀ N, okL N cs = true → okL N cs' = true) ∧
      ((ix.toNat < j ∨ j + m ≤ ix.toNat) → ∀ ρ, denL ρ cs' = denL ρ cs) ∧
      ((j ≤ ix.toNat ∧ ix.toNat < j + m) → off + (ix.toNat - j) * sz < cs.length ∧ ∀ ρ, denL ρ cs' = denL ρ (cs.set (off + (ix.toNat - j) * sz) v))
  | 0, cs, off, j, h, _ => ⟨cs, h, rfl, fun _ h => h, fun _ _ => rfl, fun h => by omega⟩
  | m + 1, cs, off, j, h, h0 => by
    simp only [updK] at h
    split at h
    · cases h
    rename_i old hold
    obtain ⟨c, hc, hok, hden⟩ := upK_spec h
    rw [setLK_eq] at hc
    obtain ⟨cs', h1, h2, h3, h4, h5⟩ := updK_spec m (cs.set off c) (off + sz) (j + 1) hc h0
    have hoff : off < cs.length := (List.getElem?_eq_some_iff.1 hold).1
    refine ⟨cs', h1, by rw [h2, List.length_set], fun N hN => h3 N (okL_set hN (hok N)), fun hout ρ => ?_, fun hin => ?_⟩
    · have hne : (ix == Int.ofNat j) = false := by
        have : ¬ ix = Int.ofNat j := fun e => by rw [e] at hout; simp at hout; omega
        simpa using this
      rw [h4 (by omega) ρ]
      exact denL_set_same hold (by rw [hden ρ, hne]; rfl)
    · by_cases e : ix.toNat = j
      · have he : (ix == Int.ofNat j) = true := by
          have : ix = Int.ofNat j := by rw [← e]; simp; omega
          simpa using this
        rw [e, Nat.sub_self, Nat.zero_mul, Nat.add_zero]
        refine ⟨hoff, fun ρ => ?_⟩
        rw [h4 (by omega) ρ, denL_set, denL_set, hden ρ, he]; rfl
      · have hne : (ix == Int.ofNat j) = false := by
          have : ¬ ix = Int.ofNat j := fun e' => e (by rw [e']; simp)
          simpa using this
        obtain ⟨h6, h7⟩ := h5 (by omega)
        have ep : off + sz + (ix.toNat - (j + 1)) * sz = off + (ix.toNat - j) * sz := by
          rw [show ix.toNat - j = (ix.toNat - (j + 1)) + 1 by omega, Nat.add_mul]; omega
        rw [ep] at h6 h7
        rw [List.length_set] at h6
        refine ⟨h6, fun ρ => ?_⟩
        rw [h7 ρ, denL_set, denL_set_same hold (by rw [hden ρ, hne]; rfl), ← denL_set]

noncomputable def newS (s : SW) (cs : List C) (ty : TypeId) : Option (SV × SW) :=
  cond (Nat.blt ty MAPTY) (forceN s.length fun n => appLK s ⟨cs, ty⟩ fun s' => some (.c (.p n 0), s')) none

noncomputable def loadS (P : Program) (s : SW) (t : TypeId) (x : SV) : Option (SV × SW) :=
  match x with
  | .c (.p blk off) => (match s[blk]? with
    | none => none
    | some b => match P.underlying t with
      | none => none
      | some d => cond (aggB d)
        (match P.info? t with
          | none => none
          | some i => takeLK i.size (dropR off b.cs) fun l => cond (Nat.beq l.length i.size) (some (.a l, s)) none)
        (match nthR b.cs off with | some c => some (.c c, s) | none => none))
  | .c (.q blk off m sz ix) => (match s[blk]? with
    | none => none
    | some b => match P.underlying t with
      | none => none
      | some d => cond (aggB d)
        (match P.info? t with
          | none => none
          | some i => selsK b.cs m sz ix i.size off fun l => some (.a l, s))
        (gatherK b.cs sz m off fun l => selK l ix fun c => some (.c c, s)))
  | _ => none

noncomputable def storeS (P : Program) (s : SW) (t : TypeId) (x v : SV) : Option (SV × SW) :=
  match x with
  | .c (.p blk off) => (match s[blk]? with
    | none => none
    | some b => match v.cells, P.info? t with
      | some vs, some i => cond (Nat.beq vs.length i.size && vs.all C.storable && lenOK b.cs (off + vs.length))
          (writeLK b.cs off vs fun cs => setLK s blk ⟨cs, b.ty⟩ fun s' => some (undefS, s')) none
      | _, _ => none)
  | .c (.q blk off m sz ix) => (match s[blk]? with
    | none => none
    | some b => match v, P.info? t with
      | .c c, some i => cond (Nat.beq i.size 1 && c.storable) (updK b.cs m off sz 0 ix c fun cs => setLK s blk ⟨cs, b.ty⟩ fun s' => some (undefS, s')) none
      | _, _ => none)
  | _ => none

noncomputable def heapOpA (P : Program) (ev : Operand → Option SV) (s : SW) (op : Op) : Option (SV × SW) :=
  match op with
  | .alloc elem => (match P.info? elem with
    | some i => (match i.zero with
      | some z => cellsK z.cells.toList fun cs => newS s cs elem
      | none => none)
    | none => none)
  | .box elem x => (match ev x with
    | some v => (match v.cells with | some cs => cond (cs.all C.storable) (newS s cs elem) none | none => none)
    | none => none)
  | .load t x => (match ev x with | some v => loadS P s t v | none => none)
  | .store t a x => (match ev a, ev x with | some u, some v => storeS P s t u v | _, _ => none)
  | .buildSlice t len parts => (match P.underlying t with
    | some (.slice elem) => (match P.info? elem with
      | some e => cond (Nat.beq (len * e.size) 0 || Nat.blt (2 ^ 24) (len * e.size)) none (match e.zero with
        | some z => cellsOfK ((List.range (len * e.size)).map fun i => z.cells[i % z.cells.size]!) fun zs => (match evp ev parts.toList with
          | some l => (match fillS (fun i => some (i * e.size, e.size)) zs l with
            | some cs => (match newS s cs elem with | some (.c (.p n off), s') => some (.c (.slc n off len len), s') | _ => none)
            | none => none)
          | none => none)
        | none => none)
      | none => none)
    | _ => none)
  | .call { callee := .builtin .copy, args, argTypes } => (match evs ev args.toList, argTypes[0]? with
    | some [.c (.slc b1 o1 l1 _), .c (.slc b2 o2 l2 _)], some t => (match P.underlying t with
      | some (.slice elem) => (match P.info? elem, s[b2]?, s[b1]? with
        | some e, some src, some dst => forceN (min l2 l1) fun n => takeLK (n * e.size) (src.cs.drop o2) fun cells =>
            cond (Nat.beq cells.length (n * e.size) && cells.all C.storable && Nat.ble (o1 + cells.length) dst.cs.length)
              (writeLK dst.cs o1 cells fun cs => setLK s b1 ⟨cs, dst.ty⟩ fun s' => some (.c (.i true .i64 n), s')) none
        | _, _, _ => none)
      | _ => none)
    | _, _ => none)
  | _ => none

section
variable {P : Program} {ρ : Rh} {E W : World} {L : Nat → Prop} {s : SW} {w : World}

theorem run_load_cell {a : Addr} {v : Value} (h : w.cell? a = some v) : (load a).run P w = .ok v w := by
  simp [load, Sem.run, h]

theorem run_loadCellsFrom (a : Addr) : ∀ (n i : Nat) (acc : Array Value) (vs : List Value), vs.length = n →
    (∀ j v, vs[j]? = some v → w.cell? (a.add (i + j)) = some v) → (loadCellsFrom a i n acc).run P w = .ok (acc ++ vs.toArray) w
  | 0, i, acc, vs, hl, _ => by
    obtain rfl : vs = [] := List.length_eq_zero_iff.1 hl
    simp [loadCellsFrom]
  | n + 1, i, acc, [], hl, _ => by simp at hl
  | n + 1, i, acc, v :: vs, hl, h => by
    have h0 := h 0 v rfl
    simp only [loadCellsFrom, Sem.run_bind]
    rw [run_load_cell (by simpa using h0)]
    simp only [Result.andThen_ok]
    rw [run_loadCellsFrom a n (i + 1) (acc.push v) vs (by simpa using hl) (fun j u hj => by
      have := h (j + 1) u (by simpa using hj)
      rw [show i + 1 + j = i + (j + 1) by omega]; exact this)]
    simp

theorem loadS_sound (hI : Inv E W L ρ s w) {t : TypeId} {x v : SV} {s' : SW} (h : loadS P s t x = some (v, s')) (hx : x.ok s.length = true) :
    s' = s ∧ v.ok s.length = true ∧ (Instr.loadAt t (x.den ρ)).run P w = .ok (v.den ρ) w := by
  unfold loadS at h
  simp only [nthR_eq, dropR_eq] at h
  split at h
  · rename_i blk off
    split at h
    · cases h
    rename_i b hb
    split at h
    · cases h
    rename_i d hd
    simp only [SV.den, C.den, Instr.loadAt, Instr.sureAddr, Sem.run_bind, Sem.run_pure, Result.andThen_ok, loadVar, run_isAgg hd]
    cases ha : aggB d <;> simp only [ha, cond_true, cond_false] at h
    · split at h
      · rename_i c hc
        simp at h; obtain ⟨rfl, rfl⟩ := h
        have := hI.cell hb hc
        refine ⟨rfl, this.2, ?_⟩
        simp only [Bool.false_eq_true, if_false]
        exact run_load_cell this.1
      · cases h
    · split at h
      · cases h
      rename_i i hi
      rw [takeLK_eq] at h
      cases hl : Nat.beq ((b.cs.drop off).take i.size).length i.size <;> simp only [hl, cond_true, cond_false] at h
      · cases h
      · simp at h; obtain ⟨rfl, rfl⟩ := h
        have hl' := Nat.eq_of_beq_eq_true hl
        refine ⟨rfl, List.all_eq_true.2 fun c hc => List.all_eq_true.1 (hI.okc blk b hb) c (List.mem_of_mem_drop (List.mem_of_mem_take hc)), ?_⟩
        simp only [if_true, Sem.run_bind, run_sizeOf hi, Result.andThen_ok, loadCells]
        rw [run_loadCellsFrom (w := w) (P := P) ⟨ρ blk, off, none⟩ i.size 0 #[] (((b.cs.drop off).take i.size).map (C.den ρ)) (by rw [List.length_map]; exact hl') (fun j u hj => by
          rw [List.getElem?_map] at hj
          cases hc : ((b.cs.drop off).take i.size)[j]? with
          | none => rw [hc] at hj; simp at hj
          | some c =>
            rw [hc] at hj; simp at hj; subst hj
            have hj' : j < i.size := by
              have := (List.getElem?_eq_some_iff.1 hc).1
              simp at this; omega
            rw [List.getElem?_take_of_lt hj', List.getElem?_drop] at hc
            rw [Nat.zero_add, Addr.add_lit]
            exact (hI.cell hb hc).1)]
        simp [denL]
  · rename_i blk off m sz ix
    split at h
    · cases h
    rename_i b hb
    split at h
    · cases h
    rename_i d hd
    have hin : inB ix m = true := by
      simp only [SV.ok, C.ok, Bool.and_eq_true] at hx; exact hx.2
    have hbd := inB_spec hin
    simp only [SV.den, C.den, Instr.loadAt, Instr.sureAddr, Sem.run_bind, Sem.run_pure, Result.andThen_ok, loadVar, run_isAgg hd]
    cases ha : aggB d <;> simp only [ha, cond_true, cond_false] at h
    · obtain ⟨l, h1, h2, h3⟩ := gatherK_spec _ _ _ _ h
      obtain ⟨c, hc, hden, hok⟩ := selK_spec h1 (by rw [h2]; exact hin)
      simp at hc; obtain ⟨rfl, rfl⟩ := hc
      obtain ⟨h4, h5⟩ := h3 ix.toNat (by omega)
      obtain ⟨c', hc'⟩ := Option.isSome_iff_exists.1 h5
      have hdc := hden ρ
      rw [h4, hc'] at hdc
      simp at hdc
      refine ⟨rfl, hok _, ?_⟩
      simp only [Bool.false_eq_true, if_false]
      have := (hI.cell hb hc').1
      rw [hdc] at this
      exact run_load_cell this
    · split at h
      · cases h
      rename_i i hi
      obtain ⟨l, h1, h2, h3, h4⟩ := selsK_spec hin _ _ _ _ h
      simp at h1; obtain ⟨rfl, rfl⟩ := h1
      refine ⟨rfl, h3 _, ?_⟩
      simp only [if_true, Sem.run_bind, run_sizeOf hi, Result.andThen_ok, loadCells]
      rw [run_loadCellsFrom (w := w) (P := P) ⟨ρ blk, off + ix.toNat * sz, none⟩ i.size 0 #[] (l.map (C.den ρ)) (by rw [List.length_map]; exact h2) (fun j u hj => by
        rw [List.getElem?_map] at hj
        cases hc : l[j]? with
        | none => rw [hc] at hj; simp at hj
        | some c =>
          rw [hc] at hj; simp at hj; subst hj
          obtain ⟨c', h5, h6⟩ := h4 j c hc
          rw [Nat.zero_add, Addr.add_lit, show off + ix.toNat * sz + j = off + j + ix.toNat * sz by omega, ← h6 ρ]
          exact (hI.cell hb h5).1)]
      simp [denL]
  · cases h

theorem C.storable_one {c : C} (h : c.storable = true) : (c.den ρ).oneCell' = true := by
  cases c with
  | x v => cases v <;> simp_all [C.storable, C.den, Value.oneCell']
  | rn b z n => simp only [C.den]; split <;> rfl
  | clo f l => cases hb : Nat.blt f CLOB <;> simp [C.den, cloV, hb, Value.oneCell']
  | _ => rfl

theorem run_store_cell {a : Addr} {v u : Value} (h : w.cell? a = some u) (hf : w.frozen? a = false) (hv : v.oneCell' = true) :
    (store a v).run P w = .ok () (w.setCell a v) := by
  cases v <;> simp_all [store, Sem.run, Value.oneCell']

theorem storeCells_sound : ∀ (vs : List C) (s : SW) (w : World) (blk off : Nat) (b : Bl) (i : Nat), Inv E W L ρ s w → s[blk]? = some b → vs.all C.storable = true →
    off + i + vs.length ≤ b.cs.length → okL s.length vs = true →
    ∃ w', (storeCells ⟨ρ blk, off, none⟩ (vs.map (C.den ρ)) i).run P w = .ok () w' ∧ Inv E W L ρ (s.set blk ⟨writeL b.cs (off + i) vs, b.ty⟩) w'
  | [], s, w, blk, off, b, i, hI, hb, _, _, _ => by
    refine ⟨w, by simp [storeCells], ?_⟩
    have : s.set blk ⟨writeL b.cs (off + i) [], b.ty⟩ = s := by
      obtain ⟨hlt, he⟩ := List.getElem?_eq_some_iff.1 hb
      simp only [writeL]
      rw [← he, List.set_getElem_self]
    rw [this]; exact hI
  | v :: vs, s, w, blk, off, b, i, hI, hb, hst, hle, hok => by
    simp only [List.all_cons, Bool.and_eq_true] at hst
    simp only [List.length_cons] at hle
    have hoff : off + i < b.cs.length := by omega
    have hokv : v.ok s.length = true ∧ okL s.length vs = true := by simpa [okL] using hok
    have hc := (hI.cell hb (List.getElem?_eq_getElem hoff)).1
    have hf := hI.thawed (off := off + i) hb hoff
    have h1 := run_store_cell (P := P) hc hf (C.storable_one (ρ := ρ) hst.1)
    have hI1 := hI.store hb hoff hokv.1
    have hblk : blk < s.length := (List.getElem?_eq_some_iff.1 hb).1
    obtain ⟨w', hr, hI'⟩ := storeCells_sound vs (s.set blk ⟨b.cs.set (off + i) v, b.ty⟩) _ blk off ⟨b.cs.set (off + i) v, b.ty⟩ (i + 1) hI1
      (by rw [List.getElem?_set_self hblk]) hst.2 (by simp only [List.length_set]; omega) (by rw [List.length_set]; exact hokv.2)
    refine ⟨w', ?_, ?_⟩
    · simp only [List.map_cons, storeCells, Sem.run_bind]
      rw [show (⟨ρ blk, off, none⟩ : Addr).add i = ⟨ρ blk, off + i, none⟩ from Addr.add_lit _ _ _, h1]
      exact hr
    · rw [List.set_set] at hI'
      exact hI'

theorem cells_den {v : SV} {vs : List C} (h : v.cells = some vs) : (v.den ρ).cells = denL ρ vs ∨ ∃ u, v = .c (.x u) := by
  cases v with
  | c x =>
    cases x with
    | x u => exact .inr ⟨u, rfl⟩
    | rn b z n =>
      simp [SV.cells] at h; subst h; left
      have e : ∀ v : Value, (∀ cs, v ≠ .agg cs) → v.cells = #[v] := by intro v hv; cases v <;> first | rfl | exact absurd rfl (hv _)
      show ((C.rn b z n).den ρ).cells = #[(C.rn b z n).den ρ]
      refine e _ fun cs hc => ?_
      simp only [C.den] at hc
      split at hc <;> cases hc
    | clo f l =>
      simp [SV.cells] at h; subst h; left
      cases hb : Nat.blt f CLOB <;> simp [SV.den, C.den, cloV, hb, Value.cells, denL]
    | _ => simp [SV.cells] at h; subst h; left; rfl
  | a l => simp [SV.cells] at h; subst h; left; rfl
  | t l => simp [SV.cells] at h
  | any => simp [SV.cells] at h

theorem cells_den' {v : SV} {vs : List C} (h : v.cells = some vs) (hs : vs.all C.storable = true) : (v.den ρ).cells = denL ρ vs := by
  rcases cells_den (ρ := ρ) h with h' | ⟨u, rfl⟩
  · exact h'
  · simp [SV.cells] at h; subst h
    cases u <;> simp_all [C.storable, SV.den, C.den, Value.cells, denL]

theorem cells_ok {v : SV} {vs : List C} {n : Nat} (h : v.cells = some vs) (hv : v.ok n = true) : okL n vs = true := by
  cases v with
  | c x => simp [SV.cells] at h; subst h; simpa [okL, SV.ok] using hv
  | a l => simp [SV.cells] at h; subst h; exact hv
  | t l => simp [SV.cells] at h
  | any => simp [SV.cells] at h

theorem Inv.redo {E W : World} {L : Nat → Prop} {ρ : Rh} {s : SW} {w : World} (h : Inv E W L ρ s w) {blk : Nat} {b : Bl} (hb : s[blk]? = some b) {cs' : List C}
    (he : ∀ ρ, denL ρ b.cs = denL ρ cs') (hok : okL s.length cs' = true) : Inv E W L ρ (s.set blk ⟨cs', b.ty⟩) w := by
  have hblk : blk < s.length := (List.getElem?_eq_some_iff.1 hb).1
  have hmap : b.cs.map (C.den ρ) = cs'.map (C.den ρ) := by have := he ρ; simpa [denL] using this
  have hlen : b.cs.length = cs'.length := by have := congrArg List.length hmap; simpa using this
  have lv : ∀ i, live (s.set blk ⟨cs', b.ty⟩) i → live s i := by
    rintro i ⟨c, hc, hn⟩
    by_cases e : blk = i
    · subst e
      rw [List.getElem?_set_self hblk] at hc
      simp at hc; subst hc
      refine ⟨b, hb, hn.imp (fun hne e => hne ?_) id⟩
      rw [e] at hlen; exact List.length_eq_zero_iff.1 hlen.symm
    · rw [List.getElem?_set_ne e] at hc
      exact ⟨c, hc, hn⟩
  refine ⟨fun i c hc => ?_, fun i c hc => ?_, fun i j hi hj => h.inj i j (lv i hi) (lv j hj), h.grow, h.old, fun i h1 h2 => h.fresh i (lv i h1) h2, h.frz, h.os, h.out, h.tape, by rw [List.length_set]; exact h.ext⟩
  · by_cases e : blk = i
    · subst e
      rw [List.getElem?_set_self hblk] at hc
      simp at hc; subst hc
      rcases h.blk blk b hb with ⟨ht, h0, r, h1, h2⟩ | ⟨ht, h1, h2⟩ | ⟨ht, h1, h2⟩
      · exact HasB.of ht ⟨r, by rw [← hmap]; exact h1, by rw [← hlen]; exact h2⟩
      · exact .inr (.inl ⟨ht, by rw [h1] at hlen; exact List.length_eq_zero_iff.1 hlen.symm, h2⟩)
      · exact .inr (.inr ⟨ht, by rw [h1] at hlen; exact List.length_eq_zero_iff.1 hlen.symm, h2⟩)
    · rw [List.getElem?_set_ne e] at hc
      exact h.blk i c hc
  · rw [List.length_set]
    by_cases e : blk = i
    · subst e
      rw [List.getElem?_set_self hblk] at hc
      simp at hc; subst hc
      exact hok
    · rw [List.getElem?_set_ne e] at hc
      exact h.okc i c hc

theorem storeS_sound (hI : Inv E W L ρ s w) {t : TypeId} {x v u : SV} {s' : SW} (h : storeS P s t x v = some (u, s')) (hx : x.ok s.length = true) (hv : v.ok s.length = true) :
    u = undefS ∧ s'.length = s.length ∧ ∃ w', (Instr.storeAt t (x.den ρ) (v.den ρ)).run P w = .ok () w' ∧ Inv E W L ρ s' w' := by
  unfold storeS at h
  simp only [lenOK_eq] at h
  split at h
  · rename_i blk off
    split at h
    · cases h
    rename_i b hb
    split at h
    · rename_i vs i hvs hi
      cases hc : Nat.beq vs.length i.size && vs.all C.storable && Nat.ble (off + vs.length) b.cs.length <;> simp only [hc, cond_true, cond_false] at h
      · cases h
      · rw [writeLK_eq, setLK_eq] at h
        simp at h; obtain ⟨rfl, rfl⟩ := h
        simp only [Bool.and_eq_true] at hc
        obtain ⟨⟨h1, h2⟩, h3⟩ := hc
        have h1' := Nat.eq_of_beq_eq_true h1
        obtain ⟨w', hr, hI'⟩ := storeCells_sound (P := P) vs s w blk off b 0 hI hb h2 (by have := Nat.le_of_ble_eq_true h3; omega) (cells_ok hvs hv)
        refine ⟨rfl, by simp, w', ?_, hI'⟩
        have hcells := cells_den' (ρ := ρ) hvs h2
        show (Instr.storeAt t (.pointer (some ⟨ρ blk, off, none⟩)) (v.den ρ)).run P w = _
        simp only [Instr.storeAt, Instr.sureAddr, Sem.run_bind, Sem.run_pure, Result.andThen_ok, storeVar, hcells, run_sizeOf hi]
        have : (denL ρ vs).size = i.size := by simp [denL, h1']
        simp only [this, ne_eq, not_true_eq_false, if_false]
        simpa [denL] using hr
    · cases h
  · rename_i blk off m sz ix
    split at h
    · cases h
    rename_i b hb
    split at h
    · rename_i _ _ c i hi
      cases hc : Nat.beq i.size 1 && c.storable <;> simp only [hc, cond_true, cond_false] at h
      · cases h
      · have hin : inB ix m = true := by
          simp only [SV.ok, C.ok, Bool.and_eq_true] at hx; exact hx.2
        have hbd := inB_spec hin
        simp only [Bool.and_eq_true] at hc
        obtain ⟨h1, h2⟩ := hc
        have h1' := Nat.eq_of_beq_eq_true h1
        obtain ⟨cs', h3, h4, h5, _, h6⟩ := updK_spec m b.cs off 0 h hbd.1
        rw [setLK_eq] at h3
        simp at h3; obtain ⟨rfl, rfl⟩ := h3
        obtain ⟨h7, h8⟩ := h6 (by omega)
        rw [Nat.sub_zero] at h7 h8
        have hce := (hI.cell hb (List.getElem?_eq_getElem h7)).1
        have hf := hI.thawed (off := off + ix.toNat * sz) hb h7
        have hr := run_store_cell (P := P) hce hf (C.storable_one (ρ := ρ) h2)
        have hI1 := hI.store hb h7 hv
        have hblk : blk < s.length := (List.getElem?_eq_some_iff.1 hb).1
        refine ⟨rfl, by simp, w.setCell ⟨ρ blk, off + ix.toNat * sz, none⟩ (c.den ρ), ?_, ?_⟩
        · show (Instr.storeAt t (.pointer (some ⟨ρ blk, off + ix.toNat * sz, none⟩)) (c.den ρ)).run P w = .ok () (w.setCell ⟨ρ blk, off + ix.toNat * sz, none⟩ (c.den ρ))
          have hcells : (c.den ρ).cells = denL ρ [c] := cells_den' (v := .c c) (ρ := ρ) rfl (by simp [h2])
          have hsz : (denL ρ [c]).size = i.size := by rw [h1']; rfl
          simp only [Instr.storeAt, Instr.sureAddr, Sem.run_bind, Sem.run_pure, Result.andThen_ok, storeVar, hcells, run_sizeOf hi, hsz, ne_eq, not_true_eq_false, if_false]
          simp only [denL, List.map_cons, List.map_nil, storeCells, Sem.run_bind]
          rw [show (⟨ρ blk, off + ix.toNat * sz, none⟩ : Addr).add 0 = ⟨ρ blk, off + ix.toNat * sz, none⟩ from Addr.add_lit _ _ _, hr]
          simp
        · have hI2 := hI1.redo (blk := blk) (b := ⟨b.cs.set (off + ix.toNat * sz) c, b.ty⟩) (by rw [List.getElem?_set_self hblk]) (cs' := cs') (fun ρ => (h8 ρ).symm) (by
            rw [List.length_set]; exact h5 _ (hI.okc blk b hb))
          rw [List.set_set] at hI2
          exact hI2
    · cases h
  · cases h

theorem newS_sound (hI : Inv E W L ρ s w) {cs : List C} {ty : TypeId} {v : SV} {s' : SW} (h : newS s cs ty = some (v, s')) (hcs : okL s.length cs = true) :
    ∃ ρ' w', Agree s.length ρ ρ' ∧ s.length ≤ s'.length ∧ v.ok s'.length = true ∧ v.den ρ' = .pointer (some ⟨w.heap.size, 0, none⟩) ∧
      w' = { w with heap := w.heap.push (.cells (denL ρ cs) ty) } ∧ Inv E W L ρ' s' w' := by
  unfold newS at h
  cases hty : Nat.blt ty MAPTY <;> simp only [hty, cond_true, cond_false] at h
  · cases h
  rw [forceN_eq, appLK_eq] at h
  simp at h; obtain ⟨rfl, rfl⟩ := h
  obtain ⟨ρ', hag, hn, hI'⟩ := hI.alloc cs ty hty hcs
  refine ⟨ρ', _, hag, by simp, ?_, by simp [SV.den, C.den, hn], rfl, hI'⟩
  simp [SV.ok, C.ok]

theorem heapOpA_sound (hI : Inv E W L ρ s w) {ev : Operand → Option SV} {val : Operand → Value} (hv : ∀ x y, ev x = some y → val x = y.den ρ ∧ y.ok s.length = true)
    {o : Oper} {v : SV} {s' : SW} (h : heapOpA P ev s o.op = some (v, s')) :
    ∃ ρ' w' nx, Agree s.length ρ ρ' ∧ s.length ≤ s'.length ∧ v.ok s'.length = true ∧ (execOp val o).run P w = .ok nx w' ∧ Inv E W L ρ' s' w' ∧
      (nx = .value (v.den ρ') ∨ (nx = .skip ∧ v = undefS)) := by
  obtain ⟨dst, op, type, pos, after, guard⟩ := o
  unfold heapOpA at h
  simp only at h
  split at h
  · rename_i elem
    split at h
    · rename_i i hi
      split at h
      · rename_i z hz
        rw [cellsK_eq] at h
        obtain ⟨ρ', w', hag, hle, hok, hd, hw, hI'⟩ := newS_sound hI h (okL_ofCell _ _)
        refine ⟨ρ', w', _, hag, hle, hok, ?_, hI', .inl rfl⟩
        rw [denL_ofCell] at hw
        simp only [execOp, Sem.run_bind, Instr.alloc, zeroValue, typeInfo, run_program, Result.andThen_ok, hi, Sem.run_pure, hz, newVar, newRow, run_newObj, hd, hw]
      · cases h
    · cases h
  · split at h
    · rename_i elem x _ v' hx
      split at h
      · rename_i cs hcs
        cases hst : cs.all C.storable <;> simp only [hst, cond_true, cond_false] at h
        · cases h
        have h1 := hv _ _ hx
        obtain ⟨ρ', w', hag, hle, hok, hd, hw, hI'⟩ := newS_sound hI h (cells_ok hcs h1.2)
        refine ⟨ρ', w', _, hag, hle, hok, ?_, hI', .inl rfl⟩
        have hc : (val x).cells = denL ρ cs := by rw [h1.1]; exact cells_den' hcs hst
        simp only [execOp, Sem.run_bind, Instr.box, newVar, newRow, run_newObj, Result.andThen_ok, Sem.run_pure, hc, hd, hw]
      · cases h
    · cases h
  · split at h
    · rename_i t x _ v' hx
      have h1 := hv _ _ hx
      obtain ⟨rfl, hok, hr⟩ := loadS_sound hI h h1.2
      refine ⟨ρ, w, _, Agree.refl _ _, Nat.le_refl _, hok, ?_, hI, .inl rfl⟩
      simp only [execOp, Sem.run_bind, h1.1, hr, Result.andThen_ok, Sem.run_pure]
    · cases h
  · split at h
    · rename_i t a x _ _ u v' ha hx
      have h1 := hv _ _ ha; have h2 := hv _ _ hx
      obtain ⟨rfl, hlen, w', hr, hI'⟩ := storeS_sound hI h h1.2 h2.2
      refine ⟨ρ, w', .skip, Agree.refl _ _, by omega, undefS_ok _, ?_, hI', .inr ⟨rfl, rfl⟩⟩
      simp only [execOp, Sem.run_bind, h1.1, h2.1, hr, Result.andThen_ok, Sem.run_pure]
    · cases h
  · rename_i t len parts
    split at h
    · rename_i elem hu
      split at h
      · rename_i e he
        cases hz : (Nat.beq (len * e.size) 0 || Nat.blt (2 ^ 24) (len * e.size)) <;> simp only [hz, cond_true, cond_false] at h
        · split at h
          · rename_i z hze
            rw [cellsOfK_eq] at h
            split at h
            · rename_i l hl
              obtain ⟨hm, ho⟩ := evp_sound hv _ _ hl
              split at h
              · rename_i cs hcs
                obtain ⟨h1, h2⟩ := fillS_sound (n := s.length) (ρ := ρ) l _ cs hcs (okL_ofCell _ _) ho
                split at h
                · rename_i n off s1 hn
                  simp at h; obtain ⟨rfl, rfl⟩ := h
                  obtain ⟨ρ', w', hag, hle, hok, hd, hw, hI'⟩ := newS_sound hI hn h2
                  refine ⟨ρ', w', _, hag, hle, hok, ?_, hI', .inl rfl⟩
                  simp only [Bool.or_eq_false_iff] at hz
                  have hz1 : ¬ (len * e.size = 0) := fun e0 => by rw [e0] at hz; simp at hz
                  have hz2 : ¬ (len * e.size > 2 ^ 24) := fun e0 => by
                    have := Nat.ble_eq_true_of_le (show 2 ^ 24 + 1 ≤ len * e.size from e0)
                    have h3 : Nat.blt (2 ^ 24) (len * e.size) = true := this
                    rw [h3] at hz; simp at hz
                  have hparts : (parts.map fun (x : Nat × Operand) => match x with | (i, x) => (i, val x)).toList = l.map fun p => (p.1, p.2.den ρ) := by
                    rw [Array.toList_map]; exact hm
                  have hzc : (Array.range (len * e.size)).map (fun i => z.cells[i % z.cells.size]!) = denL ρ (((List.range (len * e.size)).map fun i => z.cells[i % z.cells.size]!).map ofCell) := by
                    rw [denL_ofCell]
                    apply Array.ext'
                    simp
                  have hd' : ρ' n = w.heap.size ∧ off = 0 := by
                    simpa [SV.den, C.den] using hd
                  simp only [execOp]
                  simp only [Sem.run_bind, Instr.buildSlice, run_underlying hu, Result.andThen_ok, run_sizeOf he, if_neg hz1, if_neg hz2, zeroValue, typeInfo, run_program, he, hze, Sem.run_pure, hparts, hzc, h1, newRow, run_newObj]
                  rw [hw]
                  simp [SV.den, C.den, hd'.1, hd'.2]
                · cases h
              · cases h
            · cases h
          · cases h
        · cases h
      · cases h
    · cases h
  · rename_i args argTypes
    split at h
    · rename_i b1 o1 l1 c1 b2 o2 l2 c2 t hargs ht
      obtain ⟨ha, hok⟩ := evs_sound hv _ _ hargs
      split at h
      · rename_i elem hu
        split at h
        · rename_i e src dst he hb2 hb1
          rw [forceN_eq, takeLK_eq] at h
          cases hc : (Nat.beq ((src.cs.drop o2).take (min l2 l1 * e.size)).length (min l2 l1 * e.size) && ((src.cs.drop o2).take (min l2 l1 * e.size)).all C.storable && Nat.ble (o1 + ((src.cs.drop o2).take (min l2 l1 * e.size)).length) dst.cs.length) <;>
            simp only [hc, cond_true, cond_false] at h
          · cases h
          · rw [writeLK_eq, setLK_eq] at h
            simp at h; obtain ⟨rfl, rfl⟩ := h
            simp only [Bool.and_eq_true] at hc
            obtain ⟨⟨h1, h2⟩, h3⟩ := hc
            have h1' := Nat.eq_of_beq_eq_true h1
            have hcl : okL s.length ((src.cs.drop o2).take (min l2 l1 * e.size)) = true :=
              List.all_eq_true.2 fun c hc => List.all_eq_true.1 (hI.okc b2 src hb2) c (List.mem_of_mem_drop (List.mem_of_mem_take hc))
            obtain ⟨w', hr, hI'⟩ := storeCells_sound (P := P) _ s w b1 o1 dst 0 hI hb1 h2 (by have := Nat.le_of_ble_eq_true h3; omega) hcl
            have hload : (loadCells (⟨ρ b2, o2, none⟩ : Addr) (min l2 l1 * e.size)).run P w = .ok (((src.cs.drop o2).take (min l2 l1 * e.size)).map (C.den ρ)).toArray w := by
              unfold loadCells
              rw [run_loadCellsFrom (w := w) (P := P) ⟨ρ b2, o2, none⟩ (min l2 l1 * e.size) 0 #[] (((src.cs.drop o2).take (min l2 l1 * e.size)).map (C.den ρ)) (by rw [List.length_map]; exact h1') (fun j u hj => by
                rw [List.getElem?_map] at hj
                cases hc : ((src.cs.drop o2).take (min l2 l1 * e.size))[j]? with
                | none => rw [hc] at hj; simp at hj
                | some c =>
                  rw [hc] at hj; simp at hj; subst hj
                  have hj' : j < min l2 l1 * e.size := by
                    have := (List.getElem?_eq_some_iff.1 hc).1
                    simp at this; omega
                  rw [List.getElem?_take_of_lt hj', List.getElem?_drop] at hc
                  rw [Nat.zero_add, Addr.add_lit]
                  exact (hI.cell hb2 hc).1)]
              simp
            refine ⟨ρ, w', _, Agree.refl _ _, by simp, rfl, ?_, hI', .inl rfl⟩
            have hav : args.map val = #[.slice (some ⟨ρ b1, o1, none⟩) l1 c1, .slice (some ⟨ρ b2, o2, none⟩) l2 c2] := by
              apply Array.ext'
              rw [Array.toList_map, ha]; rfl
            have hlen : (Builtin.lenOf (.slice (some ⟨ρ b2, o2, none⟩) l2 c2)).run P w = .ok l2 w := rfl
            have hcp : (Builtin.copy_ argTypes type #[.slice (some ⟨ρ b1, o1, none⟩) l1 c1, .slice (some ⟨ρ b2, o2, none⟩) l2 c2]).run P w = .ok (goInt (min l2 l1 : Nat)) w' := by
              simp only [Builtin.copy_, ht, List.getElem?_toArray, List.getElem?_cons_zero, List.getElem?_cons_succ, Sem.run_bind, run_underlying hu, Result.andThen_ok, hlen, run_sizeOf he, Builtin.firstCells]
              have hm : Nat.min l2 l1 = min l2 l1 := rfl
              rw [hm, hload]
              simp only [Result.andThen_ok]
              have hr' : (storeCells (⟨ρ b1, o1, none⟩ : Addr) (((src.cs.drop o2).take (min l2 l1 * e.size)).map (C.den ρ)) 0).run P w = .ok () w' := hr
              simp only [Sem.run_bind, hr', Result.andThen_ok, Sem.run_pure]
            simp only [execOp, resolve, Sem.run_bind, Sem.run_pure, Result.andThen_ok, invoke, hav, builtin, hcp]
            rfl
        · cases h
      · cases h
    · cases h
  · cases h
end
section
noncomputable def viewK {γ : Type} (s : SW) (sz : Nat) (x : SV) (K : Nat → List C → Option γ) : Option γ :=
  match x with
  | .c (.slc b o n _) => (match s[b]? with
    | none => none
    | some bl => takeLK (n * sz) (bl.cs.drop o) fun l => cond (Nat.beq l.length (n * sz)) (K n l) none)
  | .c (.sla b o n _) => (match s[b]? with
    | none => none
    | some bl => takeLK (n * sz) (bl.cs.drop o) fun l => cond (Nat.beq l.length (n * sz)) (K n l) none)
  | _ => none
noncomputable def appLLK {β : Type} : List C → List C → (List C → β) → β
  | [], ys, K => K ys
  | x :: xs, ys, K => appLLK xs ys fun l => K (x :: l)
theorem appLLK_eq {β : Type} : ∀ (xs ys : List C) (K : List C → β), appLLK xs ys K = K (xs ++ ys)
  | [], _, _ => rfl
  | x :: xs, ys, K => by simp only [appLLK, appLLK_eq xs]; rfl
noncomputable def newA (s : SW) (cs : List C) (ty : TypeId) (n sz : Nat) : Option (SV × SW) :=
  cond (Nat.blt ty MAPTY) (forceN s.length fun m => forceN n fun n => appLK s ⟨cs, ty⟩ fun s' => some (.c (.sla m 0 n sz), s')) none
noncomputable def appendS (P : Program) (s : SW) (t : TypeId) (v x : SV) : Option (SV × SW) :=
  match P.underlying t with
  | some (.slice elem) => (match P.info? elem with
    | none => none
    | some e => (match e.zero with
      | none => none
      | some z => cond (Nat.beq z.cells.size e.size && Nat.blt 0 e.size)
        (viewK s e.size x fun n news => cond (news.all C.storable && Nat.blt 0 n) (match v with
          | .c (.x (.slice none _ _)) => cond (isNil0 v && Nat.ble n (2 ^ 40) && Nat.ble (n * e.bytes) (2 ^ 40)) (newA s news elem n e.size) none
          | .c (.slc b off len cap) => (match s[b]? with
            | none => none
            | some bl => cond (Nat.ble (len + n) cap)
              (cond (Nat.ble (off + (len + n) * e.size) bl.cs.length) (forceN (len + n) fun m => writeLK bl.cs (off + len * e.size) news fun cs => setLK s b ⟨cs, bl.ty⟩ fun s' => some (.c (.slc b off m cap), s')) none)
              (takeLK (len * e.size) (bl.cs.drop off) fun olds => cond (Nat.beq olds.length (len * e.size) && Nat.ble (len + n) (2 ^ 40) && Nat.ble ((len + n) * e.bytes) (2 ^ 40))
                (appLLK olds news fun cs => newA s cs elem (len + n) e.size) none))
          | .c (.sla b off len sz) => (match s[b]? with
            | none => none
            | some bl => takeLK (len * e.size) bl.cs fun olds => cond (Nat.beq off 0 && Nat.beq sz e.size && Nat.beq olds.length (len * e.size) && Nat.beq bl.ty elem && Nat.blt 0 len && Nat.ble (len + n) (2 ^ 40) && Nat.ble ((len + n) * e.bytes) (2 ^ 40))
                (appLLK olds news fun cs => setLK s b ⟨[], bl.ty⟩ fun s1 => newA s1 cs elem (len + n) e.size) none)
          | _ => none) none) none))
  | _ => none
where isNil0 : SV → Bool | .c (.x (.slice none 0 0)) => true | _ => false
noncomputable def makeS (P : Program) (s : SW) (t : TypeId) (l c : SV) : Option (SV × SW) :=
  match P.underlying t, l, c with
  | some (.slice elem), .c (.i true _ l), .c (.i true _ c) => (match P.info? elem with
    | none => none
    | some e => (match e.zero with
      | none => none
      | some z => cond (decide (0 ≤ l) && decide (l ≤ c) && decide (c ≤ 2 ^ 30) && Nat.ble (e.bytes * c.toNat) (2 ^ 40) && Nat.blt 0 e.size && Nat.blt elem MAPTY)
        (forceN (c.toNat * e.size) fun n => cellsOfK ((List.range n).map fun i => z.cells[i % z.cells.size]!) fun cs => forceN s.length fun m => forceN l.toNat fun l' => forceN c.toNat fun c' => appLK s ⟨cs, elem⟩ fun s' => some (.c (.slc m 0 l' c'), s')) none))
  | _, _, _ => none
noncomputable def makeT (P : Program) (s : SW) (t : TypeId) (l c : SV) : Option (SV × SW) :=
  match c with
  | .c (.i true _ n) => cond (decide (256 < n)) none (makeS P s t l c)
  | c => makeS P s t l c
theorem makeT_some {P : Program} {s : SW} {t : TypeId} {l c : SV} {r : SV × SW} (h : makeT P s t l c = some r) : makeS P s t l c = some r := by
  unfold makeT at h
  split at h
  · rename_i n
    cases hc : decide (256 < n) <;> simp only [hc, cond_true, cond_false] at h
    · exact h
    · cases h
  · exact h
noncomputable def heapOpB (P : Program) (ev : Operand → Option SV) (s : SW) (op : Op) : Option (SV × SW) :=
  match op with
  | .call { callee := .builtin .append, args, argTypes } => (match evs ev args.toList, argTypes.toList with
    | some [v, x], [t, t'] => cond (Nat.beq t t') (appendS P s t v x) none
    | _, _ => none)
  | .makeSlice t l c => (match ev l, ev c with | some l, some c => makeT P s t l c | _, _ => none)
  | _ => none
noncomputable def bytesK {γ : Type} : List C → (Bool → List Int → Option γ) → Option γ
  | [], K => K true []
  | .i l .u8 n :: r, K => bytesK r fun l' ns => K (l && l') (n :: ns)
  | _, _ => none
noncomputable def bytesN (ns : List Int) : ByteArray := ⟨(ns.map fun n => UInt8.ofNat n.toNat).toArray⟩
theorem bytesK_spec {γ : Type} : ∀ (cs : List C) (K : Bool → List Int → Option γ) (r : γ), bytesK cs K = some r → ∃ l ns, K l ns = some r ∧ ∀ ρ, cs.map (C.den ρ) = ns.map (Value.int .u8)
  | [], K, r, h => ⟨true, [], h, fun _ => rfl⟩
  | c :: cs, K, r, h => by
    cases c with
    | i l k n =>
      cases k <;> simp only [bytesK] at h <;> first | (cases h; done) | skip
      obtain ⟨l', ns, h1, h2⟩ := bytesK_spec cs _ r h
      exact ⟨_, _, h1, fun ρ => by simp only [List.map_cons, h2 ρ, C.den]⟩
    | _ => cases h
theorem foldl_push (ns : List Int) : ∀ r : ByteArray, ns.foldl (fun r n => r.push (UInt8.ofNat n.toNat)) r = ⟨r.data ++ (ns.map fun n => UInt8.ofNat n.toNat).toArray⟩ := by
  induction ns with
  | nil => intro r; simp
  | cons n ns ih =>
    intro r
    rw [List.foldl_cons, ih]
    cases r
    simp [ByteArray.push]
noncomputable def bytesS (s : SW) (x : SV) : Option (SV × SW) :=
  match x with
  | .c (.x (.slice none _ _)) => some (.c (.str true .empty), s)
  | x => viewK s 1 x fun _ l => bytesK l fun lit ns => cond lit (some (.c (.str true (bytesN ns)), s)) (forceN ns.length fun n => some (.c (.strn n (bytesN ns)), s))
noncomputable def heapOpC (P : Program) (ev : Operand → Option SV) (s : SW) (op : Op) : Option (SV × SW) :=
  match op with
  | .convert src dst x => (match ev x, P.underlying src, P.underlying dst with
    | some x, some (.slice e), some .string => (match P.underlying e with | some (.int .u8) => bytesS s x | _ => none)
    | _, _, _ => none)
  | .slice t x lo hi none => (match ev x, P.underlying t with
    | some (.c (.sla blk off len sz)), some (.slice elem) => (match P.info? elem, s[blk]? with
      | some e, some b => cond (Nat.beq e.size sz && Nat.blt 0 sz && Nat.beq (off % sz) 0) (match bndR (hi.map ev) len b.cs.length with
        | some h => (match bndR (lo.map ev) 0 h with
          | some l => cond (Nat.ble (off + h * sz) b.cs.length && Nat.blt 0 b.cs.length && (Nat.beq l 0 || Nat.blt l h)) (forceN (off + l * sz) fun o => forceN (h - l) fun n => some (.c (.sla blk o n sz), s)) none
          | none => none)
        | none => none) none
      | _, _ => none)
    | _, _ => none)
  | _ => none
noncomputable def lookI : List (Nat × Nat) → Int → Int
  | [], _ => 0
  | (a, b) :: r, k => cond (decide (k = (a : Int))) (b : Int) (lookI r k)
noncomputable def lookB : List (Nat × Nat) → Int → Bool
  | [], _ => false
  | (a, _) :: r, k => cond (decide (k = (a : Int))) true (lookB r k)
noncomputable def mapTy (P : Program) (t : TypeId) : Bool :=
  match P.underlying t with
  | some (.map k e) => (match P.underlying k, P.underlying e, P.info? e with | some (.int .i64), some (.int .i64), some inf => (match inf.zero with | some (.int .i64 0) => true | _ => false) | _, _, _ => false)
  | _ => false
noncomputable def natLit : SV → Option Nat
  | .c (.i true .i64 n) => cond (decide (0 ≤ n)) (some n.toNat) none
  | _ => none
noncomputable def addMap (ty k v : Nat) : Nat := ty + MAPTY * ((k + 1 + 4294967296 * v) * 2 ^ (64 * (mapOf ty).length))
noncomputable def ansMap (ok lit : Bool) (l : List (Nat × Nat)) (k : Int) : SV :=
  cond ok (.t [.c (.i lit .i64 (lookI l k)), .c (.b lit (lookB l k))]) (.c (.i lit .i64 (lookI l k)))
noncomputable def heapOpD (P : Program) (ev : Operand → Option SV) (s : SW) (op : Op) : Option (SV × SW) :=
  match op with
  | .makeMap t none => cond (mapTy P t) (forceN s.length fun n => appLK s ⟨[], MAPTY⟩ fun s' => some (.c (.mp n), s')) none
  | .insert t m k x => (match ev m, ev k, ev x with
    | some (.c (.mp blk)), some k, some x => (match s[blk]?, natLit k, natLit x with
      | some b, some k, some v => cond (mapTy P t && Nat.ble MAPTY b.ty && !(lookB (mapOf b.ty) k)) (forceN (addMap b.ty k v) fun ty => cond (decide (mapOf ty = mapOf b.ty ++ [(k, v)]) && Nat.ble MAPTY ty) (setLK s blk ⟨[], ty⟩ fun s' => some (undefS, s')) none) none
      | _, _, _ => none)
    | _, _, _ => none)
  | .lookup t x ix ok => (match ev x, ev ix with
    | some (.c (.mp blk)), some (.c (.i l .i64 k)) => (match s[blk]? with
      | some b => cond (mapTy P t && Nat.ble MAPTY b.ty) (some (ansMap ok l (mapOf b.ty) k, s)) none
      | none => none)
    | some (.c (.x (.map none))), some (.c (.i l .i64 k)) => cond (mapTy P t) (some (ansMap ok l [] k, s)) none
    | _, _ => none)
  | _ => none
noncomputable def heapOp (P : Program) (ev : Operand → Option SV) (s : SW) (op : Op) : Option (SV × SW) :=
  match heapOpA P ev s op with
  | some r => some r
  | none => match heapOpB P ev s op with
    | some r => some r
    | none => match heapOpC P ev s op with
      | some r => some r
      | none => heapOpD P ev s op

variable {P : Program} {ρ : Rh} {E W : World} {L : Nat → Prop} {s : SW} {w : World}
theorem viewK_spec {γ : Type} {sz : Nat} {x : SV} {K : Nat → List C → Option γ} {r : γ} (hI : Inv E W L ρ s w) (h : viewK s sz x K = some r) :
    ∃ n l a c, K n l = some r ∧ x.den ρ = .slice (some a) n c ∧ l.length = n * sz ∧ okL s.length l = true ∧ ∀ w', Inv E W L ρ s w' → ∀ j u, (l.map (C.den ρ))[j]? = some u → w'.cell? (a.add j) = some u := by
  have key : ∀ (b o n : Nat) (bl : Bl), s[b]? = some bl → (takeLK (n * sz) (bl.cs.drop o) fun l => cond (Nat.beq l.length (n * sz)) (K n l) none) = some r →
      ∃ l, K n l = some r ∧ l.length = n * sz ∧ okL s.length l = true ∧ ∀ w', Inv E W L ρ s w' → ∀ j u, (l.map (C.den ρ))[j]? = some u → w'.cell? ((⟨ρ b, o, none⟩ : Addr).add j) = some u := by
    intro b o n bl hb h
    rw [takeLK_eq] at h
    cases hl : Nat.beq ((bl.cs.drop o).take (n * sz)).length (n * sz) <;> simp only [hl, cond_true, cond_false] at h
    · cases h
    refine ⟨_, h, Nat.eq_of_beq_eq_true hl, List.all_eq_true.2 fun c hc => List.all_eq_true.1 (hI.okc b bl hb) c (List.mem_of_mem_drop (List.mem_of_mem_take hc)), fun w' hI' j u hj => ?_⟩
    rw [List.getElem?_map] at hj
    cases hc : ((bl.cs.drop o).take (n * sz))[j]? with
    | none => rw [hc] at hj; simp at hj
    | some c =>
      rw [hc] at hj; simp at hj; subst hj
      have hj' : j < n * sz := by
        have := (List.getElem?_eq_some_iff.1 hc).1
        simp at this; omega
      rw [List.getElem?_take_of_lt hj', List.getElem?_drop] at hc
      rw [Addr.add_lit]
      exact (hI'.cell hb hc).1
  unfold viewK at h
  split at h
  · rename_i b o n c
    split at h
    · cases h
    · rename_i bl hb
      obtain ⟨l, h1, h2, h3, h4⟩ := key b o n bl hb h
      exact ⟨n, l, _, _, h1, rfl, h2, h3, h4⟩
  · rename_i b o n c
    split at h
    · cases h
    · rename_i bl hb
      obtain ⟨l, h1, h2, h3, h4⟩ := key b o n bl hb h
      exact ⟨n, l, _, _, h1, rfl, h2, h3, h4⟩
  · cases h
theorem Inv.drew {E W : World} {L : Nat → Prop} {ρ : Rh} {s : SW} {w : World} (h : Inv E W L ρ s w) : Inv E W L ρ s w.drew := h.drawn _
theorem newA_spec {s : SW} {cs : List C} {ty : TypeId} {n sz : Nat} {v : SV} {s' : SW} (h : newA s cs ty n sz = some (v, s')) : Nat.blt ty MAPTY = true ∧ v = .c (.sla s.length 0 n sz) ∧ s' = s ++ [⟨cs, ty⟩] := by
  unfold newA at h
  cases hty : Nat.blt ty MAPTY <;> simp only [hty, cond_true, cond_false] at h
  · cases h
  rw [forceN_eq, forceN_eq, appLK_eq] at h
  simp at h; obtain ⟨rfl, rfl⟩ := h
  exact ⟨rfl, rfl, rfl⟩
theorem newA_sound (hI : Inv E W L ρ s w) {cs : List C} {ty : TypeId} {n sz k : Nat} {z : Array Value} {v : SV} {s' : SW} (h : newA s cs ty n sz = some (v, s')) (hcs : okL s.length cs = true)
    (hsz : 0 < sz) (hl : cs.length = n * sz) (hz : z.size = sz) (hk : n ≤ k) :
    ∃ ρ', Agree s.length ρ ρ' ∧ s.length ≤ s'.length ∧ v.ok s'.length = true ∧ v.den ρ' = .slice (some ⟨w.heap.size, 0, none⟩) n k ∧
      Inv E W L ρ' s' (w.drew.alloc (.cells ((cs.map (C.den ρ)).toArray ++ Builtin.zeroCells z (k - n)) ty)) := by
  obtain ⟨hty, rfl, rfl⟩ := newA_spec h
  obtain ⟨ρ', hag, hn, hc, hI'⟩ := hI.drew.allocR cs (Builtin.zeroCells z (k - n)).toList ty hty hcs
  refine ⟨ρ', hag, by simp, by simp [SV.ok, C.ok], ?_, ?_⟩
  · simp only [SV.den, C.den, hn, hc]
    have : (Builtin.zeroCells z (k - n)).toList.length = (k - n) * sz := by
      rw [Array.length_toList, size_zeroCells, hz]
    rw [this, hl, ← Nat.add_mul, Nat.mul_div_cancel _ hsz, Nat.zero_div, Nat.sub_zero, show n + (k - n) = k by omega]
    rfl
  · have e : ((cs.map (C.den ρ)).toArray ++ Builtin.zeroCells z (k - n)) = (cs.map (C.den ρ) ++ (Builtin.zeroCells z (k - n)).toList).toArray := by
      apply Array.ext'
      simp
    rw [e]
    exact hI'
theorem Inv.move {E W : World} {L : Nat → Prop} {ρ : Rh} {s : SW} {w : World} (h : Inv E W L ρ s w) {b : Nat} {bl : Bl} (hb : s[b]? = some bl) (hm : bl.ty < MAPTY) (ty : TypeId) (hty : ty = bl.ty) :
    Inv E W L ⟨fun i => if i = s.length then ρ b else ρ i, fun i => if i = s.length then ρ.c b else ρ.c i⟩ (s.set b ⟨[], bl.ty⟩ ++ [⟨bl.cs, ty⟩]) w := by
  subst hty
  have hlt : b < s.length := (List.getElem?_eq_some_iff.1 hb).1
  have hag : Agree s.length ρ ⟨fun i => if i = s.length then ρ b else ρ i, fun i => if i = s.length then ρ.c b else ρ.c i⟩ := fun i hi => by simp [Nat.ne_of_lt hi]
  have hb0 : ∀ i, (⟨fun i => if i = s.length then ρ b else ρ i, fun i => if i = s.length then ρ.c b else ρ.c i⟩ : Rh) i = if i = s.length then ρ b else ρ i := fun _ => rfl
  have hgetL : ∀ i (c : Bl), (s.set b ⟨[], bl.ty⟩ ++ [⟨bl.cs, bl.ty⟩])[i]? = some c → (i < s.length ∧ i ≠ b ∧ s[i]? = some c) ∨ (i = b ∧ c = ⟨[], bl.ty⟩) ∨ (i = s.length ∧ c = ⟨bl.cs, bl.ty⟩) := by
    intro i c hc
    by_cases hi : i < s.length
    · rw [List.getElem?_append_left (by simpa using hi)] at hc
      by_cases e : b = i
      · subst e
        rw [List.getElem?_set_self hlt] at hc
        simp at hc; exact .inr (.inl ⟨rfl, hc.symm⟩)
      · rw [List.getElem?_set_ne e] at hc
        exact .inl ⟨hi, fun e' => e e'.symm, hc⟩
    · have hi' : i = s.length := by
        have := (List.getElem?_eq_some_iff.1 hc).1
        simp at this; omega
      subst hi'
      rw [List.getElem?_append_right (by simp)] at hc
      simp at hc
      exact .inr (.inr ⟨rfl, hc.symm⟩)
  have dead : ¬ ((⟨[], bl.ty⟩ : Bl).cs ≠ [] ∨ MAPTY ≤ (⟨[], bl.ty⟩ : Bl).ty) := by
    rintro (h | h)
    · exact h rfl
    · exact absurd hm (Nat.not_lt_of_le h)
  refine ⟨fun i c hc => ?_, fun i c hc => ?_, fun i j hi hj hij => ?_, h.grow, h.old, fun i hi hlt' => ?_, h.frz, h.os, h.out, h.tape, ⟨h.ext.1, h.ext.2.1, fun i hi => ?_⟩⟩
  · rcases hgetL i c hc with ⟨hi, _, h2⟩ | ⟨rfl, rfl⟩ | ⟨rfl, rfl⟩
    · exact (h.blk i c h2).ren (by rw [hb0, if_neg (Nat.ne_of_lt hi)]) (by simp [Nat.ne_of_lt hi]) (map_agree hag (h.okc i c h2)) rfl
    · exact .inr (.inr ⟨hm, rfl, by rw [hb0, if_neg (Nat.ne_of_lt hlt)]; exact h.lt hlt⟩)
    · by_cases hc0 : bl.cs = []
      · exact .inr (.inr ⟨hm, hc0, by rw [hb0, if_pos rfl]; exact h.lt hlt⟩)
      · obtain ⟨_, r, h3, h4⟩ := (h.blk b bl hb).cells hc0
        refine HasB.of hm ⟨r, ?_, ?_⟩
        · rw [hb0, if_pos rfl, map_agree hag (h.okc b bl hb)]; exact h3
        · simp; exact h4
  · have hle : s.length ≤ (s.set b (⟨[], bl.ty⟩ : Bl) ++ [(⟨bl.cs, bl.ty⟩ : Bl)]).length := by simp
    rcases hgetL i c hc with ⟨_, _, h2⟩ | ⟨rfl, rfl⟩ | ⟨rfl, rfl⟩
    · exact okL_mono hle (h.okc i c h2)
    · rfl
    · exact okL_mono hle (h.okc b bl hb)
  · obtain ⟨c1, hc1, n1⟩ := hi
    obtain ⟨c2, hc2, n2⟩ := hj
    rw [hb0, hb0] at hij
    rcases hgetL i c1 hc1 with ⟨h1, h1', e1⟩ | ⟨rfl, rfl⟩ | ⟨rfl, rfl⟩ <;> rcases hgetL j c2 hc2 with ⟨h2, h2', e2⟩ | ⟨rfl, rfl⟩ | ⟨rfl, rfl⟩ <;> first | exact absurd n1 dead | exact absurd n2 dead | rfl | skip
    · rw [if_neg (Nat.ne_of_lt h1), if_neg (Nat.ne_of_lt h2)] at hij
      exact h.inj i j ⟨c1, e1, n1⟩ ⟨c2, e2, n2⟩ hij
    · rw [if_neg (Nat.ne_of_lt h1), if_pos rfl] at hij
      exact absurd (h.inj i b ⟨c1, e1, n1⟩ ⟨bl, hb, n2⟩ hij) h1'
    · rw [if_pos rfl, if_neg (Nat.ne_of_lt h2)] at hij
      exact absurd (h.inj b j ⟨bl, hb, n1⟩ ⟨c2, e2, n2⟩ hij).symm h2'
  · obtain ⟨c1, hc1, n1⟩ := hi
    rw [hb0] at hlt' ⊢
    rcases hgetL i c1 hc1 with ⟨h1, h1', e1⟩ | ⟨rfl, rfl⟩ | ⟨rfl, rfl⟩
    · rw [if_neg (Nat.ne_of_lt h1)] at hlt' ⊢
      exact h.fresh i ⟨c1, e1, n1⟩ hlt'
    · exact absurd n1 dead
    · rw [if_pos rfl] at hlt' ⊢
      exact h.fresh b ⟨bl, hb, n1⟩ hlt'
  · simp at hi
    rw [hb0]
    by_cases e : i = s.length
    · rw [if_pos e]; exact h.ext.2.2 b hlt
    · rw [if_neg e]; exact h.ext.2.2 i (by omega)

theorem map_app {ρ : Rh} (xs ys : List C) : ((xs ++ ys).map (C.den ρ)).toArray = (xs.map (C.den ρ)).toArray ++ (ys.map (C.den ρ)).toArray := by
  apply Array.ext'; simp
theorem small_bytes {n b : Nat} (h : n * b ≤ 2 ^ 40) : n * b ≤ 140737488355328 := Nat.le_trans h (by decide)
theorem Inv.forget {E W : World} {L : Nat → Prop} {ρ : Rh} {s : SW} {w : World} (hI : Inv E W L ρ s w) {b : Nat} {bl : Bl} (hb : s[b]? = some bl) (hbt : bl.ty < MAPTY) : Inv E W L ρ (s.set b ⟨[], bl.ty⟩) w := by
  have hlt : b < s.length := (List.getElem?_eq_some_iff.1 hb).1
  have lv : ∀ i, live (s.set b ⟨[], bl.ty⟩) i → live s i ∧ i ≠ b := by
    rintro i ⟨c, hc, hn⟩
    by_cases e1 : b = i
    · subst e1
      rw [List.getElem?_set_self hlt] at hc
      simp at hc; subst hc
      exact absurd hn (by rintro (h | h); exact h rfl; exact absurd hbt (Nat.not_lt_of_le h))
    · rw [List.getElem?_set_ne e1] at hc
      exact ⟨⟨c, hc, hn⟩, fun e2 => e1 e2.symm⟩
  refine ⟨fun i c hc => ?_, fun i c hc => ?_, fun i j hi hj => hI.inj i j (lv i hi).1 (lv j hj).1, hI.grow, hI.old, fun i h1 h2 => hI.fresh i (lv i h1).1 h2, hI.frz, hI.os, hI.out, hI.tape, by rw [List.length_set]; exact hI.ext⟩
  · by_cases e1 : b = i
    · subst e1
      rw [List.getElem?_set_self hlt] at hc
      simp at hc; subst hc
      exact .inr (.inr ⟨hbt, rfl, hI.lt hlt⟩)
    · rw [List.getElem?_set_ne e1] at hc
      exact hI.blk i c hc
  · rw [List.length_set]
    by_cases e1 : b = i
    · subst e1
      rw [List.getElem?_set_self hlt] at hc
      simp at hc; subst hc
      rfl
    · rw [List.getElem?_set_ne e1] at hc
      exact hI.okc i c hc
theorem run_storeCells_hi (g o : Nat) (t : TypeId) (fr : Nat × Nat) : ∀ (vs : List Value) (i : Nat) (cur : Array Value) (w : World), (fr = (0, 0) ∨ cur.size ≤ fr.1) → w.heap[g]? = some (.cells cur t fr) → o + i + vs.length ≤ cur.size → (∀ v ∈ vs, v.oneCell' = true) →
    (storeCells ⟨g, o, none⟩ vs i).run P w = .ok () (w.setRow g (cur.toList.take (o + i) ++ vs ++ cur.toList.drop (o + i + vs.length)).toArray)
  | [], i, cur, w, hfr, hg, _, _ => by
    simp only [storeCells, List.append_nil, List.length_nil, Nat.add_zero, List.take_append_drop, Array.toArray_toList]
    rw [setRow_self w g cur t fr hg]
    rfl
  | v :: rest, i, cur, w, hfr, hg, hl, h1 => by
    have hi : o + i < cur.size := by simp at hl; omega
    have hadd : (⟨g, o, none⟩ : Addr).add i = ⟨g, o + i, none⟩ := by unfold Addr.add; split <;> simp_all
    have hcell : w.cell? ⟨g, o + i, none⟩ = some cur[o + i] := by simp [World.cell?, hg, hi]
    have hfro : w.frozen? ⟨g, o + i, none⟩ = false := by
      rcases hfr with rfl | hfr
      · simp [World.frozen?, hg]
      · obtain ⟨lo, hi'⟩ := fr
        simp at hfr
        simp [World.frozen?, hg]
        omega
    have hst : (store ((⟨g, o, none⟩ : Addr).add i) v).run P w = .ok () (w.setRow g (cur.setIfInBounds (o + i) v)) := by
      rw [hadd, run_store P w _ v _ (h1 v (by simp)), hcell]
      simp [hfro, setCell_eq_setRow w g (o + i) cur t fr v hg]
    have ih := run_storeCells_hi g o t fr rest (i + 1) (cur.setIfInBounds (o + i) v) (w.setRow g (cur.setIfInBounds (o + i) v)) (by simpa using hfr) (setRow_heap w g cur _ t _ hg) (by simp at hl ⊢; omega) (fun x hx => h1 x (by simp [hx]))
    simp only [storeCells, Sem.run_bind, hst, Result.andThen_ok, ih, setRow_setRow]
    congr 3
    have e := list_seg_step cur.toList (o + i) v rest (by simp at hl ⊢; omega)
    simpa [Array.toList_setIfInBounds, Nat.add_assoc] using e
theorem run_append_room_hi (w : World) (t ty e : TypeId) (i : TypeInfo) (ht : P.underlying t = some (.slice e)) (hi : P.info? e = some i)
    (g sLen sCap : Nat) (cur : Array Value) (fr : Nat × Nat) (hfr : fr = (0, 0) ∨ cur.size ≤ fr.1) (hg : w.heap[g]? = some (.cells cur e fr))
    (a : Addr) (m c : Nat) (news : List Value) (hl : news.length = m * i.size) (hnews : ∀ j u, news[j]? = some u → w.cell? (a.add j) = some u) (h1 : ∀ u ∈ news, u.oneCell' = true)
    (hroom : sLen + m ≤ sCap) (hfit : sLen * i.size + news.length ≤ cur.size) :
    (Builtin.append_ #[t, t] ty #[.slice (some ⟨g, 0, none⟩) sLen sCap, .slice (some a) m c]).run P w =
      .ok (.slice (some ⟨g, 0, none⟩) (sLen + m) sCap) (w.setRow g (cur.toList.take (sLen * i.size) ++ news ++ cur.toList.drop (sLen * i.size + news.length)).toArray) := by
  have hf := run_firstCells_some (P := P) w i.size m a m c news hl hnews
  have hst := run_storeCells_hi (P := P) g (sLen * i.size) e fr news 0 cur w hfr hg (by simpa using hfit) h1
  simp only [Nat.add_zero] at hst
  simp [Builtin.append_, run_underlying ht, sizeOf, typeInfo, hi, Builtin.lenOf, hroom, hf, Addr.add_lit, hst]
theorem appSla (hI : Inv E W L ρ s w) {t elem : TypeId} {e : TypeInfo} {z : Value} (ht : P.underlying t = some (.slice elem)) (he : P.info? elem = some e) (hz : e.zero = some z) (hzs : z.cells.size = e.size) (hsz : 0 < e.size)
    {n c : Nat} {a : Addr} {news : List C} (hnl : news.length = n * e.size) (hnok : okL s.length news = true) (hnews : ∀ j u, (news.map (C.den ρ))[j]? = some u → w.cell? (a.add j) = some u) (hst : news.all C.storable = true) (hn0 : 0 < n)
    {b len : Nat} {bl : Bl} (hb : s[b]? = some bl) (h2 : (bl.cs.take (len * e.size)).length = len * e.size) (h3 : bl.ty = elem) (h4 : 0 < len) (h5 : len + n ≤ 2 ^ 40) (h6 : (len + n) * e.bytes ≤ 2 ^ 40) {u : SV} {s' : SW}
    (hK : newA (s.set b ⟨[], bl.ty⟩) (bl.cs.take (len * e.size) ++ news) elem (len + n) e.size = some (u, s')) (ty : TypeId) :
    ∃ ρ' w', Agree s.length ρ ρ' ∧ s.length ≤ s'.length ∧ u.ok s'.length = true ∧ (Builtin.append_ #[t, t] ty #[.slice (some ⟨ρ b, 0, none⟩) len (ρ.c b / e.size), .slice (some a) n c]).run P w = .ok (u.den ρ') w' ∧ Inv E W L ρ' s' w' := by
  have hnl' : (news.map (C.den ρ)).length = n * e.size := by simp [hnl]
  have hlt : b < s.length := (List.getElem?_eq_some_iff.1 hb).1
  have htl : len * e.size ≤ bl.cs.length := by rw [List.length_take] at h2; omega
  have hne : bl.cs ≠ [] := by
    intro e0
    rw [e0] at htl
    have := Nat.mul_pos h4 hsz
    simp at htl; omega
  obtain ⟨hbt, rest, ⟨fr, hw, hfr⟩, hcc⟩ := (hI.blk b bl hb).cells hne
  have holds : ∀ j u, ((bl.cs.take (len * e.size)).map (C.den ρ))[j]? = some u → w.cell? ((⟨ρ b, 0, none⟩ : Addr).add j) = some u := by
    intro j u hj
    rw [List.getElem?_map] at hj
    cases hc : (bl.cs.take (len * e.size))[j]? with
    | none => rw [hc] at hj; simp at hj
    | some c =>
      rw [hc] at hj; simp at hj; subst hj
      have hj' : j < len * e.size := by
        have := (List.getElem?_eq_some_iff.1 hc).1
        simp at this; omega
      rw [List.getElem?_take_of_lt hj'] at hc
      rw [Addr.add_lit, Nat.zero_add]
      exact (hI.cell hb hc).1
  have hokold : okL s.length (bl.cs.take (len * e.size)) = true := List.all_eq_true.2 fun c hc => List.all_eq_true.1 (hI.okc b bl hb) c (List.mem_of_mem_take hc)
  have hokcs : okL s.length (bl.cs.take (len * e.size) ++ news) = true := by unfold okL at hokold hnok ⊢; rw [List.all_append, hokold, hnok]; rfl
  have hlcs : (bl.cs.take (len * e.size) ++ news).length = (len + n) * e.size := by rw [List.length_append, h2, hnl, Nat.add_mul]
  have hI0 := hI.forget hb hbt
  by_cases hroom : len + n ≤ ρ.c b / e.size
  · -- in place
    have hfit : (len + n) * e.size ≤ ρ.c b := Nat.le_trans (Nat.mul_le_mul_right _ hroom) (Nat.div_mul_le_self _ _)
    have hty : w.heap[ρ b]? = some (.cells (bl.cs.map (C.den ρ) ++ rest).toArray elem fr) := by rw [hw, h3]
    have hsize : (bl.cs.map (C.den ρ) ++ rest).toArray.size = ρ.c b := by simp; omega
    have hr := run_append_room_hi (P := P) w t ty elem e ht he (ρ b) len (ρ.c b / e.size) _ fr (hfr.imp id fun h => by simpa using h) hty a n c (news.map (C.den ρ)) hnl' hnews
      (fun u hu => by obtain ⟨c, hc, rfl⟩ := List.mem_map.1 hu; exact C.storable_one (List.all_eq_true.1 hst c hc)) hroom (by rw [hsize, hnl', ← Nat.add_mul]; exact hfit)
    refine ⟨⟨fun i => if i = s.length then ρ b else ρ i, fun i => if i = s.length then ρ.c b else ρ.c i⟩, w.setRow (ρ b) ((bl.cs.map (C.den ρ) ++ rest).toArray.toList.take (len * e.size) ++ news.map (C.den ρ) ++ (bl.cs.map (C.den ρ) ++ rest).toArray.toList.drop (len * e.size + (news.map (C.den ρ)).length)).toArray, fun i hi => by simp [Nat.ne_of_lt hi], ?_, ?_, ?_, ?_⟩
    · obtain ⟨_, rfl, rfl⟩ := newA_spec hK
      simp
    · obtain ⟨_, rfl, rfl⟩ := newA_spec hK
      simp [SV.ok, C.ok]
    · obtain ⟨_, rfl, rfl⟩ := newA_spec hK
      rw [hr]
      simp [SV.den, C.den]
    · obtain ⟨_, rfl, rfl⟩ := newA_spec hK
      have hrow : ((bl.cs.map (C.den ρ) ++ rest).toArray.toList.take (len * e.size) ++ news.map (C.den ρ) ++ (bl.cs.map (C.den ρ) ++ rest).toArray.toList.drop (len * e.size + (news.map (C.den ρ)).length)) =
          (bl.cs.take (len * e.size) ++ news).map (C.den ρ) ++ (bl.cs.map (C.den ρ) ++ rest).drop (len * e.size + (news.map (C.den ρ)).length) := by
        simp only [List.toList_toArray, List.map_append]
        rw [List.take_append_of_le_length (by simpa using htl), List.map_take]
      rw [hrow]
      have hI1 := hI.put (w' := w.setRow (ρ b) ((bl.cs.take (len * e.size) ++ news).map (C.den ρ) ++ (bl.cs.map (C.den ρ) ++ rest).drop (len * e.size + (news.map (C.den ρ)).length)).toArray) hb hne (bl.cs.take (len * e.size) ++ news) ((bl.cs.map (C.den ρ) ++ rest).drop (len * e.size + (news.map (C.den ρ)).length))
        (by rw [hlcs, List.length_drop, List.length_append, List.length_map, hcc, hnl', ← Nat.add_mul]; omega) hokcs (by
          intro old fr' hold
          obtain rfl : fr' = fr := by rw [hold] at hw; simp at hw; exact hw.2
          have hlt' : ρ b < w.heap.size := hI.lt hlt
          apply Array.ext_getElem?
          intro j
          by_cases hj : ρ b = j
          · subst hj
            rw [setRow_heap w (ρ b) _ _ elem _ hty, h3]
            simp [hlt']
          · rw [setRow_other w (ρ b) j _ (fun e' => hj e'.symm), Array.getElem?_setIfInBounds_ne hj]) rfl rfl rfl
      have hI2 := hI1.move (b := b) (bl := ⟨bl.cs.take (len * e.size) ++ news, bl.ty⟩) (by rw [List.getElem?_set_self hlt]) hbt elem h3.symm
      simpa using hI2
  · have hr := run_append_grow (P := P) w t ty elem e z ht he hz ⟨ρ b, 0, none⟩ len (ρ.c b / e.size) _ (by rw [List.length_map]; exact h2) holds a n c (news.map (C.den ρ)) hnl' hnews (by omega)
      (by have e40 : (2:Nat) ^ 40 = 1099511627776 := (by decide); omega) (growslice_fits (by omega) (small_bytes h6))
    obtain ⟨ρ', hag, hle, hok, hd, hI'⟩ := newA_sound hI0 hK (by rw [List.length_set]; exact hokcs) hsz hlcs hzs (grownCap_ge w (len + n) (ρ.c b / e.size) elem)
    refine ⟨ρ', _, by rw [List.length_set] at hag; exact hag, by rw [List.length_set] at hle; exact hle, hok, ?_, hI'⟩
    rw [hd, hr, map_app]
theorem appendS_sound (hI : Inv E W L ρ s w) {t : TypeId} {v x u : SV} {s' : SW} (h : appendS P s t v x = some (u, s')) (hv : v.ok s.length = true) (hx : x.ok s.length = true) (ty : TypeId) :
    ∃ ρ' w', Agree s.length ρ ρ' ∧ s.length ≤ s'.length ∧ u.ok s'.length = true ∧ (Builtin.append_ #[t, t] ty #[v.den ρ, x.den ρ]).run P w = .ok (u.den ρ') w' ∧ Inv E W L ρ' s' w' := by
  unfold appendS at h
  split at h
  rotate_left
  · cases h
  rename_i elem ht
  split at h
  · cases h
  rename_i e he
  split at h
  · cases h
  rename_i z hz
  cases hc : (Nat.beq z.cells.size e.size && Nat.blt 0 e.size) <;> simp only [hc, cond_true, cond_false] at h
  · cases h
  simp only [Bool.and_eq_true] at hc
  have hzs := Nat.eq_of_beq_eq_true hc.1
  have hsz : 0 < e.size := Nat.le_of_ble_eq_true hc.2
  obtain ⟨n, news, a, c, hK, hxd, hnl, hnok, hnews⟩ := viewK_spec hI h
  cases hst : (news.all C.storable && Nat.blt 0 n) <;> simp only [hst, cond_true, cond_false] at hK
  · cases hK
  simp only [Bool.and_eq_true] at hst
  have hn0 : 0 < n := Nat.le_of_ble_eq_true hst.2
  have hnl' : (news.map (C.den ρ)).length = n * e.size := by simp [hnl]
  rw [hxd]
  split at hK
  · rename_i l0 c0
    cases hb : (appendS.isNil0 (.c (.x (.slice none l0 c0))) && Nat.ble n (2 ^ 40) && Nat.ble (n * e.bytes) (2 ^ 40)) <;> simp only [hb, cond_true, cond_false] at hK
    · cases hK
    simp only [Bool.and_eq_true] at hb
    obtain ⟨⟨h1, h2⟩, h3⟩ := hb
    have h2 := Nat.le_of_ble_eq_true h2
    have h3 := Nat.le_of_ble_eq_true h3
    have hnil : l0 = 0 ∧ c0 = 0 := by
      cases l0 <;> cases c0 <;> simp_all [appendS.isNil0]
    obtain ⟨rfl, rfl⟩ := hnil
    have hr := run_append_nil (P := P) w t ty elem e z ht he hz a n c (news.map (C.den ρ)) hnl' (hnews w hI) hn0 (by have e40 : (2:Nat) ^ 40 = 1099511627776 := (by decide); omega) (Nat.le_trans h3 (by decide))
    obtain ⟨ρ', hag, hle, hok, hd, hI'⟩ := newA_sound hI hK hnok hsz hnl hzs (grownCap_ge w n 0 elem)
    refine ⟨ρ', _, hag, hle, hok, ?_, hI'⟩
    rw [hd]
    exact hr
  · rename_i b off len cap
    split at hK
    · cases hK
    rename_i bl hb
    cases hroom : Nat.ble (len + n) cap <;> simp only [hroom, cond_true, cond_false] at hK
    · rw [takeLK_eq] at hK
      cases hb2 : (Nat.beq ((bl.cs.drop off).take (len * e.size)).length (len * e.size) && Nat.ble (len + n) (2 ^ 40) && Nat.ble ((len + n) * e.bytes) (2 ^ 40)) <;> simp only [hb2, cond_true, cond_false] at hK
      · cases hK
      rw [appLLK_eq] at hK
      simp only [Bool.and_eq_true] at hb2
      obtain ⟨⟨h1, h2⟩, h3⟩ := hb2
      have h1 := Nat.eq_of_beq_eq_true h1
      have h2 := Nat.le_of_ble_eq_true h2
      have h3 := Nat.le_of_ble_eq_true h3
      have hgt : cap < len + n := by
        rcases Nat.lt_or_ge cap (len + n) with h' | h'
        · exact h'
        · rw [Nat.ble_eq_true_of_le h'] at hroom; cases hroom
      have holds : ∀ j u, (((bl.cs.drop off).take (len * e.size)).map (C.den ρ))[j]? = some u → w.cell? ((⟨ρ b, off, none⟩ : Addr).add j) = some u := by
        intro j u hj
        rw [List.getElem?_map] at hj
        cases hc : ((bl.cs.drop off).take (len * e.size))[j]? with
        | none => rw [hc] at hj; simp at hj
        | some c =>
          rw [hc] at hj; simp at hj; subst hj
          have hj' : j < len * e.size := by
            have := (List.getElem?_eq_some_iff.1 hc).1
            simp at this; omega
          rw [List.getElem?_take_of_lt hj', List.getElem?_drop] at hc
          rw [Addr.add_lit]
          exact (hI.cell hb hc).1
      have hr := run_append_grow (P := P) w t ty elem e z ht he hz ⟨ρ b, off, none⟩ len cap _ (by rw [List.length_map]; exact h1) holds a n c (news.map (C.den ρ)) hnl' (hnews w hI) hgt (by have e40 : (2:Nat) ^ 40 = 1099511627776 := (by decide); omega) (growslice_fits hgt (small_bytes h3))
      have hokold : okL s.length ((bl.cs.drop off).take (len * e.size)) = true := List.all_eq_true.2 fun c hc => List.all_eq_true.1 (hI.okc b bl hb) c (List.mem_of_mem_drop (List.mem_of_mem_take hc))
      obtain ⟨ρ', hag, hle, hok, hd, hI'⟩ := newA_sound hI hK (by unfold okL at hokold hnok ⊢; rw [List.all_append, hokold, hnok]; rfl) hsz (by rw [List.length_append, h1, hnl, Nat.add_mul]) hzs (grownCap_ge w (len + n) cap elem)
      refine ⟨ρ', _, hag, hle, hok, ?_, hI'⟩
      rw [hd]
      rw [show (SV.c (C.slc b off len cap)).den ρ = .slice (some ⟨ρ b, off, none⟩) len cap from rfl, hr, map_app]
    · cases hb2 : Nat.ble (off + (len + n) * e.size) bl.cs.length <;> simp only [hb2, cond_true, cond_false] at hK
      · cases hK
      rw [forceN_eq, writeLK_eq, setLK_eq] at hK
      simp at hK; obtain ⟨rfl, rfl⟩ := hK
      have hfit := Nat.le_of_ble_eq_true hb2
      have hroom := Nat.le_of_ble_eq_true hroom
      obtain ⟨w', hr, hI'⟩ := storeCells_sound (P := P) news s w b (off + len * e.size) bl 0 hI hb hst.1 (by rw [hnl]; rw [Nat.add_mul] at hfit; omega) hnok
      refine ⟨ρ, w', Agree.refl _ _, by simp, ?_, ?_, by simpa using hI'⟩
      · simp only [SV.ok, C.ok, List.length_set] at hv ⊢; exact hv
      · have hf := run_firstCells_some (P := P) w e.size n a n c (news.map (C.den ρ)) hnl' (hnews w hI)
        simp [SV.den, C.den, Builtin.append_, run_underlying ht, sizeOf, typeInfo, he, Builtin.lenOf, hroom, hf, Addr.add_lit, hr]
  · rename_i b off len sz
    split at hK
    · cases hK
    rename_i bl hb
    rw [takeLK_eq] at hK
    cases hb2 : (Nat.beq off 0 && Nat.beq sz e.size && Nat.beq (bl.cs.take (len * e.size)).length (len * e.size) && Nat.beq bl.ty elem && Nat.blt 0 len && Nat.ble (len + n) (2 ^ 40) && Nat.ble ((len + n) * e.bytes) (2 ^ 40)) <;> simp only [hb2, cond_true, cond_false] at hK
    · cases hK
    rw [appLLK_eq, setLK_eq] at hK
    simp only [Bool.and_eq_true] at hb2
    obtain ⟨⟨⟨⟨⟨⟨h0, h1⟩, h2⟩, h3⟩, h4⟩, h5⟩, h6⟩ := hb2
    obtain rfl := Nat.eq_of_beq_eq_true h0
    obtain rfl := Nat.eq_of_beq_eq_true h1
    have h2 := Nat.eq_of_beq_eq_true h2
    have h3 := Nat.eq_of_beq_eq_true h3
    have h4 : 0 < len := Nat.le_of_ble_eq_true h4
    have h5 := Nat.le_of_ble_eq_true h5
    have h6 := Nat.le_of_ble_eq_true h6
    obtain ⟨ρ', w', k1, k2, k3, k4, k5⟩ := appSla (P := P) hI ht he hz hzs hsz (c := c) hnl hnok (hnews w hI) hst.1 hn0 hb h2 h3 h4 h5 h6 hK ty
    exact ⟨ρ', w', k1, k2, k3, by rw [show (SV.c (C.sla b 0 len e.size)).den ρ = .slice (some ⟨ρ b, 0, none⟩) len (ρ.c b / e.size) by simp [SV.den, C.den]]; exact k4, k5⟩
  · cases hK
theorem makeS_soundC (hI : Inv E W L ρ s w) {t : TypeId} {l c u : SV} {s' : SW} (h : makeS P s t l c = some (u, s')) :
    ∃ ρ' w', (∀ elem e k n, P.underlying t = some (.slice elem) → P.info? elem = some e → c = .c (.i true k n) → ρ'.c s.length = n.toNat * e.size) ∧ Agree s.length ρ ρ' ∧ s.length ≤ s'.length ∧ u.ok s'.length = true ∧ (Instr.makeSlice t (l.den ρ) (c.den ρ)).run P w = .ok (u.den ρ') w' ∧ Inv E W L ρ' s' w' := by
  unfold makeS at h
  split at h
  rotate_left
  · cases h
  rename_i elem kl l kc c ht
  split at h
  · cases h
  rename_i e he
  split at h
  · cases h
  rename_i z hz
  cases hc : (decide (0 ≤ l) && decide (l ≤ c) && decide (c ≤ 2 ^ 30) && Nat.ble (e.bytes * c.toNat) (2 ^ 40) && Nat.blt 0 e.size && Nat.blt elem MAPTY) <;> simp only [hc, cond_true, cond_false] at h
  · cases h
  rw [forceN_eq, cellsOfK_eq, forceN_eq, forceN_eq, forceN_eq, appLK_eq] at h
  simp only [Option.some.injEq, Prod.mk.injEq] at h
  obtain ⟨rfl, rfl⟩ := h
  simp only [Bool.and_eq_true, decide_eq_true_eq] at hc
  obtain ⟨⟨⟨⟨⟨h1, h2⟩, h3⟩, h4⟩, h5⟩, h6⟩ := hc
  have h4 := Nat.le_of_ble_eq_true h4
  have h5 : 0 < e.size := Nat.le_of_ble_eq_true h5
  obtain ⟨ρ', hag, hn, hcc, hI'0⟩ := hI.allocR (((List.range (c.toNat * e.size)).map fun i => z.cells[i % z.cells.size]!).map ofCell) [] elem h6 (okL_ofCell _ _)
  have hI' := hI'0
  rw [List.append_nil, ← denL] at hI'
  rw [denL_ofCell] at hI'
  refine ⟨ρ', _, fun elem' e' k' n' e1 e2 e3 => ?_, hag, by simp, by simp [SV.ok, C.ok], ?_, hI'⟩
  · rw [ht] at e1; cases e1; rw [he] at e2; cases e2; cases e3
    rw [hcc]; simp
  have h3' : c ≤ 1073741824 := h3
  have wl : IntKind.i64.wrap l = l := by simp [IntKind.wrap, IntKind.bits, IntKind.signed]; split <;> omega
  have wc : IntKind.i64.wrap c = c := by simp [IntKind.wrap, IntKind.bits, IntKind.signed]; split <;> omega
  have hb : ((e.bytes : Int) * c) ≤ 1099511627776 := by
    have : ((e.bytes * c.toNat : Nat) : Int) ≤ ((2 ^ 40 : Nat) : Int) := by exact_mod_cast h4
    rw [Int.natCast_mul, Int.toNat_of_nonneg (by omega)] at this
    exact this
  have t1 : ¬ ((e.bytes : Int) * c > 281474976710656) := by omega
  have hmid : (Array.range (c.toNat * e.size)).map (fun i => (if c.toNat * e.size = 0 then (#[] : Array Value) else z.cells)[i % (if c.toNat * e.size = 0 then (#[] : Array Value) else z.cells).size]!) = ((List.range (c.toNat * e.size)).map fun i => z.cells[i % z.cells.size]!).toArray := by
    by_cases h0 : c.toNat * e.size = 0
    · simp [h0]
    · simp only [if_neg h0]
      apply Array.ext'
      simp
  simp only [SV.den, C.den, Instr.makeSlice, asInt, asIntOf, Sem.run_bind, Sem.run_pure, run_underlying ht, Result.andThen_ok, typeInfo, run_program, he, Sem.run_map, wl, wc]
  have hcond : (decide (c < 0) || decide ((e.bytes : Int) * c > 2 ^ 48) || decide (l < 0) || decide (l > c)) = false := by
    simp only [Bool.or_eq_false_iff, decide_eq_false_iff_not]
    refine ⟨⟨⟨by omega, ?_⟩, by omega⟩, by omega⟩
    have : (2 : Int) ^ 48 = 281474976710656 := by decide
    rw [this]; exact t1
  simp only [hcond, Bool.false_eq_true, if_false, Sem.run_bind, Sem.run_pure, Result.andThen_ok, run_askRoom, run_sizeOf he]
  by_cases h0 : c.toNat * e.size = 0
  · simp only [h0, if_true, Sem.run_pure, Result.andThen_ok, newRow, Sem.run_bind, run_newObj]
    simp only [h0, if_true] at hmid
    simp [hn]
    congr 2
  · simp only [if_neg h0, zeroValue, Sem.run_bind, typeInfo, run_program, Result.andThen_ok, he, Sem.run_pure, hz, newRow, run_newObj]
    simp only [if_neg h0] at hmid
    rw [hmid, hn]
theorem makeS_sound (hI : Inv E W L ρ s w) {t : TypeId} {l c u : SV} {s' : SW} (h : makeS P s t l c = some (u, s')) :
    ∃ ρ' w', Agree s.length ρ ρ' ∧ s.length ≤ s'.length ∧ u.ok s'.length = true ∧ (Instr.makeSlice t (l.den ρ) (c.den ρ)).run P w = .ok (u.den ρ') w' ∧ Inv E W L ρ' s' w' := by
  obtain ⟨ρ', w', _, h1⟩ := makeS_soundC hI h
  exact ⟨ρ', w', h1⟩
theorem heapOpB_sound (hI : Inv E W L ρ s w) {ev : Operand → Option SV} {val : Operand → Value} (hv : ∀ x y, ev x = some y → val x = y.den ρ ∧ y.ok s.length = true)
    {o : Oper} {v : SV} {s' : SW} (h : heapOpB P ev s o.op = some (v, s')) :
    ∃ ρ' w', Agree s.length ρ ρ' ∧ s.length ≤ s'.length ∧ v.ok s'.length = true ∧ (execOp val o).run P w = .ok (.value (v.den ρ')) w' ∧ Inv E W L ρ' s' w' := by
  obtain ⟨dst, op, type, pos, after, guard⟩ := o
  unfold heapOpB at h
  simp only at h
  split at h
  · rename_i args argTypes
    split at h
    · rename_i u x t t' hargs hat
      cases hb : Nat.beq t t' <;> simp only [hb, cond_true, cond_false] at h
      · cases h
      obtain rfl := Nat.eq_of_beq_eq_true hb
      obtain ⟨ha, hok⟩ := evs_sound hv _ _ hargs
      have hat' : argTypes = #[t, t] := Array.ext' hat
      have hav : args.map val = #[u.den ρ, x.den ρ] := by
        apply Array.ext'
        rw [Array.toList_map, ha]; rfl
      obtain ⟨ρ', w', hag, hle, hok', hr, hI'⟩ := appendS_sound hI h (hok u (by simp)) (hok x (by simp)) type
      refine ⟨ρ', w', hag, hle, hok', ?_, hI'⟩
      simp only [execOp, resolve, Sem.run_bind, Sem.run_pure, Result.andThen_ok, invoke, hav, hat', builtin, hr]
    · cases h
  · rename_i t l c
    split at h
    · rename_i lv cv hl hc
      obtain ⟨ρ', w', hag, hle, hok', hr, hI'⟩ := makeS_sound hI (makeT_some h)
      refine ⟨ρ', w', hag, hle, hok', ?_, hI'⟩
      simp only [execOp, (hv _ _ hl).1, (hv _ _ hc).1, Sem.run_bind, hr, Result.andThen_ok, Sem.run_pure]
    · cases h
  · cases h
theorem heapOpC_sound (hI : Inv E W L ρ s w) {ev : Operand → Option SV} {val : Operand → Value} (hv : ∀ x y, ev x = some y → val x = y.den ρ ∧ y.ok s.length = true)
    {o : Oper} {v : SV} {s' : SW} (h : heapOpC P ev s o.op = some (v, s')) :
    v.ok s.length = true ∧ (execOp val o).run P w = .ok (.value (v.den ρ)) w ∧ s' = s := by
  obtain ⟨dst, op, type, pos, after, guard⟩ := o
  unfold heapOpC at h
  simp only at h
  split at h
  · rename_i src dt x
    split at h
    · rename_i u e hx hs hd
      split at h
      · rename_i he
        have h1 := hv _ _ hx
        have fin : ∀ (b : ByteArray), (v.den ρ = .string b ∧ v.ok s.length = true) → s' = s → (convert src dt (u.den ρ)).run P w = .ok (.string b) w →
            v.ok s.length = true ∧ (execOp val ⟨dst, .convert src dt x, type, pos, after, guard⟩).run P w = .ok (.value (v.den ρ)) w ∧ s' = s := by
          intro b hb hs' hr
          refine ⟨hb.2, ?_, hs'⟩
          rw [hb.1]
          simp only [execOp, h1.1, Sem.run_bind, hr, Result.andThen_ok, Sem.run_pure]
        unfold bytesS at h
        split at h
        · rename_i b c
          simp at h; obtain ⟨rfl, rfl⟩ := h
          refine fin _ ⟨rfl, rfl⟩ rfl ?_
          simp only [SV.den, C.den, run_convert_bytes_string w src dt e _ _ _ hs he hd]
          rfl
        · obtain ⟨n, l, a, c, hK, hden, hlen, hok, hcell⟩ := viewK_spec hI h
          obtain ⟨lit, ns, hK2, hns⟩ := bytesK_spec _ _ _ hK
          have hv2 : (v.den ρ = .string (bytesN ns) ∧ v.ok s.length = true) ∧ s' = s := by
            cases lit <;> simp [forceN_eq] at hK2 <;> (obtain ⟨rfl, rfl⟩ := hK2; exact ⟨⟨rfl, rfl⟩, rfl⟩)
          refine fin _ hv2.1 hv2.2 ?_
          rw [hden, run_convert_bytes_string w src dt e _ _ _ hs he hd]
          have hload : (loadCells a n).run P w = .ok (ns.map (Value.int .u8)).toArray w := by
            unfold loadCells
            rw [run_loadCellsFrom (w := w) (P := P) a n 0 #[] (ns.map (Value.int .u8)) (by rw [← hns ρ, List.length_map, hlen, Nat.mul_one]) (fun j u hj => by
              rw [← hns ρ] at hj
              rw [Nat.zero_add]
              exact hcell w hI j u hj)]
            simp
          rw [run_bytesToString w a n c ns hload, foldl_push]
          simp [bytesN, ByteArray.empty, ByteArray.emptyWithCapacity]
          try rfl
      · cases h
    · cases h
  · rename_i t x lo hi
    split at h
    · rename_i blk off len sz elem hx hu
      split at h
      · rename_i e b he hb
        cases hc : (Nat.beq e.size sz && Nat.blt 0 sz && Nat.beq (off % sz) 0) <;> simp only [hc, cond_true, cond_false] at h
        · cases h
        simp only [Bool.and_eq_true] at hc
        have c1 := Nat.eq_of_beq_eq_true hc.1.1
        have c2 : 0 < sz := Nat.le_of_ble_eq_true hc.1.2
        have c3 := Nat.eq_of_beq_eq_true hc.2
        split at h
        · rename_i hh hbh
          split at h
          · rename_i l hbl
            cases hd : (Nat.ble (off + hh * sz) b.cs.length && Nat.blt 0 b.cs.length && (Nat.beq l 0 || Nat.blt l hh)) <;> simp only [hd, cond_true, cond_false] at h
            · cases h
            simp only [Bool.and_eq_true, Bool.or_eq_true] at hd
            have d1 := Nat.le_of_ble_eq_true hd.1.1
            have d2 : 0 < b.cs.length := Nat.le_of_ble_eq_true hd.1.2
            rw [forceN_eq, forceN_eq] at h
            simp at h
            obtain ⟨rfl, rfl⟩ := h
            have h1 := hv _ _ hx
            have hcells : b.cs.length ≤ ρ.c blk := by
              have hne : b.cs ≠ [] := fun e => by rw [e] at d2; exact absurd d2 (Nat.lt_irrefl _)
              obtain ⟨_, r, _, h6⟩ := (hI.blk blk b hb).cells hne
              omega
            obtain ⟨q, hq⟩ : ∃ q, off = q * sz := ⟨off / sz, by have := Nat.div_add_mod off sz; rw [c3, Nat.add_zero, Nat.mul_comm] at this; exact this.symm⟩
            have hdiv : off / sz = q := by rw [hq]; exact Nat.mul_div_cancel _ c2
            have hcap : q + hh ≤ ρ.c blk / sz := (Nat.le_div_iff_mul_le c2).2 (by rw [Nat.add_mul, ← hq]; omega)
            have hb2 : bndR (hi.map ev) len (ρ.c blk / sz - off / sz) = some hh := by
              have hle : hh ≤ ρ.c blk / sz - off / sz := by rw [hdiv]; omega
              unfold bndR at hbh ⊢
              split at hbh
              · exact hbh
              · cases hbh
              · split at hbh
                · rename_i j hj
                  cases hk : (decide (0 ≤ j) && decide (j ≤ (b.cs.length : Int))) <;> simp only [hk, cond_true, cond_false] at hbh
                  · cases hbh
                  simp only [Bool.and_eq_true, decide_eq_true_eq] at hk
                  simp at hbh
                  rw [show (decide (0 ≤ j) && decide (j ≤ ((ρ.c blk / sz - off / sz : Nat) : Int))) = true by simp only [Bool.and_eq_true, decide_eq_true_eq]; omega]
                  simp [hbh]
                · cases hbh
            have hlh : l ≤ hh := by
              rcases hd.2 with h | h
              · have := Nat.eq_of_beq_eq_true h; omega
              · have : l < hh := Nat.le_of_ble_eq_true h; omega
            refine ⟨h1.2, ?_, rfl⟩
            have hsb := fun i => sliceBounds_sound (P := P) hv (isS := i) hb2 hbl w
            simp only [execOp, h1.1, SV.den, C.den, Instr.sliceAt, Instr.slice, Option.map_none, Sem.run_bind, run_underlying hu, Result.andThen_ok, Sem.run_pure, hsb, run_sizeOf he]
            have hnd : (off + l * sz) / sz = q + l := by rw [hq, ← Nat.add_mul]; exact Nat.mul_div_cancel _ c2
            rw [hnd, hdiv]
            have hsub : ρ.c blk / sz - (q + l) = ρ.c blk / sz - q - l := by omega
            rw [hsub]
            rcases hd.2 with h | h
            · have h0 := Nat.eq_of_beq_eq_true h
              subst h0
              by_cases hz : ρ.c blk / sz - q = 0
              · simp [hz]
              · simp [hz, Addr.add_lit]
                done
            · have hl : l < hh := Nat.le_of_ble_eq_true h
              have hz : ¬ (ρ.c blk / sz - q = l) := by omega
              simp [hz, Addr.add_lit, c1]
              done
          · cases h
        · cases h
      · cases h
    · cases h
  · cases h
theorem mapTy_spec {t : TypeId} (h : mapTy P t = true) : ∃ k e inf, P.underlying t = some (.map k e) ∧ P.underlying k = some (.int .i64) ∧ P.underlying e = some (.int .i64) ∧ P.info? e = some inf ∧ inf.zero = some (.int .i64 0) := by
  unfold mapTy at h
  split at h
  · rename_i k e hu
    split at h
    · rename_i inf hk he hi
      split at h
      · rename_i hz
        exact ⟨k, e, inf, hu, hk, he, hi, hz⟩
      · cases h
    · cases h
  · cases h
theorem findNow_none : ∀ (l : List (Nat × Nat)) (k : Int) (n j : Nat), lookB l k = false → Instr.findNow (.int .i64) (.int .i64 k) (mapEs n l) j = some none
  | [], _, _, _, _ => rfl
  | (a, b) :: r, k, n, j, h => by
    simp only [lookB] at h
    cases hd : decide (k = (a : Int)) <;> simp only [hd, cond_true, cond_false] at h
    · have hne := of_decide_eq_false hd
      simp only [mapEs, Instr.findNow, Instr.sameNow, if_true]
      have : (k == (a : Int)) = false := by simpa using hne
      rw [this]
      exact findNow_none r k (n + 1) (j + 1) h
    · cases h
theorem findNow_some : ∀ (l : List (Nat × Nat)) (k : Int) (n j : Nat), lookB l k = true → ∃ i, Instr.findNow (.int .i64) (.int .i64 k) (mapEs n l) j = some (some (i, .int .i64 (lookI l k)))
  | [], _, _, _, h => by cases h
  | (a, b) :: r, k, n, j, h => by
    simp only [lookB] at h
    cases hd : decide (k = (a : Int)) <;> simp only [hd, cond_true, cond_false] at h
    · have hne := of_decide_eq_false hd
      simp only [mapEs, Instr.findNow, Instr.sameNow, if_true, lookI, hd, cond_false]
      have : (k == (a : Int)) = false := by simpa using hne
      rw [this]
      exact findNow_some r k (n + 1) (j + 1) h
    · have he := of_decide_eq_true hd
      simp only [mapEs, Instr.findNow, Instr.sameNow, if_true, lookI, hd, cond_true]
      have : (k == (a : Int)) = true := by simpa using he
      rw [this]
      exact ⟨_, rfl⟩
theorem mapEs_append : ∀ (l : List (Nat × Nat)) (n k v : Nat), mapEs n (l ++ [(k, v)]) = mapEs n l ++ [{ key := .int .i64 k, val := .int .i64 v, born := n + l.length }]
  | [], n, k, v => rfl
  | (a, b) :: r, n, k, v => by
    simp only [List.cons_append, mapEs, mapEs_append r (n + 1) k v, List.length_cons]
    rw [show n + 1 + r.length = n + (r.length + 1) by omega]
theorem run_checkKey_int {t : TypeId} (h : P.underlying t = some (.int .i64)) (b : Bool) (n : Nat) (k : Int) (w : World) : (Instr.checkKey b (n + 1) t (.int .i64 k)).run P w = .ok () w := by
  simp [Instr.checkKey, run_underlying h]
theorem natLit_spec {v : SV} {n : Nat} (h : natLit v = some n) : v = .c (.i true .i64 (n : Int)) := by
  unfold natLit at h
  split at h
  · rename_i m
    cases hd : decide (0 ≤ m) <;> simp only [hd, cond_true, cond_false] at h
    · cases h
    simp at h; subst h
    rw [Int.toNat_of_nonneg (of_decide_eq_true hd)]
  · cases h
theorem look_run {t kt et : TypeId} {inf : TypeInfo} (hu : P.underlying t = some (.map kt et)) (hk : P.underlying kt = some (.int .i64)) (hi : P.info? et = some inf) (hz : inf.zero = some (.int .i64 0)) (ok l : Bool)
    (es : List (Nat × Nat)) (x : Value) (k : Int) (w : World) (ρ : Rh) (hx : (x = .map none ∧ es = []) ∨ ∃ r c, x = .map (some r) ∧ w.heap[r]? = some (.map (mapEs 0 es).toArray c)) :
    (Instr.lookup t x (.int .i64 k) ok).run P w = .ok ((ansMap ok l es k).den ρ) w := by
  have hzv : (zeroValue et).run P w = .ok (.int .i64 0) w := by simp [zeroValue, typeInfo, hi, hz]
  have hv0 : ∀ l : List (Nat × Nat), lookB l k = false → lookI l k = 0 := by
    intro l
    induction l with
    | nil => intro _; rfl
    | cons p r ih =>
      intro h
      simp only [lookB] at h
      cases hd : decide (k = (p.1 : Int)) <;> simp only [hd, cond_true, cond_false] at h
      · simp only [lookI, hd, cond_false]; exact ih h
      · cases h
  rcases hx with ⟨rfl, rfl⟩ | ⟨r, c, rfl, hw⟩
  · simp only [Instr.lookup, Sem.run_bind, run_underlying hu, Result.andThen_ok, Sem.run_pure, run_checkKey_int hk, Instr.findKey, run_underlying hk, Instr.findNow, hzv]
    cases ok <;> simp [ansMap, SV.den, S1.den, C.den, lookI, lookB]
  · have hg : (getObj r).run P w = .ok (.map (mapEs 0 es).toArray c) w := by simp [getObj, Sem.run, hw]
    simp only [Instr.lookup, Sem.run_bind, run_underlying hu, Result.andThen_ok, hg, Sem.run_pure, run_checkKey_int hk, Instr.findKey, run_underlying hk, List.toList_toArray]
    cases hb : lookB es k
    · simp only [findNow_none es k 0 0 hb, Sem.run_pure, Result.andThen_ok, Sem.run_bind, hzv]
      cases ok <;> simp [ansMap, SV.den, S1.den, C.den, hv0 es hb, hb]
    · obtain ⟨i, hf⟩ := findNow_some es k 0 0 hb
      simp only [hf, Sem.run_pure, Result.andThen_ok, Sem.run_bind]
      cases ok <;> simp [ansMap, SV.den, S1.den, C.den, hb]
theorem heapOpD_sound (hI : Inv E W L ρ s w) {ev : Operand → Option SV} {val : Operand → Value} (hv : ∀ x y, ev x = some y → val x = y.den ρ ∧ y.ok s.length = true)
    {o : Oper} {v : SV} {s' : SW} (h : heapOpD P ev s o.op = some (v, s')) :
    ∃ ρ' w' nx, Agree s.length ρ ρ' ∧ s.length ≤ s'.length ∧ v.ok s'.length = true ∧ (execOp val o).run P w = .ok nx w' ∧ Inv E W L ρ' s' w' ∧
      (nx = .value (v.den ρ') ∨ (nx = .skip ∧ v = undefS)) := by
  obtain ⟨dst, op, type, pos, after, guard⟩ := o
  unfold heapOpD at h
  simp only at h
  split at h
  · rename_i t
    cases hm : mapTy P t <;> simp only [hm, cond_true, cond_false] at h
    · cases h
    rw [forceN_eq, appLK_eq] at h
    simp at h; obtain ⟨rfl, rfl⟩ := h
    obtain ⟨ρ', hag, hn, hI'⟩ := hI.newMap
    refine ⟨ρ', _, _, hag, by simp, by simp [SV.ok, C.ok], ?_, hI', .inl rfl⟩
    simp only [execOp, Instr.makeMap, Option.map_none, Sem.run_bind, Sem.run_pure, run_newObj, Result.andThen_ok, SV.den, C.den, hn]
  · rename_i t m k x
    split at h
    · rename_i blk kv xv hm hk hx
      split at h
      · rename_i b k' v' hb hk' hv'
        cases hc : (mapTy P t && Nat.ble MAPTY b.ty && !(lookB (mapOf b.ty) k')) <;> simp only [hc, cond_true, cond_false] at h
        · cases h
        rw [forceN_eq] at h
        cases hc2 : (decide (mapOf (addMap b.ty k' v') = mapOf b.ty ++ [(k', v')]) && Nat.ble MAPTY (addMap b.ty k' v')) <;> simp only [hc2, cond_true, cond_false] at h
        · cases h
        rw [setLK_eq] at h
        simp at h; obtain ⟨rfl, rfl⟩ := h
        simp only [Bool.and_eq_true, Bool.not_eq_true'] at hc hc2
        obtain ⟨⟨c1, c2⟩, c3⟩ := hc
        have c2 := Nat.le_of_ble_eq_true c2
        have d1 := of_decide_eq_true hc2.1
        have d2 := Nat.le_of_ble_eq_true hc2.2
        obtain ⟨kt, et, inf, hu, hkt, het, hi, hz⟩ := mapTy_spec c1
        have hw := hI.hasMap hb c2
        refine ⟨ρ, _, .skip, Agree.refl _ _, by simp, undefS_ok _, ?_, hI.setMap hb c2 _ d2, .inr ⟨rfl, rfl⟩⟩
        have e1 : val m = .map (some (ρ blk)) := (hv _ _ hm).1
        have e2 : val k = .int .i64 (k' : Int) := by rw [(hv _ _ hk).1, natLit_spec hk']; rfl
        have e3 : val x = .int .i64 (v' : Int) := by rw [(hv _ _ hx).1, natLit_spec hv']; rfl
        have hobj : mapObj (addMap b.ty k' v') = .map ((mapEs 0 (mapOf b.ty)).toArray.push { key := .int .i64 (k' : Int), val := .int .i64 (v' : Int), born := (mapOf b.ty).length }) ((mapOf b.ty).length + 1) := by
          unfold mapObj
          rw [d1, mapEs_append]
          simp
        simp only [execOp, e1, e2, e3, Instr.mapUpdate, Sem.run_bind, run_underlying hu, Result.andThen_ok]
        have hg : (getObj (ρ blk)).run P w = .ok (.map (mapEs 0 (mapOf b.ty)).toArray (mapOf b.ty).length) w := by simp [getObj, Sem.run, hw, mapObj]
        simp only [Sem.run_bind, hg, Result.andThen_ok, run_checkKey_int hkt, Instr.findKey, run_underlying hkt]
        simp only [findNow_none _ _ 0 0 c3, Sem.run_pure, Result.andThen_ok, Sem.run_bind]
        rw [hobj]
        simp [setObj, Sem.run, hw, mapObj]
      · cases h
    · cases h
  · rename_i t x ix ok
    split at h
    · rename_i blk l k hx hix
      split at h
      · rename_i b hb
        cases hc : (mapTy P t && Nat.ble MAPTY b.ty) <;> simp only [hc, cond_true, cond_false] at h
        · cases h
        simp at h; obtain ⟨rfl, rfl⟩ := h
        simp only [Bool.and_eq_true] at hc
        obtain ⟨kt, et, inf, hu, hkt, het, hi, hz⟩ := mapTy_spec hc.1
        have hw := hI.hasMap hb (Nat.le_of_ble_eq_true hc.2)
        refine ⟨ρ, w, _, Agree.refl _ _, Nat.le_refl _, by cases ok <;> rfl, ?_, hI, .inl rfl⟩
        have e1 : val x = .map (some (ρ blk)) := (hv _ _ hx).1
        have e2 : val ix = .int .i64 k := (hv _ _ hix).1
        simp only [execOp, e1, e2, Sem.run_bind, look_run hu hkt hi hz ok l (mapOf b.ty) _ k w ρ (.inr ⟨ρ blk, _, rfl, hw⟩), Result.andThen_ok, Sem.run_pure]
      · cases h
    · rename_i l k hx hix
      cases hc : mapTy P t <;> simp only [hc, cond_true, cond_false] at h
      · cases h
      simp at h; obtain ⟨rfl, rfl⟩ := h
      obtain ⟨kt, et, inf, hu, hkt, het, hi, hz⟩ := mapTy_spec hc
      refine ⟨ρ, w, _, Agree.refl _ _, Nat.le_refl _, by cases ok <;> rfl, ?_, hI, .inl rfl⟩
      have e1 : val x = .map none := (hv _ _ hx).1
      have e2 : val ix = .int .i64 k := (hv _ _ hix).1
      simp only [execOp, e1, e2, Sem.run_bind, look_run hu hkt hi hz ok l [] _ k w ρ (.inl ⟨rfl, rfl⟩), Result.andThen_ok, Sem.run_pure]
    · cases h
  · cases h
theorem heapOp_sound (hI : Inv E W L ρ s w) {ev : Operand → Option SV} {val : Operand → Value} (hv : ∀ x y, ev x = some y → val x = y.den ρ ∧ y.ok s.length = true)
    {o : Oper} {v : SV} {s' : SW} (h : heapOp P ev s o.op = some (v, s')) :
    ∃ ρ' w' nx, Agree s.length ρ ρ' ∧ s.length ≤ s'.length ∧ v.ok s'.length = true ∧ (execOp val o).run P w = .ok nx w' ∧ Inv E W L ρ' s' w' ∧
      (nx = .value (v.den ρ') ∨ (nx = .skip ∧ v = undefS)) := by
  unfold heapOp at h
  split at h
  · rename_i r hr
    simp at h; subst h
    exact heapOpA_sound hI hv hr
  · split at h
    · rename_i r hr
      simp at h; subst h
      obtain ⟨ρ', w', h1, h2, h3, h4, h5⟩ := heapOpB_sound hI hv hr
      exact ⟨ρ', w', _, h1, h2, h3, h4, h5, .inl rfl⟩
    · split at h
      · rename_i r hr
        simp at h; subst h
        obtain ⟨h1, h2, rfl⟩ := heapOpC_sound hI hv hr
        exact ⟨ρ, w, _, Agree.refl _ _, Nat.le_refl _, h1, h2, hI, .inl rfl⟩
      · exact heapOpD_sound hI hv h
end
end Go.Proofs.Ytdomhmajoclpeaa.Ev
