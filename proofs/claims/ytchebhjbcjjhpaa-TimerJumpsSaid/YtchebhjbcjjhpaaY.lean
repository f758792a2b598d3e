import Derived.Test.YtchebhjbcjjhpaaX
set_option linter.unusedVariables false
set_option linter.unusedSimpArgs false
namespace Go.Proofs.Ytchebhjbcjjhpaa
open Go Go.Proofs Go.Proofs.Ytchebhjbcjjhpaa.Ev
set_option maxRecDepth 100000
noncomputable def c3 : Code := Try.f3.body.getD .skip
noncomputable def hdo (E : World) : List Item := headOf (run (pe E) (orcX E) (tabL fns) 20000 (2^200-1) [.code c3] ⟨Try.f3.ntmps, mkFrGo (Tr.mk 12) 0 [.c (.es none 0 0)]⟩ [])
def stopF : Tree Lf → List Item
  | .leaf lf => lf.todo
  | .node _ _ f => stopF f
  | .need _ t => stopF t
  | .fail => []
noncomputable def hdi (E : World) : List Item := stopF (run (pe E) (orcX E) (tabL fns) 20000 (2^200-1) (hdo E) (mkL Try.f3.ntmps [(3, .c (.p 0 0)), (4, .c (.p 1 0)), (19, .c (.es none 1 1)), (20, .c (.i true .i64 1)), (21, .c (.i true .i64 0))]) [⟨pk (fun _ => 0), 56⟩, ⟨rk (fun _ => 0) 0, 32⟩])
def lvo (a : Option Addr) (n c : Nat) (i : Nat) : List (Nat × SV) := [(3, .c (.p 0 0)), (4, .c (.p 1 0)), (19, .c (.es a n c)), (20, .c (.i false .i64 (n : Int))), (21, .c (.i false .i64 (i : Int)))]
def lvi (a : Option Addr) (n c : Nat) (i : Nat) (z1 : Int) (j : Nat) : List (Nat × SV) := [(3, .c (.p 0 0)), (4, .c (.p 1 0)), (19, .c (.es a n c)), (20, .c (.i false .i64 (n : Int))), (21, .c (.i false .i64 (i : Int))), (6, .c (.p 2 0)), (34, .c (.i false .i64 z1)), (35, .c (.i false .i64 (j : Int)))]
def kpN {α : Type} [DecidableEq α] (f : Nat → α) : Nat → Nat → Prop → Prop
  | 0, _, R => R
  | n + 1, k, R => decide (f k = f k) = true ∧ kpN f n (k + 1) R
theorem kpN_eq {α : Type} [DecidableEq α] (f : Nat → α) : ∀ n k (R : Prop), kpN f n k R = R
  | 0, _, _ => rfl
  | n + 1, k, R => by rw [kpN, kpN_eq f n (k + 1) R]; simp
def TwoL (s' : SW) (P : List C → List C → Prop) : Prop := match s' with
  | ⟨l, ty⟩ :: ⟨l2, ty2⟩ :: _ => ty = 56 ∧ ty2 = 32 ∧ wfP 4 l = true ∧ wfR 4 l2 = true ∧ P l l2
  | _ => False
def ThreeL (s' : SW) (z1 z2 z3 z4 : Int) (P : List C → List C → Prop) : Prop := match s' with
  | ⟨l, ty⟩ :: ⟨l2, ty2⟩ :: ⟨[.i false .i64 y1, .i false .i64 y2, .i false .i64 y3, .i false .u16 y4], ty3⟩ :: _ => ty = 56 ∧ ty2 = 32 ∧ ty3 = 34 ∧ y1 = z1 ∧ y2 = z2 ∧ y3 = z3 ∧ y4 = z4 ∧ wfP 4 l = true ∧ wfR 4 l2 = true ∧ P l l2
  | _ => False
structure Op2 (l l2 : List C) (R : (Nat → Int) → (Nat → Int) → Int → Prop) : Prop where
  it : R (iA l) (iA l2) (iA l2 16)
def Io (E : World) (a : Option Addr) (n c : Nat) (i : Nat) (R : (Nat → Int) → (Nat → Int) → Int → Prop) (todo : List Item) (fr : Fr) (s' : SW) : Prop :=
  TwoL s' fun l l2 => Op2 l l2 R ∧ todo = hdo E ∧ fr.nt = Try.f3.ntmps ∧ refP fr (lvo a n c i)
def Ii (E : World) (a : Option Addr) (n c : Nat) (i : Nat) (z1 z2 z3 z4 : Int) (j : Nat) (R : (Nat → Int) → (Nat → Int) → Int → Prop) (todo : List Item) (fr : Fr) (s' : SW) : Prop :=
  ThreeL s' z1 z2 z3 z4 fun l l2 => Op2 l l2 R ∧ todo = hdi E ∧ fr.nt = Try.f3.ntmps ∧ refP fr (lvi a n c i z1 j)
def rI (E : World) (a : Option Addr) (i j : Nat) : Int := eI E a ((i : Int).toNat * 4 + j)
theorem pro (E : World) (a : Option Addr) (n c : Nat) :
    (loopP (pe E) Try.f3 (fun v _ => SV.sim v (.c (.b false true))) (fun todo fr s' => todo = hdo E ∧ fr.nt = Try.f3.ntmps ∧ refP fr (lvo a n c 0) ∧ refT s' [⟨pk (fun _ => 0), 56⟩, ⟨rk (fun _ => 0) 0, 32⟩]) (run (pe E) (orcX E) (tabL fns) 20000 132 [.code c3] ⟨Try.f3.ntmps, mkFrGo (Tr.mk 12) 0 [.c (.es a n c)]⟩ [])) =
    ((decide ((↑n : Int) > (60 : Int)) = true → true = true) ∧ (decide ((↑n : Int) > (60 : Int)) = false → hdo E = hdo E ∧ (168 : Nat) = (168 : Nat) ∧ (C.p (0 : Nat) (0 : Nat)
      = C.p (0 : Nat) (0 : Nat) ∧ C.p (1 : Nat) (0 : Nat) = C.p (1 : Nat) (0 : Nat) ∧ C.es a n c = C.es a n c ∧ (IntKind.i64 = IntKind.i64 ∧ (↑n : Int) = (↑n : Int)) ∧
      IntKind.i64 = IntKind.i64 ∧ (0 : Int) = (0 : Int)) ∧ ((56 : Nat) = (56 : Nat) ∧ (IntKind.u16 = IntKind.u16 ∧ (0 : Int) = (0 : Int)) ∧ (IntKind.u16 = IntKind.u16 ∧ (0 :
      Int) = (0 : Int)) ∧ (IntKind.u16 = IntKind.u16 ∧ (0 : Int) = (0 : Int)) ∧ (IntKind.i64 = IntKind.i64 ∧ (0 : Int) = (0 : Int)) ∧ (IntKind.u16 = IntKind.u16 ∧ (0 : Int) = (0
      : Int)) ∧ (IntKind.u16 = IntKind.u16 ∧ (0 : Int) = (0 : Int)) ∧ (IntKind.u16 = IntKind.u16 ∧ (0 : Int) = (0 : Int)) ∧ (IntKind.i64 = IntKind.i64 ∧ (0 : Int) = (0 : Int)) ∧
      (IntKind.u16 = IntKind.u16 ∧ (0 : Int) = (0 : Int)) ∧ (IntKind.u16 = IntKind.u16 ∧ (0 : Int) = (0 : Int)) ∧ (IntKind.u16 = IntKind.u16 ∧ (0 : Int) = (0 : Int)) ∧
      (IntKind.i64 = IntKind.i64 ∧ (0 : Int) = (0 : Int)) ∧ (IntKind.u16 = IntKind.u16 ∧ (0 : Int) = (0 : Int)) ∧ (IntKind.u16 = IntKind.u16 ∧ (0 : Int) = (0 : Int)) ∧
      (IntKind.u16 = IntKind.u16 ∧ (0 : Int) = (0 : Int)) ∧ IntKind.i64 = IntKind.i64 ∧ (0 : Int) = (0 : Int)) ∧ ((32 : Nat) = (32 : Nat) ∧ (IntKind.i64 = IntKind.i64 ∧ (0 :
      Int) = (0 : Int)) ∧ (IntKind.u16 = IntKind.u16 ∧ (0 : Int) = (0 : Int)) ∧ (IntKind.i64 = IntKind.i64 ∧ (0 : Int) = (0 : Int)) ∧ (IntKind.i64 = IntKind.i64 ∧ (0 : Int) = (0
      : Int)) ∧ (IntKind.i64 = IntKind.i64 ∧ (0 : Int) = (0 : Int)) ∧ (IntKind.u16 = IntKind.u16 ∧ (0 : Int) = (0 : Int)) ∧ (IntKind.i64 = IntKind.i64 ∧ (0 : Int) = (0 : Int)) ∧
      (IntKind.i64 = IntKind.i64 ∧ (0 : Int) = (0 : Int)) ∧ (IntKind.i64 = IntKind.i64 ∧ (0 : Int) = (0 : Int)) ∧ (IntKind.u16 = IntKind.u16 ∧ (0 : Int) = (0 : Int)) ∧
      (IntKind.i64 = IntKind.i64 ∧ (0 : Int) = (0 : Int)) ∧ (IntKind.i64 = IntKind.i64 ∧ (0 : Int) = (0 : Int)) ∧ (IntKind.i64 = IntKind.i64 ∧ (0 : Int) = (0 : Int)) ∧
      (IntKind.u16 = IntKind.u16 ∧ (0 : Int) = (0 : Int)) ∧ (IntKind.i64 = IntKind.i64 ∧ (0 : Int) = (0 : Int)) ∧ (IntKind.i64 = IntKind.i64 ∧ (0 : Int) = (0 : Int)) ∧
      IntKind.i64 = IntKind.i64 ∧ (0 : Int) = (0 : Int)) ∧ True)) := by kernel_rfl
theorem outer (E : World) (a : Option Addr) (n c : Nat) (i : Nat) (p q : Nat → Int) (w : Int) (R R' : (Nat → Int) → (Nat → Int) → Int → Prop) :
    (loopP (pe E) Try.f3 (fun v _ => SV.sim v (.c (.b false true))) (fun todo fr s' => cond (Nat.beq todo.length 4) (Io E a n c (i + 1) R todo fr s') (Ii E a n c i (rI E a i 0) (rI E a i 1) (rI E a i 2) (rI E a i 3) 0 R' todo fr s')) (run (pe E) (orcX E) (tabL fns) 20000 132 (hdo E) (mkL Try.f3.ntmps (lvo a n c i)) [⟨pk p, 56⟩, ⟨rk q w, 32⟩])) =
    ((decide ((↑i : Int) < (↑n : Int)) = true → inB (↑i : Int) n = true ∧ a.isSome = true ∧ eRow E a ((↑i : Int).toNat * (4 : Nat) + (0 : Nat)) ([EK.i IntKind.i64] ++ ([EK.i
      IntKind.i64] ++ ([EK.i IntKind.i64] ++ ([EK.i IntKind.u16] ++ [])))) = true ∧ ((bif decide (eI E a ((↑i : Int).toNat * (4 : Nat) + (0 : Nat)) < (0 : Int)) then true else
      decide (eI E a ((↑i : Int).toNat * (4 : Nat) + (0 : Nat)) > (5000 : Int))) = true → (56 : Nat) = (56 : Nat) ∧ (32 : Nat) = (32 : Nat) ∧ wfP (4 : Nat) (pk p) = true ∧ wfR
      (4 : Nat) (rk q w) = true ∧ Op2 (pk p) (rk q w) R ∧ hdo E = hdo E ∧ (168 : Nat) = (168 : Nat) ∧ C.p (0 : Nat) (0 : Nat) = C.p (0 : Nat) (0 : Nat) ∧ C.p (1 : Nat) (0 : Nat)
      = C.p (1 : Nat) (0 : Nat) ∧ C.es a n c = C.es a n c ∧ (IntKind.i64 = IntKind.i64 ∧ (↑n : Int) = (↑n : Int)) ∧ IntKind.i64 = IntKind.i64 ∧ IntKind.i64.wrap ((↑i : Int) + (1
      : Int)) = (↑(i + (1 : Nat)) : Int)) ∧ ((bif decide (eI E a ((↑i : Int).toNat * (4 : Nat) + (0 : Nat)) < (0 : Int)) then true else decide (eI E a ((↑i : Int).toNat * (4 :
      Nat) + (0 : Nat)) > (5000 : Int))) = false → (56 : Nat) = (56 : Nat) ∧ (32 : Nat) = (32 : Nat) ∧ (34 : Nat) = (34 : Nat) ∧ eI E a ((↑i : Int).toNat * (4 : Nat) + (0 :
      Nat)) = rI E a i (0 : Nat) ∧ eI E a ((↑i : Int).toNat * (4 : Nat) + (1 : Nat)) = rI E a i (1 : Nat) ∧ eI E a ((↑i : Int).toNat * (4 : Nat) + (2 : Nat)) = rI E a i (2 :
      Nat) ∧ eI E a ((↑i : Int).toNat * (4 : Nat) + (3 : Nat)) = rI E a i (3 : Nat) ∧ wfP (4 : Nat) (pk p) = true ∧ wfR (4 : Nat) (rk q w) = true ∧ Op2 (pk p) (rk q w) R' ∧ hdi
      E = hdi E ∧ (168 : Nat) = (168 : Nat) ∧ C.p (0 : Nat) (0 : Nat) = C.p (0 : Nat) (0 : Nat) ∧ C.p (1 : Nat) (0 : Nat) = C.p (1 : Nat) (0 : Nat) ∧ C.es a n c = C.es a n c ∧
      (IntKind.i64 = IntKind.i64 ∧ (↑n : Int) = (↑n : Int)) ∧ (IntKind.i64 = IntKind.i64 ∧ (↑i : Int) = (↑i : Int)) ∧ C.p (2 : Nat) (0 : Nat) = C.p (2 : Nat) (0 : Nat) ∧
      (IntKind.i64 = IntKind.i64 ∧ eI E a ((↑i : Int).toNat * (4 : Nat) + (0 : Nat)) = rI E a i (0 : Nat)) ∧ IntKind.i64 = IntKind.i64 ∧ (0 : Int) = (0 : Int))) ∧ (decide ((↑i :
      Int) < (↑n : Int)) = false → true = true)) := by kernel_rfl
theorem inner (E : World) (a : Option Addr) (n c : Nat) (i j : Nat) (p q : Nat → Int) (w : Int) (z1 z2 z3 z4 : Int) (R R' : (Nat → Int) → (Nat → Int) → Int → Prop) :
    (loopP (pe E) Try.f3 (fun v _ => SV.sim v (.c (.b false true))) (fun todo fr s' => cond (Nat.beq todo.length 4) (Io E a n c (i + 1) R todo fr s') (Ii E a n c i z1 z2 z3 z4 (j + 1) R' todo fr s')) (run (pe E) (orcX E) (tabL fns) 20000 132 (hdi E) (mkL Try.f3.ntmps (lvi a n c i z1 j)) [⟨pk p, 56⟩, ⟨rk q w, 32⟩, ⟨[.i false .i64 z1, .i false .i64 z2, .i false .i64 z3, .i false .u16 z4], 34⟩])) =
    ((decide ((↑j : Int) < z1) = true → decide ((0 : Int) ≤ iA (rk q w) (1 : Nat)) = true ∧ decide ((0 : Int) ≤ iA (rk q w) (5 : Nat)) = true ∧ decide ((0 : Int) ≤ iA (rk q w)
      (9 : Nat)) = true ∧ decide ((0 : Int) ≤ iA (rk q w) (13 : Nat)) = true ∧ ((fiM (iA (pk p)) (IntKind.i64.wrap (iA (rk q w) (16 : Nat) + (1 : Int))) != ov4 (iA (rk q w))) =
      true → false = true) ∧ ((fiM (iA (pk p)) (IntKind.i64.wrap (iA (rk q w) (16 : Nat) + (1 : Int))) != ov4 (iA (rk q w))) = false → ((fiM (iA (pk p)) (IntKind.i64.wrap (iA
      (rk q w) (16 : Nat) + (1 : Int))) != (0 : Int)) = true → ((fiA (iA (pk p)) (IntKind.i64.wrap (iA (rk q w) (16 : Nat) + (1 : Int))) != IntKind.i64.wrap (iA (rk q w) (16 :
      Nat) + (1 : Int))) = true → false = true) ∧ ((fiA (iA (pk p)) (IntKind.i64.wrap (iA (rk q w) (16 : Nat) + (1 : Int))) != IntKind.i64.wrap (iA (rk q w) (16 : Nat) + (1 :
      Int))) = false → (56 : Nat) = (56 : Nat) ∧ (32 : Nat) = (32 : Nat) ∧ (34 : Nat) = (34 : Nat) ∧ z1 = z1 ∧ z2 = z2 ∧ z3 = z3 ∧ z4 = z4 ∧ wfP (4 : Nat) (pk (fiP (iA (pk p))
      (IntKind.i64.wrap (iA (rk q w) (16 : Nat) + (1 : Int))))) = true ∧ wfR (4 : Nat) (rk (q4 (iA (rk q w))) (IntKind.i64.wrap (iA (rk q w) (16 : Nat) + (1 : Int)))) = true ∧
      Op2 (pk (fiP (iA (pk p)) (IntKind.i64.wrap (iA (rk q w) (16 : Nat) + (1 : Int))))) (rk (q4 (iA (rk q w))) (IntKind.i64.wrap (iA (rk q w) (16 : Nat) + (1 : Int)))) R' ∧ hdi
      E = hdi E ∧ (168 : Nat) = (168 : Nat) ∧ C.p (0 : Nat) (0 : Nat) = C.p (0 : Nat) (0 : Nat) ∧ C.p (1 : Nat) (0 : Nat) = C.p (1 : Nat) (0 : Nat) ∧ C.es a n c = C.es a n c ∧
      (IntKind.i64 = IntKind.i64 ∧ (↑n : Int) = (↑n : Int)) ∧ (IntKind.i64 = IntKind.i64 ∧ (↑i : Int) = (↑i : Int)) ∧ C.p (2 : Nat) (0 : Nat) = C.p (2 : Nat) (0 : Nat) ∧
      (IntKind.i64 = IntKind.i64 ∧ z1 = z1) ∧ IntKind.i64 = IntKind.i64 ∧ IntKind.i64.wrap ((↑j : Int) + (1 : Int)) = (↑(j + (1 : Nat)) : Int))) ∧ ((fiM (iA (pk p))
      (IntKind.i64.wrap (iA (rk q w) (16 : Nat) + (1 : Int))) != (0 : Int)) = false → (56 : Nat) = (56 : Nat) ∧ (32 : Nat) = (32 : Nat) ∧ (34 : Nat) = (34 : Nat) ∧ z1 = z1 ∧ z2
      = z2 ∧ z3 = z3 ∧ z4 = z4 ∧ wfP (4 : Nat) (pk (fiP (iA (pk p)) (IntKind.i64.wrap (iA (rk q w) (16 : Nat) + (1 : Int))))) = true ∧ wfR (4 : Nat) (rk (q4 (iA (rk q w)))
      (IntKind.i64.wrap (iA (rk q w) (16 : Nat) + (1 : Int)))) = true ∧ Op2 (pk (fiP (iA (pk p)) (IntKind.i64.wrap (iA (rk q w) (16 : Nat) + (1 : Int))))) (rk (q4 (iA (rk q w)))
      (IntKind.i64.wrap (iA (rk q w) (16 : Nat) + (1 : Int)))) R' ∧ hdi E = hdi E ∧ (168 : Nat) = (168 : Nat) ∧ C.p (0 : Nat) (0 : Nat) = C.p (0 : Nat) (0 : Nat) ∧ C.p (1 : Nat)
      (0 : Nat) = C.p (1 : Nat) (0 : Nat) ∧ C.es a n c = C.es a n c ∧ (IntKind.i64 = IntKind.i64 ∧ (↑n : Int) = (↑n : Int)) ∧ (IntKind.i64 = IntKind.i64 ∧ (↑i : Int) = (↑i :
      Int)) ∧ C.p (2 : Nat) (0 : Nat) = C.p (2 : Nat) (0 : Nat) ∧ (IntKind.i64 = IntKind.i64 ∧ z1 = z1) ∧ IntKind.i64 = IntKind.i64 ∧ IntKind.i64.wrap ((↑j : Int) + (1 : Int)) =
      (↑(j + (1 : Nat)) : Int)))) ∧ (decide ((↑j : Int) < z1) = false → ((z2 == (0 : Int)) = true → ((bif decide (z3 ≥ (0 : Int)) then decide (z3 < (4 : Int)) else false) = true
      → inB z3 (4 : Nat) = true ∧ kpN (fun q_ => sel4 z3 (u1 (iA (pk p)) (0 : Nat) z4) (u1 (iA (pk p)) (4 : Nat) z4) (u1 (iA (pk p)) (8 : Nat) z4) (u1 (iA (pk p)) (12 : Nat) z4)
      (iA (pk p)) q_) 16 0 (decide ((bif z3 == (0 : Int) then IntKind.i64.wrap z4 else q (0 : Nat)) = bif z3 == (0 : Int) then IntKind.i64.wrap z4 else q (0 : Nat)) = true ∧
      decide (q (1 : Nat) = q (1 : Nat)) = true ∧ decide (q (2 : Nat) = q (2 : Nat)) = true ∧ decide (q (3 : Nat) = q (3 : Nat)) = true ∧ decide ((bif z3 == (1 : Int) then
      IntKind.i64.wrap z4 else q (4 : Nat)) = bif z3 == (1 : Int) then IntKind.i64.wrap z4 else q (4 : Nat)) = true ∧ decide (q (5 : Nat) = q (5 : Nat)) = true ∧ decide (q (6 :
      Nat) = q (6 : Nat)) = true ∧ decide (q (7 : Nat) = q (7 : Nat)) = true ∧ decide ((bif z3 == (2 : Int) then IntKind.i64.wrap z4 else q (8 : Nat)) = bif z3 == (2 : Int) then
      IntKind.i64.wrap z4 else q (8 : Nat)) = true ∧ decide (q (9 : Nat) = q (9 : Nat)) = true ∧ decide (q (10 : Nat) = q (10 : Nat)) = true ∧ decide (q (11 : Nat) = q (11 :
      Nat)) = true ∧ decide ((bif z3 == (3 : Int) then IntKind.i64.wrap z4 else q (12 : Nat)) = bif z3 == (3 : Int) then IntKind.i64.wrap z4 else q (12 : Nat)) = true ∧ decide
      (q (13 : Nat) = q (13 : Nat)) = true ∧ decide (q (14 : Nat) = q (14 : Nat)) = true ∧ decide (q (15 : Nat) = q (15 : Nat)) = true ∧ decide (w = w) = true ∧ decide (z1 = z1)
      = true ∧ decide (z2 = z2) = true ∧ decide (z3 = z3) = true ∧ decide (z4 = z4) = true ∧ ((IntKind.i64.wrap (rdV (iA (pk (sel4 z3 (u1 (iA (pk p)) (0 : Nat) z4) (u1 (iA (pk
      p)) (4 : Nat) z4) (u1 (iA (pk p)) (8 : Nat) z4) (u1 (iA (pk p)) (12 : Nat) z4) (iA (pk p))))) (0 : Nat) w) != q (2 : Nat)) = true → false = true) ∧ ((IntKind.i64.wrap (rdV
      (iA (pk (sel4 z3 (u1 (iA (pk p)) (0 : Nat) z4) (u1 (iA (pk p)) (4 : Nat) z4) (u1 (iA (pk p)) (8 : Nat) z4) (u1 (iA (pk p)) (12 : Nat) z4) (iA (pk p))))) (0 : Nat) w) != q
      (2 : Nat)) = false → kpN (fun q_ => sel4 z3 (u1 (iA (pk p)) (0 : Nat) z4) (u1 (iA (pk p)) (4 : Nat) z4) (u1 (iA (pk p)) (8 : Nat) z4) (u1 (iA (pk p)) (12 : Nat) z4) (iA
      (pk p)) q_) 16 0 (decide ((bif z3 == (0 : Int) then IntKind.i64.wrap z4 else q (0 : Nat)) = bif z3 == (0 : Int) then IntKind.i64.wrap z4 else q (0 : Nat)) = true ∧ decide
      (q (1 : Nat) = q (1 : Nat)) = true ∧ decide (q (2 : Nat) = q (2 : Nat)) = true ∧ decide (q (3 : Nat) = q (3 : Nat)) = true ∧ decide ((bif z3 == (1 : Int) then
      IntKind.i64.wrap z4 else q (4 : Nat)) = bif z3 == (1 : Int) then IntKind.i64.wrap z4 else q (4 : Nat)) = true ∧ decide (q (5 : Nat) = q (5 : Nat)) = true ∧ decide (q (6 :
      Nat) = q (6 : Nat)) = true ∧ decide (q (7 : Nat) = q (7 : Nat)) = true ∧ decide ((bif z3 == (2 : Int) then IntKind.i64.wrap z4 else q (8 : Nat)) = bif z3 == (2 : Int) then
      IntKind.i64.wrap z4 else q (8 : Nat)) = true ∧ decide (q (9 : Nat) = q (9 : Nat)) = true ∧ decide (q (10 : Nat) = q (10 : Nat)) = true ∧ decide (q (11 : Nat) = q (11 :
      Nat)) = true ∧ decide ((bif z3 == (3 : Int) then IntKind.i64.wrap z4 else q (12 : Nat)) = bif z3 == (3 : Int) then IntKind.i64.wrap z4 else q (12 : Nat)) = true ∧ decide
      (q (13 : Nat) = q (13 : Nat)) = true ∧ decide (q (14 : Nat) = q (14 : Nat)) = true ∧ decide (q (15 : Nat) = q (15 : Nat)) = true ∧ decide (w = w) = true ∧ decide (z1 = z1)
      = true ∧ decide (z2 = z2) = true ∧ decide (z3 = z3) = true ∧ decide (z4 = z4) = true ∧ ((iA (pk (sel4 z3 (u1 (iA (pk p)) (0 : Nat) z4) (u1 (iA (pk p)) (4 : Nat) z4) (u1
      (iA (pk p)) (8 : Nat) z4) (u1 (iA (pk p)) (12 : Nat) z4) (iA (pk p)))) (1 : Nat) != q (1 : Nat)) = true → false = true) ∧ ((iA (pk (sel4 z3 (u1 (iA (pk p)) (0 : Nat) z4)
      (u1 (iA (pk p)) (4 : Nat) z4) (u1 (iA (pk p)) (8 : Nat) z4) (u1 (iA (pk p)) (12 : Nat) z4) (iA (pk p)))) (1 : Nat) != q (1 : Nat)) = false → kpN (fun q_ => sel4 z3 (u1 (iA
      (pk p)) (0 : Nat) z4) (u1 (iA (pk p)) (4 : Nat) z4) (u1 (iA (pk p)) (8 : Nat) z4) (u1 (iA (pk p)) (12 : Nat) z4) (iA (pk p)) q_) 16 0 (decide ((bif z3 == (0 : Int) then
      IntKind.i64.wrap z4 else q (0 : Nat)) = bif z3 == (0 : Int) then IntKind.i64.wrap z4 else q (0 : Nat)) = true ∧ decide (q (1 : Nat) = q (1 : Nat)) = true ∧ decide (q (2 :
      Nat) = q (2 : Nat)) = true ∧ decide (q (3 : Nat) = q (3 : Nat)) = true ∧ decide ((bif z3 == (1 : Int) then IntKind.i64.wrap z4 else q (4 : Nat)) = bif z3 == (1 : Int) then
      IntKind.i64.wrap z4 else q (4 : Nat)) = true ∧ decide (q (5 : Nat) = q (5 : Nat)) = true ∧ decide (q (6 : Nat) = q (6 : Nat)) = true ∧ decide (q (7 : Nat) = q (7 : Nat)) =
      true ∧ decide ((bif z3 == (2 : Int) then IntKind.i64.wrap z4 else q (8 : Nat)) = bif z3 == (2 : Int) then IntKind.i64.wrap z4 else q (8 : Nat)) = true ∧ decide (q (9 :
      Nat) = q (9 : Nat)) = true ∧ decide (q (10 : Nat) = q (10 : Nat)) = true ∧ decide (q (11 : Nat) = q (11 : Nat)) = true ∧ decide ((bif z3 == (3 : Int) then IntKind.i64.wrap
      z4 else q (12 : Nat)) = bif z3 == (3 : Int) then IntKind.i64.wrap z4 else q (12 : Nat)) = true ∧ decide (q (13 : Nat) = q (13 : Nat)) = true ∧ decide (q (14 : Nat) = q (14
      : Nat)) = true ∧ decide (q (15 : Nat) = q (15 : Nat)) = true ∧ decide (w = w) = true ∧ decide (z1 = z1) = true ∧ decide (z2 = z2) = true ∧ decide (z3 = z3) = true ∧ decide
      (z4 = z4) = true ∧ ((true ^^ (a1 (iA (pk (sel4 z3 (u1 (iA (pk p)) (0 : Nat) z4) (u1 (iA (pk p)) (4 : Nat) z4) (u1 (iA (pk p)) (8 : Nat) z4) (u1 (iA (pk p)) (12 : Nat) z4)
      (iA (pk p)))) (1 : Nat)) (64 : Int) != (0 : Int)) == (bits BinOp.and IntKind.u16 ((q (1 : Nat)).fdiv (64 : Int)) (1 : Int) == (1 : Int))) = true → false = true) ∧ ((true
      ^^ (a1 (iA (pk (sel4 z3 (u1 (iA (pk p)) (0 : Nat) z4) (u1 (iA (pk p)) (4 : Nat) z4) (u1 (iA (pk p)) (8 : Nat) z4) (u1 (iA (pk p)) (12 : Nat) z4) (iA (pk p)))) (1 : Nat))
      (64 : Int) != (0 : Int)) == (bits BinOp.and IntKind.u16 ((q (1 : Nat)).fdiv (64 : Int)) (1 : Int) == (1 : Int))) = false → kpN (fun q_ => sel4 z3 (u1 (iA (pk p)) (0 : Nat)
      z4) (u1 (iA (pk p)) (4 : Nat) z4) (u1 (iA (pk p)) (8 : Nat) z4) (u1 (iA (pk p)) (12 : Nat) z4) (iA (pk p)) q_) 16 0 (decide ((bif z3 == (0 : Int) then IntKind.i64.wrap z4
      else q (0 : Nat)) = bif z3 == (0 : Int) then IntKind.i64.wrap z4 else q (0 : Nat)) = true ∧ decide (q (1 : Nat) = q (1 : Nat)) = true ∧ decide (q (2 : Nat) = q (2 : Nat))
      = true ∧ decide (q (3 : Nat) = q (3 : Nat)) = true ∧ decide ((bif z3 == (1 : Int) then IntKind.i64.wrap z4 else q (4 : Nat)) = bif z3 == (1 : Int) then IntKind.i64.wrap z4
      else q (4 : Nat)) = true ∧ decide (q (5 : Nat) = q (5 : Nat)) = true ∧ decide (q (6 : Nat) = q (6 : Nat)) = true ∧ decide (q (7 : Nat) = q (7 : Nat)) = true ∧ decide ((bif
      z3 == (2 : Int) then IntKind.i64.wrap z4 else q (8 : Nat)) = bif z3 == (2 : Int) then IntKind.i64.wrap z4 else q (8 : Nat)) = true ∧ decide (q (9 : Nat) = q (9 : Nat)) =
      true ∧ decide (q (10 : Nat) = q (10 : Nat)) = true ∧ decide (q (11 : Nat) = q (11 : Nat)) = true ∧ decide ((bif z3 == (3 : Int) then IntKind.i64.wrap z4 else q (12 : Nat))
      = bif z3 == (3 : Int) then IntKind.i64.wrap z4 else q (12 : Nat)) = true ∧ decide (q (13 : Nat) = q (13 : Nat)) = true ∧ decide (q (14 : Nat) = q (14 : Nat)) = true ∧
      decide (q (15 : Nat) = q (15 : Nat)) = true ∧ decide (w = w) = true ∧ decide (z1 = z1) = true ∧ decide (z2 = z2) = true ∧ decide (z3 = z3) = true ∧ decide (z4 = z4) = true
      ∧ ((IntKind.i64.wrap (rdV (iA (pk (sel4 z3 (u1 (iA (pk p)) (0 : Nat) z4) (u1 (iA (pk p)) (4 : Nat) z4) (u1 (iA (pk p)) (8 : Nat) z4) (u1 (iA (pk p)) (12 : Nat) z4) (iA (pk
      p))))) (1 : Nat) w) != q (6 : Nat)) = true → false = true) ∧ ((IntKind.i64.wrap (rdV (iA (pk (sel4 z3 (u1 (iA (pk p)) (0 : Nat) z4) (u1 (iA (pk p)) (4 : Nat) z4) (u1 (iA
      (pk p)) (8 : Nat) z4) (u1 (iA (pk p)) (12 : Nat) z4) (iA (pk p))))) (1 : Nat) w) != q (6 : Nat)) = false → kpN (fun q_ => sel4 z3 (u1 (iA (pk p)) (0 : Nat) z4) (u1 (iA (pk
      p)) (4 : Nat) z4) (u1 (iA (pk p)) (8 : Nat) z4) (u1 (iA (pk p)) (12 : Nat) z4) (iA (pk p)) q_) 16 0 (decide ((bif z3 == (0 : Int) then IntKind.i64.wrap z4 else q (0 :
      Nat)) = bif z3 == (0 : Int) then IntKind.i64.wrap z4 else q (0 : Nat)) = true ∧ decide (q (1 : Nat) = q (1 : Nat)) = true ∧ decide (q (2 : Nat) = q (2 : Nat)) = true ∧
      decide (q (3 : Nat) = q (3 : Nat)) = true ∧ decide ((bif z3 == (1 : Int) then IntKind.i64.wrap z4 else q (4 : Nat)) = bif z3 == (1 : Int) then IntKind.i64.wrap z4 else q
      (4 : Nat)) = true ∧ decide (q (5 : Nat) = q (5 : Nat)) = true ∧ decide (q (6 : Nat) = q (6 : Nat)) = true ∧ decide (q (7 : Nat) = q (7 : Nat)) = true ∧ decide ((bif z3 ==
      (2 : Int) then IntKind.i64.wrap z4 else q (8 : Nat)) = bif z3 == (2 : Int) then IntKind.i64.wrap z4 else q (8 : Nat)) = true ∧ decide (q (9 : Nat) = q (9 : Nat)) = true ∧
      decide (q (10 : Nat) = q (10 : Nat)) = true ∧ decide (q (11 : Nat) = q (11 : Nat)) = true ∧ decide ((bif z3 == (3 : Int) then IntKind.i64.wrap z4 else q (12 : Nat)) = bif
      z3 == (3 : Int) then IntKind.i64.wrap z4 else q (12 : Nat)) = true ∧ decide (q (13 : Nat) = q (13 : Nat)) = true ∧ decide (q (14 : Nat) = q (14 : Nat)) = true ∧ decide (q
      (15 : Nat) = q (15 : Nat)) = true ∧ decide (w = w) = true ∧ decide (z1 = z1) = true ∧ decide (z2 = z2) = true ∧ decide (z3 = z3) = true ∧ decide (z4 = z4) = true ∧ ((iA
      (pk (sel4 z3 (u1 (iA (pk p)) (0 : Nat) z4) (u1 (iA (pk p)) (4 : Nat) z4) (u1 (iA (pk p)) (8 : Nat) z4) (u1 (iA (pk p)) (12 : Nat) z4) (iA (pk p)))) (5 : Nat) != q (5 :
      Nat)) = true → false = true) ∧ ((iA (pk (sel4 z3 (u1 (iA (pk p)) (0 : Nat) z4) (u1 (iA (pk p)) (4 : Nat) z4) (u1 (iA (pk p)) (8 : Nat) z4) (u1 (iA (pk p)) (12 : Nat) z4)
      (iA (pk p)))) (5 : Nat) != q (5 : Nat)) = false → kpN (fun q_ => sel4 z3 (u1 (iA (pk p)) (0 : Nat) z4) (u1 (iA (pk p)) (4 : Nat) z4) (u1 (iA (pk p)) (8 : Nat) z4) (u1 (iA
      (pk p)) (12 : Nat) z4) (iA (pk p)) q_) 16 0 (decide ((bif z3 == (0 : Int) then IntKind.i64.wrap z4 else q (0 : Nat)) = bif z3 == (0 : Int) then IntKind.i64.wrap z4 else q
      (0 : Nat)) = true ∧ decide (q (1 : Nat) = q (1 : Nat)) = true ∧ decide (q (2 : Nat) = q (2 : Nat)) = true ∧ decide (q (3 : Nat) = q (3 : Nat)) = true ∧ decide ((bif z3 ==
      (1 : Int) then IntKind.i64.wrap z4 else q (4 : Nat)) = bif z3 == (1 : Int) then IntKind.i64.wrap z4 else q (4 : Nat)) = true ∧ decide (q (5 : Nat) = q (5 : Nat)) = true ∧
      decide (q (6 : Nat) = q (6 : Nat)) = true ∧ decide (q (7 : Nat) = q (7 : Nat)) = true ∧ decide ((bif z3 == (2 : Int) then IntKind.i64.wrap z4 else q (8 : Nat)) = bif z3 ==
      (2 : Int) then IntKind.i64.wrap z4 else q (8 : Nat)) = true ∧ decide (q (9 : Nat) = q (9 : Nat)) = true ∧ decide (q (10 : Nat) = q (10 : Nat)) = true ∧ decide (q (11 :
      Nat) = q (11 : Nat)) = true ∧ decide ((bif z3 == (3 : Int) then IntKind.i64.wrap z4 else q (12 : Nat)) = bif z3 == (3 : Int) then IntKind.i64.wrap z4 else q (12 : Nat)) =
      true ∧ decide (q (13 : Nat) = q (13 : Nat)) = true ∧ decide (q (14 : Nat) = q (14 : Nat)) = true ∧ decide (q (15 : Nat) = q (15 : Nat)) = true ∧ decide (w = w) = true ∧
      decide (z1 = z1) = true ∧ decide (z2 = z2) = true ∧ decide (z3 = z3) = true ∧ decide (z4 = z4) = true ∧ ((true ^^ (a1 (iA (pk (sel4 z3 (u1 (iA (pk p)) (0 : Nat) z4) (u1
      (iA (pk p)) (4 : Nat) z4) (u1 (iA (pk p)) (8 : Nat) z4) (u1 (iA (pk p)) (12 : Nat) z4) (iA (pk p)))) (5 : Nat)) (64 : Int) != (0 : Int)) == (bits BinOp.and IntKind.u16 ((q
      (5 : Nat)).fdiv (64 : Int)) (1 : Int) == (1 : Int))) = true → false = true) ∧ ((true ^^ (a1 (iA (pk (sel4 z3 (u1 (iA (pk p)) (0 : Nat) z4) (u1 (iA (pk p)) (4 : Nat) z4)
      (u1 (iA (pk p)) (8 : Nat) z4) (u1 (iA (pk p)) (12 : Nat) z4) (iA (pk p)))) (5 : Nat)) (64 : Int) != (0 : Int)) == (bits BinOp.and IntKind.u16 ((q (5 : Nat)).fdiv (64 :
      Int)) (1 : Int) == (1 : Int))) = false → kpN (fun q_ => sel4 z3 (u1 (iA (pk p)) (0 : Nat) z4) (u1 (iA (pk p)) (4 : Nat) z4) (u1 (iA (pk p)) (8 : Nat) z4) (u1 (iA (pk p))
      (12 : Nat) z4) (iA (pk p)) q_) 16 0 (decide ((bif z3 == (0 : Int) then IntKind.i64.wrap z4 else q (0 : Nat)) = bif z3 == (0 : Int) then IntKind.i64.wrap z4 else q (0 :
      Nat)) = true ∧ decide (q (1 : Nat) = q (1 : Nat)) = true ∧ decide (q (2 : Nat) = q (2 : Nat)) = true ∧ decide (q (3 : Nat) = q (3 : Nat)) = true ∧ decide ((bif z3 == (1 :
      Int) then IntKind.i64.wrap z4 else q (4 : Nat)) = bif z3 == (1 : Int) then IntKind.i64.wrap z4 else q (4 : Nat)) = true ∧ decide (q (5 : Nat) = q (5 : Nat)) = true ∧
      decide (q (6 : Nat) = q (6 : Nat)) = true ∧ decide (q (7 : Nat) = q (7 : Nat)) = true ∧ decide ((bif z3 == (2 : Int) then IntKind.i64.wrap z4 else q (8 : Nat)) = bif z3 ==
      (2 : Int) then IntKind.i64.wrap z4 else q (8 : Nat)) = true ∧ decide (q (9 : Nat) = q (9 : Nat)) = true ∧ decide (q (10 : Nat) = q (10 : Nat)) = true ∧ decide (q (11 :
      Nat) = q (11 : Nat)) = true ∧ decide ((bif z3 == (3 : Int) then IntKind.i64.wrap z4 else q (12 : Nat)) = bif z3 == (3 : Int) then IntKind.i64.wrap z4 else q (12 : Nat)) =
      true ∧ decide (q (13 : Nat) = q (13 : Nat)) = true ∧ decide (q (14 : Nat) = q (14 : Nat)) = true ∧ decide (q (15 : Nat) = q (15 : Nat)) = true ∧ decide (w = w) = true ∧
      decide (z1 = z1) = true ∧ decide (z2 = z2) = true ∧ decide (z3 = z3) = true ∧ decide (z4 = z4) = true ∧ ((IntKind.i64.wrap (rdV (iA (pk (sel4 z3 (u1 (iA (pk p)) (0 : Nat)
      z4) (u1 (iA (pk p)) (4 : Nat) z4) (u1 (iA (pk p)) (8 : Nat) z4) (u1 (iA (pk p)) (12 : Nat) z4) (iA (pk p))))) (2 : Nat) w) != q (10 : Nat)) = true → false = true) ∧
      ((IntKind.i64.wrap (rdV (iA (pk (sel4 z3 (u1 (iA (pk p)) (0 : Nat) z4) (u1 (iA (pk p)) (4 : Nat) z4) (u1 (iA (pk p)) (8 : Nat) z4) (u1 (iA (pk p)) (12 : Nat) z4) (iA (pk
      p))))) (2 : Nat) w) != q (10 : Nat)) = false → kpN (fun q_ => sel4 z3 (u1 (iA (pk p)) (0 : Nat) z4) (u1 (iA (pk p)) (4 : Nat) z4) (u1 (iA (pk p)) (8 : Nat) z4) (u1 (iA (pk
      p)) (12 : Nat) z4) (iA (pk p)) q_) 16 0 (decide ((bif z3 == (0 : Int) then IntKind.i64.wrap z4 else q (0 : Nat)) = bif z3 == (0 : Int) then IntKind.i64.wrap z4 else q (0 :
      Nat)) = true ∧ decide (q (1 : Nat) = q (1 : Nat)) = true ∧ decide (q (2 : Nat) = q (2 : Nat)) = true ∧ decide (q (3 : Nat) = q (3 : Nat)) = true ∧ decide ((bif z3 == (1 :
      Int) then IntKind.i64.wrap z4 else q (4 : Nat)) = bif z3 == (1 : Int) then IntKind.i64.wrap z4 else q (4 : Nat)) = true ∧ decide (q (5 : Nat) = q (5 : Nat)) = true ∧
      decide (q (6 : Nat) = q (6 : Nat)) = true ∧ decide (q (7 : Nat) = q (7 : Nat)) = true ∧ decide ((bif z3 == (2 : Int) then IntKind.i64.wrap z4 else q (8 : Nat)) = bif z3 ==
      (2 : Int) then IntKind.i64.wrap z4 else q (8 : Nat)) = true ∧ decide (q (9 : Nat) = q (9 : Nat)) = true ∧ decide (q (10 : Nat) = q (10 : Nat)) = true ∧ decide (q (11 :
      Nat) = q (11 : Nat)) = true ∧ decide ((bif z3 == (3 : Int) then IntKind.i64.wrap z4 else q (12 : Nat)) = bif z3 == (3 : Int) then IntKind.i64.wrap z4 else q (12 : Nat)) =
      true ∧ decide (q (13 : Nat) = q (13 : Nat)) = true ∧ decide (q (14 : Nat) = q (14 : Nat)) = true ∧ decide (q (15 : Nat) = q (15 : Nat)) = true ∧ decide (w = w) = true ∧
      decide (z1 = z1) = true ∧ decide (z2 = z2) = true ∧ decide (z3 = z3) = true ∧ decide (z4 = z4) = true ∧ ((iA (pk (sel4 z3 (u1 (iA (pk p)) (0 : Nat) z4) (u1 (iA (pk p)) (4
      : Nat) z4) (u1 (iA (pk p)) (8 : Nat) z4) (u1 (iA (pk p)) (12 : Nat) z4) (iA (pk p)))) (9 : Nat) != q (9 : Nat)) = true → false = true) ∧ ((iA (pk (sel4 z3 (u1 (iA (pk p))
      (0 : Nat) z4) (u1 (iA (pk p)) (4 : Nat) z4) (u1 (iA (pk p)) (8 : Nat) z4) (u1 (iA (pk p)) (12 : Nat) z4) (iA (pk p)))) (9 : Nat) != q (9 : Nat)) = false → kpN (fun q_ =>
      sel4 z3 (u1 (iA (pk p)) (0 : Nat) z4) (u1 (iA (pk p)) (4 : Nat) z4) (u1 (iA (pk p)) (8 : Nat) z4) (u1 (iA (pk p)) (12 : Nat) z4) (iA (pk p)) q_) 16 0 (decide ((bif z3 ==
      (0 : Int) then IntKind.i64.wrap z4 else q (0 : Nat)) = bif z3 == (0 : Int) then IntKind.i64.wrap z4 else q (0 : Nat)) = true ∧ decide (q (1 : Nat) = q (1 : Nat)) = true ∧
      decide (q (2 : Nat) = q (2 : Nat)) = true ∧ decide (q (3 : Nat) = q (3 : Nat)) = true ∧ decide ((bif z3 == (1 : Int) then IntKind.i64.wrap z4 else q (4 : Nat)) = bif z3 ==
      (1 : Int) then IntKind.i64.wrap z4 else q (4 : Nat)) = true ∧ decide (q (5 : Nat) = q (5 : Nat)) = true ∧ decide (q (6 : Nat) = q (6 : Nat)) = true ∧ decide (q (7 : Nat) =
      q (7 : Nat)) = true ∧ decide ((bif z3 == (2 : Int) then IntKind.i64.wrap z4 else q (8 : Nat)) = bif z3 == (2 : Int) then IntKind.i64.wrap z4 else q (8 : Nat)) = true ∧
      decide (q (9 : Nat) = q (9 : Nat)) = true ∧ decide (q (10 : Nat) = q (10 : Nat)) = true ∧ decide (q (11 : Nat) = q (11 : Nat)) = true ∧ decide ((bif z3 == (3 : Int) then
      IntKind.i64.wrap z4 else q (12 : Nat)) = bif z3 == (3 : Int) then IntKind.i64.wrap z4 else q (12 : Nat)) = true ∧ decide (q (13 : Nat) = q (13 : Nat)) = true ∧ decide (q
      (14 : Nat) = q (14 : Nat)) = true ∧ decide (q (15 : Nat) = q (15 : Nat)) = true ∧ decide (w = w) = true ∧ decide (z1 = z1) = true ∧ decide (z2 = z2) = true ∧ decide (z3 =
      z3) = true ∧ decide (z4 = z4) = true ∧ ((true ^^ (a1 (iA (pk (sel4 z3 (u1 (iA (pk p)) (0 : Nat) z4) (u1 (iA (pk p)) (4 : Nat) z4) (u1 (iA (pk p)) (8 : Nat) z4) (u1 (iA (pk
      p)) (12 : Nat) z4) (iA (pk p)))) (9 : Nat)) (64 : Int) != (0 : Int)) == (bits BinOp.and IntKind.u16 ((q (9 : Nat)).fdiv (64 : Int)) (1 : Int) == (1 : Int))) = true → false
      = true) ∧ ((true ^^ (a1 (iA (pk (sel4 z3 (u1 (iA (pk p)) (0 : Nat) z4) (u1 (iA (pk p)) (4 : Nat) z4) (u1 (iA (pk p)) (8 : Nat) z4) (u1 (iA (pk p)) (12 : Nat) z4) (iA (pk
      p)))) (9 : Nat)) (64 : Int) != (0 : Int)) == (bits BinOp.and IntKind.u16 ((q (9 : Nat)).fdiv (64 : Int)) (1 : Int) == (1 : Int))) = false → kpN (fun q_ => sel4 z3 (u1 (iA
      (pk p)) (0 : Nat) z4) (u1 (iA (pk p)) (4 : Nat) z4) (u1 (iA (pk p)) (8 : Nat) z4) (u1 (iA (pk p)) (12 : Nat) z4) (iA (pk p)) q_) 16 0 (decide ((bif z3 == (0 : Int) then
      IntKind.i64.wrap z4 else q (0 : Nat)) = bif z3 == (0 : Int) then IntKind.i64.wrap z4 else q (0 : Nat)) = true ∧ decide (q (1 : Nat) = q (1 : Nat)) = true ∧ decide (q (2 :
      Nat) = q (2 : Nat)) = true ∧ decide (q (3 : Nat) = q (3 : Nat)) = true ∧ decide ((bif z3 == (1 : Int) then IntKind.i64.wrap z4 else q (4 : Nat)) = bif z3 == (1 : Int) then
      IntKind.i64.wrap z4 else q (4 : Nat)) = true ∧ decide (q (5 : Nat) = q (5 : Nat)) = true ∧ decide (q (6 : Nat) = q (6 : Nat)) = true ∧ decide (q (7 : Nat) = q (7 : Nat)) =
      true ∧ decide ((bif z3 == (2 : Int) then IntKind.i64.wrap z4 else q (8 : Nat)) = bif z3 == (2 : Int) then IntKind.i64.wrap z4 else q (8 : Nat)) = true ∧ decide (q (9 :
      Nat) = q (9 : Nat)) = true ∧ decide (q (10 : Nat) = q (10 : Nat)) = true ∧ decide (q (11 : Nat) = q (11 : Nat)) = true ∧ decide ((bif z3 == (3 : Int) then IntKind.i64.wrap
      z4 else q (12 : Nat)) = bif z3 == (3 : Int) then IntKind.i64.wrap z4 else q (12 : Nat)) = true ∧ decide (q (13 : Nat) = q (13 : Nat)) = true ∧ decide (q (14 : Nat) = q (14
      : Nat)) = true ∧ decide (q (15 : Nat) = q (15 : Nat)) = true ∧ decide (w = w) = true ∧ decide (z1 = z1) = true ∧ decide (z2 = z2) = true ∧ decide (z3 = z3) = true ∧ decide
      (z4 = z4) = true ∧ ((IntKind.i64.wrap (rdV (iA (pk (sel4 z3 (u1 (iA (pk p)) (0 : Nat) z4) (u1 (iA (pk p)) (4 : Nat) z4) (u1 (iA (pk p)) (8 : Nat) z4) (u1 (iA (pk p)) (12 :
      Nat) z4) (iA (pk p))))) (3 : Nat) w) != q (14 : Nat)) = true → false = true) ∧ ((IntKind.i64.wrap (rdV (iA (pk (sel4 z3 (u1 (iA (pk p)) (0 : Nat) z4) (u1 (iA (pk p)) (4 :
      Nat) z4) (u1 (iA (pk p)) (8 : Nat) z4) (u1 (iA (pk p)) (12 : Nat) z4) (iA (pk p))))) (3 : Nat) w) != q (14 : Nat)) = false → kpN (fun q_ => sel4 z3 (u1 (iA (pk p)) (0 :
      Nat) z4) (u1 (iA (pk p)) (4 : Nat) z4) (u1 (iA (pk p)) (8 : Nat) z4) (u1 (iA (pk p)) (12 : Nat) z4) (iA (pk p)) q_) 16 0 (decide ((bif z3 == (0 : Int) then
      IntKind.i64.wrap z4 else q (0 : Nat)) = bif z3 == (0 : Int) then IntKind.i64.wrap z4 else q (0 : Nat)) = true ∧ decide (q (1 : Nat) = q (1 : Nat)) = true ∧ decide (q (2 :
      Nat) = q (2 : Nat)) = true ∧ decide (q (3 : Nat) = q (3 : Nat)) = true ∧ decide ((bif z3 == (1 : Int) then IntKind.i64.wrap z4 else q (4 : Nat)) = bif z3 == (1 : Int) then
      IntKind.i64.wrap z4 else q (4 : Nat)) = true ∧ decide (q (5 : Nat) = q (5 : Nat)) = true ∧ decide (q (6 : Nat) = q (6 : Nat)) = true ∧ decide (q (7 : Nat) = q (7 : Nat)) =
      true ∧ decide ((bif z3 == (2 : Int) then IntKind.i64.wrap z4 else q (8 : Nat)) = bif z3 == (2 : Int) then IntKind.i64.wrap z4 else q (8 : Nat)) = true ∧ decide (q (9 :
      Nat) = q (9 : Nat)) = true ∧ decide (q (10 : Nat) = q (10 : Nat)) = true ∧ decide (q (11 : Nat) = q (11 : Nat)) = true ∧ decide ((bif z3 == (3 : Int) then IntKind.i64.wrap
      z4 else q (12 : Nat)) = bif z3 == (3 : Int) then IntKind.i64.wrap z4 else q (12 : Nat)) = true ∧ decide (q (13 : Nat) = q (13 : Nat)) = true ∧ decide (q (14 : Nat) = q (14
      : Nat)) = true ∧ decide (q (15 : Nat) = q (15 : Nat)) = true ∧ decide (w = w) = true ∧ decide (z1 = z1) = true ∧ decide (z2 = z2) = true ∧ decide (z3 = z3) = true ∧ decide
      (z4 = z4) = true ∧ ((iA (pk (sel4 z3 (u1 (iA (pk p)) (0 : Nat) z4) (u1 (iA (pk p)) (4 : Nat) z4) (u1 (iA (pk p)) (8 : Nat) z4) (u1 (iA (pk p)) (12 : Nat) z4) (iA (pk p))))
      (13 : Nat) != q (13 : Nat)) = true → false = true) ∧ ((iA (pk (sel4 z3 (u1 (iA (pk p)) (0 : Nat) z4) (u1 (iA (pk p)) (4 : Nat) z4) (u1 (iA (pk p)) (8 : Nat) z4) (u1 (iA
      (pk p)) (12 : Nat) z4) (iA (pk p)))) (13 : Nat) != q (13 : Nat)) = false → kpN (fun q_ => sel4 z3 (u1 (iA (pk p)) (0 : Nat) z4) (u1 (iA (pk p)) (4 : Nat) z4) (u1 (iA (pk
      p)) (8 : Nat) z4) (u1 (iA (pk p)) (12 : Nat) z4) (iA (pk p)) q_) 16 0 (decide ((bif z3 == (0 : Int) then IntKind.i64.wrap z4 else q (0 : Nat)) = bif z3 == (0 : Int) then
      IntKind.i64.wrap z4 else q (0 : Nat)) = true ∧ decide (q (1 : Nat) = q (1 : Nat)) = true ∧ decide (q (2 : Nat) = q (2 : Nat)) = true ∧ decide (q (3 : Nat) = q (3 : Nat)) =
      true ∧ decide ((bif z3 == (1 : Int) then IntKind.i64.wrap z4 else q (4 : Nat)) = bif z3 == (1 : Int) then IntKind.i64.wrap z4 else q (4 : Nat)) = true ∧ decide (q (5 :
      Nat) = q (5 : Nat)) = true ∧ decide (q (6 : Nat) = q (6 : Nat)) = true ∧ decide (q (7 : Nat) = q (7 : Nat)) = true ∧ decide ((bif z3 == (2 : Int) then IntKind.i64.wrap z4
      else q (8 : Nat)) = bif z3 == (2 : Int) then IntKind.i64.wrap z4 else q (8 : Nat)) = true ∧ decide (q (9 : Nat) = q (9 : Nat)) = true ∧ decide (q (10 : Nat) = q (10 :
      Nat)) = true ∧ decide (q (11 : Nat) = q (11 : Nat)) = true ∧ decide ((bif z3 == (3 : Int) then IntKind.i64.wrap z4 else q (12 : Nat)) = bif z3 == (3 : Int) then
      IntKind.i64.wrap z4 else q (12 : Nat)) = true ∧ decide (q (13 : Nat) = q (13 : Nat)) = true ∧ decide (q (14 : Nat) = q (14 : Nat)) = true ∧ decide (q (15 : Nat) = q (15 :
      Nat)) = true ∧ decide (w = w) = true ∧ decide (z1 = z1) = true ∧ decide (z2 = z2) = true ∧ decide (z3 = z3) = true ∧ decide (z4 = z4) = true ∧ ((true ^^ (a1 (iA (pk (sel4
      z3 (u1 (iA (pk p)) (0 : Nat) z4) (u1 (iA (pk p)) (4 : Nat) z4) (u1 (iA (pk p)) (8 : Nat) z4) (u1 (iA (pk p)) (12 : Nat) z4) (iA (pk p)))) (13 : Nat)) (64 : Int) != (0 :
      Int)) == (bits BinOp.and IntKind.u16 ((q (13 : Nat)).fdiv (64 : Int)) (1 : Int) == (1 : Int))) = true → false = true) ∧ ((true ^^ (a1 (iA (pk (sel4 z3 (u1 (iA (pk p)) (0 :
      Nat) z4) (u1 (iA (pk p)) (4 : Nat) z4) (u1 (iA (pk p)) (8 : Nat) z4) (u1 (iA (pk p)) (12 : Nat) z4) (iA (pk p)))) (13 : Nat)) (64 : Int) != (0 : Int)) == (bits BinOp.and
      IntKind.u16 ((q (13 : Nat)).fdiv (64 : Int)) (1 : Int) == (1 : Int))) = false → (56 : Nat) = (56 : Nat) ∧ (32 : Nat) = (32 : Nat) ∧ wfP (4 : Nat) (pk (sel4 z3 (u1 (iA (pk
      p)) (0 : Nat) z4) (u1 (iA (pk p)) (4 : Nat) z4) (u1 (iA (pk p)) (8 : Nat) z4) (u1 (iA (pk p)) (12 : Nat) z4) (iA (pk p)))) = true ∧ wfR (4 : Nat) [C.i false IntKind.i64
      (bif z3 == (0 : Int) then IntKind.i64.wrap z4 else q (0 : Nat)), C.i false IntKind.u16 (q (1 : Nat)), C.i false IntKind.i64 (q (2 : Nat)), C.i false IntKind.i64 (q (3 :
      Nat)), C.i false IntKind.i64 (bif z3 == (1 : Int) then IntKind.i64.wrap z4 else q (4 : Nat)), C.i false IntKind.u16 (q (5 : Nat)), C.i false IntKind.i64 (q (6 : Nat)), C.i
      false IntKind.i64 (q (7 : Nat)), C.i false IntKind.i64 (bif z3 == (2 : Int) then IntKind.i64.wrap z4 else q (8 : Nat)), C.i false IntKind.u16 (q (9 : Nat)), C.i false
      IntKind.i64 (q (10 : Nat)), C.i false IntKind.i64 (q (11 : Nat)), C.i false IntKind.i64 (bif z3 == (3 : Int) then IntKind.i64.wrap z4 else q (12 : Nat)), C.i false
      IntKind.u16 (q (13 : Nat)), C.i false IntKind.i64 (q (14 : Nat)), C.i false IntKind.i64 (q (15 : Nat)), C.i false IntKind.i64 w] = true ∧ Op2 (pk (sel4 z3 (u1 (iA (pk p))
      (0 : Nat) z4) (u1 (iA (pk p)) (4 : Nat) z4) (u1 (iA (pk p)) (8 : Nat) z4) (u1 (iA (pk p)) (12 : Nat) z4) (iA (pk p)))) [C.i false IntKind.i64 (bif z3 == Int.ofNat (0 :
      Nat) then IntKind.i64.wrap z4 else q (0 : Nat)), C.i false IntKind.u16 (q (1 : Nat)), C.i false IntKind.i64 (q (2 : Nat)), C.i false IntKind.i64 (q (3 : Nat)), C.i false
      IntKind.i64 (bif z3 == Int.ofNat ((0 : Nat) + (1 : Nat)) then IntKind.i64.wrap z4 else q (4 : Nat)), C.i false IntKind.u16 (q (5 : Nat)), C.i false IntKind.i64 (q (6 :
      Nat)), C.i false IntKind.i64 (q (7 : Nat)), C.i false IntKind.i64 (bif z3 == Int.ofNat ((0 : Nat) + (1 : Nat) + (1 : Nat)) then IntKind.i64.wrap z4 else q (8 : Nat)), C.i
      false IntKind.u16 (q (9 : Nat)), C.i false IntKind.i64 (q (10 : Nat)), C.i false IntKind.i64 (q (11 : Nat)), C.i false IntKind.i64 (bif z3 == Int.ofNat ((0 : Nat) + (1 :
      Nat) + (1 : Nat) + (1 : Nat)) then IntKind.i64.wrap z4 else q (12 : Nat)), C.i false IntKind.u16 (q (13 : Nat)), C.i false IntKind.i64 (q (14 : Nat)), C.i false
      IntKind.i64 (q (15 : Nat)), C.i false IntKind.i64 w] R ∧ hdo E = hdo E ∧ (168 : Nat) = (168 : Nat) ∧ C.p (0 : Nat) (0 : Nat) = C.p (0 : Nat) (0 : Nat) ∧ C.p (1 : Nat) (0 :
      Nat) = C.p (1 : Nat) (0 : Nat) ∧ C.es a n c = C.es a n c ∧ (IntKind.i64 = IntKind.i64 ∧ (↑n : Int) = (↑n : Int)) ∧ IntKind.i64 = IntKind.i64 ∧ IntKind.i64.wrap ((↑i : Int)
      + (1 : Int)) = (↑(i + (1 : Nat)) : Int)))))))))))))))))))))))))) ∧ ((bif decide (z3 ≥ (0 : Int)) then decide (z3 < (4 : Int)) else false) = false → kpN (fun q_ => sel4 z3
      (u1 (iA (pk p)) (0 : Nat) z4) (u1 (iA (pk p)) (4 : Nat) z4) (u1 (iA (pk p)) (8 : Nat) z4) (u1 (iA (pk p)) (12 : Nat) z4) (iA (pk p)) q_) 16 0 (kpN (fun q_ => q q_) 16 0
      (decide (w = w) = true ∧ decide (z1 = z1) = true ∧ decide (z2 = z2) = true ∧ decide (z3 = z3) = true ∧ decide (z4 = z4) = true ∧ ((IntKind.i64.wrap (rdV (iA (pk (sel4 z3
      (u1 (iA (pk p)) (0 : Nat) z4) (u1 (iA (pk p)) (4 : Nat) z4) (u1 (iA (pk p)) (8 : Nat) z4) (u1 (iA (pk p)) (12 : Nat) z4) (iA (pk p))))) (0 : Nat) w) != q (2 : Nat)) = true
      → false = true) ∧ ((IntKind.i64.wrap (rdV (iA (pk (sel4 z3 (u1 (iA (pk p)) (0 : Nat) z4) (u1 (iA (pk p)) (4 : Nat) z4) (u1 (iA (pk p)) (8 : Nat) z4) (u1 (iA (pk p)) (12 :
      Nat) z4) (iA (pk p))))) (0 : Nat) w) != q (2 : Nat)) = false → kpN (fun q_ => sel4 z3 (u1 (iA (pk p)) (0 : Nat) z4) (u1 (iA (pk p)) (4 : Nat) z4) (u1 (iA (pk p)) (8 : Nat)
      z4) (u1 (iA (pk p)) (12 : Nat) z4) (iA (pk p)) q_) 16 0 (kpN (fun q_ => q q_) 16 0 (decide (w = w) = true ∧ decide (z1 = z1) = true ∧ decide (z2 = z2) = true ∧ decide (z3
      = z3) = true ∧ decide (z4 = z4) = true ∧ ((iA (pk (sel4 z3 (u1 (iA (pk p)) (0 : Nat) z4) (u1 (iA (pk p)) (4 : Nat) z4) (u1 (iA (pk p)) (8 : Nat) z4) (u1 (iA (pk p)) (12 :
      Nat) z4) (iA (pk p)))) (1 : Nat) != q (1 : Nat)) = true → false = true) ∧ ((iA (pk (sel4 z3 (u1 (iA (pk p)) (0 : Nat) z4) (u1 (iA (pk p)) (4 : Nat) z4) (u1 (iA (pk p)) (8
      : Nat) z4) (u1 (iA (pk p)) (12 : Nat) z4) (iA (pk p)))) (1 : Nat) != q (1 : Nat)) = false → kpN (fun q_ => sel4 z3 (u1 (iA (pk p)) (0 : Nat) z4) (u1 (iA (pk p)) (4 : Nat)
      z4) (u1 (iA (pk p)) (8 : Nat) z4) (u1 (iA (pk p)) (12 : Nat) z4) (iA (pk p)) q_) 16 0 (kpN (fun q_ => q q_) 16 0 (decide (w = w) = true ∧ decide (z1 = z1) = true ∧ decide
      (z2 = z2) = true ∧ decide (z3 = z3) = true ∧ decide (z4 = z4) = true ∧ ((true ^^ (a1 (iA (pk (sel4 z3 (u1 (iA (pk p)) (0 : Nat) z4) (u1 (iA (pk p)) (4 : Nat) z4) (u1 (iA
      (pk p)) (8 : Nat) z4) (u1 (iA (pk p)) (12 : Nat) z4) (iA (pk p)))) (1 : Nat)) (64 : Int) != (0 : Int)) == (bits BinOp.and IntKind.u16 ((q (1 : Nat)).fdiv (64 : Int)) (1 :
      Int) == (1 : Int))) = true → false = true) ∧ ((true ^^ (a1 (iA (pk (sel4 z3 (u1 (iA (pk p)) (0 : Nat) z4) (u1 (iA (pk p)) (4 : Nat) z4) (u1 (iA (pk p)) (8 : Nat) z4) (u1
      (iA (pk p)) (12 : Nat) z4) (iA (pk p)))) (1 : Nat)) (64 : Int) != (0 : Int)) == (bits BinOp.and IntKind.u16 ((q (1 : Nat)).fdiv (64 : Int)) (1 : Int) == (1 : Int))) =
      false → kpN (fun q_ => sel4 z3 (u1 (iA (pk p)) (0 : Nat) z4) (u1 (iA (pk p)) (4 : Nat) z4) (u1 (iA (pk p)) (8 : Nat) z4) (u1 (iA (pk p)) (12 : Nat) z4) (iA (pk p)) q_) 16
      0 (kpN (fun q_ => q q_) 16 0 (decide (w = w) = true ∧ decide (z1 = z1) = true ∧ decide (z2 = z2) = true ∧ decide (z3 = z3) = true ∧ decide (z4 = z4) = true ∧
      ((IntKind.i64.wrap (rdV (iA (pk (sel4 z3 (u1 (iA (pk p)) (0 : Nat) z4) (u1 (iA (pk p)) (4 : Nat) z4) (u1 (iA (pk p)) (8 : Nat) z4) (u1 (iA (pk p)) (12 : Nat) z4) (iA (pk
      p))))) (1 : Nat) w) != q (6 : Nat)) = true → false = true) ∧ ((IntKind.i64.wrap (rdV (iA (pk (sel4 z3 (u1 (iA (pk p)) (0 : Nat) z4) (u1 (iA (pk p)) (4 : Nat) z4) (u1 (iA
      (pk p)) (8 : Nat) z4) (u1 (iA (pk p)) (12 : Nat) z4) (iA (pk p))))) (1 : Nat) w) != q (6 : Nat)) = false → kpN (fun q_ => sel4 z3 (u1 (iA (pk p)) (0 : Nat) z4) (u1 (iA (pk
      p)) (4 : Nat) z4) (u1 (iA (pk p)) (8 : Nat) z4) (u1 (iA (pk p)) (12 : Nat) z4) (iA (pk p)) q_) 16 0 (kpN (fun q_ => q q_) 16 0 (decide (w = w) = true ∧ decide (z1 = z1) =
      true ∧ decide (z2 = z2) = true ∧ decide (z3 = z3) = true ∧ decide (z4 = z4) = true ∧ ((iA (pk (sel4 z3 (u1 (iA (pk p)) (0 : Nat) z4) (u1 (iA (pk p)) (4 : Nat) z4) (u1 (iA
      (pk p)) (8 : Nat) z4) (u1 (iA (pk p)) (12 : Nat) z4) (iA (pk p)))) (5 : Nat) != q (5 : Nat)) = true → false = true) ∧ ((iA (pk (sel4 z3 (u1 (iA (pk p)) (0 : Nat) z4) (u1
      (iA (pk p)) (4 : Nat) z4) (u1 (iA (pk p)) (8 : Nat) z4) (u1 (iA (pk p)) (12 : Nat) z4) (iA (pk p)))) (5 : Nat) != q (5 : Nat)) = false → kpN (fun q_ => sel4 z3 (u1 (iA (pk
      p)) (0 : Nat) z4) (u1 (iA (pk p)) (4 : Nat) z4) (u1 (iA (pk p)) (8 : Nat) z4) (u1 (iA (pk p)) (12 : Nat) z4) (iA (pk p)) q_) 16 0 (kpN (fun q_ => q q_) 16 0 (decide (w =
      w) = true ∧ decide (z1 = z1) = true ∧ decide (z2 = z2) = true ∧ decide (z3 = z3) = true ∧ decide (z4 = z4) = true ∧ ((true ^^ (a1 (iA (pk (sel4 z3 (u1 (iA (pk p)) (0 :
      Nat) z4) (u1 (iA (pk p)) (4 : Nat) z4) (u1 (iA (pk p)) (8 : Nat) z4) (u1 (iA (pk p)) (12 : Nat) z4) (iA (pk p)))) (5 : Nat)) (64 : Int) != (0 : Int)) == (bits BinOp.and
      IntKind.u16 ((q (5 : Nat)).fdiv (64 : Int)) (1 : Int) == (1 : Int))) = true → false = true) ∧ ((true ^^ (a1 (iA (pk (sel4 z3 (u1 (iA (pk p)) (0 : Nat) z4) (u1 (iA (pk p))
      (4 : Nat) z4) (u1 (iA (pk p)) (8 : Nat) z4) (u1 (iA (pk p)) (12 : Nat) z4) (iA (pk p)))) (5 : Nat)) (64 : Int) != (0 : Int)) == (bits BinOp.and IntKind.u16 ((q (5 :
      Nat)).fdiv (64 : Int)) (1 : Int) == (1 : Int))) = false → kpN (fun q_ => sel4 z3 (u1 (iA (pk p)) (0 : Nat) z4) (u1 (iA (pk p)) (4 : Nat) z4) (u1 (iA (pk p)) (8 : Nat) z4)
      (u1 (iA (pk p)) (12 : Nat) z4) (iA (pk p)) q_) 16 0 (kpN (fun q_ => q q_) 16 0 (decide (w = w) = true ∧ decide (z1 = z1) = true ∧ decide (z2 = z2) = true ∧ decide (z3 =
      z3) = true ∧ decide (z4 = z4) = true ∧ ((IntKind.i64.wrap (rdV (iA (pk (sel4 z3 (u1 (iA (pk p)) (0 : Nat) z4) (u1 (iA (pk p)) (4 : Nat) z4) (u1 (iA (pk p)) (8 : Nat) z4)
      (u1 (iA (pk p)) (12 : Nat) z4) (iA (pk p))))) (2 : Nat) w) != q (10 : Nat)) = true → false = true) ∧ ((IntKind.i64.wrap (rdV (iA (pk (sel4 z3 (u1 (iA (pk p)) (0 : Nat) z4)
      (u1 (iA (pk p)) (4 : Nat) z4) (u1 (iA (pk p)) (8 : Nat) z4) (u1 (iA (pk p)) (12 : Nat) z4) (iA (pk p))))) (2 : Nat) w) != q (10 : Nat)) = false → kpN (fun q_ => sel4 z3
      (u1 (iA (pk p)) (0 : Nat) z4) (u1 (iA (pk p)) (4 : Nat) z4) (u1 (iA (pk p)) (8 : Nat) z4) (u1 (iA (pk p)) (12 : Nat) z4) (iA (pk p)) q_) 16 0 (kpN (fun q_ => q q_) 16 0
      (decide (w = w) = true ∧ decide (z1 = z1) = true ∧ decide (z2 = z2) = true ∧ decide (z3 = z3) = true ∧ decide (z4 = z4) = true ∧ ((iA (pk (sel4 z3 (u1 (iA (pk p)) (0 :
      Nat) z4) (u1 (iA (pk p)) (4 : Nat) z4) (u1 (iA (pk p)) (8 : Nat) z4) (u1 (iA (pk p)) (12 : Nat) z4) (iA (pk p)))) (9 : Nat) != q (9 : Nat)) = true → false = true) ∧ ((iA
      (pk (sel4 z3 (u1 (iA (pk p)) (0 : Nat) z4) (u1 (iA (pk p)) (4 : Nat) z4) (u1 (iA (pk p)) (8 : Nat) z4) (u1 (iA (pk p)) (12 : Nat) z4) (iA (pk p)))) (9 : Nat) != q (9 :
      Nat)) = false → kpN (fun q_ => sel4 z3 (u1 (iA (pk p)) (0 : Nat) z4) (u1 (iA (pk p)) (4 : Nat) z4) (u1 (iA (pk p)) (8 : Nat) z4) (u1 (iA (pk p)) (12 : Nat) z4) (iA (pk p))
      q_) 16 0 (kpN (fun q_ => q q_) 16 0 (decide (w = w) = true ∧ decide (z1 = z1) = true ∧ decide (z2 = z2) = true ∧ decide (z3 = z3) = true ∧ decide (z4 = z4) = true ∧ ((true
      ^^ (a1 (iA (pk (sel4 z3 (u1 (iA (pk p)) (0 : Nat) z4) (u1 (iA (pk p)) (4 : Nat) z4) (u1 (iA (pk p)) (8 : Nat) z4) (u1 (iA (pk p)) (12 : Nat) z4) (iA (pk p)))) (9 : Nat))
      (64 : Int) != (0 : Int)) == (bits BinOp.and IntKind.u16 ((q (9 : Nat)).fdiv (64 : Int)) (1 : Int) == (1 : Int))) = true → false = true) ∧ ((true ^^ (a1 (iA (pk (sel4 z3
      (u1 (iA (pk p)) (0 : Nat) z4) (u1 (iA (pk p)) (4 : Nat) z4) (u1 (iA (pk p)) (8 : Nat) z4) (u1 (iA (pk p)) (12 : Nat) z4) (iA (pk p)))) (9 : Nat)) (64 : Int) != (0 : Int))
      == (bits BinOp.and IntKind.u16 ((q (9 : Nat)).fdiv (64 : Int)) (1 : Int) == (1 : Int))) = false → kpN (fun q_ => sel4 z3 (u1 (iA (pk p)) (0 : Nat) z4) (u1 (iA (pk p)) (4 :
      Nat) z4) (u1 (iA (pk p)) (8 : Nat) z4) (u1 (iA (pk p)) (12 : Nat) z4) (iA (pk p)) q_) 16 0 (kpN (fun q_ => q q_) 16 0 (decide (w = w) = true ∧ decide (z1 = z1) = true ∧
      decide (z2 = z2) = true ∧ decide (z3 = z3) = true ∧ decide (z4 = z4) = true ∧ ((IntKind.i64.wrap (rdV (iA (pk (sel4 z3 (u1 (iA (pk p)) (0 : Nat) z4) (u1 (iA (pk p)) (4 :
      Nat) z4) (u1 (iA (pk p)) (8 : Nat) z4) (u1 (iA (pk p)) (12 : Nat) z4) (iA (pk p))))) (3 : Nat) w) != q (14 : Nat)) = true → false = true) ∧ ((IntKind.i64.wrap (rdV (iA (pk
      (sel4 z3 (u1 (iA (pk p)) (0 : Nat) z4) (u1 (iA (pk p)) (4 : Nat) z4) (u1 (iA (pk p)) (8 : Nat) z4) (u1 (iA (pk p)) (12 : Nat) z4) (iA (pk p))))) (3 : Nat) w) != q (14 :
      Nat)) = false → kpN (fun q_ => sel4 z3 (u1 (iA (pk p)) (0 : Nat) z4) (u1 (iA (pk p)) (4 : Nat) z4) (u1 (iA (pk p)) (8 : Nat) z4) (u1 (iA (pk p)) (12 : Nat) z4) (iA (pk p))
      q_) 16 0 (kpN (fun q_ => q q_) 16 0 (decide (w = w) = true ∧ decide (z1 = z1) = true ∧ decide (z2 = z2) = true ∧ decide (z3 = z3) = true ∧ decide (z4 = z4) = true ∧ ((iA
      (pk (sel4 z3 (u1 (iA (pk p)) (0 : Nat) z4) (u1 (iA (pk p)) (4 : Nat) z4) (u1 (iA (pk p)) (8 : Nat) z4) (u1 (iA (pk p)) (12 : Nat) z4) (iA (pk p)))) (13 : Nat) != q (13 :
      Nat)) = true → false = true) ∧ ((iA (pk (sel4 z3 (u1 (iA (pk p)) (0 : Nat) z4) (u1 (iA (pk p)) (4 : Nat) z4) (u1 (iA (pk p)) (8 : Nat) z4) (u1 (iA (pk p)) (12 : Nat) z4)
      (iA (pk p)))) (13 : Nat) != q (13 : Nat)) = false → kpN (fun q_ => sel4 z3 (u1 (iA (pk p)) (0 : Nat) z4) (u1 (iA (pk p)) (4 : Nat) z4) (u1 (iA (pk p)) (8 : Nat) z4) (u1
      (iA (pk p)) (12 : Nat) z4) (iA (pk p)) q_) 16 0 (kpN (fun q_ => q q_) 16 0 (decide (w = w) = true ∧ decide (z1 = z1) = true ∧ decide (z2 = z2) = true ∧ decide (z3 = z3) =
      true ∧ decide (z4 = z4) = true ∧ ((true ^^ (a1 (iA (pk (sel4 z3 (u1 (iA (pk p)) (0 : Nat) z4) (u1 (iA (pk p)) (4 : Nat) z4) (u1 (iA (pk p)) (8 : Nat) z4) (u1 (iA (pk p))
      (12 : Nat) z4) (iA (pk p)))) (13 : Nat)) (64 : Int) != (0 : Int)) == (bits BinOp.and IntKind.u16 ((q (13 : Nat)).fdiv (64 : Int)) (1 : Int) == (1 : Int))) = true → false =
      true) ∧ ((true ^^ (a1 (iA (pk (sel4 z3 (u1 (iA (pk p)) (0 : Nat) z4) (u1 (iA (pk p)) (4 : Nat) z4) (u1 (iA (pk p)) (8 : Nat) z4) (u1 (iA (pk p)) (12 : Nat) z4) (iA (pk
      p)))) (13 : Nat)) (64 : Int) != (0 : Int)) == (bits BinOp.and IntKind.u16 ((q (13 : Nat)).fdiv (64 : Int)) (1 : Int) == (1 : Int))) = false → (56 : Nat) = (56 : Nat) ∧ (32
      : Nat) = (32 : Nat) ∧ wfP (4 : Nat) (pk (sel4 z3 (u1 (iA (pk p)) (0 : Nat) z4) (u1 (iA (pk p)) (4 : Nat) z4) (u1 (iA (pk p)) (8 : Nat) z4) (u1 (iA (pk p)) (12 : Nat) z4)
      (iA (pk p)))) = true ∧ wfR (4 : Nat) (rk q w) = true ∧ Op2 (pk (sel4 z3 (u1 (iA (pk p)) (0 : Nat) z4) (u1 (iA (pk p)) (4 : Nat) z4) (u1 (iA (pk p)) (8 : Nat) z4) (u1 (iA
      (pk p)) (12 : Nat) z4) (iA (pk p)))) (rk q w) R ∧ hdo E = hdo E ∧ (168 : Nat) = (168 : Nat) ∧ C.p (0 : Nat) (0 : Nat) = C.p (0 : Nat) (0 : Nat) ∧ C.p (1 : Nat) (0 : Nat) =
      C.p (1 : Nat) (0 : Nat) ∧ C.es a n c = C.es a n c ∧ (IntKind.i64 = IntKind.i64 ∧ (↑n : Int) = (↑n : Int)) ∧ IntKind.i64 = IntKind.i64 ∧ IntKind.i64.wrap ((↑i : Int) + (1 :
      Int)) = (↑(i + (1 : Nat)) : Int))))))))))))))))))))))))))))))))))))))) ∧ ((z2 == (0 : Int)) = false → ((z2 == (1 : Int)) = true → ((bif decide (z3 ≥ (0 : Int)) then decide
      (z3 < (4 : Int)) else false) = true → inB z3 (4 : Nat) = true ∧ kpN (fun q_ => sel4 z3 (scP (iA (pk p)) (0 : Nat) w z4) (scP (iA (pk p)) (1 : Nat) w z4) (scP (iA (pk p))
      (2 : Nat) w z4) (scP (iA (pk p)) (3 : Nat) w z4) (iA (pk p)) q_) 16 0 (kpN (fun q_ => sel4 z3 (seR (iA (rk q w)) (0 : Nat) z4) (seR (iA (rk q w)) (1 : Nat) z4) (seR (iA
      (rk q w)) (2 : Nat) z4) (seR (iA (rk q w)) (3 : Nat) z4) (iA (rk q w)) q_) 16 0 (decide (iA (rk q w) (16 : Nat) = iA (rk q w) (16 : Nat)) = true ∧ decide (z1 = z1) = true
      ∧ decide (z2 = z2) = true ∧ decide (z3 = z3) = true ∧ decide (z4 = z4) = true ∧ ((IntKind.i64.wrap (rdV (iA (pk (sel4 z3 (scP (iA (pk p)) (0 : Nat) w z4) (scP (iA (pk p))
      (1 : Nat) w z4) (scP (iA (pk p)) (2 : Nat) w z4) (scP (iA (pk p)) (3 : Nat) w z4) (iA (pk p))))) (0 : Nat) (iA (rk q w) (16 : Nat))) != sel4 z3 (seR (iA (rk q w)) (0 :
      Nat) z4) (seR (iA (rk q w)) (1 : Nat) z4) (seR (iA (rk q w)) (2 : Nat) z4) (seR (iA (rk q w)) (3 : Nat) z4) (iA (rk q w)) (2 : Nat)) = true → false = true) ∧
      ((IntKind.i64.wrap (rdV (iA (pk (sel4 z3 (scP (iA (pk p)) (0 : Nat) w z4) (scP (iA (pk p)) (1 : Nat) w z4) (scP (iA (pk p)) (2 : Nat) w z4) (scP (iA (pk p)) (3 : Nat) w
      z4) (iA (pk p))))) (0 : Nat) (iA (rk q w) (16 : Nat))) != sel4 z3 (seR (iA (rk q w)) (0 : Nat) z4) (seR (iA (rk q w)) (1 : Nat) z4) (seR (iA (rk q w)) (2 : Nat) z4) (seR
      (iA (rk q w)) (3 : Nat) z4) (iA (rk q w)) (2 : Nat)) = false → kpN (fun q_ => sel4 z3 (scP (iA (pk p)) (0 : Nat) w z4) (scP (iA (pk p)) (1 : Nat) w z4) (scP (iA (pk p)) (2
      : Nat) w z4) (scP (iA (pk p)) (3 : Nat) w z4) (iA (pk p)) q_) 16 0 (kpN (fun q_ => sel4 z3 (seR (iA (rk q w)) (0 : Nat) z4) (seR (iA (rk q w)) (1 : Nat) z4) (seR (iA (rk q
      w)) (2 : Nat) z4) (seR (iA (rk q w)) (3 : Nat) z4) (iA (rk q w)) q_) 16 0 (decide (iA (rk q w) (16 : Nat) = iA (rk q w) (16 : Nat)) = true ∧ decide (z1 = z1) = true ∧
      decide (z2 = z2) = true ∧ decide (z3 = z3) = true ∧ decide (z4 = z4) = true ∧ ((iA (pk (sel4 z3 (scP (iA (pk p)) (0 : Nat) w z4) (scP (iA (pk p)) (1 : Nat) w z4) (scP (iA
      (pk p)) (2 : Nat) w z4) (scP (iA (pk p)) (3 : Nat) w z4) (iA (pk p)))) (1 : Nat) != sel4 z3 (seR (iA (rk q w)) (0 : Nat) z4) (seR (iA (rk q w)) (1 : Nat) z4) (seR (iA (rk
      q w)) (2 : Nat) z4) (seR (iA (rk q w)) (3 : Nat) z4) (iA (rk q w)) (1 : Nat)) = true → false = true) ∧ ((iA (pk (sel4 z3 (scP (iA (pk p)) (0 : Nat) w z4) (scP (iA (pk p))
      (1 : Nat) w z4) (scP (iA (pk p)) (2 : Nat) w z4) (scP (iA (pk p)) (3 : Nat) w z4) (iA (pk p)))) (1 : Nat) != sel4 z3 (seR (iA (rk q w)) (0 : Nat) z4) (seR (iA (rk q w)) (1
      : Nat) z4) (seR (iA (rk q w)) (2 : Nat) z4) (seR (iA (rk q w)) (3 : Nat) z4) (iA (rk q w)) (1 : Nat)) = false → kpN (fun q_ => sel4 z3 (scP (iA (pk p)) (0 : Nat) w z4)
      (scP (iA (pk p)) (1 : Nat) w z4) (scP (iA (pk p)) (2 : Nat) w z4) (scP (iA (pk p)) (3 : Nat) w z4) (iA (pk p)) q_) 16 0 (kpN (fun q_ => sel4 z3 (seR (iA (rk q w)) (0 :
      Nat) z4) (seR (iA (rk q w)) (1 : Nat) z4) (seR (iA (rk q w)) (2 : Nat) z4) (seR (iA (rk q w)) (3 : Nat) z4) (iA (rk q w)) q_) 16 0 (decide (iA (rk q w) (16 : Nat) = iA (rk
      q w) (16 : Nat)) = true ∧ decide (z1 = z1) = true ∧ decide (z2 = z2) = true ∧ decide (z3 = z3) = true ∧ decide (z4 = z4) = true ∧ ((true ^^ (a1 (iA (pk (sel4 z3 (scP (iA
      (pk p)) (0 : Nat) w z4) (scP (iA (pk p)) (1 : Nat) w z4) (scP (iA (pk p)) (2 : Nat) w z4) (scP (iA (pk p)) (3 : Nat) w z4) (iA (pk p)))) (1 : Nat)) (64 : Int) != (0 :
      Int)) == (bits BinOp.and IntKind.u16 ((sel4 z3 (seR (iA (rk q w)) (0 : Nat) z4) (seR (iA (rk q w)) (1 : Nat) z4) (seR (iA (rk q w)) (2 : Nat) z4) (seR (iA (rk q w)) (3 :
      Nat) z4) (iA (rk q w)) (1 : Nat)).fdiv (64 : Int)) (1 : Int) == (1 : Int))) = true → false = true) ∧ ((true ^^ (a1 (iA (pk (sel4 z3 (scP (iA (pk p)) (0 : Nat) w z4) (scP
      (iA (pk p)) (1 : Nat) w z4) (scP (iA (pk p)) (2 : Nat) w z4) (scP (iA (pk p)) (3 : Nat) w z4) (iA (pk p)))) (1 : Nat)) (64 : Int) != (0 : Int)) == (bits BinOp.and
      IntKind.u16 ((sel4 z3 (seR (iA (rk q w)) (0 : Nat) z4) (seR (iA (rk q w)) (1 : Nat) z4) (seR (iA (rk q w)) (2 : Nat) z4) (seR (iA (rk q w)) (3 : Nat) z4) (iA (rk q w)) (1
      : Nat)).fdiv (64 : Int)) (1 : Int) == (1 : Int))) = false → kpN (fun q_ => sel4 z3 (scP (iA (pk p)) (0 : Nat) w z4) (scP (iA (pk p)) (1 : Nat) w z4) (scP (iA (pk p)) (2 :
      Nat) w z4) (scP (iA (pk p)) (3 : Nat) w z4) (iA (pk p)) q_) 16 0 (kpN (fun q_ => sel4 z3 (seR (iA (rk q w)) (0 : Nat) z4) (seR (iA (rk q w)) (1 : Nat) z4) (seR (iA (rk q
      w)) (2 : Nat) z4) (seR (iA (rk q w)) (3 : Nat) z4) (iA (rk q w)) q_) 16 0 (decide (iA (rk q w) (16 : Nat) = iA (rk q w) (16 : Nat)) = true ∧ decide (z1 = z1) = true ∧
      decide (z2 = z2) = true ∧ decide (z3 = z3) = true ∧ decide (z4 = z4) = true ∧ ((IntKind.i64.wrap (rdV (iA (pk (sel4 z3 (scP (iA (pk p)) (0 : Nat) w z4) (scP (iA (pk p)) (1
      : Nat) w z4) (scP (iA (pk p)) (2 : Nat) w z4) (scP (iA (pk p)) (3 : Nat) w z4) (iA (pk p))))) (1 : Nat) (iA (rk q w) (16 : Nat))) != sel4 z3 (seR (iA (rk q w)) (0 : Nat)
      z4) (seR (iA (rk q w)) (1 : Nat) z4) (seR (iA (rk q w)) (2 : Nat) z4) (seR (iA (rk q w)) (3 : Nat) z4) (iA (rk q w)) (6 : Nat)) = true → false = true) ∧ ((IntKind.i64.wrap
      (rdV (iA (pk (sel4 z3 (scP (iA (pk p)) (0 : Nat) w z4) (scP (iA (pk p)) (1 : Nat) w z4) (scP (iA (pk p)) (2 : Nat) w z4) (scP (iA (pk p)) (3 : Nat) w z4) (iA (pk p))))) (1
      : Nat) (iA (rk q w) (16 : Nat))) != sel4 z3 (seR (iA (rk q w)) (0 : Nat) z4) (seR (iA (rk q w)) (1 : Nat) z4) (seR (iA (rk q w)) (2 : Nat) z4) (seR (iA (rk q w)) (3 : Nat)
      z4) (iA (rk q w)) (6 : Nat)) = false → kpN (fun q_ => sel4 z3 (scP (iA (pk p)) (0 : Nat) w z4) (scP (iA (pk p)) (1 : Nat) w z4) (scP (iA (pk p)) (2 : Nat) w z4) (scP (iA
      (pk p)) (3 : Nat) w z4) (iA (pk p)) q_) 16 0 (kpN (fun q_ => sel4 z3 (seR (iA (rk q w)) (0 : Nat) z4) (seR (iA (rk q w)) (1 : Nat) z4) (seR (iA (rk q w)) (2 : Nat) z4)
      (seR (iA (rk q w)) (3 : Nat) z4) (iA (rk q w)) q_) 16 0 (decide (iA (rk q w) (16 : Nat) = iA (rk q w) (16 : Nat)) = true ∧ decide (z1 = z1) = true ∧ decide (z2 = z2) =
      true ∧ decide (z3 = z3) = true ∧ decide (z4 = z4) = true ∧ ((iA (pk (sel4 z3 (scP (iA (pk p)) (0 : Nat) w z4) (scP (iA (pk p)) (1 : Nat) w z4) (scP (iA (pk p)) (2 : Nat) w
      z4) (scP (iA (pk p)) (3 : Nat) w z4) (iA (pk p)))) (5 : Nat) != sel4 z3 (seR (iA (rk q w)) (0 : Nat) z4) (seR (iA (rk q w)) (1 : Nat) z4) (seR (iA (rk q w)) (2 : Nat) z4)
      (seR (iA (rk q w)) (3 : Nat) z4) (iA (rk q w)) (5 : Nat)) = true → false = true) ∧ ((iA (pk (sel4 z3 (scP (iA (pk p)) (0 : Nat) w z4) (scP (iA (pk p)) (1 : Nat) w z4) (scP
      (iA (pk p)) (2 : Nat) w z4) (scP (iA (pk p)) (3 : Nat) w z4) (iA (pk p)))) (5 : Nat) != sel4 z3 (seR (iA (rk q w)) (0 : Nat) z4) (seR (iA (rk q w)) (1 : Nat) z4) (seR (iA
      (rk q w)) (2 : Nat) z4) (seR (iA (rk q w)) (3 : Nat) z4) (iA (rk q w)) (5 : Nat)) = false → kpN (fun q_ => sel4 z3 (scP (iA (pk p)) (0 : Nat) w z4) (scP (iA (pk p)) (1 :
      Nat) w z4) (scP (iA (pk p)) (2 : Nat) w z4) (scP (iA (pk p)) (3 : Nat) w z4) (iA (pk p)) q_) 16 0 (kpN (fun q_ => sel4 z3 (seR (iA (rk q w)) (0 : Nat) z4) (seR (iA (rk q
      w)) (1 : Nat) z4) (seR (iA (rk q w)) (2 : Nat) z4) (seR (iA (rk q w)) (3 : Nat) z4) (iA (rk q w)) q_) 16 0 (decide (iA (rk q w) (16 : Nat) = iA (rk q w) (16 : Nat)) = true
      ∧ decide (z1 = z1) = true ∧ decide (z2 = z2) = true ∧ decide (z3 = z3) = true ∧ decide (z4 = z4) = true ∧ ((true ^^ (a1 (iA (pk (sel4 z3 (scP (iA (pk p)) (0 : Nat) w z4)
      (scP (iA (pk p)) (1 : Nat) w z4) (scP (iA (pk p)) (2 : Nat) w z4) (scP (iA (pk p)) (3 : Nat) w z4) (iA (pk p)))) (5 : Nat)) (64 : Int) != (0 : Int)) == (bits BinOp.and
      IntKind.u16 ((sel4 z3 (seR (iA (rk q w)) (0 : Nat) z4) (seR (iA (rk q w)) (1 : Nat) z4) (seR (iA (rk q w)) (2 : Nat) z4) (seR (iA (rk q w)) (3 : Nat) z4) (iA (rk q w)) (5
      : Nat)).fdiv (64 : Int)) (1 : Int) == (1 : Int))) = true → false = true) ∧ ((true ^^ (a1 (iA (pk (sel4 z3 (scP (iA (pk p)) (0 : Nat) w z4) (scP (iA (pk p)) (1 : Nat) w z4)
      (scP (iA (pk p)) (2 : Nat) w z4) (scP (iA (pk p)) (3 : Nat) w z4) (iA (pk p)))) (5 : Nat)) (64 : Int) != (0 : Int)) == (bits BinOp.and IntKind.u16 ((sel4 z3 (seR (iA (rk q
      w)) (0 : Nat) z4) (seR (iA (rk q w)) (1 : Nat) z4) (seR (iA (rk q w)) (2 : Nat) z4) (seR (iA (rk q w)) (3 : Nat) z4) (iA (rk q w)) (5 : Nat)).fdiv (64 : Int)) (1 : Int) ==
      (1 : Int))) = false → kpN (fun q_ => sel4 z3 (scP (iA (pk p)) (0 : Nat) w z4) (scP (iA (pk p)) (1 : Nat) w z4) (scP (iA (pk p)) (2 : Nat) w z4) (scP (iA (pk p)) (3 : Nat)
      w z4) (iA (pk p)) q_) 16 0 (kpN (fun q_ => sel4 z3 (seR (iA (rk q w)) (0 : Nat) z4) (seR (iA (rk q w)) (1 : Nat) z4) (seR (iA (rk q w)) (2 : Nat) z4) (seR (iA (rk q w)) (3
      : Nat) z4) (iA (rk q w)) q_) 16 0 (decide (iA (rk q w) (16 : Nat) = iA (rk q w) (16 : Nat)) = true ∧ decide (z1 = z1) = true ∧ decide (z2 = z2) = true ∧ decide (z3 = z3) =
      true ∧ decide (z4 = z4) = true ∧ ((IntKind.i64.wrap (rdV (iA (pk (sel4 z3 (scP (iA (pk p)) (0 : Nat) w z4) (scP (iA (pk p)) (1 : Nat) w z4) (scP (iA (pk p)) (2 : Nat) w
      z4) (scP (iA (pk p)) (3 : Nat) w z4) (iA (pk p))))) (2 : Nat) (iA (rk q w) (16 : Nat))) != sel4 z3 (seR (iA (rk q w)) (0 : Nat) z4) (seR (iA (rk q w)) (1 : Nat) z4) (seR
      (iA (rk q w)) (2 : Nat) z4) (seR (iA (rk q w)) (3 : Nat) z4) (iA (rk q w)) (10 : Nat)) = true → false = true) ∧ ((IntKind.i64.wrap (rdV (iA (pk (sel4 z3 (scP (iA (pk p))
      (0 : Nat) w z4) (scP (iA (pk p)) (1 : Nat) w z4) (scP (iA (pk p)) (2 : Nat) w z4) (scP (iA (pk p)) (3 : Nat) w z4) (iA (pk p))))) (2 : Nat) (iA (rk q w) (16 : Nat))) !=
      sel4 z3 (seR (iA (rk q w)) (0 : Nat) z4) (seR (iA (rk q w)) (1 : Nat) z4) (seR (iA (rk q w)) (2 : Nat) z4) (seR (iA (rk q w)) (3 : Nat) z4) (iA (rk q w)) (10 : Nat)) =
      false → kpN (fun q_ => sel4 z3 (scP (iA (pk p)) (0 : Nat) w z4) (scP (iA (pk p)) (1 : Nat) w z4) (scP (iA (pk p)) (2 : Nat) w z4) (scP (iA (pk p)) (3 : Nat) w z4) (iA (pk
      p)) q_) 16 0 (kpN (fun q_ => sel4 z3 (seR (iA (rk q w)) (0 : Nat) z4) (seR (iA (rk q w)) (1 : Nat) z4) (seR (iA (rk q w)) (2 : Nat) z4) (seR (iA (rk q w)) (3 : Nat) z4)
      (iA (rk q w)) q_) 16 0 (decide (iA (rk q w) (16 : Nat) = iA (rk q w) (16 : Nat)) = true ∧ decide (z1 = z1) = true ∧ decide (z2 = z2) = true ∧ decide (z3 = z3) = true ∧
      decide (z4 = z4) = true ∧ ((iA (pk (sel4 z3 (scP (iA (pk p)) (0 : Nat) w z4) (scP (iA (pk p)) (1 : Nat) w z4) (scP (iA (pk p)) (2 : Nat) w z4) (scP (iA (pk p)) (3 : Nat) w
      z4) (iA (pk p)))) (9 : Nat) != sel4 z3 (seR (iA (rk q w)) (0 : Nat) z4) (seR (iA (rk q w)) (1 : Nat) z4) (seR (iA (rk q w)) (2 : Nat) z4) (seR (iA (rk q w)) (3 : Nat) z4)
      (iA (rk q w)) (9 : Nat)) = true → false = true) ∧ ((iA (pk (sel4 z3 (scP (iA (pk p)) (0 : Nat) w z4) (scP (iA (pk p)) (1 : Nat) w z4) (scP (iA (pk p)) (2 : Nat) w z4) (scP
      (iA (pk p)) (3 : Nat) w z4) (iA (pk p)))) (9 : Nat) != sel4 z3 (seR (iA (rk q w)) (0 : Nat) z4) (seR (iA (rk q w)) (1 : Nat) z4) (seR (iA (rk q w)) (2 : Nat) z4) (seR (iA
      (rk q w)) (3 : Nat) z4) (iA (rk q w)) (9 : Nat)) = false → kpN (fun q_ => sel4 z3 (scP (iA (pk p)) (0 : Nat) w z4) (scP (iA (pk p)) (1 : Nat) w z4) (scP (iA (pk p)) (2 :
      Nat) w z4) (scP (iA (pk p)) (3 : Nat) w z4) (iA (pk p)) q_) 16 0 (kpN (fun q_ => sel4 z3 (seR (iA (rk q w)) (0 : Nat) z4) (seR (iA (rk q w)) (1 : Nat) z4) (seR (iA (rk q
      w)) (2 : Nat) z4) (seR (iA (rk q w)) (3 : Nat) z4) (iA (rk q w)) q_) 16 0 (decide (iA (rk q w) (16 : Nat) = iA (rk q w) (16 : Nat)) = true ∧ decide (z1 = z1) = true ∧
      decide (z2 = z2) = true ∧ decide (z3 = z3) = true ∧ decide (z4 = z4) = true ∧ ((true ^^ (a1 (iA (pk (sel4 z3 (scP (iA (pk p)) (0 : Nat) w z4) (scP (iA (pk p)) (1 : Nat) w
      z4) (scP (iA (pk p)) (2 : Nat) w z4) (scP (iA (pk p)) (3 : Nat) w z4) (iA (pk p)))) (9 : Nat)) (64 : Int) != (0 : Int)) == (bits BinOp.and IntKind.u16 ((sel4 z3 (seR (iA
      (rk q w)) (0 : Nat) z4) (seR (iA (rk q w)) (1 : Nat) z4) (seR (iA (rk q w)) (2 : Nat) z4) (seR (iA (rk q w)) (3 : Nat) z4) (iA (rk q w)) (9 : Nat)).fdiv (64 : Int)) (1 :
      Int) == (1 : Int))) = true → false = true) ∧ ((true ^^ (a1 (iA (pk (sel4 z3 (scP (iA (pk p)) (0 : Nat) w z4) (scP (iA (pk p)) (1 : Nat) w z4) (scP (iA (pk p)) (2 : Nat) w
      z4) (scP (iA (pk p)) (3 : Nat) w z4) (iA (pk p)))) (9 : Nat)) (64 : Int) != (0 : Int)) == (bits BinOp.and IntKind.u16 ((sel4 z3 (seR (iA (rk q w)) (0 : Nat) z4) (seR (iA
      (rk q w)) (1 : Nat) z4) (seR (iA (rk q w)) (2 : Nat) z4) (seR (iA (rk q w)) (3 : Nat) z4) (iA (rk q w)) (9 : Nat)).fdiv (64 : Int)) (1 : Int) == (1 : Int))) = false → kpN
      (fun q_ => sel4 z3 (scP (iA (pk p)) (0 : Nat) w z4) (scP (iA (pk p)) (1 : Nat) w z4) (scP (iA (pk p)) (2 : Nat) w z4) (scP (iA (pk p)) (3 : Nat) w z4) (iA (pk p)) q_) 16 0
      (kpN (fun q_ => sel4 z3 (seR (iA (rk q w)) (0 : Nat) z4) (seR (iA (rk q w)) (1 : Nat) z4) (seR (iA (rk q w)) (2 : Nat) z4) (seR (iA (rk q w)) (3 : Nat) z4) (iA (rk q w))
      q_) 16 0 (decide (iA (rk q w) (16 : Nat) = iA (rk q w) (16 : Nat)) = true ∧ decide (z1 = z1) = true ∧ decide (z2 = z2) = true ∧ decide (z3 = z3) = true ∧ decide (z4 = z4)
      = true ∧ ((IntKind.i64.wrap (rdV (iA (pk (sel4 z3 (scP (iA (pk p)) (0 : Nat) w z4) (scP (iA (pk p)) (1 : Nat) w z4) (scP (iA (pk p)) (2 : Nat) w z4) (scP (iA (pk p)) (3 :
      Nat) w z4) (iA (pk p))))) (3 : Nat) (iA (rk q w) (16 : Nat))) != sel4 z3 (seR (iA (rk q w)) (0 : Nat) z4) (seR (iA (rk q w)) (1 : Nat) z4) (seR (iA (rk q w)) (2 : Nat) z4)
      (seR (iA (rk q w)) (3 : Nat) z4) (iA (rk q w)) (14 : Nat)) = true → false = true) ∧ ((IntKind.i64.wrap (rdV (iA (pk (sel4 z3 (scP (iA (pk p)) (0 : Nat) w z4) (scP (iA (pk
      p)) (1 : Nat) w z4) (scP (iA (pk p)) (2 : Nat) w z4) (scP (iA (pk p)) (3 : Nat) w z4) (iA (pk p))))) (3 : Nat) (iA (rk q w) (16 : Nat))) != sel4 z3 (seR (iA (rk q w)) (0 :
      Nat) z4) (seR (iA (rk q w)) (1 : Nat) z4) (seR (iA (rk q w)) (2 : Nat) z4) (seR (iA (rk q w)) (3 : Nat) z4) (iA (rk q w)) (14 : Nat)) = false → kpN (fun q_ => sel4 z3 (scP
      (iA (pk p)) (0 : Nat) w z4) (scP (iA (pk p)) (1 : Nat) w z4) (scP (iA (pk p)) (2 : Nat) w z4) (scP (iA (pk p)) (3 : Nat) w z4) (iA (pk p)) q_) 16 0 (kpN (fun q_ => sel4 z3
      (seR (iA (rk q w)) (0 : Nat) z4) (seR (iA (rk q w)) (1 : Nat) z4) (seR (iA (rk q w)) (2 : Nat) z4) (seR (iA (rk q w)) (3 : Nat) z4) (iA (rk q w)) q_) 16 0 (decide (iA (rk
      q w) (16 : Nat) = iA (rk q w) (16 : Nat)) = true ∧ decide (z1 = z1) = true ∧ decide (z2 = z2) = true ∧ decide (z3 = z3) = true ∧ decide (z4 = z4) = true ∧ ((iA (pk (sel4
      z3 (scP (iA (pk p)) (0 : Nat) w z4) (scP (iA (pk p)) (1 : Nat) w z4) (scP (iA (pk p)) (2 : Nat) w z4) (scP (iA (pk p)) (3 : Nat) w z4) (iA (pk p)))) (13 : Nat) != sel4 z3
      (seR (iA (rk q w)) (0 : Nat) z4) (seR (iA (rk q w)) (1 : Nat) z4) (seR (iA (rk q w)) (2 : Nat) z4) (seR (iA (rk q w)) (3 : Nat) z4) (iA (rk q w)) (13 : Nat)) = true →
      false = true) ∧ ((iA (pk (sel4 z3 (scP (iA (pk p)) (0 : Nat) w z4) (scP (iA (pk p)) (1 : Nat) w z4) (scP (iA (pk p)) (2 : Nat) w z4) (scP (iA (pk p)) (3 : Nat) w z4) (iA
      (pk p)))) (13 : Nat) != sel4 z3 (seR (iA (rk q w)) (0 : Nat) z4) (seR (iA (rk q w)) (1 : Nat) z4) (seR (iA (rk q w)) (2 : Nat) z4) (seR (iA (rk q w)) (3 : Nat) z4) (iA (rk
      q w)) (13 : Nat)) = false → kpN (fun q_ => sel4 z3 (scP (iA (pk p)) (0 : Nat) w z4) (scP (iA (pk p)) (1 : Nat) w z4) (scP (iA (pk p)) (2 : Nat) w z4) (scP (iA (pk p)) (3 :
      Nat) w z4) (iA (pk p)) q_) 16 0 (kpN (fun q_ => sel4 z3 (seR (iA (rk q w)) (0 : Nat) z4) (seR (iA (rk q w)) (1 : Nat) z4) (seR (iA (rk q w)) (2 : Nat) z4) (seR (iA (rk q
      w)) (3 : Nat) z4) (iA (rk q w)) q_) 16 0 (decide (iA (rk q w) (16 : Nat) = iA (rk q w) (16 : Nat)) = true ∧ decide (z1 = z1) = true ∧ decide (z2 = z2) = true ∧ decide (z3
      = z3) = true ∧ decide (z4 = z4) = true ∧ ((true ^^ (a1 (iA (pk (sel4 z3 (scP (iA (pk p)) (0 : Nat) w z4) (scP (iA (pk p)) (1 : Nat) w z4) (scP (iA (pk p)) (2 : Nat) w z4)
      (scP (iA (pk p)) (3 : Nat) w z4) (iA (pk p)))) (13 : Nat)) (64 : Int) != (0 : Int)) == (bits BinOp.and IntKind.u16 ((sel4 z3 (seR (iA (rk q w)) (0 : Nat) z4) (seR (iA (rk
      q w)) (1 : Nat) z4) (seR (iA (rk q w)) (2 : Nat) z4) (seR (iA (rk q w)) (3 : Nat) z4) (iA (rk q w)) (13 : Nat)).fdiv (64 : Int)) (1 : Int) == (1 : Int))) = true → false =
      true) ∧ ((true ^^ (a1 (iA (pk (sel4 z3 (scP (iA (pk p)) (0 : Nat) w z4) (scP (iA (pk p)) (1 : Nat) w z4) (scP (iA (pk p)) (2 : Nat) w z4) (scP (iA (pk p)) (3 : Nat) w z4)
      (iA (pk p)))) (13 : Nat)) (64 : Int) != (0 : Int)) == (bits BinOp.and IntKind.u16 ((sel4 z3 (seR (iA (rk q w)) (0 : Nat) z4) (seR (iA (rk q w)) (1 : Nat) z4) (seR (iA (rk
      q w)) (2 : Nat) z4) (seR (iA (rk q w)) (3 : Nat) z4) (iA (rk q w)) (13 : Nat)).fdiv (64 : Int)) (1 : Int) == (1 : Int))) = false → (56 : Nat) = (56 : Nat) ∧ (32 : Nat) =
      (32 : Nat) ∧ wfP (4 : Nat) (pk (sel4 z3 (scP (iA (pk p)) (0 : Nat) w z4) (scP (iA (pk p)) (1 : Nat) w z4) (scP (iA (pk p)) (2 : Nat) w z4) (scP (iA (pk p)) (3 : Nat) w z4)
      (iA (pk p)))) = true ∧ wfR (4 : Nat) (rk (sel4 z3 (seR (iA (rk q w)) (0 : Nat) z4) (seR (iA (rk q w)) (1 : Nat) z4) (seR (iA (rk q w)) (2 : Nat) z4) (seR (iA (rk q w)) (3
      : Nat) z4) (iA (rk q w))) (iA (rk q w) (16 : Nat))) = true ∧ Op2 (pk (sel4 z3 (scP (iA (pk p)) (0 : Nat) w z4) (scP (iA (pk p)) (1 : Nat) w z4) (scP (iA (pk p)) (2 : Nat)
      w z4) (scP (iA (pk p)) (3 : Nat) w z4) (iA (pk p)))) (rk (sel4 z3 (seR (iA (rk q w)) (0 : Nat) z4) (seR (iA (rk q w)) (1 : Nat) z4) (seR (iA (rk q w)) (2 : Nat) z4) (seR
      (iA (rk q w)) (3 : Nat) z4) (iA (rk q w))) (iA (rk q w) (16 : Nat))) R ∧ hdo E = hdo E ∧ (168 : Nat) = (168 : Nat) ∧ C.p (0 : Nat) (0 : Nat) = C.p (0 : Nat) (0 : Nat) ∧
      C.p (1 : Nat) (0 : Nat) = C.p (1 : Nat) (0 : Nat) ∧ C.es a n c = C.es a n c ∧ (IntKind.i64 = IntKind.i64 ∧ (↑n : Int) = (↑n : Int)) ∧ IntKind.i64 = IntKind.i64 ∧
      IntKind.i64.wrap ((↑i : Int) + (1 : Int)) = (↑(i + (1 : Nat)) : Int)))))))))))))))))))))))))))))))))))))) ∧ ((bif decide (z3 ≥ (0 : Int)) then decide (z3 < (4 : Int)) else
      false) = false → kpN (fun q_ => sel4 z3 (scP (iA (pk p)) (0 : Nat) w z4) (scP (iA (pk p)) (1 : Nat) w z4) (scP (iA (pk p)) (2 : Nat) w z4) (scP (iA (pk p)) (3 : Nat) w z4)
      (iA (pk p)) q_) 16 0 (kpN (fun q_ => q q_) 16 0 (decide (w = w) = true ∧ decide (z1 = z1) = true ∧ decide (z2 = z2) = true ∧ decide (z3 = z3) = true ∧ decide (z4 = z4) =
      true ∧ ((IntKind.i64.wrap (rdV (iA (pk (sel4 z3 (scP (iA (pk p)) (0 : Nat) w z4) (scP (iA (pk p)) (1 : Nat) w z4) (scP (iA (pk p)) (2 : Nat) w z4) (scP (iA (pk p)) (3 :
      Nat) w z4) (iA (pk p))))) (0 : Nat) w) != q (2 : Nat)) = true → false = true) ∧ ((IntKind.i64.wrap (rdV (iA (pk (sel4 z3 (scP (iA (pk p)) (0 : Nat) w z4) (scP (iA (pk p))
      (1 : Nat) w z4) (scP (iA (pk p)) (2 : Nat) w z4) (scP (iA (pk p)) (3 : Nat) w z4) (iA (pk p))))) (0 : Nat) w) != q (2 : Nat)) = false → kpN (fun q_ => sel4 z3 (scP (iA (pk
      p)) (0 : Nat) w z4) (scP (iA (pk p)) (1 : Nat) w z4) (scP (iA (pk p)) (2 : Nat) w z4) (scP (iA (pk p)) (3 : Nat) w z4) (iA (pk p)) q_) 16 0 (kpN (fun q_ => q q_) 16 0
      (decide (w = w) = true ∧ decide (z1 = z1) = true ∧ decide (z2 = z2) = true ∧ decide (z3 = z3) = true ∧ decide (z4 = z4) = true ∧ ((iA (pk (sel4 z3 (scP (iA (pk p)) (0 :
      Nat) w z4) (scP (iA (pk p)) (1 : Nat) w z4) (scP (iA (pk p)) (2 : Nat) w z4) (scP (iA (pk p)) (3 : Nat) w z4) (iA (pk p)))) (1 : Nat) != q (1 : Nat)) = true → false =
      true) ∧ ((iA (pk (sel4 z3 (scP (iA (pk p)) (0 : Nat) w z4) (scP (iA (pk p)) (1 : Nat) w z4) (scP (iA (pk p)) (2 : Nat) w z4) (scP (iA (pk p)) (3 : Nat) w z4) (iA (pk p))))
      (1 : Nat) != q (1 : Nat)) = false → kpN (fun q_ => sel4 z3 (scP (iA (pk p)) (0 : Nat) w z4) (scP (iA (pk p)) (1 : Nat) w z4) (scP (iA (pk p)) (2 : Nat) w z4) (scP (iA (pk
      p)) (3 : Nat) w z4) (iA (pk p)) q_) 16 0 (kpN (fun q_ => q q_) 16 0 (decide (w = w) = true ∧ decide (z1 = z1) = true ∧ decide (z2 = z2) = true ∧ decide (z3 = z3) = true ∧
      decide (z4 = z4) = true ∧ ((true ^^ (a1 (iA (pk (sel4 z3 (scP (iA (pk p)) (0 : Nat) w z4) (scP (iA (pk p)) (1 : Nat) w z4) (scP (iA (pk p)) (2 : Nat) w z4) (scP (iA (pk
      p)) (3 : Nat) w z4) (iA (pk p)))) (1 : Nat)) (64 : Int) != (0 : Int)) == (bits BinOp.and IntKind.u16 ((q (1 : Nat)).fdiv (64 : Int)) (1 : Int) == (1 : Int))) = true →
      false = true) ∧ ((true ^^ (a1 (iA (pk (sel4 z3 (scP (iA (pk p)) (0 : Nat) w z4) (scP (iA (pk p)) (1 : Nat) w z4) (scP (iA (pk p)) (2 : Nat) w z4) (scP (iA (pk p)) (3 :
      Nat) w z4) (iA (pk p)))) (1 : Nat)) (64 : Int) != (0 : Int)) == (bits BinOp.and IntKind.u16 ((q (1 : Nat)).fdiv (64 : Int)) (1 : Int) == (1 : Int))) = false → kpN (fun q_
      => sel4 z3 (scP (iA (pk p)) (0 : Nat) w z4) (scP (iA (pk p)) (1 : Nat) w z4) (scP (iA (pk p)) (2 : Nat) w z4) (scP (iA (pk p)) (3 : Nat) w z4) (iA (pk p)) q_) 16 0 (kpN
      (fun q_ => q q_) 16 0 (decide (w = w) = true ∧ decide (z1 = z1) = true ∧ decide (z2 = z2) = true ∧ decide (z3 = z3) = true ∧ decide (z4 = z4) = true ∧ ((IntKind.i64.wrap
      (rdV (iA (pk (sel4 z3 (scP (iA (pk p)) (0 : Nat) w z4) (scP (iA (pk p)) (1 : Nat) w z4) (scP (iA (pk p)) (2 : Nat) w z4) (scP (iA (pk p)) (3 : Nat) w z4) (iA (pk p))))) (1
      : Nat) w) != q (6 : Nat)) = true → false = true) ∧ ((IntKind.i64.wrap (rdV (iA (pk (sel4 z3 (scP (iA (pk p)) (0 : Nat) w z4) (scP (iA (pk p)) (1 : Nat) w z4) (scP (iA (pk
      p)) (2 : Nat) w z4) (scP (iA (pk p)) (3 : Nat) w z4) (iA (pk p))))) (1 : Nat) w) != q (6 : Nat)) = false → kpN (fun q_ => sel4 z3 (scP (iA (pk p)) (0 : Nat) w z4) (scP (iA
      (pk p)) (1 : Nat) w z4) (scP (iA (pk p)) (2 : Nat) w z4) (scP (iA (pk p)) (3 : Nat) w z4) (iA (pk p)) q_) 16 0 (kpN (fun q_ => q q_) 16 0 (decide (w = w) = true ∧ decide
      (z1 = z1) = true ∧ decide (z2 = z2) = true ∧ decide (z3 = z3) = true ∧ decide (z4 = z4) = true ∧ ((iA (pk (sel4 z3 (scP (iA (pk p)) (0 : Nat) w z4) (scP (iA (pk p)) (1 :
      Nat) w z4) (scP (iA (pk p)) (2 : Nat) w z4) (scP (iA (pk p)) (3 : Nat) w z4) (iA (pk p)))) (5 : Nat) != q (5 : Nat)) = true → false = true) ∧ ((iA (pk (sel4 z3 (scP (iA
      (pk p)) (0 : Nat) w z4) (scP (iA (pk p)) (1 : Nat) w z4) (scP (iA (pk p)) (2 : Nat) w z4) (scP (iA (pk p)) (3 : Nat) w z4) (iA (pk p)))) (5 : Nat) != q (5 : Nat)) = false
      → kpN (fun q_ => sel4 z3 (scP (iA (pk p)) (0 : Nat) w z4) (scP (iA (pk p)) (1 : Nat) w z4) (scP (iA (pk p)) (2 : Nat) w z4) (scP (iA (pk p)) (3 : Nat) w z4) (iA (pk p))
      q_) 16 0 (kpN (fun q_ => q q_) 16 0 (decide (w = w) = true ∧ decide (z1 = z1) = true ∧ decide (z2 = z2) = true ∧ decide (z3 = z3) = true ∧ decide (z4 = z4) = true ∧ ((true
      ^^ (a1 (iA (pk (sel4 z3 (scP (iA (pk p)) (0 : Nat) w z4) (scP (iA (pk p)) (1 : Nat) w z4) (scP (iA (pk p)) (2 : Nat) w z4) (scP (iA (pk p)) (3 : Nat) w z4) (iA (pk p))))
      (5 : Nat)) (64 : Int) != (0 : Int)) == (bits BinOp.and IntKind.u16 ((q (5 : Nat)).fdiv (64 : Int)) (1 : Int) == (1 : Int))) = true → false = true) ∧ ((true ^^ (a1 (iA (pk
      (sel4 z3 (scP (iA (pk p)) (0 : Nat) w z4) (scP (iA (pk p)) (1 : Nat) w z4) (scP (iA (pk p)) (2 : Nat) w z4) (scP (iA (pk p)) (3 : Nat) w z4) (iA (pk p)))) (5 : Nat)) (64 :
      Int) != (0 : Int)) == (bits BinOp.and IntKind.u16 ((q (5 : Nat)).fdiv (64 : Int)) (1 : Int) == (1 : Int))) = false → kpN (fun q_ => sel4 z3 (scP (iA (pk p)) (0 : Nat) w
      z4) (scP (iA (pk p)) (1 : Nat) w z4) (scP (iA (pk p)) (2 : Nat) w z4) (scP (iA (pk p)) (3 : Nat) w z4) (iA (pk p)) q_) 16 0 (kpN (fun q_ => q q_) 16 0 (decide (w = w) =
      true ∧ decide (z1 = z1) = true ∧ decide (z2 = z2) = true ∧ decide (z3 = z3) = true ∧ decide (z4 = z4) = true ∧ ((IntKind.i64.wrap (rdV (iA (pk (sel4 z3 (scP (iA (pk p)) (0
      : Nat) w z4) (scP (iA (pk p)) (1 : Nat) w z4) (scP (iA (pk p)) (2 : Nat) w z4) (scP (iA (pk p)) (3 : Nat) w z4) (iA (pk p))))) (2 : Nat) w) != q (10 : Nat)) = true → false
      = true) ∧ ((IntKind.i64.wrap (rdV (iA (pk (sel4 z3 (scP (iA (pk p)) (0 : Nat) w z4) (scP (iA (pk p)) (1 : Nat) w z4) (scP (iA (pk p)) (2 : Nat) w z4) (scP (iA (pk p)) (3 :
      Nat) w z4) (iA (pk p))))) (2 : Nat) w) != q (10 : Nat)) = false → kpN (fun q_ => sel4 z3 (scP (iA (pk p)) (0 : Nat) w z4) (scP (iA (pk p)) (1 : Nat) w z4) (scP (iA (pk p))
      (2 : Nat) w z4) (scP (iA (pk p)) (3 : Nat) w z4) (iA (pk p)) q_) 16 0 (kpN (fun q_ => q q_) 16 0 (decide (w = w) = true ∧ decide (z1 = z1) = true ∧ decide (z2 = z2) = true
      ∧ decide (z3 = z3) = true ∧ decide (z4 = z4) = true ∧ ((iA (pk (sel4 z3 (scP (iA (pk p)) (0 : Nat) w z4) (scP (iA (pk p)) (1 : Nat) w z4) (scP (iA (pk p)) (2 : Nat) w z4)
      (scP (iA (pk p)) (3 : Nat) w z4) (iA (pk p)))) (9 : Nat) != q (9 : Nat)) = true → false = true) ∧ ((iA (pk (sel4 z3 (scP (iA (pk p)) (0 : Nat) w z4) (scP (iA (pk p)) (1 :
      Nat) w z4) (scP (iA (pk p)) (2 : Nat) w z4) (scP (iA (pk p)) (3 : Nat) w z4) (iA (pk p)))) (9 : Nat) != q (9 : Nat)) = false → kpN (fun q_ => sel4 z3 (scP (iA (pk p)) (0 :
      Nat) w z4) (scP (iA (pk p)) (1 : Nat) w z4) (scP (iA (pk p)) (2 : Nat) w z4) (scP (iA (pk p)) (3 : Nat) w z4) (iA (pk p)) q_) 16 0 (kpN (fun q_ => q q_) 16 0 (decide (w =
      w) = true ∧ decide (z1 = z1) = true ∧ decide (z2 = z2) = true ∧ decide (z3 = z3) = true ∧ decide (z4 = z4) = true ∧ ((true ^^ (a1 (iA (pk (sel4 z3 (scP (iA (pk p)) (0 :
      Nat) w z4) (scP (iA (pk p)) (1 : Nat) w z4) (scP (iA (pk p)) (2 : Nat) w z4) (scP (iA (pk p)) (3 : Nat) w z4) (iA (pk p)))) (9 : Nat)) (64 : Int) != (0 : Int)) == (bits
      BinOp.and IntKind.u16 ((q (9 : Nat)).fdiv (64 : Int)) (1 : Int) == (1 : Int))) = true → false = true) ∧ ((true ^^ (a1 (iA (pk (sel4 z3 (scP (iA (pk p)) (0 : Nat) w z4)
      (scP (iA (pk p)) (1 : Nat) w z4) (scP (iA (pk p)) (2 : Nat) w z4) (scP (iA (pk p)) (3 : Nat) w z4) (iA (pk p)))) (9 : Nat)) (64 : Int) != (0 : Int)) == (bits BinOp.and
      IntKind.u16 ((q (9 : Nat)).fdiv (64 : Int)) (1 : Int) == (1 : Int))) = false → kpN (fun q_ => sel4 z3 (scP (iA (pk p)) (0 : Nat) w z4) (scP (iA (pk p)) (1 : Nat) w z4)
      (scP (iA (pk p)) (2 : Nat) w z4) (scP (iA (pk p)) (3 : Nat) w z4) (iA (pk p)) q_) 16 0 (kpN (fun q_ => q q_) 16 0 (decide (w = w) = true ∧ decide (z1 = z1) = true ∧ decide
      (z2 = z2) = true ∧ decide (z3 = z3) = true ∧ decide (z4 = z4) = true ∧ ((IntKind.i64.wrap (rdV (iA (pk (sel4 z3 (scP (iA (pk p)) (0 : Nat) w z4) (scP (iA (pk p)) (1 : Nat)
      w z4) (scP (iA (pk p)) (2 : Nat) w z4) (scP (iA (pk p)) (3 : Nat) w z4) (iA (pk p))))) (3 : Nat) w) != q (14 : Nat)) = true → false = true) ∧ ((IntKind.i64.wrap (rdV (iA
      (pk (sel4 z3 (scP (iA (pk p)) (0 : Nat) w z4) (scP (iA (pk p)) (1 : Nat) w z4) (scP (iA (pk p)) (2 : Nat) w z4) (scP (iA (pk p)) (3 : Nat) w z4) (iA (pk p))))) (3 : Nat)
      w) != q (14 : Nat)) = false → kpN (fun q_ => sel4 z3 (scP (iA (pk p)) (0 : Nat) w z4) (scP (iA (pk p)) (1 : Nat) w z4) (scP (iA (pk p)) (2 : Nat) w z4) (scP (iA (pk p)) (3
      : Nat) w z4) (iA (pk p)) q_) 16 0 (kpN (fun q_ => q q_) 16 0 (decide (w = w) = true ∧ decide (z1 = z1) = true ∧ decide (z2 = z2) = true ∧ decide (z3 = z3) = true ∧ decide
      (z4 = z4) = true ∧ ((iA (pk (sel4 z3 (scP (iA (pk p)) (0 : Nat) w z4) (scP (iA (pk p)) (1 : Nat) w z4) (scP (iA (pk p)) (2 : Nat) w z4) (scP (iA (pk p)) (3 : Nat) w z4)
      (iA (pk p)))) (13 : Nat) != q (13 : Nat)) = true → false = true) ∧ ((iA (pk (sel4 z3 (scP (iA (pk p)) (0 : Nat) w z4) (scP (iA (pk p)) (1 : Nat) w z4) (scP (iA (pk p)) (2
      : Nat) w z4) (scP (iA (pk p)) (3 : Nat) w z4) (iA (pk p)))) (13 : Nat) != q (13 : Nat)) = false → kpN (fun q_ => sel4 z3 (scP (iA (pk p)) (0 : Nat) w z4) (scP (iA (pk p))
      (1 : Nat) w z4) (scP (iA (pk p)) (2 : Nat) w z4) (scP (iA (pk p)) (3 : Nat) w z4) (iA (pk p)) q_) 16 0 (kpN (fun q_ => q q_) 16 0 (decide (w = w) = true ∧ decide (z1 = z1)
      = true ∧ decide (z2 = z2) = true ∧ decide (z3 = z3) = true ∧ decide (z4 = z4) = true ∧ ((true ^^ (a1 (iA (pk (sel4 z3 (scP (iA (pk p)) (0 : Nat) w z4) (scP (iA (pk p)) (1
      : Nat) w z4) (scP (iA (pk p)) (2 : Nat) w z4) (scP (iA (pk p)) (3 : Nat) w z4) (iA (pk p)))) (13 : Nat)) (64 : Int) != (0 : Int)) == (bits BinOp.and IntKind.u16 ((q (13 :
      Nat)).fdiv (64 : Int)) (1 : Int) == (1 : Int))) = true → false = true) ∧ ((true ^^ (a1 (iA (pk (sel4 z3 (scP (iA (pk p)) (0 : Nat) w z4) (scP (iA (pk p)) (1 : Nat) w z4)
      (scP (iA (pk p)) (2 : Nat) w z4) (scP (iA (pk p)) (3 : Nat) w z4) (iA (pk p)))) (13 : Nat)) (64 : Int) != (0 : Int)) == (bits BinOp.and IntKind.u16 ((q (13 : Nat)).fdiv
      (64 : Int)) (1 : Int) == (1 : Int))) = false → (56 : Nat) = (56 : Nat) ∧ (32 : Nat) = (32 : Nat) ∧ wfP (4 : Nat) (pk (sel4 z3 (scP (iA (pk p)) (0 : Nat) w z4) (scP (iA (pk
      p)) (1 : Nat) w z4) (scP (iA (pk p)) (2 : Nat) w z4) (scP (iA (pk p)) (3 : Nat) w z4) (iA (pk p)))) = true ∧ wfR (4 : Nat) (rk q w) = true ∧ Op2 (pk (sel4 z3 (scP (iA (pk
      p)) (0 : Nat) w z4) (scP (iA (pk p)) (1 : Nat) w z4) (scP (iA (pk p)) (2 : Nat) w z4) (scP (iA (pk p)) (3 : Nat) w z4) (iA (pk p)))) (rk q w) R ∧ hdo E = hdo E ∧ (168 :
      Nat) = (168 : Nat) ∧ C.p (0 : Nat) (0 : Nat) = C.p (0 : Nat) (0 : Nat) ∧ C.p (1 : Nat) (0 : Nat) = C.p (1 : Nat) (0 : Nat) ∧ C.es a n c = C.es a n c ∧ (IntKind.i64 =
      IntKind.i64 ∧ (↑n : Int) = (↑n : Int)) ∧ IntKind.i64 = IntKind.i64 ∧ IntKind.i64.wrap ((↑i : Int) + (1 : Int)) = (↑(i + (1 : Nat)) :
      Int))))))))))))))))))))))))))))))))))))))) ∧ ((z2 == (1 : Int)) = false → kpN (fun q_ => p q_) 16 0 (kpN (fun q_ => q q_) 16 0 (decide (w = w) = true ∧ decide (z1 = z1) =
      true ∧ decide (z2 = z2) = true ∧ decide (z3 = z3) = true ∧ decide (z4 = z4) = true ∧ ((IntKind.i64.wrap (rdV (iA (pk p)) (0 : Nat) w) != q (2 : Nat)) = true → false =
      true) ∧ ((IntKind.i64.wrap (rdV (iA (pk p)) (0 : Nat) w) != q (2 : Nat)) = false → kpN (fun q_ => p q_) 16 0 (kpN (fun q_ => q q_) 16 0 (decide (w = w) = true ∧ decide (z1
      = z1) = true ∧ decide (z2 = z2) = true ∧ decide (z3 = z3) = true ∧ decide (z4 = z4) = true ∧ ((iA (pk p) (1 : Nat) != q (1 : Nat)) = true → false = true) ∧ ((iA (pk p) (1
      : Nat) != q (1 : Nat)) = false → kpN (fun q_ => p q_) 16 0 (kpN (fun q_ => q q_) 16 0 (decide (w = w) = true ∧ decide (z1 = z1) = true ∧ decide (z2 = z2) = true ∧ decide
      (z3 = z3) = true ∧ decide (z4 = z4) = true ∧ ((true ^^ (a1 (iA (pk p) (1 : Nat)) (64 : Int) != (0 : Int)) == (bits BinOp.and IntKind.u16 ((q (1 : Nat)).fdiv (64 : Int)) (1
      : Int) == (1 : Int))) = true → false = true) ∧ ((true ^^ (a1 (iA (pk p) (1 : Nat)) (64 : Int) != (0 : Int)) == (bits BinOp.and IntKind.u16 ((q (1 : Nat)).fdiv (64 : Int))
      (1 : Int) == (1 : Int))) = false → kpN (fun q_ => p q_) 16 0 (kpN (fun q_ => q q_) 16 0 (decide (w = w) = true ∧ decide (z1 = z1) = true ∧ decide (z2 = z2) = true ∧ decide
      (z3 = z3) = true ∧ decide (z4 = z4) = true ∧ ((IntKind.i64.wrap (rdV (iA (pk p)) (1 : Nat) w) != q (6 : Nat)) = true → false = true) ∧ ((IntKind.i64.wrap (rdV (iA (pk p))
      (1 : Nat) w) != q (6 : Nat)) = false → kpN (fun q_ => p q_) 16 0 (kpN (fun q_ => q q_) 16 0 (decide (w = w) = true ∧ decide (z1 = z1) = true ∧ decide (z2 = z2) = true ∧
      decide (z3 = z3) = true ∧ decide (z4 = z4) = true ∧ ((iA (pk p) (5 : Nat) != q (5 : Nat)) = true → false = true) ∧ ((iA (pk p) (5 : Nat) != q (5 : Nat)) = false → kpN (fun
      q_ => p q_) 16 0 (kpN (fun q_ => q q_) 16 0 (decide (w = w) = true ∧ decide (z1 = z1) = true ∧ decide (z2 = z2) = true ∧ decide (z3 = z3) = true ∧ decide (z4 = z4) = true
      ∧ ((true ^^ (a1 (iA (pk p) (5 : Nat)) (64 : Int) != (0 : Int)) == (bits BinOp.and IntKind.u16 ((q (5 : Nat)).fdiv (64 : Int)) (1 : Int) == (1 : Int))) = true → false =
      true) ∧ ((true ^^ (a1 (iA (pk p) (5 : Nat)) (64 : Int) != (0 : Int)) == (bits BinOp.and IntKind.u16 ((q (5 : Nat)).fdiv (64 : Int)) (1 : Int) == (1 : Int))) = false → kpN
      (fun q_ => p q_) 16 0 (kpN (fun q_ => q q_) 16 0 (decide (w = w) = true ∧ decide (z1 = z1) = true ∧ decide (z2 = z2) = true ∧ decide (z3 = z3) = true ∧ decide (z4 = z4) =
      true ∧ ((IntKind.i64.wrap (rdV (iA (pk p)) (2 : Nat) w) != q (10 : Nat)) = true → false = true) ∧ ((IntKind.i64.wrap (rdV (iA (pk p)) (2 : Nat) w) != q (10 : Nat)) = false
      → kpN (fun q_ => p q_) 16 0 (kpN (fun q_ => q q_) 16 0 (decide (w = w) = true ∧ decide (z1 = z1) = true ∧ decide (z2 = z2) = true ∧ decide (z3 = z3) = true ∧ decide (z4 =
      z4) = true ∧ ((iA (pk p) (9 : Nat) != q (9 : Nat)) = true → false = true) ∧ ((iA (pk p) (9 : Nat) != q (9 : Nat)) = false → kpN (fun q_ => p q_) 16 0 (kpN (fun q_ => q q_)
      16 0 (decide (w = w) = true ∧ decide (z1 = z1) = true ∧ decide (z2 = z2) = true ∧ decide (z3 = z3) = true ∧ decide (z4 = z4) = true ∧ ((true ^^ (a1 (iA (pk p) (9 : Nat))
      (64 : Int) != (0 : Int)) == (bits BinOp.and IntKind.u16 ((q (9 : Nat)).fdiv (64 : Int)) (1 : Int) == (1 : Int))) = true → false = true) ∧ ((true ^^ (a1 (iA (pk p) (9 :
      Nat)) (64 : Int) != (0 : Int)) == (bits BinOp.and IntKind.u16 ((q (9 : Nat)).fdiv (64 : Int)) (1 : Int) == (1 : Int))) = false → kpN (fun q_ => p q_) 16 0 (kpN (fun q_ =>
      q q_) 16 0 (decide (w = w) = true ∧ decide (z1 = z1) = true ∧ decide (z2 = z2) = true ∧ decide (z3 = z3) = true ∧ decide (z4 = z4) = true ∧ ((IntKind.i64.wrap (rdV (iA (pk
      p)) (3 : Nat) w) != q (14 : Nat)) = true → false = true) ∧ ((IntKind.i64.wrap (rdV (iA (pk p)) (3 : Nat) w) != q (14 : Nat)) = false → kpN (fun q_ => p q_) 16 0 (kpN (fun
      q_ => q q_) 16 0 (decide (w = w) = true ∧ decide (z1 = z1) = true ∧ decide (z2 = z2) = true ∧ decide (z3 = z3) = true ∧ decide (z4 = z4) = true ∧ ((iA (pk p) (13 : Nat) !=
      q (13 : Nat)) = true → false = true) ∧ ((iA (pk p) (13 : Nat) != q (13 : Nat)) = false → kpN (fun q_ => p q_) 16 0 (kpN (fun q_ => q q_) 16 0 (decide (w = w) = true ∧
      decide (z1 = z1) = true ∧ decide (z2 = z2) = true ∧ decide (z3 = z3) = true ∧ decide (z4 = z4) = true ∧ ((true ^^ (a1 (iA (pk p) (13 : Nat)) (64 : Int) != (0 : Int)) ==
      (bits BinOp.and IntKind.u16 ((q (13 : Nat)).fdiv (64 : Int)) (1 : Int) == (1 : Int))) = true → false = true) ∧ ((true ^^ (a1 (iA (pk p) (13 : Nat)) (64 : Int) != (0 :
      Int)) == (bits BinOp.and IntKind.u16 ((q (13 : Nat)).fdiv (64 : Int)) (1 : Int) == (1 : Int))) = false → (56 : Nat) = (56 : Nat) ∧ (32 : Nat) = (32 : Nat) ∧ wfP (4 : Nat)
      (pk p) = true ∧ wfR (4 : Nat) (rk q w) = true ∧ Op2 (pk p) (rk q w) R ∧ hdo E = hdo E ∧ (168 : Nat) = (168 : Nat) ∧ C.p (0 : Nat) (0 : Nat) = C.p (0 : Nat) (0 : Nat) ∧ C.p
      (1 : Nat) (0 : Nat) = C.p (1 : Nat) (0 : Nat) ∧ C.es a n c = C.es a n c ∧ (IntKind.i64 = IntKind.i64 ∧ (↑n : Int) = (↑n : Int)) ∧ IntKind.i64 = IntKind.i64 ∧
      IntKind.i64.wrap ((↑i : Int) + (1 : Int)) = (↑(i + (1 : Nat)) : Int))))))))))))))))))))))))))))))))))))))))) := by kernel_rfl
end Go.Proofs.Ytchebhjbcjjhpaa

