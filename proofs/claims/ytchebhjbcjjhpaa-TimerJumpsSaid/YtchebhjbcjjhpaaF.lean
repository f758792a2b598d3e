import Derived.Test.YtchebhjbcjjhpaaG
set_option linter.unusedVariables false
set_option linter.unusedSimpArgs false
namespace Go.Proofs.Ytchebhjbcjjhpaa
open Go Go.Proofs Go.Proofs.Ytchebhjbcjjhpaa.Ev
set_option maxRecDepth 100000
def l4o (a : Option Addr) (n c : Nat) (i : Nat) : List (Nat × SV) := [(3, .c (.p 0 0)), (4, .c (.p 1 0)), (23, .c (.es a n c)), (24, .c (.i false .i64 (n : Int))), (25, .c (.i false .i64 (i : Int)))]
def l4m (a : Option Addr) (n c : Nat) (i : Nat) (u : Int) : List (Nat × SV) := [(3, .c (.p 0 0)), (4, .c (.p 1 0)), (6, .c (.p 2 0)), (7, .c (.i false .i64 u)), (23, .c (.es a n c)), (24, .c (.i false .i64 (n : Int))), (25, .c (.i false .i64 (i : Int)))]
def l4a (a : Option Addr) (n c : Nat) (i : Nat) (u at_ mk : Int) : List (Nat × SV) := [(3, .c (.p 0 0)), (4, .c (.p 1 0)), (6, .c (.p 2 0)), (7, .c (.i false .i64 u)), (8, .c (.i false .i64 at_)), (10, .c (.i false .i64 mk)), (23, .c (.es a n c)), (24, .c (.i false .i64 (n : Int))), (25, .c (.i false .i64 (i : Int)))]
def Io4 (E : World) (a : Option Addr) (n c : Nat) (i : Nat) (R : (Nat → Int) → (Nat → Int) → Int → Prop) (todo : List Item) (fr : Fr) (s' : SW) : Prop :=
  TwoL s' fun l l2 => Op2 l l2 R ∧ todo = h4o E ∧ fr.nt = Try.f4.ntmps ∧ refP fr (l4o a n c i)
def Im4 (E : World) (a : Option Addr) (n c : Nat) (i : Nat) (u : Int) (z1 z2 z3 z4 : Int) (R : (Nat → Int) → (Nat → Int) → Int → Prop) (todo : List Item) (fr : Fr) (s' : SW) : Prop :=
  ThreeL s' z1 z2 z3 z4 fun l l2 => Op2 l l2 R ∧ todo = h4m E ∧ fr.nt = Try.f4.ntmps ∧ refP fr (l4m a n c i u)
def Ia4 (E : World) (a : Option Addr) (n c : Nat) (i : Nat) (u at_ mk : Int) (z1 z2 z3 z4 : Int) (R : (Nat → Int) → (Nat → Int) → Int → Prop) (todo : List Item) (fr : Fr) (s' : SW) : Prop :=
  ThreeL s' z1 z2 z3 z4 fun l l2 => Op2 l l2 R ∧ todo = h4a E ∧ fr.nt = Try.f4.ntmps ∧ refP fr (l4a a n c i u at_ mk)
def Ic4 (E : World) (a : Option Addr) (n c : Nat) (i : Nat) (u : Int) (z1 z2 z3 z4 : Int) (R : (Nat → Int) → (Nat → Int) → Int → Prop) (todo : List Item) (fr : Fr) (s' : SW) : Prop :=
  ThreeL s' z1 z2 z3 z4 fun l l2 => Op2 l l2 R ∧ todo = h4c E ∧ fr.nt = Try.f4.ntmps ∧ refP fr (l4m a n c i u)
theorem pro4 (E : World) (a : Option Addr) (n c : Nat) (Q : Prop) :
    (loopP (pe E) Try.f4 (fun v _ => SV.sim v (.c (.b false true))) (fun todo fr s' => Q ∧ todo = h4o E ∧ fr.nt = Try.f4.ntmps ∧ refP fr (l4o a n c 0) ∧ refT s' [⟨pk (fun _ => 0), 56⟩, ⟨rk (fun _ => 0) 0, 32⟩]) (run (pe E) (orcX E) (tabL fns) 20000 2180 [.code c4] ⟨Try.f4.ntmps, mkFrGo (Tr.mk 12) 0 [.c (.es a n c)]⟩ [])) =
    ((decide ((↑n : Int) > (40 : Int)) = true → true = true) ∧ (decide ((↑n : Int) > (40 : Int)) = false → Q ∧ h4o E = h4o E ∧ (162 : Nat) = (162 : Nat) ∧ (C.p (0 : Nat) (0 :
      Nat) = C.p (0 : Nat) (0 : Nat) ∧ C.p (1 : Nat) (0 : Nat) = C.p (1 : Nat) (0 : Nat) ∧ C.es a n c = C.es a n c ∧ (IntKind.i64 = IntKind.i64 ∧ (↑n : Int) = (↑n : Int)) ∧
      IntKind.i64 = IntKind.i64 ∧ (0 : Int) = (0 : Int)) ∧ ((56 : Nat) = (56 : Nat) ∧ (IntKind.u16 = IntKind.u16 ∧ (0 : Int) = (0 : Int)) ∧ (IntKind.u16 = IntKind.u16 ∧ (0 :
      Int) = (0 : Int)) ∧ (IntKind.u16 = IntKind.u16 ∧ (0 : Int) = (0 : Int)) ∧ (IntKind.i64 = IntKind.i64 ∧ (0 : Int) = (0 : Int)) ∧ (IntKind.u16 = IntKind.u16 ∧ (0 : Int) = (0
      : Int)) ∧ (IntKind.u16 = IntKind.u16 ∧ (0 : Int) = (0 : Int)) ∧ (IntKind.u16 = IntKind.u16 ∧ (0 : Int) = (0 : Int)) ∧ (IntKind.i64 = IntKind.i64 ∧ (0 : Int) = (0 : Int)) ∧
      (IntKind.u16 = IntKind.u16 ∧ (0 : Int) = (0 : Int)) ∧ (IntKind.u16 = IntKind.u16 ∧ (0 : Int) = (0 : Int)) ∧ (IntKind.u16 = IntKind.u16 ∧ (0 : Int) = (0 : Int)) ∧
      (IntKind.i64 = IntKind.i64 ∧ (0 : Int) = (0 : Int)) ∧ (IntKind.u16 = IntKind.u16 ∧ (0 : Int) = (0 : Int)) ∧ (IntKind.u16 = IntKind.u16 ∧ (0 : Int) = (0 : Int)) ∧
      (IntKind.u16 = IntKind.u16 ∧ (0 : Int) = (0 : Int)) ∧ IntKind.i64 = IntKind.i64 ∧ (0 : Int) = (0 : Int)) ∧ ((32 : Nat) = (32 : Nat) ∧ (IntKind.i64 = IntKind.i64 ∧ (0 :
      Int) = (0 : Int)) ∧ (IntKind.u16 = IntKind.u16 ∧ (0 : Int) = (0 : Int)) ∧ (IntKind.i64 = IntKind.i64 ∧ (0 : Int) = (0 : Int)) ∧ (IntKind.i64 = IntKind.i64 ∧ (0 : Int) = (0
      : Int)) ∧ (IntKind.i64 = IntKind.i64 ∧ (0 : Int) = (0 : Int)) ∧ (IntKind.u16 = IntKind.u16 ∧ (0 : Int) = (0 : Int)) ∧ (IntKind.i64 = IntKind.i64 ∧ (0 : Int) = (0 : Int)) ∧
      (IntKind.i64 = IntKind.i64 ∧ (0 : Int) = (0 : Int)) ∧ (IntKind.i64 = IntKind.i64 ∧ (0 : Int) = (0 : Int)) ∧ (IntKind.u16 = IntKind.u16 ∧ (0 : Int) = (0 : Int)) ∧
      (IntKind.i64 = IntKind.i64 ∧ (0 : Int) = (0 : Int)) ∧ (IntKind.i64 = IntKind.i64 ∧ (0 : Int) = (0 : Int)) ∧ (IntKind.i64 = IntKind.i64 ∧ (0 : Int) = (0 : Int)) ∧
      (IntKind.u16 = IntKind.u16 ∧ (0 : Int) = (0 : Int)) ∧ (IntKind.i64 = IntKind.i64 ∧ (0 : Int) = (0 : Int)) ∧ (IntKind.i64 = IntKind.i64 ∧ (0 : Int) = (0 : Int)) ∧
      IntKind.i64 = IntKind.i64 ∧ (0 : Int) = (0 : Int)) ∧ True)) := by kernel_rfl
theorem r4o (E : World) (a : Option Addr) (n c : Nat) (i : Nat) (p q : Nat → Int) (w : Int) (R R' : (Nat → Int) → (Nat → Int) → Int → Prop) :
    (loopP (pe E) Try.f4 (fun v _ => SV.sim v (.c (.b false true))) (fun todo fr s' => cond (Nat.beq todo.length 4) (Io4 E a n c (i + 1) R todo fr s') (Im4 E a n c i (IntKind.i64.wrap (w + rI E a i 0)) (rI E a i 0) (rI E a i 1) (rI E a i 2) (rI E a i 3) R' todo fr s')) (run (pe E) (orcX E) (tabL fns) 20000 2180 (h4o E) (mkL Try.f4.ntmps (l4o a n c i)) [⟨pk p, 56⟩, ⟨rk q w, 32⟩])) =
    ((decide ((↑i : Int) < (↑n : Int)) = true → inB (↑i : Int) n = true ∧ a.isSome = true ∧ eRow E a ((↑i : Int).toNat * (4 : Nat) + (0 : Nat)) ([EK.i IntKind.i64] ++ ([EK.i
      IntKind.i64] ++ ([EK.i IntKind.i64] ++ ([EK.i IntKind.u16] ++ [])))) = true ∧ ((bif decide (eI E a ((↑i : Int).toNat * (4 : Nat) + (0 : Nat)) < (0 : Int)) then true else
      decide (eI E a ((↑i : Int).toNat * (4 : Nat) + (0 : Nat)) > (5000 : Int))) = true → (56 : Nat) = (56 : Nat) ∧ (32 : Nat) = (32 : Nat) ∧ wfP (4 : Nat) (pk p) = true ∧ wfR
      (4 : Nat) (rk q w) = true ∧ Op2 (pk p) (rk q w) R ∧ h4o E = h4o E ∧ (162 : Nat) = (162 : Nat) ∧ C.p (0 : Nat) (0 : Nat) = C.p (0 : Nat) (0 : Nat) ∧ C.p (1 : Nat) (0 : Nat)
      = C.p (1 : Nat) (0 : Nat) ∧ C.es a n c = C.es a n c ∧ (IntKind.i64 = IntKind.i64 ∧ (↑n : Int) = (↑n : Int)) ∧ IntKind.i64 = IntKind.i64 ∧ IntKind.i64.wrap ((↑i : Int) + (1
      : Int)) = (↑(i + (1 : Nat)) : Int)) ∧ ((bif decide (eI E a ((↑i : Int).toNat * (4 : Nat) + (0 : Nat)) < (0 : Int)) then true else decide (eI E a ((↑i : Int).toNat * (4 :
      Nat) + (0 : Nat)) > (5000 : Int))) = false → (56 : Nat) = (56 : Nat) ∧ (32 : Nat) = (32 : Nat) ∧ (34 : Nat) = (34 : Nat) ∧ eI E a ((↑i : Int).toNat * (4 : Nat) + (0 :
      Nat)) = rI E a i (0 : Nat) ∧ eI E a ((↑i : Int).toNat * (4 : Nat) + (1 : Nat)) = rI E a i (1 : Nat) ∧ eI E a ((↑i : Int).toNat * (4 : Nat) + (2 : Nat)) = rI E a i (2 :
      Nat) ∧ eI E a ((↑i : Int).toNat * (4 : Nat) + (3 : Nat)) = rI E a i (3 : Nat) ∧ wfP (4 : Nat) (pk p) = true ∧ wfR (4 : Nat) (rk q w) = true ∧ Op2 (pk p) (rk q w) R' ∧ h4m
      E = h4m E ∧ (162 : Nat) = (162 : Nat) ∧ C.p (0 : Nat) (0 : Nat) = C.p (0 : Nat) (0 : Nat) ∧ C.p (1 : Nat) (0 : Nat) = C.p (1 : Nat) (0 : Nat) ∧ C.p (2 : Nat) (0 : Nat) =
      C.p (2 : Nat) (0 : Nat) ∧ (IntKind.i64 = IntKind.i64 ∧ IntKind.i64.wrap (w + eI E a ((↑i : Int).toNat * (4 : Nat) + (0 : Nat))) = IntKind.i64.wrap (w + rI E a i (0 :
      Nat))) ∧ C.es a n c = C.es a n c ∧ (IntKind.i64 = IntKind.i64 ∧ (↑n : Int) = (↑n : Int)) ∧ IntKind.i64 = IntKind.i64 ∧ (↑i : Int) = (↑i : Int))) ∧ (decide ((↑i : Int) <
      (↑n : Int)) = false → true = true)) := by kernel_rfl
theorem r4m (E : World) (a : Option Addr) (n c : Nat) (i : Nat) (u : Int) (p q : Nat → Int) (w : Int) (z1 z2 z3 z4 : Int) (R R' : (Nat → Int) → (Nat → Int) → Int → Prop) :
    (loopP (pe E) Try.f4 (fun v _ => SV.sim v (.c (.b false true))) (fun todo fr s' => cond (Nat.beq todo.length 13) (Ia4 E a n c i u (nxA (iA (pk p)) [0, 1, 2, 3] 0 false) 0 z1 z2 z3 z4 R todo fr s') (Ic4 E a n c i u z1 z2 z3 z4 R' todo fr s')) (run (pe E) (orcX E) (tabL fns) 20000 2180 (h4m E) (mkL Try.f4.ntmps (l4m a n c i u)) [⟨pk p, 56⟩, ⟨rk q w, 32⟩, ⟨[.i false .i64 z1, .i false .i64 z2, .i false .i64 z3, .i false .u16 z4], 34⟩])) =
    (((bif !nxF (iA (pk p)) [(0 : Nat), (1 : Nat), (2 : Nat), (3 : Nat)] false then true else decide (nxA (iA (pk p)) [(0 : Nat), (1 : Nat), (2 : Nat), (3 : Nat)] (0 : Int)
      false > u)) = true → (56 : Nat) = (56 : Nat) ∧ (32 : Nat) = (32 : Nat) ∧ (34 : Nat) = (34 : Nat) ∧ z1 = z1 ∧ z2 = z2 ∧ z3 = z3 ∧ z4 = z4 ∧ wfP (4 : Nat) (pk p) = true ∧
      wfR (4 : Nat) (rk q w) = true ∧ Op2 (pk p) (rk q w) R' ∧ h4c E = h4c E ∧ (162 : Nat) = (162 : Nat) ∧ C.p (0 : Nat) (0 : Nat) = C.p (0 : Nat) (0 : Nat) ∧ C.p (1 : Nat) (0 :
      Nat) = C.p (1 : Nat) (0 : Nat) ∧ C.p (2 : Nat) (0 : Nat) = C.p (2 : Nat) (0 : Nat) ∧ (IntKind.i64 = IntKind.i64 ∧ u = u) ∧ C.es a n c = C.es a n c ∧ (IntKind.i64 =
      IntKind.i64 ∧ (↑n : Int) = (↑n : Int)) ∧ IntKind.i64 = IntKind.i64 ∧ (↑i : Int) = (↑i : Int)) ∧ ((bif !nxF (iA (pk p)) [(0 : Nat), (1 : Nat), (2 : Nat), (3 : Nat)] false
      then true else decide (nxA (iA (pk p)) [(0 : Nat), (1 : Nat), (2 : Nat), (3 : Nat)] (0 : Int) false > u)) = false → (56 : Nat) = (56 : Nat) ∧ (32 : Nat) = (32 : Nat) ∧ (34
      : Nat) = (34 : Nat) ∧ z1 = z1 ∧ z2 = z2 ∧ z3 = z3 ∧ z4 = z4 ∧ wfP (4 : Nat) (pk p) = true ∧ wfR (4 : Nat) (rk q w) = true ∧ Op2 (pk p) (rk q w) R ∧ h4a E = h4a E ∧ (162 :
      Nat) = (162 : Nat) ∧ C.p (0 : Nat) (0 : Nat) = C.p (0 : Nat) (0 : Nat) ∧ C.p (1 : Nat) (0 : Nat) = C.p (1 : Nat) (0 : Nat) ∧ C.p (2 : Nat) (0 : Nat) = C.p (2 : Nat) (0 :
      Nat) ∧ (IntKind.i64 = IntKind.i64 ∧ u = u) ∧ (IntKind.i64 = IntKind.i64 ∧ nxA (iA (pk p)) [(0 : Nat), (1 : Nat), (2 : Nat), (3 : Nat)] (0 : Int) false = nxA (iA (pk p))
      [(0 : Nat), (1 : Nat), (2 : Nat), (3 : Nat)] (0 : Int) false) ∧ (IntKind.i64 = IntKind.i64 ∧ (0 : Int) = (0 : Int)) ∧ C.es a n c = C.es a n c ∧ (IntKind.i64 = IntKind.i64
      ∧ (↑n : Int) = (↑n : Int)) ∧ IntKind.i64 = IntKind.i64 ∧ (↑i : Int) = (↑i : Int))) := by kernel_rfl
theorem r4a (E : World) (a : Option Addr) (n c : Nat) (i : Nat) (u at_ mk : Int) (p q : Nat → Int) (w : Int) (z1 z2 z3 z4 : Int) (R R' : (Nat → Int) → (Nat → Int) → Int → Prop) :
    (loopP (pe E) Try.f4 (fun v _ => SV.sim v (.c (.b false true))) (fun todo fr s' => cond (Nat.beq todo.length 13) (Ia4 E a n c i u at_ (ov4 (iA (rk q w))) z1 z2 z3 z4 R todo fr s') (Im4 E a n c i u z1 z2 z3 z4 R' todo fr s')) (run (pe E) (orcX E) (tabL fns) 20000 2180 (h4a E) (mkL Try.f4.ntmps (l4a a n c i u at_ mk)) [⟨pk p, 56⟩, ⟨rk q w, 32⟩, ⟨[.i false .i64 z1, .i false .i64 z2, .i false .i64 z3, .i false .u16 z4], 34⟩])) =
    ((decide (w < at_) = true → ((mk != (0 : Int)) = true → false = true) ∧ ((mk != (0 : Int)) = false → decide ((0 : Int) ≤ iA (rk q w) (1 : Nat)) = true ∧ decide ((0 : Int) ≤
      iA (rk q w) (5 : Nat)) = true ∧ decide ((0 : Int) ≤ iA (rk q w) (9 : Nat)) = true ∧ decide ((0 : Int) ≤ iA (rk q w) (13 : Nat)) = true ∧ (56 : Nat) = (56 : Nat) ∧ (32 :
      Nat) = (32 : Nat) ∧ (34 : Nat) = (34 : Nat) ∧ z1 = z1 ∧ z2 = z2 ∧ z3 = z3 ∧ z4 = z4 ∧ wfP (4 : Nat) (pk p) = true ∧ wfR (4 : Nat) (rk (q4 (iA (rk q w))) (IntKind.i64.wrap
      (iA (rk q w) (16 : Nat) + (1 : Int)))) = true ∧ Op2 (pk p) (rk (q4 (iA (rk q w))) (IntKind.i64.wrap (iA (rk q w) (16 : Nat) + (1 : Int)))) R ∧ h4a E = h4a E ∧ (162 : Nat)
      = (162 : Nat) ∧ C.p (0 : Nat) (0 : Nat) = C.p (0 : Nat) (0 : Nat) ∧ C.p (1 : Nat) (0 : Nat) = C.p (1 : Nat) (0 : Nat) ∧ C.p (2 : Nat) (0 : Nat) = C.p (2 : Nat) (0 : Nat) ∧
      (IntKind.i64 = IntKind.i64 ∧ u = u) ∧ (IntKind.i64 = IntKind.i64 ∧ at_ = at_) ∧ (IntKind.i64 = IntKind.i64 ∧ ov4 (iA (rk q w)) = ov4 (iA (rk q w))) ∧ C.es a n c = C.es a n
      c ∧ (IntKind.i64 = IntKind.i64 ∧ (↑n : Int) = (↑n : Int)) ∧ IntKind.i64 = IntKind.i64 ∧ (↑i : Int) = (↑i : Int))) ∧ (decide (w < at_) = false → ((bif bif fiA (iA (pk p)) u
      != at_ then true else fiM (iA (pk p)) u != mk then true else fiM (iA (pk p)) u == (0 : Int)) = true → false = true) ∧ ((bif bif fiA (iA (pk p)) u != at_ then true else fiM
      (iA (pk p)) u != mk then true else fiM (iA (pk p)) u == (0 : Int)) = false → (56 : Nat) = (56 : Nat) ∧ (32 : Nat) = (32 : Nat) ∧ (34 : Nat) = (34 : Nat) ∧ z1 = z1 ∧ z2 =
      z2 ∧ z3 = z3 ∧ z4 = z4 ∧ wfP (4 : Nat) (pk (fiP (iA (pk p)) u)) = true ∧ wfR (4 : Nat) (rk q w) = true ∧ Op2 (pk (fiP (iA (pk p)) u)) (rk q w) R' ∧ h4m E = h4m E ∧ (162 :
      Nat) = (162 : Nat) ∧ C.p (0 : Nat) (0 : Nat) = C.p (0 : Nat) (0 : Nat) ∧ C.p (1 : Nat) (0 : Nat) = C.p (1 : Nat) (0 : Nat) ∧ C.p (2 : Nat) (0 : Nat) = C.p (2 : Nat) (0 :
      Nat) ∧ (IntKind.i64 = IntKind.i64 ∧ u = u) ∧ C.es a n c = C.es a n c ∧ (IntKind.i64 = IntKind.i64 ∧ (↑n : Int) = (↑n : Int)) ∧ IntKind.i64 = IntKind.i64 ∧ (↑i : Int) = (↑i
      : Int)))) := by kernel_rfl
theorem r4c (E : World) (a : Option Addr) (n c : Nat) (i : Nat) (u : Int) (p q : Nat → Int) (w : Int) (z1 z2 z3 z4 : Int) (R R' : (Nat → Int) → (Nat → Int) → Int → Prop) :
    (loopP (pe E) Try.f4 (fun v _ => SV.sim v (.c (.b false true))) (fun todo fr s' => cond (Nat.beq todo.length 4) (Io4 E a n c (i + 1) R todo fr s') (Ic4 E a n c i u z1 z2 z3 z4 R' todo fr s')) (run (pe E) (orcX E) (tabL fns) 20000 2180 (h4c E) (mkL Try.f4.ntmps (l4m a n c i u)) [⟨pk p, 56⟩, ⟨rk q w, 32⟩, ⟨[.i false .i64 z1, .i false .i64 z2, .i false .i64 z3, .i false .u16 z4], 34⟩])) =
    ((decide (w < u) = true → decide ((0 : Int) ≤ iA (rk q w) (1 : Nat)) = true ∧ decide ((0 : Int) ≤ iA (rk q w) (5 : Nat)) = true ∧ decide ((0 : Int) ≤ iA (rk q w) (9 : Nat))
      = true ∧ decide ((0 : Int) ≤ iA (rk q w) (13 : Nat)) = true ∧ ((ov4 (iA (rk q w)) != (0 : Int)) = true → false = true) ∧ ((ov4 (iA (rk q w)) != (0 : Int)) = false → (56 :
      Nat) = (56 : Nat) ∧ (32 : Nat) = (32 : Nat) ∧ (34 : Nat) = (34 : Nat) ∧ z1 = z1 ∧ z2 = z2 ∧ z3 = z3 ∧ z4 = z4 ∧ wfP (4 : Nat) (pk p) = true ∧ wfR (4 : Nat) (rk (q4 (iA (rk
      q w))) (IntKind.i64.wrap (iA (rk q w) (16 : Nat) + (1 : Int)))) = true ∧ Op2 (pk p) (rk (q4 (iA (rk q w))) (IntKind.i64.wrap (iA (rk q w) (16 : Nat) + (1 : Int)))) R' ∧
      h4c E = h4c E ∧ (162 : Nat) = (162 : Nat) ∧ C.p (0 : Nat) (0 : Nat) = C.p (0 : Nat) (0 : Nat) ∧ C.p (1 : Nat) (0 : Nat) = C.p (1 : Nat) (0 : Nat) ∧ C.p (2 : Nat) (0 : Nat)
      = C.p (2 : Nat) (0 : Nat) ∧ (IntKind.i64 = IntKind.i64 ∧ u = u) ∧ C.es a n c = C.es a n c ∧ (IntKind.i64 = IntKind.i64 ∧ (↑n : Int) = (↑n : Int)) ∧ IntKind.i64 =
      IntKind.i64 ∧ (↑i : Int) = (↑i : Int))) ∧ (decide (w < u) = false → ((bif fiA (iA (pk p)) u != (0 : Int) then true else fiM (iA (pk p)) u != (0 : Int)) = true → false =
      true) ∧ ((bif fiA (iA (pk p)) u != (0 : Int) then true else fiM (iA (pk p)) u != (0 : Int)) = false → ((z2 == (0 : Int)) = true → ((bif decide (z3 ≥ (0 : Int)) then decide
      (z3 < (4 : Int)) else false) = true → inB z3 (4 : Nat) = true ∧ (56 : Nat) = (56 : Nat) ∧ (32 : Nat) = (32 : Nat) ∧ wfP (4 : Nat) (pk (sel4 z3 (u1 (iA (pk (fiP (iA (pk p))
      u))) (0 : Nat) z4) (u1 (iA (pk (fiP (iA (pk p)) u))) (4 : Nat) z4) (u1 (iA (pk (fiP (iA (pk p)) u))) (8 : Nat) z4) (u1 (iA (pk (fiP (iA (pk p)) u))) (12 : Nat) z4) (iA (pk
      (fiP (iA (pk p)) u))))) = true ∧ wfR (4 : Nat) [C.i false IntKind.i64 (bif z3 == (0 : Int) then IntKind.i64.wrap z4 else q (0 : Nat)), C.i false IntKind.u16 (q (1 : Nat)),
      C.i false IntKind.i64 (q (2 : Nat)), C.i false IntKind.i64 (q (3 : Nat)), C.i false IntKind.i64 (bif z3 == (1 : Int) then IntKind.i64.wrap z4 else q (4 : Nat)), C.i false
      IntKind.u16 (q (5 : Nat)), C.i false IntKind.i64 (q (6 : Nat)), C.i false IntKind.i64 (q (7 : Nat)), C.i false IntKind.i64 (bif z3 == (2 : Int) then IntKind.i64.wrap z4
      else q (8 : Nat)), C.i false IntKind.u16 (q (9 : Nat)), C.i false IntKind.i64 (q (10 : Nat)), C.i false IntKind.i64 (q (11 : Nat)), C.i false IntKind.i64 (bif z3 == (3 :
      Int) then IntKind.i64.wrap z4 else q (12 : Nat)), C.i false IntKind.u16 (q (13 : Nat)), C.i false IntKind.i64 (q (14 : Nat)), C.i false IntKind.i64 (q (15 : Nat)), C.i
      false IntKind.i64 w] = true ∧ Op2 (pk (sel4 z3 (u1 (iA (pk (fiP (iA (pk p)) u))) (0 : Nat) z4) (u1 (iA (pk (fiP (iA (pk p)) u))) (4 : Nat) z4) (u1 (iA (pk (fiP (iA (pk p))
      u))) (8 : Nat) z4) (u1 (iA (pk (fiP (iA (pk p)) u))) (12 : Nat) z4) (iA (pk (fiP (iA (pk p)) u))))) [C.i false IntKind.i64 (bif z3 == Int.ofNat (0 : Nat) then
      IntKind.i64.wrap z4 else q (0 : Nat)), C.i false IntKind.u16 (q (1 : Nat)), C.i false IntKind.i64 (q (2 : Nat)), C.i false IntKind.i64 (q (3 : Nat)), C.i false IntKind.i64
      (bif z3 == Int.ofNat ((0 : Nat) + (1 : Nat)) then IntKind.i64.wrap z4 else q (4 : Nat)), C.i false IntKind.u16 (q (5 : Nat)), C.i false IntKind.i64 (q (6 : Nat)), C.i
      false IntKind.i64 (q (7 : Nat)), C.i false IntKind.i64 (bif z3 == Int.ofNat ((0 : Nat) + (1 : Nat) + (1 : Nat)) then IntKind.i64.wrap z4 else q (8 : Nat)), C.i false
      IntKind.u16 (q (9 : Nat)), C.i false IntKind.i64 (q (10 : Nat)), C.i false IntKind.i64 (q (11 : Nat)), C.i false IntKind.i64 (bif z3 == Int.ofNat ((0 : Nat) + (1 : Nat) +
      (1 : Nat) + (1 : Nat)) then IntKind.i64.wrap z4 else q (12 : Nat)), C.i false IntKind.u16 (q (13 : Nat)), C.i false IntKind.i64 (q (14 : Nat)), C.i false IntKind.i64 (q
      (15 : Nat)), C.i false IntKind.i64 w] R ∧ h4o E = h4o E ∧ (162 : Nat) = (162 : Nat) ∧ C.p (0 : Nat) (0 : Nat) = C.p (0 : Nat) (0 : Nat) ∧ C.p (1 : Nat) (0 : Nat) = C.p (1
      : Nat) (0 : Nat) ∧ C.es a n c = C.es a n c ∧ (IntKind.i64 = IntKind.i64 ∧ (↑n : Int) = (↑n : Int)) ∧ IntKind.i64 = IntKind.i64 ∧ IntKind.i64.wrap ((↑i : Int) + (1 : Int))
      = (↑(i + (1 : Nat)) : Int)) ∧ ((bif decide (z3 ≥ (0 : Int)) then decide (z3 < (4 : Int)) else false) = false → (56 : Nat) = (56 : Nat) ∧ (32 : Nat) = (32 : Nat) ∧ wfP (4 :
      Nat) (pk (sel4 z3 (u1 (iA (pk (fiP (iA (pk p)) u))) (0 : Nat) z4) (u1 (iA (pk (fiP (iA (pk p)) u))) (4 : Nat) z4) (u1 (iA (pk (fiP (iA (pk p)) u))) (8 : Nat) z4) (u1 (iA
      (pk (fiP (iA (pk p)) u))) (12 : Nat) z4) (iA (pk (fiP (iA (pk p)) u))))) = true ∧ wfR (4 : Nat) (rk q w) = true ∧ Op2 (pk (sel4 z3 (u1 (iA (pk (fiP (iA (pk p)) u))) (0 :
      Nat) z4) (u1 (iA (pk (fiP (iA (pk p)) u))) (4 : Nat) z4) (u1 (iA (pk (fiP (iA (pk p)) u))) (8 : Nat) z4) (u1 (iA (pk (fiP (iA (pk p)) u))) (12 : Nat) z4) (iA (pk (fiP (iA
      (pk p)) u))))) (rk q w) R ∧ h4o E = h4o E ∧ (162 : Nat) = (162 : Nat) ∧ C.p (0 : Nat) (0 : Nat) = C.p (0 : Nat) (0 : Nat) ∧ C.p (1 : Nat) (0 : Nat) = C.p (1 : Nat) (0 :
      Nat) ∧ C.es a n c = C.es a n c ∧ (IntKind.i64 = IntKind.i64 ∧ (↑n : Int) = (↑n : Int)) ∧ IntKind.i64 = IntKind.i64 ∧ IntKind.i64.wrap ((↑i : Int) + (1 : Int)) = (↑(i + (1
      : Nat)) : Int))) ∧ ((z2 == (0 : Int)) = false → ((bif bif z2 == (1 : Int) then decide (z3 ≥ (0 : Int)) else false then decide (z3 < (4 : Int)) else false) = true → inB z3
      (4 : Nat) = true ∧ (56 : Nat) = (56 : Nat) ∧ (32 : Nat) = (32 : Nat) ∧ wfP (4 : Nat) (pk (sel4 z3 (scP (iA (pk (fiP (iA (pk p)) u))) (0 : Nat) w z4) (scP (iA (pk (fiP (iA
      (pk p)) u))) (1 : Nat) w z4) (scP (iA (pk (fiP (iA (pk p)) u))) (2 : Nat) w z4) (scP (iA (pk (fiP (iA (pk p)) u))) (3 : Nat) w z4) (iA (pk (fiP (iA (pk p)) u))))) = true ∧
      wfR (4 : Nat) (rk (sel4 z3 (seR (iA (rk q w)) (0 : Nat) z4) (seR (iA (rk q w)) (1 : Nat) z4) (seR (iA (rk q w)) (2 : Nat) z4) (seR (iA (rk q w)) (3 : Nat) z4) (iA (rk q
      w))) (iA (rk q w) (16 : Nat))) = true ∧ Op2 (pk (sel4 z3 (scP (iA (pk (fiP (iA (pk p)) u))) (0 : Nat) w z4) (scP (iA (pk (fiP (iA (pk p)) u))) (1 : Nat) w z4) (scP (iA (pk
      (fiP (iA (pk p)) u))) (2 : Nat) w z4) (scP (iA (pk (fiP (iA (pk p)) u))) (3 : Nat) w z4) (iA (pk (fiP (iA (pk p)) u))))) (rk (sel4 z3 (seR (iA (rk q w)) (0 : Nat) z4) (seR
      (iA (rk q w)) (1 : Nat) z4) (seR (iA (rk q w)) (2 : Nat) z4) (seR (iA (rk q w)) (3 : Nat) z4) (iA (rk q w))) (iA (rk q w) (16 : Nat))) R ∧ h4o E = h4o E ∧ (162 : Nat) =
      (162 : Nat) ∧ C.p (0 : Nat) (0 : Nat) = C.p (0 : Nat) (0 : Nat) ∧ C.p (1 : Nat) (0 : Nat) = C.p (1 : Nat) (0 : Nat) ∧ C.es a n c = C.es a n c ∧ (IntKind.i64 = IntKind.i64
      ∧ (↑n : Int) = (↑n : Int)) ∧ IntKind.i64 = IntKind.i64 ∧ IntKind.i64.wrap ((↑i : Int) + (1 : Int)) = (↑(i + (1 : Nat)) : Int)) ∧ ((bif bif z2 == (1 : Int) then decide (z3
      ≥ (0 : Int)) else false then decide (z3 < (4 : Int)) else false) = false → (56 : Nat) = (56 : Nat) ∧ (32 : Nat) = (32 : Nat) ∧ wfP (4 : Nat) (pk (fiP (iA (pk p)) u)) =
      true ∧ wfR (4 : Nat) (rk q w) = true ∧ Op2 (pk (fiP (iA (pk p)) u)) (rk q w) R ∧ h4o E = h4o E ∧ (162 : Nat) = (162 : Nat) ∧ C.p (0 : Nat) (0 : Nat) = C.p (0 : Nat) (0 :
      Nat) ∧ C.p (1 : Nat) (0 : Nat) = C.p (1 : Nat) (0 : Nat) ∧ C.es a n c = C.es a n c ∧ (IntKind.i64 = IntKind.i64 ∧ (↑n : Int) = (↑n : Int)) ∧ IntKind.i64 = IntKind.i64 ∧
      IntKind.i64.wrap ((↑i : Int) + (1 : Int)) = (↑(i + (1 : Nat)) : Int)))))) := by kernel_rfl
end Go.Proofs.Ytchebhjbcjjhpaa

