import Derived.Test.YtkgpcdnlbgmglaaW
import Derived.Test.YtkgpcdnlbgmglaaEw
set_option linter.unusedVariables false
set_option linter.unusedSimpArgs false
namespace Go.Proofs.Ytkgpcdnlbgmglaa
open Go Go.Proofs Go.Proofs.Ytkgpcdnlbgmglaa.Ev
set_option maxRecDepth 100000
def kpN (f : Nat → Int) : Nat → Nat → Prop → Prop
  | 0, _, R => R
  | n + 1, k, R => decide (f k = f k) = true ∧ kpN f n (k + 1) R
theorem kpN_eq (f : Nat → Int) : ∀ n k (R : Prop), kpN f n k R = R
  | 0, _, _ => rfl
  | n + 1, k, R => by rw [kpN, kpN_eq f n (k + 1) R]; simp
def kK (E : World) (a : Option Addr) (i j : Nat) : Int := eI E a ((i : Int).toNat * 3 + j)
def rkS (r : Nat → Int) (x : Int) : List C := [.i false .u32 (r 0), .i false .u32 (r 1), .i false .u32 (r 2), .i false .u32 (r 3), .i false .u32 (r 4), .i false .u32 (r 5), .i false .u32 (r 6), .i false .u32 (r 7), .i false .u32 (r 8), .i false .u32 (r 9), .i false .u32 (r 10), .i false .u32 (r 11), .i false .u32 (r 12), .i false .u32 (r 13), .i false .u32 (r 14), .i false .u32 (r 15), .i false .u32 (r 16), .i false .u32 (r 17), .i false .u32 (r 18), .i false .u32 (r 19), .i false .u32 (r 20), .i false .u32 (r 21), .i false .u32 (r 22), .i false .u32 (r 23), .i false .u32 (r 24), .i false .u32 (r 25), .i false .u32 (r 26), .i false .u32 (r 27), .i false .u32 (r 28), .i false .u32 (r 29), .i false .u32 (r 30), .i false .u32 (r 31), .i false .u32 (r 32), .i false .u32 (r 33), .i false .u32 (r 34), .i false .u32 (r 35), .i false .u32 (r 36), .i false .u32 (r 37), .i false .u32 (r 38), .i false .u32 (r 39), .i false .u32 (r 40), .i false .u32 (r 41), .i false .u32 (r 42), .i false .u32 (r 43), .i false .u32 (r 44), .i false .u32 (r 45), .i false .u32 (r 46), .i false .u32 (r 47), .i false .u32 (r 48), .i false .u32 (r 49), .i false .u32 (r 50), .i false .u32 (r 51), .i false .u32 (r 52), .i false .u32 (r 53), .i false .u32 (r 54), .i false .u32 (r 55), .i false .u32 (r 56), .i false .u32 (r 57), .i false .u32 (r 58), .i false .u32 (r 59), .i false .u32 (r 60), .i false .u32 (r 61), .i false .u32 (r 62), .i false .u32 (r 63), .i false .u32 (r 64), .i false .u32 (r 65), .i false .u32 (r 66), .i false .u32 (r 67), .i false .u32 (r 68), .i false .u32 (r 69), .i false .u32 (r 70), .i false .u32 (r 71), .i false .u32 (r 72), .i false .u32 (r 73), .i false .u32 (r 74), .i false .u32 (r 75), .i false .u32 (r 76), .i false .u32 (r 77), .i false .u32 (r 78), .i false .u32 (r 79), .i false .u32 (r 80), .i false .u32 (r 81), .i false .u32 (r 82), .i false .u32 (r 83), .i false .u32 (r 84), .i false .u32 (r 85), .i false .u32 (r 86), .i false .u32 (r 87), .i false .u32 (r 88), .i false .u32 (r 89), .i false .u32 (r 90), .i false .u32 (r 91), .i false .u32 (r 92), .i false .u32 (r 93), .i false .u32 (r 94), .i false .u32 (r 95), .i false .u32 (r 96), .i false .u32 (r 97), .i false .u32 (r 98), .i false .u32 (r 99), .i false .u32 (r 100), .i false .u32 (r 101), .i false .u32 x]
noncomputable def c3 : Code := Try.f3.body.getD .skip
noncomputable def hd3 (E : World) : List Item := headOf (run (pe E) (orcX E) (tabL fns) 20000 (2^200-1) [.code c3] ⟨Try.f3.ntmps, mkFrGo (Tr.mk 12) 0 [.c (.es none 0 0)]⟩ [])
noncomputable def hdb3 (E : World) : List Item := headOf (run (pe E) (orcX E) (tabL fns) 20000 (2^200-1) (hd3 E) (mkL Try.f3.ntmps [(3, .c (.p 0 0)), (4, .c (.p 1 0)), (12, .c (.es none 1 1)), (13, .c (.i true .i64 1)), (14, .c (.i true .i64 0))]) [⟨bk (fun _ => 0), 59⟩, ⟨rk (fun _ => 0), 37⟩])
def la3 (a : Option Addr) (n c : Nat) (i : Nat) : List (Nat × SV) := [(3, .c (.p 0 0)), (4, .c (.p 1 0)), (12, .c (.es a n c)), (13, .c (.i false .i64 (n : Int))), (14, .c (.i false .i64 (i : Int)))]
def lb3 (a : Option Addr) (n c : Nat) (i k : Nat) : List (Nat × SV) := [(3, .c (.p 0 0)), (4, .c (.p 1 0)), (12, .c (.es a n c)), (13, .c (.i false .i64 (n : Int))), (14, .c (.i false .i64 (i : Int))), (78, .c (.i false .i64 (k : Int)))]
def mem2 (s' : SW) (P : (Nat → Int) → (Nat → Int) → Prop) : Prop := match s' with
  | ⟨l, ty⟩ :: ⟨l2, ty2⟩ :: _ => ty = 59 ∧ ty2 = 37 ∧ wfL 45 l = true ∧ wfL 103 l2 = true ∧ P (ofL l) (ofL l2)
  | _ => False
def O3 (E : World) (a : Option Addr) (n c : Nat) (i0 : Nat) (todo : List Item) (fr : Fr) (s' : SW) : Prop :=
  mem2 s' fun d r => ∃ i : Nat, i ≤ n ∧ i0 ≤ i ∧ Holds (rel d r) ∧ todo = hd3 E ∧ fr.nt = Try.f3.ntmps ∧ refP fr (la3 a n c i)
def I3 (E : World) (a : Option Addr) (n c : Nat) (i0 k0 : Nat) (todo : List Item) (fr : Fr) (s' : SW) : Prop :=
  mem2 s' fun d r => ∃ k : Nat, i0 < n ∧ k ≤ 16 ∧ k0 ≤ k ∧ Holds (rel d r) ∧ todo = hdb3 E ∧ fr.nt = Try.f3.ntmps ∧ refP fr (lb3 a n c i0 k)
def Q3 (E : World) (a : Option Addr) (n c : Nat) (i k : Nat) (todo : List Item) (fr : Fr) (s' : SW) : Prop :=
  cond (Nat.beq todo.length (hd3 E).length) (O3 E a n c (i + 1) todo fr s') (I3 E a n c i (k + 1) todo fr s')
theorem runs_pro (E : World) (a : Option Addr) (n c : Nat) :
    (loopP (pe E) Try.f3 (fun v _ => SV.sim v (.c (.b false true))) (fun todo fr s' => todo = hd3 E ∧ fr.nt = Try.f3.ntmps ∧ refP fr (la3 a n c 0) ∧ refT s' [⟨bk (fun j => if j = 0 then 31 else 0), 59⟩, ⟨rk (fun j => if j = 102 then 31 else 0), 37⟩]) (run (pe E) (orcX E) (tabL fns) 20000 (2^200-1) [.code c3] ⟨Try.f3.ntmps, mkFrGo (Tr.mk 12) 0 [.c (.es a n c)]⟩ [])) =
    (hd3 E = hd3 E ∧ (99 : Nat) = (99 : Nat) ∧ (C.p (0 : Nat) (0 : Nat) = C.p (0 : Nat) (0 : Nat) ∧ C.p (1 : Nat) (0 : Nat) = C.p (1 : Nat) (0 : Nat) ∧ C.es a n c = C.es a n c
      ∧ (IntKind.i64 = IntKind.i64 ∧ (↑n : Int) = (↑n : Int)) ∧ IntKind.i64 = IntKind.i64 ∧ (0 : Int) = (0 : Int)) ∧ ((59 : Nat) = (59 : Nat) ∧ (IntKind.u32 = IntKind.u32 ∧ (31
      : Int) = (31 : Int)) ∧ (IntKind.u32 = IntKind.u32 ∧ (0 : Int) = (0 : Int)) ∧ (IntKind.u32 = IntKind.u32 ∧ (0 : Int) = (0 : Int)) ∧ (IntKind.u32 = IntKind.u32 ∧ (0 : Int) =
      (0 : Int)) ∧ (IntKind.u32 = IntKind.u32 ∧ (0 : Int) = (0 : Int)) ∧ (IntKind.u32 = IntKind.u32 ∧ (0 : Int) = (0 : Int)) ∧ (IntKind.u32 = IntKind.u32 ∧ (0 : Int) = (0 :
      Int)) ∧ (IntKind.u32 = IntKind.u32 ∧ (0 : Int) = (0 : Int)) ∧ (IntKind.u32 = IntKind.u32 ∧ (0 : Int) = (0 : Int)) ∧ (IntKind.u32 = IntKind.u32 ∧ (0 : Int) = (0 : Int)) ∧
      (IntKind.u32 = IntKind.u32 ∧ (0 : Int) = (0 : Int)) ∧ (IntKind.u32 = IntKind.u32 ∧ (0 : Int) = (0 : Int)) ∧ (IntKind.u32 = IntKind.u32 ∧ (0 : Int) = (0 : Int)) ∧
      (IntKind.u32 = IntKind.u32 ∧ (0 : Int) = (0 : Int)) ∧ (IntKind.u32 = IntKind.u32 ∧ (0 : Int) = (0 : Int)) ∧ (IntKind.u32 = IntKind.u32 ∧ (0 : Int) = (0 : Int)) ∧
      (IntKind.u32 = IntKind.u32 ∧ (0 : Int) = (0 : Int)) ∧ (IntKind.u32 = IntKind.u32 ∧ (0 : Int) = (0 : Int)) ∧ (IntKind.u32 = IntKind.u32 ∧ (0 : Int) = (0 : Int)) ∧
      (IntKind.u32 = IntKind.u32 ∧ (0 : Int) = (0 : Int)) ∧ (IntKind.u32 = IntKind.u32 ∧ (0 : Int) = (0 : Int)) ∧ (IntKind.u32 = IntKind.u32 ∧ (0 : Int) = (0 : Int)) ∧
      (IntKind.u32 = IntKind.u32 ∧ (0 : Int) = (0 : Int)) ∧ (IntKind.u32 = IntKind.u32 ∧ (0 : Int) = (0 : Int)) ∧ (IntKind.u32 = IntKind.u32 ∧ (0 : Int) = (0 : Int)) ∧
      (IntKind.u32 = IntKind.u32 ∧ (0 : Int) = (0 : Int)) ∧ (IntKind.u32 = IntKind.u32 ∧ (0 : Int) = (0 : Int)) ∧ (IntKind.u32 = IntKind.u32 ∧ (0 : Int) = (0 : Int)) ∧
      (IntKind.u32 = IntKind.u32 ∧ (0 : Int) = (0 : Int)) ∧ (IntKind.u32 = IntKind.u32 ∧ (0 : Int) = (0 : Int)) ∧ (IntKind.u32 = IntKind.u32 ∧ (0 : Int) = (0 : Int)) ∧
      (IntKind.u32 = IntKind.u32 ∧ (0 : Int) = (0 : Int)) ∧ (IntKind.u32 = IntKind.u32 ∧ (0 : Int) = (0 : Int)) ∧ (IntKind.u32 = IntKind.u32 ∧ (0 : Int) = (0 : Int)) ∧
      (IntKind.u32 = IntKind.u32 ∧ (0 : Int) = (0 : Int)) ∧ (IntKind.u32 = IntKind.u32 ∧ (0 : Int) = (0 : Int)) ∧ (IntKind.u32 = IntKind.u32 ∧ (0 : Int) = (0 : Int)) ∧
      (IntKind.u32 = IntKind.u32 ∧ (0 : Int) = (0 : Int)) ∧ (IntKind.u32 = IntKind.u32 ∧ (0 : Int) = (0 : Int)) ∧ (IntKind.u32 = IntKind.u32 ∧ (0 : Int) = (0 : Int)) ∧
      (IntKind.u32 = IntKind.u32 ∧ (0 : Int) = (0 : Int)) ∧ (IntKind.u32 = IntKind.u32 ∧ (0 : Int) = (0 : Int)) ∧ (IntKind.u32 = IntKind.u32 ∧ (0 : Int) = (0 : Int)) ∧
      (IntKind.u32 = IntKind.u32 ∧ (0 : Int) = (0 : Int)) ∧ IntKind.u32 = IntKind.u32 ∧ (0 : Int) = (0 : Int)) ∧ ((37 : Nat) = (37 : Nat) ∧ (IntKind.u32 = IntKind.u32 ∧ (0 :
      Int) = (0 : Int)) ∧ (IntKind.u32 = IntKind.u32 ∧ (0 : Int) = (0 : Int)) ∧ (IntKind.u32 = IntKind.u32 ∧ (0 : Int) = (0 : Int)) ∧ (IntKind.u32 = IntKind.u32 ∧ (0 : Int) = (0
      : Int)) ∧ (IntKind.u32 = IntKind.u32 ∧ (0 : Int) = (0 : Int)) ∧ (IntKind.u32 = IntKind.u32 ∧ (0 : Int) = (0 : Int)) ∧ (IntKind.u32 = IntKind.u32 ∧ (0 : Int) = (0 : Int)) ∧
      (IntKind.u32 = IntKind.u32 ∧ (0 : Int) = (0 : Int)) ∧ (IntKind.u32 = IntKind.u32 ∧ (0 : Int) = (0 : Int)) ∧ (IntKind.u32 = IntKind.u32 ∧ (0 : Int) = (0 : Int)) ∧
      (IntKind.u32 = IntKind.u32 ∧ (0 : Int) = (0 : Int)) ∧ (IntKind.u32 = IntKind.u32 ∧ (0 : Int) = (0 : Int)) ∧ (IntKind.u32 = IntKind.u32 ∧ (0 : Int) = (0 : Int)) ∧
      (IntKind.u32 = IntKind.u32 ∧ (0 : Int) = (0 : Int)) ∧ (IntKind.u32 = IntKind.u32 ∧ (0 : Int) = (0 : Int)) ∧ (IntKind.u32 = IntKind.u32 ∧ (0 : Int) = (0 : Int)) ∧
      (IntKind.u32 = IntKind.u32 ∧ (0 : Int) = (0 : Int)) ∧ (IntKind.u32 = IntKind.u32 ∧ (0 : Int) = (0 : Int)) ∧ (IntKind.u32 = IntKind.u32 ∧ (0 : Int) = (0 : Int)) ∧
      (IntKind.u32 = IntKind.u32 ∧ (0 : Int) = (0 : Int)) ∧ (IntKind.u32 = IntKind.u32 ∧ (0 : Int) = (0 : Int)) ∧ (IntKind.u32 = IntKind.u32 ∧ (0 : Int) = (0 : Int)) ∧
      (IntKind.u32 = IntKind.u32 ∧ (0 : Int) = (0 : Int)) ∧ (IntKind.u32 = IntKind.u32 ∧ (0 : Int) = (0 : Int)) ∧ (IntKind.u32 = IntKind.u32 ∧ (0 : Int) = (0 : Int)) ∧
      (IntKind.u32 = IntKind.u32 ∧ (0 : Int) = (0 : Int)) ∧ (IntKind.u32 = IntKind.u32 ∧ (0 : Int) = (0 : Int)) ∧ (IntKind.u32 = IntKind.u32 ∧ (0 : Int) = (0 : Int)) ∧
      (IntKind.u32 = IntKind.u32 ∧ (0 : Int) = (0 : Int)) ∧ (IntKind.u32 = IntKind.u32 ∧ (0 : Int) = (0 : Int)) ∧ (IntKind.u32 = IntKind.u32 ∧ (0 : Int) = (0 : Int)) ∧
      (IntKind.u32 = IntKind.u32 ∧ (0 : Int) = (0 : Int)) ∧ (IntKind.u32 = IntKind.u32 ∧ (0 : Int) = (0 : Int)) ∧ (IntKind.u32 = IntKind.u32 ∧ (0 : Int) = (0 : Int)) ∧
      (IntKind.u32 = IntKind.u32 ∧ (0 : Int) = (0 : Int)) ∧ (IntKind.u32 = IntKind.u32 ∧ (0 : Int) = (0 : Int)) ∧ (IntKind.u32 = IntKind.u32 ∧ (0 : Int) = (0 : Int)) ∧
      (IntKind.u32 = IntKind.u32 ∧ (0 : Int) = (0 : Int)) ∧ (IntKind.u32 = IntKind.u32 ∧ (0 : Int) = (0 : Int)) ∧ (IntKind.u32 = IntKind.u32 ∧ (0 : Int) = (0 : Int)) ∧
      (IntKind.u32 = IntKind.u32 ∧ (0 : Int) = (0 : Int)) ∧ (IntKind.u32 = IntKind.u32 ∧ (0 : Int) = (0 : Int)) ∧ (IntKind.u32 = IntKind.u32 ∧ (0 : Int) = (0 : Int)) ∧
      (IntKind.u32 = IntKind.u32 ∧ (0 : Int) = (0 : Int)) ∧ (IntKind.u32 = IntKind.u32 ∧ (0 : Int) = (0 : Int)) ∧ (IntKind.u32 = IntKind.u32 ∧ (0 : Int) = (0 : Int)) ∧
      (IntKind.u32 = IntKind.u32 ∧ (0 : Int) = (0 : Int)) ∧ (IntKind.u32 = IntKind.u32 ∧ (0 : Int) = (0 : Int)) ∧ (IntKind.u32 = IntKind.u32 ∧ (0 : Int) = (0 : Int)) ∧
      (IntKind.u32 = IntKind.u32 ∧ (0 : Int) = (0 : Int)) ∧ (IntKind.u32 = IntKind.u32 ∧ (0 : Int) = (0 : Int)) ∧ (IntKind.u32 = IntKind.u32 ∧ (0 : Int) = (0 : Int)) ∧
      (IntKind.u32 = IntKind.u32 ∧ (0 : Int) = (0 : Int)) ∧ (IntKind.u32 = IntKind.u32 ∧ (0 : Int) = (0 : Int)) ∧ (IntKind.u32 = IntKind.u32 ∧ (0 : Int) = (0 : Int)) ∧
      (IntKind.u32 = IntKind.u32 ∧ (0 : Int) = (0 : Int)) ∧ (IntKind.u32 = IntKind.u32 ∧ (0 : Int) = (0 : Int)) ∧ (IntKind.u32 = IntKind.u32 ∧ (0 : Int) = (0 : Int)) ∧
      (IntKind.u32 = IntKind.u32 ∧ (0 : Int) = (0 : Int)) ∧ (IntKind.u32 = IntKind.u32 ∧ (0 : Int) = (0 : Int)) ∧ (IntKind.u32 = IntKind.u32 ∧ (0 : Int) = (0 : Int)) ∧
      (IntKind.u32 = IntKind.u32 ∧ (0 : Int) = (0 : Int)) ∧ (IntKind.u32 = IntKind.u32 ∧ (0 : Int) = (0 : Int)) ∧ (IntKind.u32 = IntKind.u32 ∧ (0 : Int) = (0 : Int)) ∧
      (IntKind.u32 = IntKind.u32 ∧ (0 : Int) = (0 : Int)) ∧ (IntKind.u32 = IntKind.u32 ∧ (0 : Int) = (0 : Int)) ∧ (IntKind.u32 = IntKind.u32 ∧ (0 : Int) = (0 : Int)) ∧
      (IntKind.u32 = IntKind.u32 ∧ (0 : Int) = (0 : Int)) ∧ (IntKind.u32 = IntKind.u32 ∧ (0 : Int) = (0 : Int)) ∧ (IntKind.u32 = IntKind.u32 ∧ (0 : Int) = (0 : Int)) ∧
      (IntKind.u32 = IntKind.u32 ∧ (0 : Int) = (0 : Int)) ∧ (IntKind.u32 = IntKind.u32 ∧ (0 : Int) = (0 : Int)) ∧ (IntKind.u32 = IntKind.u32 ∧ (0 : Int) = (0 : Int)) ∧
      (IntKind.u32 = IntKind.u32 ∧ (0 : Int) = (0 : Int)) ∧ (IntKind.u32 = IntKind.u32 ∧ (0 : Int) = (0 : Int)) ∧ (IntKind.u32 = IntKind.u32 ∧ (0 : Int) = (0 : Int)) ∧
      (IntKind.u32 = IntKind.u32 ∧ (0 : Int) = (0 : Int)) ∧ (IntKind.u32 = IntKind.u32 ∧ (0 : Int) = (0 : Int)) ∧ (IntKind.u32 = IntKind.u32 ∧ (0 : Int) = (0 : Int)) ∧
      (IntKind.u32 = IntKind.u32 ∧ (0 : Int) = (0 : Int)) ∧ (IntKind.u32 = IntKind.u32 ∧ (0 : Int) = (0 : Int)) ∧ (IntKind.u32 = IntKind.u32 ∧ (0 : Int) = (0 : Int)) ∧
      (IntKind.u32 = IntKind.u32 ∧ (0 : Int) = (0 : Int)) ∧ (IntKind.u32 = IntKind.u32 ∧ (0 : Int) = (0 : Int)) ∧ (IntKind.u32 = IntKind.u32 ∧ (0 : Int) = (0 : Int)) ∧
      (IntKind.u32 = IntKind.u32 ∧ (0 : Int) = (0 : Int)) ∧ (IntKind.u32 = IntKind.u32 ∧ (0 : Int) = (0 : Int)) ∧ (IntKind.u32 = IntKind.u32 ∧ (0 : Int) = (0 : Int)) ∧
      (IntKind.u32 = IntKind.u32 ∧ (0 : Int) = (0 : Int)) ∧ (IntKind.u32 = IntKind.u32 ∧ (0 : Int) = (0 : Int)) ∧ (IntKind.u32 = IntKind.u32 ∧ (0 : Int) = (0 : Int)) ∧
      (IntKind.u32 = IntKind.u32 ∧ (0 : Int) = (0 : Int)) ∧ (IntKind.u32 = IntKind.u32 ∧ (0 : Int) = (0 : Int)) ∧ (IntKind.u32 = IntKind.u32 ∧ (0 : Int) = (0 : Int)) ∧
      (IntKind.u32 = IntKind.u32 ∧ (0 : Int) = (0 : Int)) ∧ (IntKind.u32 = IntKind.u32 ∧ (0 : Int) = (0 : Int)) ∧ (IntKind.u32 = IntKind.u32 ∧ (0 : Int) = (0 : Int)) ∧
      (IntKind.u32 = IntKind.u32 ∧ (0 : Int) = (0 : Int)) ∧ (IntKind.u32 = IntKind.u32 ∧ (0 : Int) = (0 : Int)) ∧ (IntKind.u32 = IntKind.u32 ∧ (0 : Int) = (0 : Int)) ∧
      (IntKind.u32 = IntKind.u32 ∧ (0 : Int) = (0 : Int)) ∧ (IntKind.u32 = IntKind.u32 ∧ (0 : Int) = (0 : Int)) ∧ IntKind.u32 = IntKind.u32 ∧ (31 : Int) = (31 : Int)) ∧ True) := by kernel_rfl
theorem runs_outer (E : World) (a : Option Addr) (n c : Nat) (i : Nat) (d r : Nat → Int) :
    (loopP (pe E) Try.f3 (fun v _ => SV.sim v (.c (.b false true))) (I3 E a n c i 0) (run (pe E) (orcX E) (tabL fns) 20000 (2^200-1) (hd3 E) (mkL Try.f3.ntmps (la3 a n c i)) [⟨bk d, 59⟩, ⟨rk r, 37⟩])) =
    ((decide ((↑i : Int) < (↑n : Int)) = true → inB (↑i : Int) n = true ∧ a.isSome = true ∧ eRow E a ((↑i : Int).toNat * (3 : Nat) + (0 : Nat)) ([EK.i IntKind.i64] ++ ([EK.i
      IntKind.i64] ++ ([EK.i IntKind.u32] ++ []))) = true ∧ (((↑i : Int) == (500 : Int)) = true → true = true) ∧ (((↑i : Int) == (500 : Int)) = false → ((kK E a i 0 == (0 :
      Int)) = true → ((kK E a i 0 == (0 : Int)) = true → kpN (fun q_ => setC (ofL (bk d)) (kK E a i 1) (kK E a i 2) q_) 45 0 (kpN (fun q_ => rsetV (ofL (rk r)) (kK E a i 1) (kK
      E a i 2) q_) 103 0 (decide (kK E a i 0 = kK E a i 0) = true ∧ decide (kK E a i 1 = kK E a i 1) = true ∧ decide (kK E a i 2 = kK E a i 2) = true ∧ decide (kK E a i 0 = kK E
      a i 0) = true ∧ decide (kK E a i 1 = kK E a i 1) = true ∧ decide (kK E a i 2 = kK E a i 2) = true ∧ ((setC (ofL (bk d)) (kK E a i 1) (kK E a i 2) (0 : Nat) != rsetV (ofL
      (rk r)) (kK E a i 1) (kK E a i 2) (102 : Nat)) = true → false = true) ∧ ((setC (ofL (bk d)) (kK E a i 1) (kK E a i 2) (0 : Nat) != rsetV (ofL (rk r)) (kK E a i 1) (kK E a
      i 2) (102 : Nat)) = false → kpN (fun q_ => setC (ofL (bk d)) (kK E a i 1) (kK E a i 2) q_) 45 0 (kpN (fun q_ => rsetV (ofL (rk r)) (kK E a i 1) (kK E a i 2) q_) 103 0
      (decide (kK E a i 0 = kK E a i 0) = true ∧ decide (kK E a i 1 = kK E a i 1) = true ∧ decide (kK E a i 2 = kK E a i 2) = true ∧ decide (kK E a i 0 = kK E a i 0) = true ∧
      decide (kK E a i 1 = kK E a i 1) = true ∧ decide (kK E a i 2 = kK E a i 2) = true ∧ kpN (fun q_ => setC (ofL (bk d)) (kK E a i 1) (kK E a i 2) q_) 45 0 (kpN (fun q_ =>
      rsetV (ofL (rk r)) (kK E a i 1) (kK E a i 2) q_) 103 0 (decide (kK E a i 0 = kK E a i 0) = true ∧ decide (kK E a i 1 = kK E a i 1) = true ∧ decide (kK E a i 2 = kK E a i
      2) = true ∧ decide (kK E a i 0 = kK E a i 0) = true ∧ decide (kK E a i 1 = kK E a i 1) = true ∧ decide (kK E a i 2 = kK E a i 2) = true ∧ ((savV (ofL (bk (setC (ofL (bk
      d)) (kK E a i 1) (kK E a i 2)))) != rsavV (ofL (rk (rsetV (ofL (rk r)) (kK E a i 1) (kK E a i 2))))) = true → false = true) ∧ ((savV (ofL (bk (setC (ofL (bk d)) (kK E a i
      1) (kK E a i 2)))) != rsavV (ofL (rk (rsetV (ofL (rk r)) (kK E a i 1) (kK E a i 2))))) = false → (59 : Nat) = (59 : Nat) ∧ (37 : Nat) = (37 : Nat) ∧ wfL (45 : Nat) (bk
      (setC (ofL (bk d)) (kK E a i 1) (kK E a i 2))) = true ∧ wfL (103 : Nat) (rk (rsetV (ofL (rk r)) (kK E a i 1) (kK E a i 2))) = true ∧ ∃ (k : Nat), i < n ∧ k ≤ (16 : Nat) ∧
      (0 : Nat) ≤ k ∧ Holds (rel (ofL (bk (setC (ofL (bk d)) (kK E a i 1) (kK E a i 2)))) (ofL (rk (rsetV (ofL (rk r)) (kK E a i 1) (kK E a i 2))))) ∧ hdb3 E = hdb3 E ∧ (99 :
      Nat) = (99 : Nat) ∧ C.p (0 : Nat) (0 : Nat) = C.p (0 : Nat) (0 : Nat) ∧ C.p (1 : Nat) (0 : Nat) = C.p (1 : Nat) (0 : Nat) ∧ C.es a n c = C.es a n c ∧ (IntKind.i64 =
      IntKind.i64 ∧ (↑n : Int) = (↑n : Int)) ∧ (IntKind.i64 = IntKind.i64 ∧ (↑i : Int) = (↑i : Int)) ∧ IntKind.i64 = IntKind.i64 ∧ (0 : Int) = (↑k : Int)))))))))) ∧ ((kK E a i 0
      == (0 : Int)) = false → ((kK E a i 0 == (1 : Int)) = true → kpN (fun q_ => setC (ofL (bk d)) (kK E a i 1) (kK E a i 2) q_) 45 0 (kpN (fun q_ => r q_) 102 0 (decide (kK E a
      i 2 = kK E a i 2) = true ∧ decide (kK E a i 0 = kK E a i 0) = true ∧ decide (kK E a i 1 = kK E a i 1) = true ∧ decide (kK E a i 2 = kK E a i 2) = true ∧ decide (kK E a i 0
      = kK E a i 0) = true ∧ decide (kK E a i 1 = kK E a i 1) = true ∧ decide (kK E a i 2 = kK E a i 2) = true ∧ ((setC (ofL (bk d)) (kK E a i 1) (kK E a i 2) (0 : Nat) != kK E
      a i 2) = true → false = true) ∧ ((setC (ofL (bk d)) (kK E a i 1) (kK E a i 2) (0 : Nat) != kK E a i 2) = false → kpN (fun q_ => setC (ofL (bk d)) (kK E a i 1) (kK E a i 2)
      q_) 45 0 (kpN (fun q_ => r q_) 102 0 (decide (kK E a i 2 = kK E a i 2) = true ∧ decide (kK E a i 0 = kK E a i 0) = true ∧ decide (kK E a i 1 = kK E a i 1) = true ∧ decide
      (kK E a i 2 = kK E a i 2) = true ∧ decide (kK E a i 0 = kK E a i 0) = true ∧ decide (kK E a i 1 = kK E a i 1) = true ∧ decide (kK E a i 2 = kK E a i 2) = true ∧ kpN (fun
      q_ => setC (ofL (bk d)) (kK E a i 1) (kK E a i 2) q_) 45 0 (kpN (fun q_ => r q_) 102 0 (decide (kK E a i 2 = kK E a i 2) = true ∧ decide (kK E a i 0 = kK E a i 0) = true ∧
      decide (kK E a i 1 = kK E a i 1) = true ∧ decide (kK E a i 2 = kK E a i 2) = true ∧ decide (kK E a i 0 = kK E a i 0) = true ∧ decide (kK E a i 1 = kK E a i 1) = true ∧
      decide (kK E a i 2 = kK E a i 2) = true ∧ ((savV (ofL (bk (setC (ofL (bk d)) (kK E a i 1) (kK E a i 2)))) != rsavV (ofL (rkS r (kK E a i 2)))) = true → false = true) ∧
      ((savV (ofL (bk (setC (ofL (bk d)) (kK E a i 1) (kK E a i 2)))) != rsavV (ofL (rkS r (kK E a i 2)))) = false → (59 : Nat) = (59 : Nat) ∧ (37 : Nat) = (37 : Nat) ∧ wfL (45
      : Nat) (bk (setC (ofL (bk d)) (kK E a i 1) (kK E a i 2))) = true ∧ wfL (103 : Nat) (rkS r (kK E a i 2)) = true ∧ ∃ (k : Nat), i < n ∧ k ≤ (16 : Nat) ∧ (0 : Nat) ≤ k ∧
      Holds (rel (ofL (bk (setC (ofL (bk d)) (kK E a i 1) (kK E a i 2)))) (ofL [C.i false IntKind.u32 (r (0 : Nat)), C.i false IntKind.u32 (r (1 : Nat)), C.i false IntKind.u32
      (r (2 : Nat)), C.i false IntKind.u32 (r (3 : Nat)), C.i false IntKind.u32 (r (4 : Nat)), C.i false IntKind.u32 (r (5 : Nat)), C.i false IntKind.u32 (r (6 : Nat)), C.i
      false IntKind.u32 (r (7 : Nat)), C.i false IntKind.u32 (r (8 : Nat)), C.i false IntKind.u32 (r (9 : Nat)), C.i false IntKind.u32 (r (10 : Nat)), C.i false IntKind.u32 (r
      (11 : Nat)), C.i false IntKind.u32 (r (12 : Nat)), C.i false IntKind.u32 (r (13 : Nat)), C.i false IntKind.u32 (r (14 : Nat)), C.i false IntKind.u32 (r (15 : Nat)), C.i
      false IntKind.u32 (r (16 : Nat)), C.i false IntKind.u32 (r (17 : Nat)), C.i false IntKind.u32 (r (18 : Nat)), C.i false IntKind.u32 (r (19 : Nat)), C.i false IntKind.u32
      (r (20 : Nat)), C.i false IntKind.u32 (r (21 : Nat)), C.i false IntKind.u32 (r (22 : Nat)), C.i false IntKind.u32 (r (23 : Nat)), C.i false IntKind.u32 (r (24 : Nat)), C.i
      false IntKind.u32 (r (25 : Nat)), C.i false IntKind.u32 (r (26 : Nat)), C.i false IntKind.u32 (r (27 : Nat)), C.i false IntKind.u32 (r (28 : Nat)), C.i false IntKind.u32
      (r (29 : Nat)), C.i false IntKind.u32 (r (30 : Nat)), C.i false IntKind.u32 (r (31 : Nat)), C.i false IntKind.u32 (r (32 : Nat)), C.i false IntKind.u32 (r (33 : Nat)), C.i
      false IntKind.u32 (r (34 : Nat)), C.i false IntKind.u32 (r (35 : Nat)), C.i false IntKind.u32 (r (36 : Nat)), C.i false IntKind.u32 (r (37 : Nat)), C.i false IntKind.u32
      (r (38 : Nat)), C.i false IntKind.u32 (r (39 : Nat)), C.i false IntKind.u32 (r (40 : Nat)), C.i false IntKind.u32 (r (41 : Nat)), C.i false IntKind.u32 (r (42 : Nat)), C.i
      false IntKind.u32 (r (43 : Nat)), C.i false IntKind.u32 (r (44 : Nat)), C.i false IntKind.u32 (r (45 : Nat)), C.i false IntKind.u32 (r (46 : Nat)), C.i false IntKind.u32
      (r (47 : Nat)), C.i false IntKind.u32 (r (48 : Nat)), C.i false IntKind.u32 (r (49 : Nat)), C.i false IntKind.u32 (r (50 : Nat)), C.i false IntKind.u32 (r (51 : Nat)), C.i
      false IntKind.u32 (r (52 : Nat)), C.i false IntKind.u32 (r (53 : Nat)), C.i false IntKind.u32 (r (54 : Nat)), C.i false IntKind.u32 (r (55 : Nat)), C.i false IntKind.u32
      (r (56 : Nat)), C.i false IntKind.u32 (r (57 : Nat)), C.i false IntKind.u32 (r (58 : Nat)), C.i false IntKind.u32 (r (59 : Nat)), C.i false IntKind.u32 (r (60 : Nat)), C.i
      false IntKind.u32 (r (61 : Nat)), C.i false IntKind.u32 (r (62 : Nat)), C.i false IntKind.u32 (r (63 : Nat)), C.i false IntKind.u32 (r (64 : Nat)), C.i false IntKind.u32
      (r (65 : Nat)), C.i false IntKind.u32 (r (66 : Nat)), C.i false IntKind.u32 (r (67 : Nat)), C.i false IntKind.u32 (r (68 : Nat)), C.i false IntKind.u32 (r (69 : Nat)), C.i
      false IntKind.u32 (r (70 : Nat)), C.i false IntKind.u32 (r (71 : Nat)), C.i false IntKind.u32 (r (72 : Nat)), C.i false IntKind.u32 (r (73 : Nat)), C.i false IntKind.u32
      (r (74 : Nat)), C.i false IntKind.u32 (r (75 : Nat)), C.i false IntKind.u32 (r (76 : Nat)), C.i false IntKind.u32 (r (77 : Nat)), C.i false IntKind.u32 (r (78 : Nat)), C.i
      false IntKind.u32 (r (79 : Nat)), C.i false IntKind.u32 (r (80 : Nat)), C.i false IntKind.u32 (r (81 : Nat)), C.i false IntKind.u32 (r (82 : Nat)), C.i false IntKind.u32
      (r (83 : Nat)), C.i false IntKind.u32 (r (84 : Nat)), C.i false IntKind.u32 (r (85 : Nat)), C.i false IntKind.u32 (r (86 : Nat)), C.i false IntKind.u32 (r (87 : Nat)), C.i
      false IntKind.u32 (r (88 : Nat)), C.i false IntKind.u32 (r (89 : Nat)), C.i false IntKind.u32 (r (90 : Nat)), C.i false IntKind.u32 (r (91 : Nat)), C.i false IntKind.u32
      (r (92 : Nat)), C.i false IntKind.u32 (r (93 : Nat)), C.i false IntKind.u32 (r (94 : Nat)), C.i false IntKind.u32 (r (95 : Nat)), C.i false IntKind.u32 (r (96 : Nat)), C.i
      false IntKind.u32 (r (97 : Nat)), C.i false IntKind.u32 (r (98 : Nat)), C.i false IntKind.u32 (r (99 : Nat)), C.i false IntKind.u32 (r (100 : Nat)), C.i false IntKind.u32
      (r (101 : Nat)), eC E a ((↑i : Int).toNat * (nat_lit 2 + (1 : Nat)) + (nat_lit 1 + (1 : Nat))) (EK.i IntKind.u32)])) ∧ hdb3 E = hdb3 E ∧ (99 : Nat) = (99 : Nat) ∧ C.p (0 :
      Nat) (0 : Nat) = C.p (0 : Nat) (0 : Nat) ∧ C.p (1 : Nat) (0 : Nat) = C.p (1 : Nat) (0 : Nat) ∧ C.es a n c = C.es a n c ∧ (IntKind.i64 = IntKind.i64 ∧ (↑n : Int) = (↑n :
      Int)) ∧ (IntKind.i64 = IntKind.i64 ∧ (↑i : Int) = (↑i : Int)) ∧ IntKind.i64 = IntKind.i64 ∧ (0 : Int) = (↑k : Int)))))))))) ∧ ((kK E a i 0 == (1 : Int)) = false → ((kK E a
      i 0 == (2 : Int)) = true → kpN (fun q_ => setC (ofL (bk d)) (kK E a i 1) (kK E a i 2) q_) 45 0 (kpN (fun q_ => rssvV (ofL (rk r)) (kK E a i 2) q_) 103 0 (decide (kK E a i
      0 = kK E a i 0) = true ∧ decide (kK E a i 1 = kK E a i 1) = true ∧ decide (kK E a i 2 = kK E a i 2) = true ∧ decide (kK E a i 0 = kK E a i 0) = true ∧ decide (kK E a i 1 =
      kK E a i 1) = true ∧ decide (kK E a i 2 = kK E a i 2) = true ∧ ((setC (ofL (bk d)) (kK E a i 1) (kK E a i 2) (0 : Nat) != rssvV (ofL (rk r)) (kK E a i 2) (102 : Nat)) =
      true → false = true) ∧ ((setC (ofL (bk d)) (kK E a i 1) (kK E a i 2) (0 : Nat) != rssvV (ofL (rk r)) (kK E a i 2) (102 : Nat)) = false → kpN (fun q_ => setC (ofL (bk d))
      (kK E a i 1) (kK E a i 2) q_) 45 0 (kpN (fun q_ => rssvV (ofL (rk r)) (kK E a i 2) q_) 103 0 (decide (kK E a i 0 = kK E a i 0) = true ∧ decide (kK E a i 1 = kK E a i 1) =
      true ∧ decide (kK E a i 2 = kK E a i 2) = true ∧ decide (kK E a i 0 = kK E a i 0) = true ∧ decide (kK E a i 1 = kK E a i 1) = true ∧ decide (kK E a i 2 = kK E a i 2) =
      true ∧ kpN (fun q_ => setC (ofL (bk d)) (kK E a i 1) (kK E a i 2) q_) 45 0 (kpN (fun q_ => rssvV (ofL (rk r)) (kK E a i 2) q_) 103 0 (decide (kK E a i 0 = kK E a i 0) =
      true ∧ decide (kK E a i 1 = kK E a i 1) = true ∧ decide (kK E a i 2 = kK E a i 2) = true ∧ decide (kK E a i 0 = kK E a i 0) = true ∧ decide (kK E a i 1 = kK E a i 1) =
      true ∧ decide (kK E a i 2 = kK E a i 2) = true ∧ ((savV (ofL (bk (setC (ofL (bk d)) (kK E a i 1) (kK E a i 2)))) != rsavV (ofL (rk (rssvV (ofL (rk r)) (kK E a i 2))))) =
      true → false = true) ∧ ((savV (ofL (bk (setC (ofL (bk d)) (kK E a i 1) (kK E a i 2)))) != rsavV (ofL (rk (rssvV (ofL (rk r)) (kK E a i 2))))) = false → (59 : Nat) = (59 :
      Nat) ∧ (37 : Nat) = (37 : Nat) ∧ wfL (45 : Nat) (bk (setC (ofL (bk d)) (kK E a i 1) (kK E a i 2))) = true ∧ wfL (103 : Nat) (rk (rssvV (ofL (rk r)) (kK E a i 2))) = true ∧
      ∃ (k : Nat), i < n ∧ k ≤ (16 : Nat) ∧ (0 : Nat) ≤ k ∧ Holds (rel (ofL (bk (setC (ofL (bk d)) (kK E a i 1) (kK E a i 2)))) (ofL (rk (rssvV (ofL (rk r)) (kK E a i 2))))) ∧
      hdb3 E = hdb3 E ∧ (99 : Nat) = (99 : Nat) ∧ C.p (0 : Nat) (0 : Nat) = C.p (0 : Nat) (0 : Nat) ∧ C.p (1 : Nat) (0 : Nat) = C.p (1 : Nat) (0 : Nat) ∧ C.es a n c = C.es a n c
      ∧ (IntKind.i64 = IntKind.i64 ∧ (↑n : Int) = (↑n : Int)) ∧ (IntKind.i64 = IntKind.i64 ∧ (↑i : Int) = (↑i : Int)) ∧ IntKind.i64 = IntKind.i64 ∧ (0 : Int) = (↑k :
      Int)))))))))) ∧ ((kK E a i 0 == (2 : Int)) = false → ((kK E a i 0 == (3 : Int)) = true → kpN (fun q_ => setC (ofL (bk d)) (kK E a i 1) (kK E a i 2) q_) 45 0 (kpN (fun q_
      => rsusV (ofL (rk r)) (kK E a i 1) (kK E a i 2) q_) 103 0 (decide (kK E a i 0 = kK E a i 0) = true ∧ decide (kK E a i 1 = kK E a i 1) = true ∧ decide (kK E a i 2 = kK E a
      i 2) = true ∧ decide (kK E a i 0 = kK E a i 0) = true ∧ decide (kK E a i 1 = kK E a i 1) = true ∧ decide (kK E a i 2 = kK E a i 2) = true ∧ ((setC (ofL (bk d)) (kK E a i
      1) (kK E a i 2) (0 : Nat) != rsusV (ofL (rk r)) (kK E a i 1) (kK E a i 2) (102 : Nat)) = true → false = true) ∧ ((setC (ofL (bk d)) (kK E a i 1) (kK E a i 2) (0 : Nat) !=
      rsusV (ofL (rk r)) (kK E a i 1) (kK E a i 2) (102 : Nat)) = false → kpN (fun q_ => setC (ofL (bk d)) (kK E a i 1) (kK E a i 2) q_) 45 0 (kpN (fun q_ => rsusV (ofL (rk r))
      (kK E a i 1) (kK E a i 2) q_) 103 0 (decide (kK E a i 0 = kK E a i 0) = true ∧ decide (kK E a i 1 = kK E a i 1) = true ∧ decide (kK E a i 2 = kK E a i 2) = true ∧ decide
      (kK E a i 0 = kK E a i 0) = true ∧ decide (kK E a i 1 = kK E a i 1) = true ∧ decide (kK E a i 2 = kK E a i 2) = true ∧ kpN (fun q_ => setC (ofL (bk d)) (kK E a i 1) (kK E
      a i 2) q_) 45 0 (kpN (fun q_ => rsusV (ofL (rk r)) (kK E a i 1) (kK E a i 2) q_) 103 0 (decide (kK E a i 0 = kK E a i 0) = true ∧ decide (kK E a i 1 = kK E a i 1) = true ∧
      decide (kK E a i 2 = kK E a i 2) = true ∧ decide (kK E a i 0 = kK E a i 0) = true ∧ decide (kK E a i 1 = kK E a i 1) = true ∧ decide (kK E a i 2 = kK E a i 2) = true ∧
      ((savV (ofL (bk (setC (ofL (bk d)) (kK E a i 1) (kK E a i 2)))) != rsavV (ofL (rk (rsusV (ofL (rk r)) (kK E a i 1) (kK E a i 2))))) = true → false = true) ∧ ((savV (ofL
      (bk (setC (ofL (bk d)) (kK E a i 1) (kK E a i 2)))) != rsavV (ofL (rk (rsusV (ofL (rk r)) (kK E a i 1) (kK E a i 2))))) = false → (59 : Nat) = (59 : Nat) ∧ (37 : Nat) =
      (37 : Nat) ∧ wfL (45 : Nat) (bk (setC (ofL (bk d)) (kK E a i 1) (kK E a i 2))) = true ∧ wfL (103 : Nat) (rk (rsusV (ofL (rk r)) (kK E a i 1) (kK E a i 2))) = true ∧ ∃ (k :
      Nat), i < n ∧ k ≤ (16 : Nat) ∧ (0 : Nat) ≤ k ∧ Holds (rel (ofL (bk (setC (ofL (bk d)) (kK E a i 1) (kK E a i 2)))) (ofL (rk (rsusV (ofL (rk r)) (kK E a i 1) (kK E a i
      2))))) ∧ hdb3 E = hdb3 E ∧ (99 : Nat) = (99 : Nat) ∧ C.p (0 : Nat) (0 : Nat) = C.p (0 : Nat) (0 : Nat) ∧ C.p (1 : Nat) (0 : Nat) = C.p (1 : Nat) (0 : Nat) ∧ C.es a n c =
      C.es a n c ∧ (IntKind.i64 = IntKind.i64 ∧ (↑n : Int) = (↑n : Int)) ∧ (IntKind.i64 = IntKind.i64 ∧ (↑i : Int) = (↑i : Int)) ∧ IntKind.i64 = IntKind.i64 ∧ (0 : Int) = (↑k :
      Int)))))))))) ∧ ((kK E a i 0 == (3 : Int)) = false → ((kK E a i 0 == (4 : Int)) = true → kpN (fun q_ => setC (ofL (bk d)) (kK E a i 1) (kK E a i 2) q_) 45 0 (kpN (fun q_
      => rentV (ofL (rk r)) (IntKind.u32.wrap (kK E a i 1)) (kK E a i 2) q_) 103 0 (decide (kK E a i 0 = kK E a i 0) = true ∧ decide (kK E a i 1 = kK E a i 1) = true ∧ decide
      (kK E a i 2 = kK E a i 2) = true ∧ decide (kK E a i 0 = kK E a i 0) = true ∧ decide (kK E a i 1 = kK E a i 1) = true ∧ decide (kK E a i 2 = kK E a i 2) = true ∧ ((setC
      (ofL (bk d)) (kK E a i 1) (kK E a i 2) (0 : Nat) != rentV (ofL (rk r)) (IntKind.u32.wrap (kK E a i 1)) (kK E a i 2) (102 : Nat)) = true → false = true) ∧ ((setC (ofL (bk
      d)) (kK E a i 1) (kK E a i 2) (0 : Nat) != rentV (ofL (rk r)) (IntKind.u32.wrap (kK E a i 1)) (kK E a i 2) (102 : Nat)) = false → kpN (fun q_ => setC (ofL (bk d)) (kK E a
      i 1) (kK E a i 2) q_) 45 0 (kpN (fun q_ => rentV (ofL (rk r)) (IntKind.u32.wrap (kK E a i 1)) (kK E a i 2) q_) 103 0 (decide (kK E a i 0 = kK E a i 0) = true ∧ decide (kK
      E a i 1 = kK E a i 1) = true ∧ decide (kK E a i 2 = kK E a i 2) = true ∧ decide (kK E a i 0 = kK E a i 0) = true ∧ decide (kK E a i 1 = kK E a i 1) = true ∧ decide (kK E a
      i 2 = kK E a i 2) = true ∧ kpN (fun q_ => setC (ofL (bk d)) (kK E a i 1) (kK E a i 2) q_) 45 0 (kpN (fun q_ => rentV (ofL (rk r)) (IntKind.u32.wrap (kK E a i 1)) (kK E a i
      2) q_) 103 0 (decide (kK E a i 0 = kK E a i 0) = true ∧ decide (kK E a i 1 = kK E a i 1) = true ∧ decide (kK E a i 2 = kK E a i 2) = true ∧ decide (kK E a i 0 = kK E a i
      0) = true ∧ decide (kK E a i 1 = kK E a i 1) = true ∧ decide (kK E a i 2 = kK E a i 2) = true ∧ ((savV (ofL (bk (setC (ofL (bk d)) (kK E a i 1) (kK E a i 2)))) != rsavV
      (ofL (rk (rentV (ofL (rk r)) (IntKind.u32.wrap (kK E a i 1)) (kK E a i 2))))) = true → false = true) ∧ ((savV (ofL (bk (setC (ofL (bk d)) (kK E a i 1) (kK E a i 2)))) !=
      rsavV (ofL (rk (rentV (ofL (rk r)) (IntKind.u32.wrap (kK E a i 1)) (kK E a i 2))))) = false → (59 : Nat) = (59 : Nat) ∧ (37 : Nat) = (37 : Nat) ∧ wfL (45 : Nat) (bk (setC
      (ofL (bk d)) (kK E a i 1) (kK E a i 2))) = true ∧ wfL (103 : Nat) (rk (rentV (ofL (rk r)) (IntKind.u32.wrap (kK E a i 1)) (kK E a i 2))) = true ∧ ∃ (k : Nat), i < n ∧ k ≤
      (16 : Nat) ∧ (0 : Nat) ≤ k ∧ Holds (rel (ofL (bk (setC (ofL (bk d)) (kK E a i 1) (kK E a i 2)))) (ofL (rk (rentV (ofL (rk r)) (IntKind.u32.wrap (kK E a i 1)) (kK E a i
      2))))) ∧ hdb3 E = hdb3 E ∧ (99 : Nat) = (99 : Nat) ∧ C.p (0 : Nat) (0 : Nat) = C.p (0 : Nat) (0 : Nat) ∧ C.p (1 : Nat) (0 : Nat) = C.p (1 : Nat) (0 : Nat) ∧ C.es a n c =
      C.es a n c ∧ (IntKind.i64 = IntKind.i64 ∧ (↑n : Int) = (↑n : Int)) ∧ (IntKind.i64 = IntKind.i64 ∧ (↑i : Int) = (↑i : Int)) ∧ IntKind.i64 = IntKind.i64 ∧ (0 : Int) = (↑k :
      Int)))))))))) ∧ ((kK E a i 0 == (4 : Int)) = false → kpN (fun q_ => setC (ofL (bk d)) (kK E a i 1) (kK E a i 2) q_) 45 0 (kpN (fun q_ => r q_) 103 0 (decide (kK E a i 0 =
      kK E a i 0) = true ∧ decide (kK E a i 1 = kK E a i 1) = true ∧ decide (kK E a i 2 = kK E a i 2) = true ∧ decide (kK E a i 0 = kK E a i 0) = true ∧ decide (kK E a i 1 = kK
      E a i 1) = true ∧ decide (kK E a i 2 = kK E a i 2) = true ∧ ((setC (ofL (bk d)) (kK E a i 1) (kK E a i 2) (0 : Nat) != r (102 : Nat)) = true → false = true) ∧ ((setC (ofL
      (bk d)) (kK E a i 1) (kK E a i 2) (0 : Nat) != r (102 : Nat)) = false → kpN (fun q_ => setC (ofL (bk d)) (kK E a i 1) (kK E a i 2) q_) 45 0 (kpN (fun q_ => r q_) 103 0
      (decide (kK E a i 0 = kK E a i 0) = true ∧ decide (kK E a i 1 = kK E a i 1) = true ∧ decide (kK E a i 2 = kK E a i 2) = true ∧ decide (kK E a i 0 = kK E a i 0) = true ∧
      decide (kK E a i 1 = kK E a i 1) = true ∧ decide (kK E a i 2 = kK E a i 2) = true ∧ kpN (fun q_ => setC (ofL (bk d)) (kK E a i 1) (kK E a i 2) q_) 45 0 (kpN (fun q_ => r
      q_) 103 0 (decide (kK E a i 0 = kK E a i 0) = true ∧ decide (kK E a i 1 = kK E a i 1) = true ∧ decide (kK E a i 2 = kK E a i 2) = true ∧ decide (kK E a i 0 = kK E a i 0) =
      true ∧ decide (kK E a i 1 = kK E a i 1) = true ∧ decide (kK E a i 2 = kK E a i 2) = true ∧ ((savV (ofL (bk (setC (ofL (bk d)) (kK E a i 1) (kK E a i 2)))) != rsavV (ofL
      (rk r))) = true → false = true) ∧ ((savV (ofL (bk (setC (ofL (bk d)) (kK E a i 1) (kK E a i 2)))) != rsavV (ofL (rk r))) = false → (59 : Nat) = (59 : Nat) ∧ (37 : Nat) =
      (37 : Nat) ∧ wfL (45 : Nat) (bk (setC (ofL (bk d)) (kK E a i 1) (kK E a i 2))) = true ∧ wfL (103 : Nat) (rk r) = true ∧ ∃ (k : Nat), i < n ∧ k ≤ (16 : Nat) ∧ (0 : Nat) ≤ k
      ∧ Holds (rel (ofL (bk (setC (ofL (bk d)) (kK E a i 1) (kK E a i 2)))) (ofL (rk r))) ∧ hdb3 E = hdb3 E ∧ (99 : Nat) = (99 : Nat) ∧ C.p (0 : Nat) (0 : Nat) = C.p (0 : Nat)
      (0 : Nat) ∧ C.p (1 : Nat) (0 : Nat) = C.p (1 : Nat) (0 : Nat) ∧ C.es a n c = C.es a n c ∧ (IntKind.i64 = IntKind.i64 ∧ (↑n : Int) = (↑n : Int)) ∧ (IntKind.i64 =
      IntKind.i64 ∧ (↑i : Int) = (↑i : Int)) ∧ IntKind.i64 = IntKind.i64 ∧ (0 : Int) = (↑k : Int))))))))))))))) ∧ ((kK E a i 0 == (0 : Int)) = false → ((kK E a i 0 == (1 : Int))
      = true → ((kK E a i 0 == (0 : Int)) = true → kpN (fun q_ => setSt (ofL (bk d)) (kK E a i 2) q_) 45 0 (kpN (fun q_ => rsetV (ofL (rk r)) (kK E a i 1) (kK E a i 2) q_) 103 0
      (decide (kK E a i 0 = kK E a i 0) = true ∧ decide (kK E a i 1 = kK E a i 1) = true ∧ decide (kK E a i 2 = kK E a i 2) = true ∧ decide (kK E a i 0 = kK E a i 0) = true ∧
      decide (kK E a i 1 = kK E a i 1) = true ∧ decide (kK E a i 2 = kK E a i 2) = true ∧ ((setSt (ofL (bk d)) (kK E a i 2) (0 : Nat) != rsetV (ofL (rk r)) (kK E a i 1) (kK E a
      i 2) (102 : Nat)) = true → false = true) ∧ ((setSt (ofL (bk d)) (kK E a i 2) (0 : Nat) != rsetV (ofL (rk r)) (kK E a i 1) (kK E a i 2) (102 : Nat)) = false → kpN (fun q_
      => setSt (ofL (bk d)) (kK E a i 2) q_) 45 0 (kpN (fun q_ => rsetV (ofL (rk r)) (kK E a i 1) (kK E a i 2) q_) 103 0 (decide (kK E a i 0 = kK E a i 0) = true ∧ decide (kK E
      a i 1 = kK E a i 1) = true ∧ decide (kK E a i 2 = kK E a i 2) = true ∧ decide (kK E a i 0 = kK E a i 0) = true ∧ decide (kK E a i 1 = kK E a i 1) = true ∧ decide (kK E a i
      2 = kK E a i 2) = true ∧ kpN (fun q_ => setSt (ofL (bk d)) (kK E a i 2) q_) 45 0 (kpN (fun q_ => rsetV (ofL (rk r)) (kK E a i 1) (kK E a i 2) q_) 103 0 (decide (kK E a i 0
      = kK E a i 0) = true ∧ decide (kK E a i 1 = kK E a i 1) = true ∧ decide (kK E a i 2 = kK E a i 2) = true ∧ decide (kK E a i 0 = kK E a i 0) = true ∧ decide (kK E a i 1 =
      kK E a i 1) = true ∧ decide (kK E a i 2 = kK E a i 2) = true ∧ ((savV (ofL (bk (setSt (ofL (bk d)) (kK E a i 2)))) != rsavV (ofL (rk (rsetV (ofL (rk r)) (kK E a i 1) (kK E
      a i 2))))) = true → false = true) ∧ ((savV (ofL (bk (setSt (ofL (bk d)) (kK E a i 2)))) != rsavV (ofL (rk (rsetV (ofL (rk r)) (kK E a i 1) (kK E a i 2))))) = false → (59 :
      Nat) = (59 : Nat) ∧ (37 : Nat) = (37 : Nat) ∧ wfL (45 : Nat) (bk (setSt (ofL (bk d)) (kK E a i 2))) = true ∧ wfL (103 : Nat) (rk (rsetV (ofL (rk r)) (kK E a i 1) (kK E a i
      2))) = true ∧ ∃ (k : Nat), i < n ∧ k ≤ (16 : Nat) ∧ (0 : Nat) ≤ k ∧ Holds (rel (ofL (bk (setSt (ofL (bk d)) (kK E a i 2)))) (ofL (rk (rsetV (ofL (rk r)) (kK E a i 1) (kK E
      a i 2))))) ∧ hdb3 E = hdb3 E ∧ (99 : Nat) = (99 : Nat) ∧ C.p (0 : Nat) (0 : Nat) = C.p (0 : Nat) (0 : Nat) ∧ C.p (1 : Nat) (0 : Nat) = C.p (1 : Nat) (0 : Nat) ∧ C.es a n c
      = C.es a n c ∧ (IntKind.i64 = IntKind.i64 ∧ (↑n : Int) = (↑n : Int)) ∧ (IntKind.i64 = IntKind.i64 ∧ (↑i : Int) = (↑i : Int)) ∧ IntKind.i64 = IntKind.i64 ∧ (0 : Int) = (↑k
      : Int)))))))))) ∧ ((kK E a i 0 == (0 : Int)) = false → ((kK E a i 0 == (1 : Int)) = true → kpN (fun q_ => setSt (ofL (bk d)) (kK E a i 2) q_) 45 0 (kpN (fun q_ => r q_)
      102 0 (decide (kK E a i 2 = kK E a i 2) = true ∧ decide (kK E a i 0 = kK E a i 0) = true ∧ decide (kK E a i 1 = kK E a i 1) = true ∧ decide (kK E a i 2 = kK E a i 2) =
      true ∧ decide (kK E a i 0 = kK E a i 0) = true ∧ decide (kK E a i 1 = kK E a i 1) = true ∧ decide (kK E a i 2 = kK E a i 2) = true ∧ ((setSt (ofL (bk d)) (kK E a i 2) (0 :
      Nat) != kK E a i 2) = true → false = true) ∧ ((setSt (ofL (bk d)) (kK E a i 2) (0 : Nat) != kK E a i 2) = false → kpN (fun q_ => setSt (ofL (bk d)) (kK E a i 2) q_) 45 0
      (kpN (fun q_ => r q_) 102 0 (decide (kK E a i 2 = kK E a i 2) = true ∧ decide (kK E a i 0 = kK E a i 0) = true ∧ decide (kK E a i 1 = kK E a i 1) = true ∧ decide (kK E a i
      2 = kK E a i 2) = true ∧ decide (kK E a i 0 = kK E a i 0) = true ∧ decide (kK E a i 1 = kK E a i 1) = true ∧ decide (kK E a i 2 = kK E a i 2) = true ∧ kpN (fun q_ => setSt
      (ofL (bk d)) (kK E a i 2) q_) 45 0 (kpN (fun q_ => r q_) 102 0 (decide (kK E a i 2 = kK E a i 2) = true ∧ decide (kK E a i 0 = kK E a i 0) = true ∧ decide (kK E a i 1 = kK
      E a i 1) = true ∧ decide (kK E a i 2 = kK E a i 2) = true ∧ decide (kK E a i 0 = kK E a i 0) = true ∧ decide (kK E a i 1 = kK E a i 1) = true ∧ decide (kK E a i 2 = kK E a
      i 2) = true ∧ ((savV (ofL (bk (setSt (ofL (bk d)) (kK E a i 2)))) != rsavV (ofL (rkS r (kK E a i 2)))) = true → false = true) ∧ ((savV (ofL (bk (setSt (ofL (bk d)) (kK E a
      i 2)))) != rsavV (ofL (rkS r (kK E a i 2)))) = false → (59 : Nat) = (59 : Nat) ∧ (37 : Nat) = (37 : Nat) ∧ wfL (45 : Nat) (bk (setSt (ofL (bk d)) (kK E a i 2))) = true ∧
      wfL (103 : Nat) (rkS r (kK E a i 2)) = true ∧ ∃ (k : Nat), i < n ∧ k ≤ (16 : Nat) ∧ (0 : Nat) ≤ k ∧ Holds (rel (ofL (bk (setSt (ofL (bk d)) (kK E a i 2)))) (ofL [C.i false
      IntKind.u32 (r (0 : Nat)), C.i false IntKind.u32 (r (1 : Nat)), C.i false IntKind.u32 (r (2 : Nat)), C.i false IntKind.u32 (r (3 : Nat)), C.i false IntKind.u32 (r (4 :
      Nat)), C.i false IntKind.u32 (r (5 : Nat)), C.i false IntKind.u32 (r (6 : Nat)), C.i false IntKind.u32 (r (7 : Nat)), C.i false IntKind.u32 (r (8 : Nat)), C.i false
      IntKind.u32 (r (9 : Nat)), C.i false IntKind.u32 (r (10 : Nat)), C.i false IntKind.u32 (r (11 : Nat)), C.i false IntKind.u32 (r (12 : Nat)), C.i false IntKind.u32 (r (13 :
      Nat)), C.i false IntKind.u32 (r (14 : Nat)), C.i false IntKind.u32 (r (15 : Nat)), C.i false IntKind.u32 (r (16 : Nat)), C.i false IntKind.u32 (r (17 : Nat)), C.i false
      IntKind.u32 (r (18 : Nat)), C.i false IntKind.u32 (r (19 : Nat)), C.i false IntKind.u32 (r (20 : Nat)), C.i false IntKind.u32 (r (21 : Nat)), C.i false IntKind.u32 (r (22
      : Nat)), C.i false IntKind.u32 (r (23 : Nat)), C.i false IntKind.u32 (r (24 : Nat)), C.i false IntKind.u32 (r (25 : Nat)), C.i false IntKind.u32 (r (26 : Nat)), C.i false
      IntKind.u32 (r (27 : Nat)), C.i false IntKind.u32 (r (28 : Nat)), C.i false IntKind.u32 (r (29 : Nat)), C.i false IntKind.u32 (r (30 : Nat)), C.i false IntKind.u32 (r (31
      : Nat)), C.i false IntKind.u32 (r (32 : Nat)), C.i false IntKind.u32 (r (33 : Nat)), C.i false IntKind.u32 (r (34 : Nat)), C.i false IntKind.u32 (r (35 : Nat)), C.i false
      IntKind.u32 (r (36 : Nat)), C.i false IntKind.u32 (r (37 : Nat)), C.i false IntKind.u32 (r (38 : Nat)), C.i false IntKind.u32 (r (39 : Nat)), C.i false IntKind.u32 (r (40
      : Nat)), C.i false IntKind.u32 (r (41 : Nat)), C.i false IntKind.u32 (r (42 : Nat)), C.i false IntKind.u32 (r (43 : Nat)), C.i false IntKind.u32 (r (44 : Nat)), C.i false
      IntKind.u32 (r (45 : Nat)), C.i false IntKind.u32 (r (46 : Nat)), C.i false IntKind.u32 (r (47 : Nat)), C.i false IntKind.u32 (r (48 : Nat)), C.i false IntKind.u32 (r (49
      : Nat)), C.i false IntKind.u32 (r (50 : Nat)), C.i false IntKind.u32 (r (51 : Nat)), C.i false IntKind.u32 (r (52 : Nat)), C.i false IntKind.u32 (r (53 : Nat)), C.i false
      IntKind.u32 (r (54 : Nat)), C.i false IntKind.u32 (r (55 : Nat)), C.i false IntKind.u32 (r (56 : Nat)), C.i false IntKind.u32 (r (57 : Nat)), C.i false IntKind.u32 (r (58
      : Nat)), C.i false IntKind.u32 (r (59 : Nat)), C.i false IntKind.u32 (r (60 : Nat)), C.i false IntKind.u32 (r (61 : Nat)), C.i false IntKind.u32 (r (62 : Nat)), C.i false
      IntKind.u32 (r (63 : Nat)), C.i false IntKind.u32 (r (64 : Nat)), C.i false IntKind.u32 (r (65 : Nat)), C.i false IntKind.u32 (r (66 : Nat)), C.i false IntKind.u32 (r (67
      : Nat)), C.i false IntKind.u32 (r (68 : Nat)), C.i false IntKind.u32 (r (69 : Nat)), C.i false IntKind.u32 (r (70 : Nat)), C.i false IntKind.u32 (r (71 : Nat)), C.i false
      IntKind.u32 (r (72 : Nat)), C.i false IntKind.u32 (r (73 : Nat)), C.i false IntKind.u32 (r (74 : Nat)), C.i false IntKind.u32 (r (75 : Nat)), C.i false IntKind.u32 (r (76
      : Nat)), C.i false IntKind.u32 (r (77 : Nat)), C.i false IntKind.u32 (r (78 : Nat)), C.i false IntKind.u32 (r (79 : Nat)), C.i false IntKind.u32 (r (80 : Nat)), C.i false
      IntKind.u32 (r (81 : Nat)), C.i false IntKind.u32 (r (82 : Nat)), C.i false IntKind.u32 (r (83 : Nat)), C.i false IntKind.u32 (r (84 : Nat)), C.i false IntKind.u32 (r (85
      : Nat)), C.i false IntKind.u32 (r (86 : Nat)), C.i false IntKind.u32 (r (87 : Nat)), C.i false IntKind.u32 (r (88 : Nat)), C.i false IntKind.u32 (r (89 : Nat)), C.i false
      IntKind.u32 (r (90 : Nat)), C.i false IntKind.u32 (r (91 : Nat)), C.i false IntKind.u32 (r (92 : Nat)), C.i false IntKind.u32 (r (93 : Nat)), C.i false IntKind.u32 (r (94
      : Nat)), C.i false IntKind.u32 (r (95 : Nat)), C.i false IntKind.u32 (r (96 : Nat)), C.i false IntKind.u32 (r (97 : Nat)), C.i false IntKind.u32 (r (98 : Nat)), C.i false
      IntKind.u32 (r (99 : Nat)), C.i false IntKind.u32 (r (100 : Nat)), C.i false IntKind.u32 (r (101 : Nat)), eC E a ((↑i : Int).toNat * (nat_lit 2 + (1 : Nat)) + (nat_lit 1 +
      (1 : Nat))) (EK.i IntKind.u32)])) ∧ hdb3 E = hdb3 E ∧ (99 : Nat) = (99 : Nat) ∧ C.p (0 : Nat) (0 : Nat) = C.p (0 : Nat) (0 : Nat) ∧ C.p (1 : Nat) (0 : Nat) = C.p (1 : Nat)
      (0 : Nat) ∧ C.es a n c = C.es a n c ∧ (IntKind.i64 = IntKind.i64 ∧ (↑n : Int) = (↑n : Int)) ∧ (IntKind.i64 = IntKind.i64 ∧ (↑i : Int) = (↑i : Int)) ∧ IntKind.i64 =
      IntKind.i64 ∧ (0 : Int) = (↑k : Int)))))))))) ∧ ((kK E a i 0 == (1 : Int)) = false → ((kK E a i 0 == (2 : Int)) = true → kpN (fun q_ => setSt (ofL (bk d)) (kK E a i 2) q_)
      45 0 (kpN (fun q_ => rssvV (ofL (rk r)) (kK E a i 2) q_) 103 0 (decide (kK E a i 0 = kK E a i 0) = true ∧ decide (kK E a i 1 = kK E a i 1) = true ∧ decide (kK E a i 2 = kK
      E a i 2) = true ∧ decide (kK E a i 0 = kK E a i 0) = true ∧ decide (kK E a i 1 = kK E a i 1) = true ∧ decide (kK E a i 2 = kK E a i 2) = true ∧ ((setSt (ofL (bk d)) (kK E
      a i 2) (0 : Nat) != rssvV (ofL (rk r)) (kK E a i 2) (102 : Nat)) = true → false = true) ∧ ((setSt (ofL (bk d)) (kK E a i 2) (0 : Nat) != rssvV (ofL (rk r)) (kK E a i 2)
      (102 : Nat)) = false → kpN (fun q_ => setSt (ofL (bk d)) (kK E a i 2) q_) 45 0 (kpN (fun q_ => rssvV (ofL (rk r)) (kK E a i 2) q_) 103 0 (decide (kK E a i 0 = kK E a i 0)
      = true ∧ decide (kK E a i 1 = kK E a i 1) = true ∧ decide (kK E a i 2 = kK E a i 2) = true ∧ decide (kK E a i 0 = kK E a i 0) = true ∧ decide (kK E a i 1 = kK E a i 1) =
      true ∧ decide (kK E a i 2 = kK E a i 2) = true ∧ kpN (fun q_ => setSt (ofL (bk d)) (kK E a i 2) q_) 45 0 (kpN (fun q_ => rssvV (ofL (rk r)) (kK E a i 2) q_) 103 0 (decide
      (kK E a i 0 = kK E a i 0) = true ∧ decide (kK E a i 1 = kK E a i 1) = true ∧ decide (kK E a i 2 = kK E a i 2) = true ∧ decide (kK E a i 0 = kK E a i 0) = true ∧ decide (kK
      E a i 1 = kK E a i 1) = true ∧ decide (kK E a i 2 = kK E a i 2) = true ∧ ((savV (ofL (bk (setSt (ofL (bk d)) (kK E a i 2)))) != rsavV (ofL (rk (rssvV (ofL (rk r)) (kK E a
      i 2))))) = true → false = true) ∧ ((savV (ofL (bk (setSt (ofL (bk d)) (kK E a i 2)))) != rsavV (ofL (rk (rssvV (ofL (rk r)) (kK E a i 2))))) = false → (59 : Nat) = (59 :
      Nat) ∧ (37 : Nat) = (37 : Nat) ∧ wfL (45 : Nat) (bk (setSt (ofL (bk d)) (kK E a i 2))) = true ∧ wfL (103 : Nat) (rk (rssvV (ofL (rk r)) (kK E a i 2))) = true ∧ ∃ (k :
      Nat), i < n ∧ k ≤ (16 : Nat) ∧ (0 : Nat) ≤ k ∧ Holds (rel (ofL (bk (setSt (ofL (bk d)) (kK E a i 2)))) (ofL (rk (rssvV (ofL (rk r)) (kK E a i 2))))) ∧ hdb3 E = hdb3 E ∧
      (99 : Nat) = (99 : Nat) ∧ C.p (0 : Nat) (0 : Nat) = C.p (0 : Nat) (0 : Nat) ∧ C.p (1 : Nat) (0 : Nat) = C.p (1 : Nat) (0 : Nat) ∧ C.es a n c = C.es a n c ∧ (IntKind.i64 =
      IntKind.i64 ∧ (↑n : Int) = (↑n : Int)) ∧ (IntKind.i64 = IntKind.i64 ∧ (↑i : Int) = (↑i : Int)) ∧ IntKind.i64 = IntKind.i64 ∧ (0 : Int) = (↑k : Int)))))))))) ∧ ((kK E a i 0
      == (2 : Int)) = false → ((kK E a i 0 == (3 : Int)) = true → kpN (fun q_ => setSt (ofL (bk d)) (kK E a i 2) q_) 45 0 (kpN (fun q_ => rsusV (ofL (rk r)) (kK E a i 1) (kK E a
      i 2) q_) 103 0 (decide (kK E a i 0 = kK E a i 0) = true ∧ decide (kK E a i 1 = kK E a i 1) = true ∧ decide (kK E a i 2 = kK E a i 2) = true ∧ decide (kK E a i 0 = kK E a i
      0) = true ∧ decide (kK E a i 1 = kK E a i 1) = true ∧ decide (kK E a i 2 = kK E a i 2) = true ∧ ((setSt (ofL (bk d)) (kK E a i 2) (0 : Nat) != rsusV (ofL (rk r)) (kK E a i
      1) (kK E a i 2) (102 : Nat)) = true → false = true) ∧ ((setSt (ofL (bk d)) (kK E a i 2) (0 : Nat) != rsusV (ofL (rk r)) (kK E a i 1) (kK E a i 2) (102 : Nat)) = false →
      kpN (fun q_ => setSt (ofL (bk d)) (kK E a i 2) q_) 45 0 (kpN (fun q_ => rsusV (ofL (rk r)) (kK E a i 1) (kK E a i 2) q_) 103 0 (decide (kK E a i 0 = kK E a i 0) = true ∧
      decide (kK E a i 1 = kK E a i 1) = true ∧ decide (kK E a i 2 = kK E a i 2) = true ∧ decide (kK E a i 0 = kK E a i 0) = true ∧ decide (kK E a i 1 = kK E a i 1) = true ∧
      decide (kK E a i 2 = kK E a i 2) = true ∧ kpN (fun q_ => setSt (ofL (bk d)) (kK E a i 2) q_) 45 0 (kpN (fun q_ => rsusV (ofL (rk r)) (kK E a i 1) (kK E a i 2) q_) 103 0
      (decide (kK E a i 0 = kK E a i 0) = true ∧ decide (kK E a i 1 = kK E a i 1) = true ∧ decide (kK E a i 2 = kK E a i 2) = true ∧ decide (kK E a i 0 = kK E a i 0) = true ∧
      decide (kK E a i 1 = kK E a i 1) = true ∧ decide (kK E a i 2 = kK E a i 2) = true ∧ ((savV (ofL (bk (setSt (ofL (bk d)) (kK E a i 2)))) != rsavV (ofL (rk (rsusV (ofL (rk
      r)) (kK E a i 1) (kK E a i 2))))) = true → false = true) ∧ ((savV (ofL (bk (setSt (ofL (bk d)) (kK E a i 2)))) != rsavV (ofL (rk (rsusV (ofL (rk r)) (kK E a i 1) (kK E a i
      2))))) = false → (59 : Nat) = (59 : Nat) ∧ (37 : Nat) = (37 : Nat) ∧ wfL (45 : Nat) (bk (setSt (ofL (bk d)) (kK E a i 2))) = true ∧ wfL (103 : Nat) (rk (rsusV (ofL (rk r))
      (kK E a i 1) (kK E a i 2))) = true ∧ ∃ (k : Nat), i < n ∧ k ≤ (16 : Nat) ∧ (0 : Nat) ≤ k ∧ Holds (rel (ofL (bk (setSt (ofL (bk d)) (kK E a i 2)))) (ofL (rk (rsusV (ofL (rk
      r)) (kK E a i 1) (kK E a i 2))))) ∧ hdb3 E = hdb3 E ∧ (99 : Nat) = (99 : Nat) ∧ C.p (0 : Nat) (0 : Nat) = C.p (0 : Nat) (0 : Nat) ∧ C.p (1 : Nat) (0 : Nat) = C.p (1 : Nat)
      (0 : Nat) ∧ C.es a n c = C.es a n c ∧ (IntKind.i64 = IntKind.i64 ∧ (↑n : Int) = (↑n : Int)) ∧ (IntKind.i64 = IntKind.i64 ∧ (↑i : Int) = (↑i : Int)) ∧ IntKind.i64 =
      IntKind.i64 ∧ (0 : Int) = (↑k : Int)))))))))) ∧ ((kK E a i 0 == (3 : Int)) = false → ((kK E a i 0 == (4 : Int)) = true → kpN (fun q_ => setSt (ofL (bk d)) (kK E a i 2) q_)
      45 0 (kpN (fun q_ => rentV (ofL (rk r)) (IntKind.u32.wrap (kK E a i 1)) (kK E a i 2) q_) 103 0 (decide (kK E a i 0 = kK E a i 0) = true ∧ decide (kK E a i 1 = kK E a i 1)
      = true ∧ decide (kK E a i 2 = kK E a i 2) = true ∧ decide (kK E a i 0 = kK E a i 0) = true ∧ decide (kK E a i 1 = kK E a i 1) = true ∧ decide (kK E a i 2 = kK E a i 2) =
      true ∧ ((setSt (ofL (bk d)) (kK E a i 2) (0 : Nat) != rentV (ofL (rk r)) (IntKind.u32.wrap (kK E a i 1)) (kK E a i 2) (102 : Nat)) = true → false = true) ∧ ((setSt (ofL
      (bk d)) (kK E a i 2) (0 : Nat) != rentV (ofL (rk r)) (IntKind.u32.wrap (kK E a i 1)) (kK E a i 2) (102 : Nat)) = false → kpN (fun q_ => setSt (ofL (bk d)) (kK E a i 2) q_)
      45 0 (kpN (fun q_ => rentV (ofL (rk r)) (IntKind.u32.wrap (kK E a i 1)) (kK E a i 2) q_) 103 0 (decide (kK E a i 0 = kK E a i 0) = true ∧ decide (kK E a i 1 = kK E a i 1)
      = true ∧ decide (kK E a i 2 = kK E a i 2) = true ∧ decide (kK E a i 0 = kK E a i 0) = true ∧ decide (kK E a i 1 = kK E a i 1) = true ∧ decide (kK E a i 2 = kK E a i 2) =
      true ∧ kpN (fun q_ => setSt (ofL (bk d)) (kK E a i 2) q_) 45 0 (kpN (fun q_ => rentV (ofL (rk r)) (IntKind.u32.wrap (kK E a i 1)) (kK E a i 2) q_) 103 0 (decide (kK E a i
      0 = kK E a i 0) = true ∧ decide (kK E a i 1 = kK E a i 1) = true ∧ decide (kK E a i 2 = kK E a i 2) = true ∧ decide (kK E a i 0 = kK E a i 0) = true ∧ decide (kK E a i 1 =
      kK E a i 1) = true ∧ decide (kK E a i 2 = kK E a i 2) = true ∧ ((savV (ofL (bk (setSt (ofL (bk d)) (kK E a i 2)))) != rsavV (ofL (rk (rentV (ofL (rk r)) (IntKind.u32.wrap
      (kK E a i 1)) (kK E a i 2))))) = true → false = true) ∧ ((savV (ofL (bk (setSt (ofL (bk d)) (kK E a i 2)))) != rsavV (ofL (rk (rentV (ofL (rk r)) (IntKind.u32.wrap (kK E a
      i 1)) (kK E a i 2))))) = false → (59 : Nat) = (59 : Nat) ∧ (37 : Nat) = (37 : Nat) ∧ wfL (45 : Nat) (bk (setSt (ofL (bk d)) (kK E a i 2))) = true ∧ wfL (103 : Nat) (rk
      (rentV (ofL (rk r)) (IntKind.u32.wrap (kK E a i 1)) (kK E a i 2))) = true ∧ ∃ (k : Nat), i < n ∧ k ≤ (16 : Nat) ∧ (0 : Nat) ≤ k ∧ Holds (rel (ofL (bk (setSt (ofL (bk d))
      (kK E a i 2)))) (ofL (rk (rentV (ofL (rk r)) (IntKind.u32.wrap (kK E a i 1)) (kK E a i 2))))) ∧ hdb3 E = hdb3 E ∧ (99 : Nat) = (99 : Nat) ∧ C.p (0 : Nat) (0 : Nat) = C.p
      (0 : Nat) (0 : Nat) ∧ C.p (1 : Nat) (0 : Nat) = C.p (1 : Nat) (0 : Nat) ∧ C.es a n c = C.es a n c ∧ (IntKind.i64 = IntKind.i64 ∧ (↑n : Int) = (↑n : Int)) ∧ (IntKind.i64 =
      IntKind.i64 ∧ (↑i : Int) = (↑i : Int)) ∧ IntKind.i64 = IntKind.i64 ∧ (0 : Int) = (↑k : Int)))))))))) ∧ ((kK E a i 0 == (4 : Int)) = false → kpN (fun q_ => setSt (ofL (bk
      d)) (kK E a i 2) q_) 45 0 (kpN (fun q_ => r q_) 103 0 (decide (kK E a i 0 = kK E a i 0) = true ∧ decide (kK E a i 1 = kK E a i 1) = true ∧ decide (kK E a i 2 = kK E a i 2)
      = true ∧ decide (kK E a i 0 = kK E a i 0) = true ∧ decide (kK E a i 1 = kK E a i 1) = true ∧ decide (kK E a i 2 = kK E a i 2) = true ∧ ((setSt (ofL (bk d)) (kK E a i 2) (0
      : Nat) != r (102 : Nat)) = true → false = true) ∧ ((setSt (ofL (bk d)) (kK E a i 2) (0 : Nat) != r (102 : Nat)) = false → kpN (fun q_ => setSt (ofL (bk d)) (kK E a i 2)
      q_) 45 0 (kpN (fun q_ => r q_) 103 0 (decide (kK E a i 0 = kK E a i 0) = true ∧ decide (kK E a i 1 = kK E a i 1) = true ∧ decide (kK E a i 2 = kK E a i 2) = true ∧ decide
      (kK E a i 0 = kK E a i 0) = true ∧ decide (kK E a i 1 = kK E a i 1) = true ∧ decide (kK E a i 2 = kK E a i 2) = true ∧ kpN (fun q_ => setSt (ofL (bk d)) (kK E a i 2) q_)
      45 0 (kpN (fun q_ => r q_) 103 0 (decide (kK E a i 0 = kK E a i 0) = true ∧ decide (kK E a i 1 = kK E a i 1) = true ∧ decide (kK E a i 2 = kK E a i 2) = true ∧ decide (kK
      E a i 0 = kK E a i 0) = true ∧ decide (kK E a i 1 = kK E a i 1) = true ∧ decide (kK E a i 2 = kK E a i 2) = true ∧ ((savV (ofL (bk (setSt (ofL (bk d)) (kK E a i 2)))) !=
      rsavV (ofL (rk r))) = true → false = true) ∧ ((savV (ofL (bk (setSt (ofL (bk d)) (kK E a i 2)))) != rsavV (ofL (rk r))) = false → (59 : Nat) = (59 : Nat) ∧ (37 : Nat) =
      (37 : Nat) ∧ wfL (45 : Nat) (bk (setSt (ofL (bk d)) (kK E a i 2))) = true ∧ wfL (103 : Nat) (rk r) = true ∧ ∃ (k : Nat), i < n ∧ k ≤ (16 : Nat) ∧ (0 : Nat) ≤ k ∧ Holds
      (rel (ofL (bk (setSt (ofL (bk d)) (kK E a i 2)))) (ofL (rk r))) ∧ hdb3 E = hdb3 E ∧ (99 : Nat) = (99 : Nat) ∧ C.p (0 : Nat) (0 : Nat) = C.p (0 : Nat) (0 : Nat) ∧ C.p (1 :
      Nat) (0 : Nat) = C.p (1 : Nat) (0 : Nat) ∧ C.es a n c = C.es a n c ∧ (IntKind.i64 = IntKind.i64 ∧ (↑n : Int) = (↑n : Int)) ∧ (IntKind.i64 = IntKind.i64 ∧ (↑i : Int) = (↑i
      : Int)) ∧ IntKind.i64 = IntKind.i64 ∧ (0 : Int) = (↑k : Int))))))))))))))) ∧ ((kK E a i 0 == (1 : Int)) = false → ((kK E a i 0 == (2 : Int)) = true → ((kK E a i 0 == (0 :
      Int)) = true → kpN (fun q_ => setSv (ofL (bk d)) (kK E a i 2) q_) 45 0 (kpN (fun q_ => rsetV (ofL (rk r)) (kK E a i 1) (kK E a i 2) q_) 103 0 (decide (kK E a i 0 = kK E a
      i 0) = true ∧ decide (kK E a i 1 = kK E a i 1) = true ∧ decide (kK E a i 2 = kK E a i 2) = true ∧ decide (kK E a i 0 = kK E a i 0) = true ∧ decide (kK E a i 1 = kK E a i
      1) = true ∧ decide (kK E a i 2 = kK E a i 2) = true ∧ ((setSv (ofL (bk d)) (kK E a i 2) (0 : Nat) != rsetV (ofL (rk r)) (kK E a i 1) (kK E a i 2) (102 : Nat)) = true →
      false = true) ∧ ((setSv (ofL (bk d)) (kK E a i 2) (0 : Nat) != rsetV (ofL (rk r)) (kK E a i 1) (kK E a i 2) (102 : Nat)) = false → kpN (fun q_ => setSv (ofL (bk d)) (kK E
      a i 2) q_) 45 0 (kpN (fun q_ => rsetV (ofL (rk r)) (kK E a i 1) (kK E a i 2) q_) 103 0 (decide (kK E a i 0 = kK E a i 0) = true ∧ decide (kK E a i 1 = kK E a i 1) = true ∧
      decide (kK E a i 2 = kK E a i 2) = true ∧ decide (kK E a i 0 = kK E a i 0) = true ∧ decide (kK E a i 1 = kK E a i 1) = true ∧ decide (kK E a i 2 = kK E a i 2) = true ∧ kpN
      (fun q_ => setSv (ofL (bk d)) (kK E a i 2) q_) 45 0 (kpN (fun q_ => rsetV (ofL (rk r)) (kK E a i 1) (kK E a i 2) q_) 103 0 (decide (kK E a i 0 = kK E a i 0) = true ∧
      decide (kK E a i 1 = kK E a i 1) = true ∧ decide (kK E a i 2 = kK E a i 2) = true ∧ decide (kK E a i 0 = kK E a i 0) = true ∧ decide (kK E a i 1 = kK E a i 1) = true ∧
      decide (kK E a i 2 = kK E a i 2) = true ∧ ((savV (ofL (bk (setSv (ofL (bk d)) (kK E a i 2)))) != rsavV (ofL (rk (rsetV (ofL (rk r)) (kK E a i 1) (kK E a i 2))))) = true →
      false = true) ∧ ((savV (ofL (bk (setSv (ofL (bk d)) (kK E a i 2)))) != rsavV (ofL (rk (rsetV (ofL (rk r)) (kK E a i 1) (kK E a i 2))))) = false → (59 : Nat) = (59 : Nat) ∧
      (37 : Nat) = (37 : Nat) ∧ wfL (45 : Nat) (bk (setSv (ofL (bk d)) (kK E a i 2))) = true ∧ wfL (103 : Nat) (rk (rsetV (ofL (rk r)) (kK E a i 1) (kK E a i 2))) = true ∧ ∃ (k
      : Nat), i < n ∧ k ≤ (16 : Nat) ∧ (0 : Nat) ≤ k ∧ Holds (rel (ofL (bk (setSv (ofL (bk d)) (kK E a i 2)))) (ofL (rk (rsetV (ofL (rk r)) (kK E a i 1) (kK E a i 2))))) ∧ hdb3
      E = hdb3 E ∧ (99 : Nat) = (99 : Nat) ∧ C.p (0 : Nat) (0 : Nat) = C.p (0 : Nat) (0 : Nat) ∧ C.p (1 : Nat) (0 : Nat) = C.p (1 : Nat) (0 : Nat) ∧ C.es a n c = C.es a n c ∧
      (IntKind.i64 = IntKind.i64 ∧ (↑n : Int) = (↑n : Int)) ∧ (IntKind.i64 = IntKind.i64 ∧ (↑i : Int) = (↑i : Int)) ∧ IntKind.i64 = IntKind.i64 ∧ (0 : Int) = (↑k : Int))))))))))
      ∧ ((kK E a i 0 == (0 : Int)) = false → ((kK E a i 0 == (1 : Int)) = true → kpN (fun q_ => setSv (ofL (bk d)) (kK E a i 2) q_) 45 0 (kpN (fun q_ => r q_) 102 0 (decide (kK
      E a i 2 = kK E a i 2) = true ∧ decide (kK E a i 0 = kK E a i 0) = true ∧ decide (kK E a i 1 = kK E a i 1) = true ∧ decide (kK E a i 2 = kK E a i 2) = true ∧ decide (kK E a
      i 0 = kK E a i 0) = true ∧ decide (kK E a i 1 = kK E a i 1) = true ∧ decide (kK E a i 2 = kK E a i 2) = true ∧ ((setSv (ofL (bk d)) (kK E a i 2) (0 : Nat) != kK E a i 2) =
      true → false = true) ∧ ((setSv (ofL (bk d)) (kK E a i 2) (0 : Nat) != kK E a i 2) = false → kpN (fun q_ => setSv (ofL (bk d)) (kK E a i 2) q_) 45 0 (kpN (fun q_ => r q_)
      102 0 (decide (kK E a i 2 = kK E a i 2) = true ∧ decide (kK E a i 0 = kK E a i 0) = true ∧ decide (kK E a i 1 = kK E a i 1) = true ∧ decide (kK E a i 2 = kK E a i 2) =
      true ∧ decide (kK E a i 0 = kK E a i 0) = true ∧ decide (kK E a i 1 = kK E a i 1) = true ∧ decide (kK E a i 2 = kK E a i 2) = true ∧ kpN (fun q_ => setSv (ofL (bk d)) (kK
      E a i 2) q_) 45 0 (kpN (fun q_ => r q_) 102 0 (decide (kK E a i 2 = kK E a i 2) = true ∧ decide (kK E a i 0 = kK E a i 0) = true ∧ decide (kK E a i 1 = kK E a i 1) = true
      ∧ decide (kK E a i 2 = kK E a i 2) = true ∧ decide (kK E a i 0 = kK E a i 0) = true ∧ decide (kK E a i 1 = kK E a i 1) = true ∧ decide (kK E a i 2 = kK E a i 2) = true ∧
      ((savV (ofL (bk (setSv (ofL (bk d)) (kK E a i 2)))) != rsavV (ofL (rkS r (kK E a i 2)))) = true → false = true) ∧ ((savV (ofL (bk (setSv (ofL (bk d)) (kK E a i 2)))) !=
      rsavV (ofL (rkS r (kK E a i 2)))) = false → (59 : Nat) = (59 : Nat) ∧ (37 : Nat) = (37 : Nat) ∧ wfL (45 : Nat) (bk (setSv (ofL (bk d)) (kK E a i 2))) = true ∧ wfL (103 :
      Nat) (rkS r (kK E a i 2)) = true ∧ ∃ (k : Nat), i < n ∧ k ≤ (16 : Nat) ∧ (0 : Nat) ≤ k ∧ Holds (rel (ofL (bk (setSv (ofL (bk d)) (kK E a i 2)))) (ofL [C.i false
      IntKind.u32 (r (0 : Nat)), C.i false IntKind.u32 (r (1 : Nat)), C.i false IntKind.u32 (r (2 : Nat)), C.i false IntKind.u32 (r (3 : Nat)), C.i false IntKind.u32 (r (4 :
      Nat)), C.i false IntKind.u32 (r (5 : Nat)), C.i false IntKind.u32 (r (6 : Nat)), C.i false IntKind.u32 (r (7 : Nat)), C.i false IntKind.u32 (r (8 : Nat)), C.i false
      IntKind.u32 (r (9 : Nat)), C.i false IntKind.u32 (r (10 : Nat)), C.i false IntKind.u32 (r (11 : Nat)), C.i false IntKind.u32 (r (12 : Nat)), C.i false IntKind.u32 (r (13 :
      Nat)), C.i false IntKind.u32 (r (14 : Nat)), C.i false IntKind.u32 (r (15 : Nat)), C.i false IntKind.u32 (r (16 : Nat)), C.i false IntKind.u32 (r (17 : Nat)), C.i false
      IntKind.u32 (r (18 : Nat)), C.i false IntKind.u32 (r (19 : Nat)), C.i false IntKind.u32 (r (20 : Nat)), C.i false IntKind.u32 (r (21 : Nat)), C.i false IntKind.u32 (r (22
      : Nat)), C.i false IntKind.u32 (r (23 : Nat)), C.i false IntKind.u32 (r (24 : Nat)), C.i false IntKind.u32 (r (25 : Nat)), C.i false IntKind.u32 (r (26 : Nat)), C.i false
      IntKind.u32 (r (27 : Nat)), C.i false IntKind.u32 (r (28 : Nat)), C.i false IntKind.u32 (r (29 : Nat)), C.i false IntKind.u32 (r (30 : Nat)), C.i false IntKind.u32 (r (31
      : Nat)), C.i false IntKind.u32 (r (32 : Nat)), C.i false IntKind.u32 (r (33 : Nat)), C.i false IntKind.u32 (r (34 : Nat)), C.i false IntKind.u32 (r (35 : Nat)), C.i false
      IntKind.u32 (r (36 : Nat)), C.i false IntKind.u32 (r (37 : Nat)), C.i false IntKind.u32 (r (38 : Nat)), C.i false IntKind.u32 (r (39 : Nat)), C.i false IntKind.u32 (r (40
      : Nat)), C.i false IntKind.u32 (r (41 : Nat)), C.i false IntKind.u32 (r (42 : Nat)), C.i false IntKind.u32 (r (43 : Nat)), C.i false IntKind.u32 (r (44 : Nat)), C.i false
      IntKind.u32 (r (45 : Nat)), C.i false IntKind.u32 (r (46 : Nat)), C.i false IntKind.u32 (r (47 : Nat)), C.i false IntKind.u32 (r (48 : Nat)), C.i false IntKind.u32 (r (49
      : Nat)), C.i false IntKind.u32 (r (50 : Nat)), C.i false IntKind.u32 (r (51 : Nat)), C.i false IntKind.u32 (r (52 : Nat)), C.i false IntKind.u32 (r (53 : Nat)), C.i false
      IntKind.u32 (r (54 : Nat)), C.i false IntKind.u32 (r (55 : Nat)), C.i false IntKind.u32 (r (56 : Nat)), C.i false IntKind.u32 (r (57 : Nat)), C.i false IntKind.u32 (r (58
      : Nat)), C.i false IntKind.u32 (r (59 : Nat)), C.i false IntKind.u32 (r (60 : Nat)), C.i false IntKind.u32 (r (61 : Nat)), C.i false IntKind.u32 (r (62 : Nat)), C.i false
      IntKind.u32 (r (63 : Nat)), C.i false IntKind.u32 (r (64 : Nat)), C.i false IntKind.u32 (r (65 : Nat)), C.i false IntKind.u32 (r (66 : Nat)), C.i false IntKind.u32 (r (67
      : Nat)), C.i false IntKind.u32 (r (68 : Nat)), C.i false IntKind.u32 (r (69 : Nat)), C.i false IntKind.u32 (r (70 : Nat)), C.i false IntKind.u32 (r (71 : Nat)), C.i false
      IntKind.u32 (r (72 : Nat)), C.i false IntKind.u32 (r (73 : Nat)), C.i false IntKind.u32 (r (74 : Nat)), C.i false IntKind.u32 (r (75 : Nat)), C.i false IntKind.u32 (r (76
      : Nat)), C.i false IntKind.u32 (r (77 : Nat)), C.i false IntKind.u32 (r (78 : Nat)), C.i false IntKind.u32 (r (79 : Nat)), C.i false IntKind.u32 (r (80 : Nat)), C.i false
      IntKind.u32 (r (81 : Nat)), C.i false IntKind.u32 (r (82 : Nat)), C.i false IntKind.u32 (r (83 : Nat)), C.i false IntKind.u32 (r (84 : Nat)), C.i false IntKind.u32 (r (85
      : Nat)), C.i false IntKind.u32 (r (86 : Nat)), C.i false IntKind.u32 (r (87 : Nat)), C.i false IntKind.u32 (r (88 : Nat)), C.i false IntKind.u32 (r (89 : Nat)), C.i false
      IntKind.u32 (r (90 : Nat)), C.i false IntKind.u32 (r (91 : Nat)), C.i false IntKind.u32 (r (92 : Nat)), C.i false IntKind.u32 (r (93 : Nat)), C.i false IntKind.u32 (r (94
      : Nat)), C.i false IntKind.u32 (r (95 : Nat)), C.i false IntKind.u32 (r (96 : Nat)), C.i false IntKind.u32 (r (97 : Nat)), C.i false IntKind.u32 (r (98 : Nat)), C.i false
      IntKind.u32 (r (99 : Nat)), C.i false IntKind.u32 (r (100 : Nat)), C.i false IntKind.u32 (r (101 : Nat)), eC E a ((↑i : Int).toNat * (nat_lit 2 + (1 : Nat)) + (nat_lit 1 +
      (1 : Nat))) (EK.i IntKind.u32)])) ∧ hdb3 E = hdb3 E ∧ (99 : Nat) = (99 : Nat) ∧ C.p (0 : Nat) (0 : Nat) = C.p (0 : Nat) (0 : Nat) ∧ C.p (1 : Nat) (0 : Nat) = C.p (1 : Nat)
      (0 : Nat) ∧ C.es a n c = C.es a n c ∧ (IntKind.i64 = IntKind.i64 ∧ (↑n : Int) = (↑n : Int)) ∧ (IntKind.i64 = IntKind.i64 ∧ (↑i : Int) = (↑i : Int)) ∧ IntKind.i64 =
      IntKind.i64 ∧ (0 : Int) = (↑k : Int)))))))))) ∧ ((kK E a i 0 == (1 : Int)) = false → ((kK E a i 0 == (2 : Int)) = true → kpN (fun q_ => setSv (ofL (bk d)) (kK E a i 2) q_)
      45 0 (kpN (fun q_ => rssvV (ofL (rk r)) (kK E a i 2) q_) 103 0 (decide (kK E a i 0 = kK E a i 0) = true ∧ decide (kK E a i 1 = kK E a i 1) = true ∧ decide (kK E a i 2 = kK
      E a i 2) = true ∧ decide (kK E a i 0 = kK E a i 0) = true ∧ decide (kK E a i 1 = kK E a i 1) = true ∧ decide (kK E a i 2 = kK E a i 2) = true ∧ ((setSv (ofL (bk d)) (kK E
      a i 2) (0 : Nat) != rssvV (ofL (rk r)) (kK E a i 2) (102 : Nat)) = true → false = true) ∧ ((setSv (ofL (bk d)) (kK E a i 2) (0 : Nat) != rssvV (ofL (rk r)) (kK E a i 2)
      (102 : Nat)) = false → kpN (fun q_ => setSv (ofL (bk d)) (kK E a i 2) q_) 45 0 (kpN (fun q_ => rssvV (ofL (rk r)) (kK E a i 2) q_) 103 0 (decide (kK E a i 0 = kK E a i 0)
      = true ∧ decide (kK E a i 1 = kK E a i 1) = true ∧ decide (kK E a i 2 = kK E a i 2) = true ∧ decide (kK E a i 0 = kK E a i 0) = true ∧ decide (kK E a i 1 = kK E a i 1) =
      true ∧ decide (kK E a i 2 = kK E a i 2) = true ∧ kpN (fun q_ => setSv (ofL (bk d)) (kK E a i 2) q_) 45 0 (kpN (fun q_ => rssvV (ofL (rk r)) (kK E a i 2) q_) 103 0 (decide
      (kK E a i 0 = kK E a i 0) = true ∧ decide (kK E a i 1 = kK E a i 1) = true ∧ decide (kK E a i 2 = kK E a i 2) = true ∧ decide (kK E a i 0 = kK E a i 0) = true ∧ decide (kK
      E a i 1 = kK E a i 1) = true ∧ decide (kK E a i 2 = kK E a i 2) = true ∧ ((savV (ofL (bk (setSv (ofL (bk d)) (kK E a i 2)))) != rsavV (ofL (rk (rssvV (ofL (rk r)) (kK E a
      i 2))))) = true → false = true) ∧ ((savV (ofL (bk (setSv (ofL (bk d)) (kK E a i 2)))) != rsavV (ofL (rk (rssvV (ofL (rk r)) (kK E a i 2))))) = false → (59 : Nat) = (59 :
      Nat) ∧ (37 : Nat) = (37 : Nat) ∧ wfL (45 : Nat) (bk (setSv (ofL (bk d)) (kK E a i 2))) = true ∧ wfL (103 : Nat) (rk (rssvV (ofL (rk r)) (kK E a i 2))) = true ∧ ∃ (k :
      Nat), i < n ∧ k ≤ (16 : Nat) ∧ (0 : Nat) ≤ k ∧ Holds (rel (ofL (bk (setSv (ofL (bk d)) (kK E a i 2)))) (ofL (rk (rssvV (ofL (rk r)) (kK E a i 2))))) ∧ hdb3 E = hdb3 E ∧
      (99 : Nat) = (99 : Nat) ∧ C.p (0 : Nat) (0 : Nat) = C.p (0 : Nat) (0 : Nat) ∧ C.p (1 : Nat) (0 : Nat) = C.p (1 : Nat) (0 : Nat) ∧ C.es a n c = C.es a n c ∧ (IntKind.i64 =
      IntKind.i64 ∧ (↑n : Int) = (↑n : Int)) ∧ (IntKind.i64 = IntKind.i64 ∧ (↑i : Int) = (↑i : Int)) ∧ IntKind.i64 = IntKind.i64 ∧ (0 : Int) = (↑k : Int)))))))))) ∧ ((kK E a i 0
      == (2 : Int)) = false → ((kK E a i 0 == (3 : Int)) = true → kpN (fun q_ => setSv (ofL (bk d)) (kK E a i 2) q_) 45 0 (kpN (fun q_ => rsusV (ofL (rk r)) (kK E a i 1) (kK E a
      i 2) q_) 103 0 (decide (kK E a i 0 = kK E a i 0) = true ∧ decide (kK E a i 1 = kK E a i 1) = true ∧ decide (kK E a i 2 = kK E a i 2) = true ∧ decide (kK E a i 0 = kK E a i
      0) = true ∧ decide (kK E a i 1 = kK E a i 1) = true ∧ decide (kK E a i 2 = kK E a i 2) = true ∧ ((setSv (ofL (bk d)) (kK E a i 2) (0 : Nat) != rsusV (ofL (rk r)) (kK E a i
      1) (kK E a i 2) (102 : Nat)) = true → false = true) ∧ ((setSv (ofL (bk d)) (kK E a i 2) (0 : Nat) != rsusV (ofL (rk r)) (kK E a i 1) (kK E a i 2) (102 : Nat)) = false →
      kpN (fun q_ => setSv (ofL (bk d)) (kK E a i 2) q_) 45 0 (kpN (fun q_ => rsusV (ofL (rk r)) (kK E a i 1) (kK E a i 2) q_) 103 0 (decide (kK E a i 0 = kK E a i 0) = true ∧
      decide (kK E a i 1 = kK E a i 1) = true ∧ decide (kK E a i 2 = kK E a i 2) = true ∧ decide (kK E a i 0 = kK E a i 0) = true ∧ decide (kK E a i 1 = kK E a i 1) = true ∧
      decide (kK E a i 2 = kK E a i 2) = true ∧ kpN (fun q_ => setSv (ofL (bk d)) (kK E a i 2) q_) 45 0 (kpN (fun q_ => rsusV (ofL (rk r)) (kK E a i 1) (kK E a i 2) q_) 103 0
      (decide (kK E a i 0 = kK E a i 0) = true ∧ decide (kK E a i 1 = kK E a i 1) = true ∧ decide (kK E a i 2 = kK E a i 2) = true ∧ decide (kK E a i 0 = kK E a i 0) = true ∧
      decide (kK E a i 1 = kK E a i 1) = true ∧ decide (kK E a i 2 = kK E a i 2) = true ∧ ((savV (ofL (bk (setSv (ofL (bk d)) (kK E a i 2)))) != rsavV (ofL (rk (rsusV (ofL (rk
      r)) (kK E a i 1) (kK E a i 2))))) = true → false = true) ∧ ((savV (ofL (bk (setSv (ofL (bk d)) (kK E a i 2)))) != rsavV (ofL (rk (rsusV (ofL (rk r)) (kK E a i 1) (kK E a i
      2))))) = false → (59 : Nat) = (59 : Nat) ∧ (37 : Nat) = (37 : Nat) ∧ wfL (45 : Nat) (bk (setSv (ofL (bk d)) (kK E a i 2))) = true ∧ wfL (103 : Nat) (rk (rsusV (ofL (rk r))
      (kK E a i 1) (kK E a i 2))) = true ∧ ∃ (k : Nat), i < n ∧ k ≤ (16 : Nat) ∧ (0 : Nat) ≤ k ∧ Holds (rel (ofL (bk (setSv (ofL (bk d)) (kK E a i 2)))) (ofL (rk (rsusV (ofL (rk
      r)) (kK E a i 1) (kK E a i 2))))) ∧ hdb3 E = hdb3 E ∧ (99 : Nat) = (99 : Nat) ∧ C.p (0 : Nat) (0 : Nat) = C.p (0 : Nat) (0 : Nat) ∧ C.p (1 : Nat) (0 : Nat) = C.p (1 : Nat)
      (0 : Nat) ∧ C.es a n c = C.es a n c ∧ (IntKind.i64 = IntKind.i64 ∧ (↑n : Int) = (↑n : Int)) ∧ (IntKind.i64 = IntKind.i64 ∧ (↑i : Int) = (↑i : Int)) ∧ IntKind.i64 =
      IntKind.i64 ∧ (0 : Int) = (↑k : Int)))))))))) ∧ ((kK E a i 0 == (3 : Int)) = false → ((kK E a i 0 == (4 : Int)) = true → kpN (fun q_ => setSv (ofL (bk d)) (kK E a i 2) q_)
      45 0 (kpN (fun q_ => rentV (ofL (rk r)) (IntKind.u32.wrap (kK E a i 1)) (kK E a i 2) q_) 103 0 (decide (kK E a i 0 = kK E a i 0) = true ∧ decide (kK E a i 1 = kK E a i 1)
      = true ∧ decide (kK E a i 2 = kK E a i 2) = true ∧ decide (kK E a i 0 = kK E a i 0) = true ∧ decide (kK E a i 1 = kK E a i 1) = true ∧ decide (kK E a i 2 = kK E a i 2) =
      true ∧ ((setSv (ofL (bk d)) (kK E a i 2) (0 : Nat) != rentV (ofL (rk r)) (IntKind.u32.wrap (kK E a i 1)) (kK E a i 2) (102 : Nat)) = true → false = true) ∧ ((setSv (ofL
      (bk d)) (kK E a i 2) (0 : Nat) != rentV (ofL (rk r)) (IntKind.u32.wrap (kK E a i 1)) (kK E a i 2) (102 : Nat)) = false → kpN (fun q_ => setSv (ofL (bk d)) (kK E a i 2) q_)
      45 0 (kpN (fun q_ => rentV (ofL (rk r)) (IntKind.u32.wrap (kK E a i 1)) (kK E a i 2) q_) 103 0 (decide (kK E a i 0 = kK E a i 0) = true ∧ decide (kK E a i 1 = kK E a i 1)
      = true ∧ decide (kK E a i 2 = kK E a i 2) = true ∧ decide (kK E a i 0 = kK E a i 0) = true ∧ decide (kK E a i 1 = kK E a i 1) = true ∧ decide (kK E a i 2 = kK E a i 2) =
      true ∧ kpN (fun q_ => setSv (ofL (bk d)) (kK E a i 2) q_) 45 0 (kpN (fun q_ => rentV (ofL (rk r)) (IntKind.u32.wrap (kK E a i 1)) (kK E a i 2) q_) 103 0 (decide (kK E a i
      0 = kK E a i 0) = true ∧ decide (kK E a i 1 = kK E a i 1) = true ∧ decide (kK E a i 2 = kK E a i 2) = true ∧ decide (kK E a i 0 = kK E a i 0) = true ∧ decide (kK E a i 1 =
      kK E a i 1) = true ∧ decide (kK E a i 2 = kK E a i 2) = true ∧ ((savV (ofL (bk (setSv (ofL (bk d)) (kK E a i 2)))) != rsavV (ofL (rk (rentV (ofL (rk r)) (IntKind.u32.wrap
      (kK E a i 1)) (kK E a i 2))))) = true → false = true) ∧ ((savV (ofL (bk (setSv (ofL (bk d)) (kK E a i 2)))) != rsavV (ofL (rk (rentV (ofL (rk r)) (IntKind.u32.wrap (kK E a
      i 1)) (kK E a i 2))))) = false → (59 : Nat) = (59 : Nat) ∧ (37 : Nat) = (37 : Nat) ∧ wfL (45 : Nat) (bk (setSv (ofL (bk d)) (kK E a i 2))) = true ∧ wfL (103 : Nat) (rk
      (rentV (ofL (rk r)) (IntKind.u32.wrap (kK E a i 1)) (kK E a i 2))) = true ∧ ∃ (k : Nat), i < n ∧ k ≤ (16 : Nat) ∧ (0 : Nat) ≤ k ∧ Holds (rel (ofL (bk (setSv (ofL (bk d))
      (kK E a i 2)))) (ofL (rk (rentV (ofL (rk r)) (IntKind.u32.wrap (kK E a i 1)) (kK E a i 2))))) ∧ hdb3 E = hdb3 E ∧ (99 : Nat) = (99 : Nat) ∧ C.p (0 : Nat) (0 : Nat) = C.p
      (0 : Nat) (0 : Nat) ∧ C.p (1 : Nat) (0 : Nat) = C.p (1 : Nat) (0 : Nat) ∧ C.es a n c = C.es a n c ∧ (IntKind.i64 = IntKind.i64 ∧ (↑n : Int) = (↑n : Int)) ∧ (IntKind.i64 =
      IntKind.i64 ∧ (↑i : Int) = (↑i : Int)) ∧ IntKind.i64 = IntKind.i64 ∧ (0 : Int) = (↑k : Int)))))))))) ∧ ((kK E a i 0 == (4 : Int)) = false → kpN (fun q_ => setSv (ofL (bk
      d)) (kK E a i 2) q_) 45 0 (kpN (fun q_ => r q_) 103 0 (decide (kK E a i 0 = kK E a i 0) = true ∧ decide (kK E a i 1 = kK E a i 1) = true ∧ decide (kK E a i 2 = kK E a i 2)
      = true ∧ decide (kK E a i 0 = kK E a i 0) = true ∧ decide (kK E a i 1 = kK E a i 1) = true ∧ decide (kK E a i 2 = kK E a i 2) = true ∧ ((setSv (ofL (bk d)) (kK E a i 2) (0
      : Nat) != r (102 : Nat)) = true → false = true) ∧ ((setSv (ofL (bk d)) (kK E a i 2) (0 : Nat) != r (102 : Nat)) = false → kpN (fun q_ => setSv (ofL (bk d)) (kK E a i 2)
      q_) 45 0 (kpN (fun q_ => r q_) 103 0 (decide (kK E a i 0 = kK E a i 0) = true ∧ decide (kK E a i 1 = kK E a i 1) = true ∧ decide (kK E a i 2 = kK E a i 2) = true ∧ decide
      (kK E a i 0 = kK E a i 0) = true ∧ decide (kK E a i 1 = kK E a i 1) = true ∧ decide (kK E a i 2 = kK E a i 2) = true ∧ kpN (fun q_ => setSv (ofL (bk d)) (kK E a i 2) q_)
      45 0 (kpN (fun q_ => r q_) 103 0 (decide (kK E a i 0 = kK E a i 0) = true ∧ decide (kK E a i 1 = kK E a i 1) = true ∧ decide (kK E a i 2 = kK E a i 2) = true ∧ decide (kK
      E a i 0 = kK E a i 0) = true ∧ decide (kK E a i 1 = kK E a i 1) = true ∧ decide (kK E a i 2 = kK E a i 2) = true ∧ ((savV (ofL (bk (setSv (ofL (bk d)) (kK E a i 2)))) !=
      rsavV (ofL (rk r))) = true → false = true) ∧ ((savV (ofL (bk (setSv (ofL (bk d)) (kK E a i 2)))) != rsavV (ofL (rk r))) = false → (59 : Nat) = (59 : Nat) ∧ (37 : Nat) =
      (37 : Nat) ∧ wfL (45 : Nat) (bk (setSv (ofL (bk d)) (kK E a i 2))) = true ∧ wfL (103 : Nat) (rk r) = true ∧ ∃ (k : Nat), i < n ∧ k ≤ (16 : Nat) ∧ (0 : Nat) ≤ k ∧ Holds
      (rel (ofL (bk (setSv (ofL (bk d)) (kK E a i 2)))) (ofL (rk r))) ∧ hdb3 E = hdb3 E ∧ (99 : Nat) = (99 : Nat) ∧ C.p (0 : Nat) (0 : Nat) = C.p (0 : Nat) (0 : Nat) ∧ C.p (1 :
      Nat) (0 : Nat) = C.p (1 : Nat) (0 : Nat) ∧ C.es a n c = C.es a n c ∧ (IntKind.i64 = IntKind.i64 ∧ (↑n : Int) = (↑n : Int)) ∧ (IntKind.i64 = IntKind.i64 ∧ (↑i : Int) = (↑i
      : Int)) ∧ IntKind.i64 = IntKind.i64 ∧ (0 : Int) = (↑k : Int))))))))))))))) ∧ ((kK E a i 0 == (2 : Int)) = false → ((kK E a i 0 == (3 : Int)) = true → ((kK E a i 0 == (0 :
      Int)) = true → kpN (fun q_ => setU (ofL (bk d)) (kK E a i 1) (kK E a i 2) q_) 45 0 (kpN (fun q_ => rsetV (ofL (rk r)) (kK E a i 1) (kK E a i 2) q_) 103 0 (decide (kK E a i
      0 = kK E a i 0) = true ∧ decide (kK E a i 1 = kK E a i 1) = true ∧ decide (kK E a i 2 = kK E a i 2) = true ∧ decide (kK E a i 0 = kK E a i 0) = true ∧ decide (kK E a i 1 =
      kK E a i 1) = true ∧ decide (kK E a i 2 = kK E a i 2) = true ∧ ((setU (ofL (bk d)) (kK E a i 1) (kK E a i 2) (0 : Nat) != rsetV (ofL (rk r)) (kK E a i 1) (kK E a i 2) (102
      : Nat)) = true → false = true) ∧ ((setU (ofL (bk d)) (kK E a i 1) (kK E a i 2) (0 : Nat) != rsetV (ofL (rk r)) (kK E a i 1) (kK E a i 2) (102 : Nat)) = false → kpN (fun q_
      => setU (ofL (bk d)) (kK E a i 1) (kK E a i 2) q_) 45 0 (kpN (fun q_ => rsetV (ofL (rk r)) (kK E a i 1) (kK E a i 2) q_) 103 0 (decide (kK E a i 0 = kK E a i 0) = true ∧
      decide (kK E a i 1 = kK E a i 1) = true ∧ decide (kK E a i 2 = kK E a i 2) = true ∧ decide (kK E a i 0 = kK E a i 0) = true ∧ decide (kK E a i 1 = kK E a i 1) = true ∧
      decide (kK E a i 2 = kK E a i 2) = true ∧ kpN (fun q_ => setU (ofL (bk d)) (kK E a i 1) (kK E a i 2) q_) 45 0 (kpN (fun q_ => rsetV (ofL (rk r)) (kK E a i 1) (kK E a i 2)
      q_) 103 0 (decide (kK E a i 0 = kK E a i 0) = true ∧ decide (kK E a i 1 = kK E a i 1) = true ∧ decide (kK E a i 2 = kK E a i 2) = true ∧ decide (kK E a i 0 = kK E a i 0) =
      true ∧ decide (kK E a i 1 = kK E a i 1) = true ∧ decide (kK E a i 2 = kK E a i 2) = true ∧ ((savV (ofL (bk (setU (ofL (bk d)) (kK E a i 1) (kK E a i 2)))) != rsavV (ofL
      (rk (rsetV (ofL (rk r)) (kK E a i 1) (kK E a i 2))))) = true → false = true) ∧ ((savV (ofL (bk (setU (ofL (bk d)) (kK E a i 1) (kK E a i 2)))) != rsavV (ofL (rk (rsetV
      (ofL (rk r)) (kK E a i 1) (kK E a i 2))))) = false → (59 : Nat) = (59 : Nat) ∧ (37 : Nat) = (37 : Nat) ∧ wfL (45 : Nat) (bk (setU (ofL (bk d)) (kK E a i 1) (kK E a i 2)))
      = true ∧ wfL (103 : Nat) (rk (rsetV (ofL (rk r)) (kK E a i 1) (kK E a i 2))) = true ∧ ∃ (k : Nat), i < n ∧ k ≤ (16 : Nat) ∧ (0 : Nat) ≤ k ∧ Holds (rel (ofL (bk (setU (ofL
      (bk d)) (kK E a i 1) (kK E a i 2)))) (ofL (rk (rsetV (ofL (rk r)) (kK E a i 1) (kK E a i 2))))) ∧ hdb3 E = hdb3 E ∧ (99 : Nat) = (99 : Nat) ∧ C.p (0 : Nat) (0 : Nat) = C.p
      (0 : Nat) (0 : Nat) ∧ C.p (1 : Nat) (0 : Nat) = C.p (1 : Nat) (0 : Nat) ∧ C.es a n c = C.es a n c ∧ (IntKind.i64 = IntKind.i64 ∧ (↑n : Int) = (↑n : Int)) ∧ (IntKind.i64 =
      IntKind.i64 ∧ (↑i : Int) = (↑i : Int)) ∧ IntKind.i64 = IntKind.i64 ∧ (0 : Int) = (↑k : Int)))))))))) ∧ ((kK E a i 0 == (0 : Int)) = false → ((kK E a i 0 == (1 : Int)) =
      true → kpN (fun q_ => setU (ofL (bk d)) (kK E a i 1) (kK E a i 2) q_) 45 0 (kpN (fun q_ => r q_) 102 0 (decide (kK E a i 2 = kK E a i 2) = true ∧ decide (kK E a i 0 = kK E
      a i 0) = true ∧ decide (kK E a i 1 = kK E a i 1) = true ∧ decide (kK E a i 2 = kK E a i 2) = true ∧ decide (kK E a i 0 = kK E a i 0) = true ∧ decide (kK E a i 1 = kK E a i
      1) = true ∧ decide (kK E a i 2 = kK E a i 2) = true ∧ ((setU (ofL (bk d)) (kK E a i 1) (kK E a i 2) (0 : Nat) != kK E a i 2) = true → false = true) ∧ ((setU (ofL (bk d))
      (kK E a i 1) (kK E a i 2) (0 : Nat) != kK E a i 2) = false → kpN (fun q_ => setU (ofL (bk d)) (kK E a i 1) (kK E a i 2) q_) 45 0 (kpN (fun q_ => r q_) 102 0 (decide (kK E
      a i 2 = kK E a i 2) = true ∧ decide (kK E a i 0 = kK E a i 0) = true ∧ decide (kK E a i 1 = kK E a i 1) = true ∧ decide (kK E a i 2 = kK E a i 2) = true ∧ decide (kK E a i
      0 = kK E a i 0) = true ∧ decide (kK E a i 1 = kK E a i 1) = true ∧ decide (kK E a i 2 = kK E a i 2) = true ∧ kpN (fun q_ => setU (ofL (bk d)) (kK E a i 1) (kK E a i 2) q_)
      45 0 (kpN (fun q_ => r q_) 102 0 (decide (kK E a i 2 = kK E a i 2) = true ∧ decide (kK E a i 0 = kK E a i 0) = true ∧ decide (kK E a i 1 = kK E a i 1) = true ∧ decide (kK
      E a i 2 = kK E a i 2) = true ∧ decide (kK E a i 0 = kK E a i 0) = true ∧ decide (kK E a i 1 = kK E a i 1) = true ∧ decide (kK E a i 2 = kK E a i 2) = true ∧ ((savV (ofL
      (bk (setU (ofL (bk d)) (kK E a i 1) (kK E a i 2)))) != rsavV (ofL (rkS r (kK E a i 2)))) = true → false = true) ∧ ((savV (ofL (bk (setU (ofL (bk d)) (kK E a i 1) (kK E a i
      2)))) != rsavV (ofL (rkS r (kK E a i 2)))) = false → (59 : Nat) = (59 : Nat) ∧ (37 : Nat) = (37 : Nat) ∧ wfL (45 : Nat) (bk (setU (ofL (bk d)) (kK E a i 1) (kK E a i 2)))
      = true ∧ wfL (103 : Nat) (rkS r (kK E a i 2)) = true ∧ ∃ (k : Nat), i < n ∧ k ≤ (16 : Nat) ∧ (0 : Nat) ≤ k ∧ Holds (rel (ofL (bk (setU (ofL (bk d)) (kK E a i 1) (kK E a i
      2)))) (ofL [C.i false IntKind.u32 (r (0 : Nat)), C.i false IntKind.u32 (r (1 : Nat)), C.i false IntKind.u32 (r (2 : Nat)), C.i false IntKind.u32 (r (3 : Nat)), C.i false
      IntKind.u32 (r (4 : Nat)), C.i false IntKind.u32 (r (5 : Nat)), C.i false IntKind.u32 (r (6 : Nat)), C.i false IntKind.u32 (r (7 : Nat)), C.i false IntKind.u32 (r (8 :
      Nat)), C.i false IntKind.u32 (r (9 : Nat)), C.i false IntKind.u32 (r (10 : Nat)), C.i false IntKind.u32 (r (11 : Nat)), C.i false IntKind.u32 (r (12 : Nat)), C.i false
      IntKind.u32 (r (13 : Nat)), C.i false IntKind.u32 (r (14 : Nat)), C.i false IntKind.u32 (r (15 : Nat)), C.i false IntKind.u32 (r (16 : Nat)), C.i false IntKind.u32 (r (17
      : Nat)), C.i false IntKind.u32 (r (18 : Nat)), C.i false IntKind.u32 (r (19 : Nat)), C.i false IntKind.u32 (r (20 : Nat)), C.i false IntKind.u32 (r (21 : Nat)), C.i false
      IntKind.u32 (r (22 : Nat)), C.i false IntKind.u32 (r (23 : Nat)), C.i false IntKind.u32 (r (24 : Nat)), C.i false IntKind.u32 (r (25 : Nat)), C.i false IntKind.u32 (r (26
      : Nat)), C.i false IntKind.u32 (r (27 : Nat)), C.i false IntKind.u32 (r (28 : Nat)), C.i false IntKind.u32 (r (29 : Nat)), C.i false IntKind.u32 (r (30 : Nat)), C.i false
      IntKind.u32 (r (31 : Nat)), C.i false IntKind.u32 (r (32 : Nat)), C.i false IntKind.u32 (r (33 : Nat)), C.i false IntKind.u32 (r (34 : Nat)), C.i false IntKind.u32 (r (35
      : Nat)), C.i false IntKind.u32 (r (36 : Nat)), C.i false IntKind.u32 (r (37 : Nat)), C.i false IntKind.u32 (r (38 : Nat)), C.i false IntKind.u32 (r (39 : Nat)), C.i false
      IntKind.u32 (r (40 : Nat)), C.i false IntKind.u32 (r (41 : Nat)), C.i false IntKind.u32 (r (42 : Nat)), C.i false IntKind.u32 (r (43 : Nat)), C.i false IntKind.u32 (r (44
      : Nat)), C.i false IntKind.u32 (r (45 : Nat)), C.i false IntKind.u32 (r (46 : Nat)), C.i false IntKind.u32 (r (47 : Nat)), C.i false IntKind.u32 (r (48 : Nat)), C.i false
      IntKind.u32 (r (49 : Nat)), C.i false IntKind.u32 (r (50 : Nat)), C.i false IntKind.u32 (r (51 : Nat)), C.i false IntKind.u32 (r (52 : Nat)), C.i false IntKind.u32 (r (53
      : Nat)), C.i false IntKind.u32 (r (54 : Nat)), C.i false IntKind.u32 (r (55 : Nat)), C.i false IntKind.u32 (r (56 : Nat)), C.i false IntKind.u32 (r (57 : Nat)), C.i false
      IntKind.u32 (r (58 : Nat)), C.i false IntKind.u32 (r (59 : Nat)), C.i false IntKind.u32 (r (60 : Nat)), C.i false IntKind.u32 (r (61 : Nat)), C.i false IntKind.u32 (r (62
      : Nat)), C.i false IntKind.u32 (r (63 : Nat)), C.i false IntKind.u32 (r (64 : Nat)), C.i false IntKind.u32 (r (65 : Nat)), C.i false IntKind.u32 (r (66 : Nat)), C.i false
      IntKind.u32 (r (67 : Nat)), C.i false IntKind.u32 (r (68 : Nat)), C.i false IntKind.u32 (r (69 : Nat)), C.i false IntKind.u32 (r (70 : Nat)), C.i false IntKind.u32 (r (71
      : Nat)), C.i false IntKind.u32 (r (72 : Nat)), C.i false IntKind.u32 (r (73 : Nat)), C.i false IntKind.u32 (r (74 : Nat)), C.i false IntKind.u32 (r (75 : Nat)), C.i false
      IntKind.u32 (r (76 : Nat)), C.i false IntKind.u32 (r (77 : Nat)), C.i false IntKind.u32 (r (78 : Nat)), C.i false IntKind.u32 (r (79 : Nat)), C.i false IntKind.u32 (r (80
      : Nat)), C.i false IntKind.u32 (r (81 : Nat)), C.i false IntKind.u32 (r (82 : Nat)), C.i false IntKind.u32 (r (83 : Nat)), C.i false IntKind.u32 (r (84 : Nat)), C.i false
      IntKind.u32 (r (85 : Nat)), C.i false IntKind.u32 (r (86 : Nat)), C.i false IntKind.u32 (r (87 : Nat)), C.i false IntKind.u32 (r (88 : Nat)), C.i false IntKind.u32 (r (89
      : Nat)), C.i false IntKind.u32 (r (90 : Nat)), C.i false IntKind.u32 (r (91 : Nat)), C.i false IntKind.u32 (r (92 : Nat)), C.i false IntKind.u32 (r (93 : Nat)), C.i false
      IntKind.u32 (r (94 : Nat)), C.i false IntKind.u32 (r (95 : Nat)), C.i false IntKind.u32 (r (96 : Nat)), C.i false IntKind.u32 (r (97 : Nat)), C.i false IntKind.u32 (r (98
      : Nat)), C.i false IntKind.u32 (r (99 : Nat)), C.i false IntKind.u32 (r (100 : Nat)), C.i false IntKind.u32 (r (101 : Nat)), eC E a ((↑i : Int).toNat * (nat_lit 2 + (1 :
      Nat)) + (nat_lit 1 + (1 : Nat))) (EK.i IntKind.u32)])) ∧ hdb3 E = hdb3 E ∧ (99 : Nat) = (99 : Nat) ∧ C.p (0 : Nat) (0 : Nat) = C.p (0 : Nat) (0 : Nat) ∧ C.p (1 : Nat) (0 :
      Nat) = C.p (1 : Nat) (0 : Nat) ∧ C.es a n c = C.es a n c ∧ (IntKind.i64 = IntKind.i64 ∧ (↑n : Int) = (↑n : Int)) ∧ (IntKind.i64 = IntKind.i64 ∧ (↑i : Int) = (↑i : Int)) ∧
      IntKind.i64 = IntKind.i64 ∧ (0 : Int) = (↑k : Int)))))))))) ∧ ((kK E a i 0 == (1 : Int)) = false → ((kK E a i 0 == (2 : Int)) = true → kpN (fun q_ => setU (ofL (bk d)) (kK
      E a i 1) (kK E a i 2) q_) 45 0 (kpN (fun q_ => rssvV (ofL (rk r)) (kK E a i 2) q_) 103 0 (decide (kK E a i 0 = kK E a i 0) = true ∧ decide (kK E a i 1 = kK E a i 1) = true
      ∧ decide (kK E a i 2 = kK E a i 2) = true ∧ decide (kK E a i 0 = kK E a i 0) = true ∧ decide (kK E a i 1 = kK E a i 1) = true ∧ decide (kK E a i 2 = kK E a i 2) = true ∧
      ((setU (ofL (bk d)) (kK E a i 1) (kK E a i 2) (0 : Nat) != rssvV (ofL (rk r)) (kK E a i 2) (102 : Nat)) = true → false = true) ∧ ((setU (ofL (bk d)) (kK E a i 1) (kK E a i
      2) (0 : Nat) != rssvV (ofL (rk r)) (kK E a i 2) (102 : Nat)) = false → kpN (fun q_ => setU (ofL (bk d)) (kK E a i 1) (kK E a i 2) q_) 45 0 (kpN (fun q_ => rssvV (ofL (rk
      r)) (kK E a i 2) q_) 103 0 (decide (kK E a i 0 = kK E a i 0) = true ∧ decide (kK E a i 1 = kK E a i 1) = true ∧ decide (kK E a i 2 = kK E a i 2) = true ∧ decide (kK E a i
      0 = kK E a i 0) = true ∧ decide (kK E a i 1 = kK E a i 1) = true ∧ decide (kK E a i 2 = kK E a i 2) = true ∧ kpN (fun q_ => setU (ofL (bk d)) (kK E a i 1) (kK E a i 2) q_)
      45 0 (kpN (fun q_ => rssvV (ofL (rk r)) (kK E a i 2) q_) 103 0 (decide (kK E a i 0 = kK E a i 0) = true ∧ decide (kK E a i 1 = kK E a i 1) = true ∧ decide (kK E a i 2 = kK
      E a i 2) = true ∧ decide (kK E a i 0 = kK E a i 0) = true ∧ decide (kK E a i 1 = kK E a i 1) = true ∧ decide (kK E a i 2 = kK E a i 2) = true ∧ ((savV (ofL (bk (setU (ofL
      (bk d)) (kK E a i 1) (kK E a i 2)))) != rsavV (ofL (rk (rssvV (ofL (rk r)) (kK E a i 2))))) = true → false = true) ∧ ((savV (ofL (bk (setU (ofL (bk d)) (kK E a i 1) (kK E
      a i 2)))) != rsavV (ofL (rk (rssvV (ofL (rk r)) (kK E a i 2))))) = false → (59 : Nat) = (59 : Nat) ∧ (37 : Nat) = (37 : Nat) ∧ wfL (45 : Nat) (bk (setU (ofL (bk d)) (kK E
      a i 1) (kK E a i 2))) = true ∧ wfL (103 : Nat) (rk (rssvV (ofL (rk r)) (kK E a i 2))) = true ∧ ∃ (k : Nat), i < n ∧ k ≤ (16 : Nat) ∧ (0 : Nat) ≤ k ∧ Holds (rel (ofL (bk
      (setU (ofL (bk d)) (kK E a i 1) (kK E a i 2)))) (ofL (rk (rssvV (ofL (rk r)) (kK E a i 2))))) ∧ hdb3 E = hdb3 E ∧ (99 : Nat) = (99 : Nat) ∧ C.p (0 : Nat) (0 : Nat) = C.p
      (0 : Nat) (0 : Nat) ∧ C.p (1 : Nat) (0 : Nat) = C.p (1 : Nat) (0 : Nat) ∧ C.es a n c = C.es a n c ∧ (IntKind.i64 = IntKind.i64 ∧ (↑n : Int) = (↑n : Int)) ∧ (IntKind.i64 =
      IntKind.i64 ∧ (↑i : Int) = (↑i : Int)) ∧ IntKind.i64 = IntKind.i64 ∧ (0 : Int) = (↑k : Int)))))))))) ∧ ((kK E a i 0 == (2 : Int)) = false → ((kK E a i 0 == (3 : Int)) =
      true → kpN (fun q_ => setU (ofL (bk d)) (kK E a i 1) (kK E a i 2) q_) 45 0 (kpN (fun q_ => rsusV (ofL (rk r)) (kK E a i 1) (kK E a i 2) q_) 103 0 (decide (kK E a i 0 = kK
      E a i 0) = true ∧ decide (kK E a i 1 = kK E a i 1) = true ∧ decide (kK E a i 2 = kK E a i 2) = true ∧ decide (kK E a i 0 = kK E a i 0) = true ∧ decide (kK E a i 1 = kK E a
      i 1) = true ∧ decide (kK E a i 2 = kK E a i 2) = true ∧ ((setU (ofL (bk d)) (kK E a i 1) (kK E a i 2) (0 : Nat) != rsusV (ofL (rk r)) (kK E a i 1) (kK E a i 2) (102 :
      Nat)) = true → false = true) ∧ ((setU (ofL (bk d)) (kK E a i 1) (kK E a i 2) (0 : Nat) != rsusV (ofL (rk r)) (kK E a i 1) (kK E a i 2) (102 : Nat)) = false → kpN (fun q_
      => setU (ofL (bk d)) (kK E a i 1) (kK E a i 2) q_) 45 0 (kpN (fun q_ => rsusV (ofL (rk r)) (kK E a i 1) (kK E a i 2) q_) 103 0 (decide (kK E a i 0 = kK E a i 0) = true ∧
      decide (kK E a i 1 = kK E a i 1) = true ∧ decide (kK E a i 2 = kK E a i 2) = true ∧ decide (kK E a i 0 = kK E a i 0) = true ∧ decide (kK E a i 1 = kK E a i 1) = true ∧
      decide (kK E a i 2 = kK E a i 2) = true ∧ kpN (fun q_ => setU (ofL (bk d)) (kK E a i 1) (kK E a i 2) q_) 45 0 (kpN (fun q_ => rsusV (ofL (rk r)) (kK E a i 1) (kK E a i 2)
      q_) 103 0 (decide (kK E a i 0 = kK E a i 0) = true ∧ decide (kK E a i 1 = kK E a i 1) = true ∧ decide (kK E a i 2 = kK E a i 2) = true ∧ decide (kK E a i 0 = kK E a i 0) =
      true ∧ decide (kK E a i 1 = kK E a i 1) = true ∧ decide (kK E a i 2 = kK E a i 2) = true ∧ ((savV (ofL (bk (setU (ofL (bk d)) (kK E a i 1) (kK E a i 2)))) != rsavV (ofL
      (rk (rsusV (ofL (rk r)) (kK E a i 1) (kK E a i 2))))) = true → false = true) ∧ ((savV (ofL (bk (setU (ofL (bk d)) (kK E a i 1) (kK E a i 2)))) != rsavV (ofL (rk (rsusV
      (ofL (rk r)) (kK E a i 1) (kK E a i 2))))) = false → (59 : Nat) = (59 : Nat) ∧ (37 : Nat) = (37 : Nat) ∧ wfL (45 : Nat) (bk (setU (ofL (bk d)) (kK E a i 1) (kK E a i 2)))
      = true ∧ wfL (103 : Nat) (rk (rsusV (ofL (rk r)) (kK E a i 1) (kK E a i 2))) = true ∧ ∃ (k : Nat), i < n ∧ k ≤ (16 : Nat) ∧ (0 : Nat) ≤ k ∧ Holds (rel (ofL (bk (setU (ofL
      (bk d)) (kK E a i 1) (kK E a i 2)))) (ofL (rk (rsusV (ofL (rk r)) (kK E a i 1) (kK E a i 2))))) ∧ hdb3 E = hdb3 E ∧ (99 : Nat) = (99 : Nat) ∧ C.p (0 : Nat) (0 : Nat) = C.p
      (0 : Nat) (0 : Nat) ∧ C.p (1 : Nat) (0 : Nat) = C.p (1 : Nat) (0 : Nat) ∧ C.es a n c = C.es a n c ∧ (IntKind.i64 = IntKind.i64 ∧ (↑n : Int) = (↑n : Int)) ∧ (IntKind.i64 =
      IntKind.i64 ∧ (↑i : Int) = (↑i : Int)) ∧ IntKind.i64 = IntKind.i64 ∧ (0 : Int) = (↑k : Int)))))))))) ∧ ((kK E a i 0 == (3 : Int)) = false → ((kK E a i 0 == (4 : Int)) =
      true → kpN (fun q_ => setU (ofL (bk d)) (kK E a i 1) (kK E a i 2) q_) 45 0 (kpN (fun q_ => rentV (ofL (rk r)) (IntKind.u32.wrap (kK E a i 1)) (kK E a i 2) q_) 103 0
      (decide (kK E a i 0 = kK E a i 0) = true ∧ decide (kK E a i 1 = kK E a i 1) = true ∧ decide (kK E a i 2 = kK E a i 2) = true ∧ decide (kK E a i 0 = kK E a i 0) = true ∧
      decide (kK E a i 1 = kK E a i 1) = true ∧ decide (kK E a i 2 = kK E a i 2) = true ∧ ((setU (ofL (bk d)) (kK E a i 1) (kK E a i 2) (0 : Nat) != rentV (ofL (rk r))
      (IntKind.u32.wrap (kK E a i 1)) (kK E a i 2) (102 : Nat)) = true → false = true) ∧ ((setU (ofL (bk d)) (kK E a i 1) (kK E a i 2) (0 : Nat) != rentV (ofL (rk r))
      (IntKind.u32.wrap (kK E a i 1)) (kK E a i 2) (102 : Nat)) = false → kpN (fun q_ => setU (ofL (bk d)) (kK E a i 1) (kK E a i 2) q_) 45 0 (kpN (fun q_ => rentV (ofL (rk r))
      (IntKind.u32.wrap (kK E a i 1)) (kK E a i 2) q_) 103 0 (decide (kK E a i 0 = kK E a i 0) = true ∧ decide (kK E a i 1 = kK E a i 1) = true ∧ decide (kK E a i 2 = kK E a i
      2) = true ∧ decide (kK E a i 0 = kK E a i 0) = true ∧ decide (kK E a i 1 = kK E a i 1) = true ∧ decide (kK E a i 2 = kK E a i 2) = true ∧ kpN (fun q_ => setU (ofL (bk d))
      (kK E a i 1) (kK E a i 2) q_) 45 0 (kpN (fun q_ => rentV (ofL (rk r)) (IntKind.u32.wrap (kK E a i 1)) (kK E a i 2) q_) 103 0 (decide (kK E a i 0 = kK E a i 0) = true ∧
      decide (kK E a i 1 = kK E a i 1) = true ∧ decide (kK E a i 2 = kK E a i 2) = true ∧ decide (kK E a i 0 = kK E a i 0) = true ∧ decide (kK E a i 1 = kK E a i 1) = true ∧
      decide (kK E a i 2 = kK E a i 2) = true ∧ ((savV (ofL (bk (setU (ofL (bk d)) (kK E a i 1) (kK E a i 2)))) != rsavV (ofL (rk (rentV (ofL (rk r)) (IntKind.u32.wrap (kK E a i
      1)) (kK E a i 2))))) = true → false = true) ∧ ((savV (ofL (bk (setU (ofL (bk d)) (kK E a i 1) (kK E a i 2)))) != rsavV (ofL (rk (rentV (ofL (rk r)) (IntKind.u32.wrap (kK E
      a i 1)) (kK E a i 2))))) = false → (59 : Nat) = (59 : Nat) ∧ (37 : Nat) = (37 : Nat) ∧ wfL (45 : Nat) (bk (setU (ofL (bk d)) (kK E a i 1) (kK E a i 2))) = true ∧ wfL (103
      : Nat) (rk (rentV (ofL (rk r)) (IntKind.u32.wrap (kK E a i 1)) (kK E a i 2))) = true ∧ ∃ (k : Nat), i < n ∧ k ≤ (16 : Nat) ∧ (0 : Nat) ≤ k ∧ Holds (rel (ofL (bk (setU (ofL
      (bk d)) (kK E a i 1) (kK E a i 2)))) (ofL (rk (rentV (ofL (rk r)) (IntKind.u32.wrap (kK E a i 1)) (kK E a i 2))))) ∧ hdb3 E = hdb3 E ∧ (99 : Nat) = (99 : Nat) ∧ C.p (0 :
      Nat) (0 : Nat) = C.p (0 : Nat) (0 : Nat) ∧ C.p (1 : Nat) (0 : Nat) = C.p (1 : Nat) (0 : Nat) ∧ C.es a n c = C.es a n c ∧ (IntKind.i64 = IntKind.i64 ∧ (↑n : Int) = (↑n :
      Int)) ∧ (IntKind.i64 = IntKind.i64 ∧ (↑i : Int) = (↑i : Int)) ∧ IntKind.i64 = IntKind.i64 ∧ (0 : Int) = (↑k : Int)))))))))) ∧ ((kK E a i 0 == (4 : Int)) = false → kpN (fun
      q_ => setU (ofL (bk d)) (kK E a i 1) (kK E a i 2) q_) 45 0 (kpN (fun q_ => r q_) 103 0 (decide (kK E a i 0 = kK E a i 0) = true ∧ decide (kK E a i 1 = kK E a i 1) = true ∧
      decide (kK E a i 2 = kK E a i 2) = true ∧ decide (kK E a i 0 = kK E a i 0) = true ∧ decide (kK E a i 1 = kK E a i 1) = true ∧ decide (kK E a i 2 = kK E a i 2) = true ∧
      ((setU (ofL (bk d)) (kK E a i 1) (kK E a i 2) (0 : Nat) != r (102 : Nat)) = true → false = true) ∧ ((setU (ofL (bk d)) (kK E a i 1) (kK E a i 2) (0 : Nat) != r (102 :
      Nat)) = false → kpN (fun q_ => setU (ofL (bk d)) (kK E a i 1) (kK E a i 2) q_) 45 0 (kpN (fun q_ => r q_) 103 0 (decide (kK E a i 0 = kK E a i 0) = true ∧ decide (kK E a i
      1 = kK E a i 1) = true ∧ decide (kK E a i 2 = kK E a i 2) = true ∧ decide (kK E a i 0 = kK E a i 0) = true ∧ decide (kK E a i 1 = kK E a i 1) = true ∧ decide (kK E a i 2 =
      kK E a i 2) = true ∧ kpN (fun q_ => setU (ofL (bk d)) (kK E a i 1) (kK E a i 2) q_) 45 0 (kpN (fun q_ => r q_) 103 0 (decide (kK E a i 0 = kK E a i 0) = true ∧ decide (kK
      E a i 1 = kK E a i 1) = true ∧ decide (kK E a i 2 = kK E a i 2) = true ∧ decide (kK E a i 0 = kK E a i 0) = true ∧ decide (kK E a i 1 = kK E a i 1) = true ∧ decide (kK E a
      i 2 = kK E a i 2) = true ∧ ((savV (ofL (bk (setU (ofL (bk d)) (kK E a i 1) (kK E a i 2)))) != rsavV (ofL (rk r))) = true → false = true) ∧ ((savV (ofL (bk (setU (ofL (bk
      d)) (kK E a i 1) (kK E a i 2)))) != rsavV (ofL (rk r))) = false → (59 : Nat) = (59 : Nat) ∧ (37 : Nat) = (37 : Nat) ∧ wfL (45 : Nat) (bk (setU (ofL (bk d)) (kK E a i 1)
      (kK E a i 2))) = true ∧ wfL (103 : Nat) (rk r) = true ∧ ∃ (k : Nat), i < n ∧ k ≤ (16 : Nat) ∧ (0 : Nat) ≤ k ∧ Holds (rel (ofL (bk (setU (ofL (bk d)) (kK E a i 1) (kK E a i
      2)))) (ofL (rk r))) ∧ hdb3 E = hdb3 E ∧ (99 : Nat) = (99 : Nat) ∧ C.p (0 : Nat) (0 : Nat) = C.p (0 : Nat) (0 : Nat) ∧ C.p (1 : Nat) (0 : Nat) = C.p (1 : Nat) (0 : Nat) ∧
      C.es a n c = C.es a n c ∧ (IntKind.i64 = IntKind.i64 ∧ (↑n : Int) = (↑n : Int)) ∧ (IntKind.i64 = IntKind.i64 ∧ (↑i : Int) = (↑i : Int)) ∧ IntKind.i64 = IntKind.i64 ∧ (0 :
      Int) = (↑k : Int))))))))))))))) ∧ ((kK E a i 0 == (3 : Int)) = false → ((kK E a i 0 == (4 : Int)) = true → ((kK E a i 0 == (0 : Int)) = true → kpN (fun q_ => entV (ofL (bk
      d)) (IntKind.u32.wrap (kK E a i 1)) (kK E a i 2) q_) 45 0 (kpN (fun q_ => rsetV (ofL (rk r)) (kK E a i 1) (kK E a i 2) q_) 103 0 (decide (kK E a i 0 = kK E a i 0) = true ∧
      decide (kK E a i 1 = kK E a i 1) = true ∧ decide (kK E a i 2 = kK E a i 2) = true ∧ decide (kK E a i 0 = kK E a i 0) = true ∧ decide (kK E a i 1 = kK E a i 1) = true ∧
      decide (kK E a i 2 = kK E a i 2) = true ∧ ((entV (ofL (bk d)) (IntKind.u32.wrap (kK E a i 1)) (kK E a i 2) (0 : Nat) != rsetV (ofL (rk r)) (kK E a i 1) (kK E a i 2) (102 :
      Nat)) = true → false = true) ∧ ((entV (ofL (bk d)) (IntKind.u32.wrap (kK E a i 1)) (kK E a i 2) (0 : Nat) != rsetV (ofL (rk r)) (kK E a i 1) (kK E a i 2) (102 : Nat)) =
      false → kpN (fun q_ => entV (ofL (bk d)) (IntKind.u32.wrap (kK E a i 1)) (kK E a i 2) q_) 45 0 (kpN (fun q_ => rsetV (ofL (rk r)) (kK E a i 1) (kK E a i 2) q_) 103 0
      (decide (kK E a i 0 = kK E a i 0) = true ∧ decide (kK E a i 1 = kK E a i 1) = true ∧ decide (kK E a i 2 = kK E a i 2) = true ∧ decide (kK E a i 0 = kK E a i 0) = true ∧
      decide (kK E a i 1 = kK E a i 1) = true ∧ decide (kK E a i 2 = kK E a i 2) = true ∧ kpN (fun q_ => entV (ofL (bk d)) (IntKind.u32.wrap (kK E a i 1)) (kK E a i 2) q_) 45 0
      (kpN (fun q_ => rsetV (ofL (rk r)) (kK E a i 1) (kK E a i 2) q_) 103 0 (decide (kK E a i 0 = kK E a i 0) = true ∧ decide (kK E a i 1 = kK E a i 1) = true ∧ decide (kK E a
      i 2 = kK E a i 2) = true ∧ decide (kK E a i 0 = kK E a i 0) = true ∧ decide (kK E a i 1 = kK E a i 1) = true ∧ decide (kK E a i 2 = kK E a i 2) = true ∧ ((savV (ofL (bk
      (entV (ofL (bk d)) (IntKind.u32.wrap (kK E a i 1)) (kK E a i 2)))) != rsavV (ofL (rk (rsetV (ofL (rk r)) (kK E a i 1) (kK E a i 2))))) = true → false = true) ∧ ((savV (ofL
      (bk (entV (ofL (bk d)) (IntKind.u32.wrap (kK E a i 1)) (kK E a i 2)))) != rsavV (ofL (rk (rsetV (ofL (rk r)) (kK E a i 1) (kK E a i 2))))) = false → (59 : Nat) = (59 :
      Nat) ∧ (37 : Nat) = (37 : Nat) ∧ wfL (45 : Nat) (bk (entV (ofL (bk d)) (IntKind.u32.wrap (kK E a i 1)) (kK E a i 2))) = true ∧ wfL (103 : Nat) (rk (rsetV (ofL (rk r)) (kK
      E a i 1) (kK E a i 2))) = true ∧ ∃ (k : Nat), i < n ∧ k ≤ (16 : Nat) ∧ (0 : Nat) ≤ k ∧ Holds (rel (ofL (bk (entV (ofL (bk d)) (IntKind.u32.wrap (kK E a i 1)) (kK E a i
      2)))) (ofL (rk (rsetV (ofL (rk r)) (kK E a i 1) (kK E a i 2))))) ∧ hdb3 E = hdb3 E ∧ (99 : Nat) = (99 : Nat) ∧ C.p (0 : Nat) (0 : Nat) = C.p (0 : Nat) (0 : Nat) ∧ C.p (1 :
      Nat) (0 : Nat) = C.p (1 : Nat) (0 : Nat) ∧ C.es a n c = C.es a n c ∧ (IntKind.i64 = IntKind.i64 ∧ (↑n : Int) = (↑n : Int)) ∧ (IntKind.i64 = IntKind.i64 ∧ (↑i : Int) = (↑i
      : Int)) ∧ IntKind.i64 = IntKind.i64 ∧ (0 : Int) = (↑k : Int)))))))))) ∧ ((kK E a i 0 == (0 : Int)) = false → ((kK E a i 0 == (1 : Int)) = true → kpN (fun q_ => entV (ofL
      (bk d)) (IntKind.u32.wrap (kK E a i 1)) (kK E a i 2) q_) 45 0 (kpN (fun q_ => r q_) 102 0 (decide (kK E a i 2 = kK E a i 2) = true ∧ decide (kK E a i 0 = kK E a i 0) =
      true ∧ decide (kK E a i 1 = kK E a i 1) = true ∧ decide (kK E a i 2 = kK E a i 2) = true ∧ decide (kK E a i 0 = kK E a i 0) = true ∧ decide (kK E a i 1 = kK E a i 1) =
      true ∧ decide (kK E a i 2 = kK E a i 2) = true ∧ ((entV (ofL (bk d)) (IntKind.u32.wrap (kK E a i 1)) (kK E a i 2) (0 : Nat) != kK E a i 2) = true → false = true) ∧ ((entV
      (ofL (bk d)) (IntKind.u32.wrap (kK E a i 1)) (kK E a i 2) (0 : Nat) != kK E a i 2) = false → kpN (fun q_ => entV (ofL (bk d)) (IntKind.u32.wrap (kK E a i 1)) (kK E a i 2)
      q_) 45 0 (kpN (fun q_ => r q_) 102 0 (decide (kK E a i 2 = kK E a i 2) = true ∧ decide (kK E a i 0 = kK E a i 0) = true ∧ decide (kK E a i 1 = kK E a i 1) = true ∧ decide
      (kK E a i 2 = kK E a i 2) = true ∧ decide (kK E a i 0 = kK E a i 0) = true ∧ decide (kK E a i 1 = kK E a i 1) = true ∧ decide (kK E a i 2 = kK E a i 2) = true ∧ kpN (fun
      q_ => entV (ofL (bk d)) (IntKind.u32.wrap (kK E a i 1)) (kK E a i 2) q_) 45 0 (kpN (fun q_ => r q_) 102 0 (decide (kK E a i 2 = kK E a i 2) = true ∧ decide (kK E a i 0 =
      kK E a i 0) = true ∧ decide (kK E a i 1 = kK E a i 1) = true ∧ decide (kK E a i 2 = kK E a i 2) = true ∧ decide (kK E a i 0 = kK E a i 0) = true ∧ decide (kK E a i 1 = kK
      E a i 1) = true ∧ decide (kK E a i 2 = kK E a i 2) = true ∧ ((savV (ofL (bk (entV (ofL (bk d)) (IntKind.u32.wrap (kK E a i 1)) (kK E a i 2)))) != rsavV (ofL (rkS r (kK E a
      i 2)))) = true → false = true) ∧ ((savV (ofL (bk (entV (ofL (bk d)) (IntKind.u32.wrap (kK E a i 1)) (kK E a i 2)))) != rsavV (ofL (rkS r (kK E a i 2)))) = false → (59 :
      Nat) = (59 : Nat) ∧ (37 : Nat) = (37 : Nat) ∧ wfL (45 : Nat) (bk (entV (ofL (bk d)) (IntKind.u32.wrap (kK E a i 1)) (kK E a i 2))) = true ∧ wfL (103 : Nat) (rkS r (kK E a
      i 2)) = true ∧ ∃ (k : Nat), i < n ∧ k ≤ (16 : Nat) ∧ (0 : Nat) ≤ k ∧ Holds (rel (ofL (bk (entV (ofL (bk d)) (IntKind.u32.wrap (kK E a i 1)) (kK E a i 2)))) (ofL [C.i false
      IntKind.u32 (r (0 : Nat)), C.i false IntKind.u32 (r (1 : Nat)), C.i false IntKind.u32 (r (2 : Nat)), C.i false IntKind.u32 (r (3 : Nat)), C.i false IntKind.u32 (r (4 :
      Nat)), C.i false IntKind.u32 (r (5 : Nat)), C.i false IntKind.u32 (r (6 : Nat)), C.i false IntKind.u32 (r (7 : Nat)), C.i false IntKind.u32 (r (8 : Nat)), C.i false
      IntKind.u32 (r (9 : Nat)), C.i false IntKind.u32 (r (10 : Nat)), C.i false IntKind.u32 (r (11 : Nat)), C.i false IntKind.u32 (r (12 : Nat)), C.i false IntKind.u32 (r (13 :
      Nat)), C.i false IntKind.u32 (r (14 : Nat)), C.i false IntKind.u32 (r (15 : Nat)), C.i false IntKind.u32 (r (16 : Nat)), C.i false IntKind.u32 (r (17 : Nat)), C.i false
      IntKind.u32 (r (18 : Nat)), C.i false IntKind.u32 (r (19 : Nat)), C.i false IntKind.u32 (r (20 : Nat)), C.i false IntKind.u32 (r (21 : Nat)), C.i false IntKind.u32 (r (22
      : Nat)), C.i false IntKind.u32 (r (23 : Nat)), C.i false IntKind.u32 (r (24 : Nat)), C.i false IntKind.u32 (r (25 : Nat)), C.i false IntKind.u32 (r (26 : Nat)), C.i false
      IntKind.u32 (r (27 : Nat)), C.i false IntKind.u32 (r (28 : Nat)), C.i false IntKind.u32 (r (29 : Nat)), C.i false IntKind.u32 (r (30 : Nat)), C.i false IntKind.u32 (r (31
      : Nat)), C.i false IntKind.u32 (r (32 : Nat)), C.i false IntKind.u32 (r (33 : Nat)), C.i false IntKind.u32 (r (34 : Nat)), C.i false IntKind.u32 (r (35 : Nat)), C.i false
      IntKind.u32 (r (36 : Nat)), C.i false IntKind.u32 (r (37 : Nat)), C.i false IntKind.u32 (r (38 : Nat)), C.i false IntKind.u32 (r (39 : Nat)), C.i false IntKind.u32 (r (40
      : Nat)), C.i false IntKind.u32 (r (41 : Nat)), C.i false IntKind.u32 (r (42 : Nat)), C.i false IntKind.u32 (r (43 : Nat)), C.i false IntKind.u32 (r (44 : Nat)), C.i false
      IntKind.u32 (r (45 : Nat)), C.i false IntKind.u32 (r (46 : Nat)), C.i false IntKind.u32 (r (47 : Nat)), C.i false IntKind.u32 (r (48 : Nat)), C.i false IntKind.u32 (r (49
      : Nat)), C.i false IntKind.u32 (r (50 : Nat)), C.i false IntKind.u32 (r (51 : Nat)), C.i false IntKind.u32 (r (52 : Nat)), C.i false IntKind.u32 (r (53 : Nat)), C.i false
      IntKind.u32 (r (54 : Nat)), C.i false IntKind.u32 (r (55 : Nat)), C.i false IntKind.u32 (r (56 : Nat)), C.i false IntKind.u32 (r (57 : Nat)), C.i false IntKind.u32 (r (58
      : Nat)), C.i false IntKind.u32 (r (59 : Nat)), C.i false IntKind.u32 (r (60 : Nat)), C.i false IntKind.u32 (r (61 : Nat)), C.i false IntKind.u32 (r (62 : Nat)), C.i false
      IntKind.u32 (r (63 : Nat)), C.i false IntKind.u32 (r (64 : Nat)), C.i false IntKind.u32 (r (65 : Nat)), C.i false IntKind.u32 (r (66 : Nat)), C.i false IntKind.u32 (r (67
      : Nat)), C.i false IntKind.u32 (r (68 : Nat)), C.i false IntKind.u32 (r (69 : Nat)), C.i false IntKind.u32 (r (70 : Nat)), C.i false IntKind.u32 (r (71 : Nat)), C.i false
      IntKind.u32 (r (72 : Nat)), C.i false IntKind.u32 (r (73 : Nat)), C.i false IntKind.u32 (r (74 : Nat)), C.i false IntKind.u32 (r (75 : Nat)), C.i false IntKind.u32 (r (76
      : Nat)), C.i false IntKind.u32 (r (77 : Nat)), C.i false IntKind.u32 (r (78 : Nat)), C.i false IntKind.u32 (r (79 : Nat)), C.i false IntKind.u32 (r (80 : Nat)), C.i false
      IntKind.u32 (r (81 : Nat)), C.i false IntKind.u32 (r (82 : Nat)), C.i false IntKind.u32 (r (83 : Nat)), C.i false IntKind.u32 (r (84 : Nat)), C.i false IntKind.u32 (r (85
      : Nat)), C.i false IntKind.u32 (r (86 : Nat)), C.i false IntKind.u32 (r (87 : Nat)), C.i false IntKind.u32 (r (88 : Nat)), C.i false IntKind.u32 (r (89 : Nat)), C.i false
      IntKind.u32 (r (90 : Nat)), C.i false IntKind.u32 (r (91 : Nat)), C.i false IntKind.u32 (r (92 : Nat)), C.i false IntKind.u32 (r (93 : Nat)), C.i false IntKind.u32 (r (94
      : Nat)), C.i false IntKind.u32 (r (95 : Nat)), C.i false IntKind.u32 (r (96 : Nat)), C.i false IntKind.u32 (r (97 : Nat)), C.i false IntKind.u32 (r (98 : Nat)), C.i false
      IntKind.u32 (r (99 : Nat)), C.i false IntKind.u32 (r (100 : Nat)), C.i false IntKind.u32 (r (101 : Nat)), eC E a ((↑i : Int).toNat * (nat_lit 2 + (1 : Nat)) + (nat_lit 1 +
      (1 : Nat))) (EK.i IntKind.u32)])) ∧ hdb3 E = hdb3 E ∧ (99 : Nat) = (99 : Nat) ∧ C.p (0 : Nat) (0 : Nat) = C.p (0 : Nat) (0 : Nat) ∧ C.p (1 : Nat) (0 : Nat) = C.p (1 : Nat)
      (0 : Nat) ∧ C.es a n c = C.es a n c ∧ (IntKind.i64 = IntKind.i64 ∧ (↑n : Int) = (↑n : Int)) ∧ (IntKind.i64 = IntKind.i64 ∧ (↑i : Int) = (↑i : Int)) ∧ IntKind.i64 =
      IntKind.i64 ∧ (0 : Int) = (↑k : Int)))))))))) ∧ ((kK E a i 0 == (1 : Int)) = false → ((kK E a i 0 == (2 : Int)) = true → kpN (fun q_ => entV (ofL (bk d)) (IntKind.u32.wrap
      (kK E a i 1)) (kK E a i 2) q_) 45 0 (kpN (fun q_ => rssvV (ofL (rk r)) (kK E a i 2) q_) 103 0 (decide (kK E a i 0 = kK E a i 0) = true ∧ decide (kK E a i 1 = kK E a i 1) =
      true ∧ decide (kK E a i 2 = kK E a i 2) = true ∧ decide (kK E a i 0 = kK E a i 0) = true ∧ decide (kK E a i 1 = kK E a i 1) = true ∧ decide (kK E a i 2 = kK E a i 2) =
      true ∧ ((entV (ofL (bk d)) (IntKind.u32.wrap (kK E a i 1)) (kK E a i 2) (0 : Nat) != rssvV (ofL (rk r)) (kK E a i 2) (102 : Nat)) = true → false = true) ∧ ((entV (ofL (bk
      d)) (IntKind.u32.wrap (kK E a i 1)) (kK E a i 2) (0 : Nat) != rssvV (ofL (rk r)) (kK E a i 2) (102 : Nat)) = false → kpN (fun q_ => entV (ofL (bk d)) (IntKind.u32.wrap (kK
      E a i 1)) (kK E a i 2) q_) 45 0 (kpN (fun q_ => rssvV (ofL (rk r)) (kK E a i 2) q_) 103 0 (decide (kK E a i 0 = kK E a i 0) = true ∧ decide (kK E a i 1 = kK E a i 1) =
      true ∧ decide (kK E a i 2 = kK E a i 2) = true ∧ decide (kK E a i 0 = kK E a i 0) = true ∧ decide (kK E a i 1 = kK E a i 1) = true ∧ decide (kK E a i 2 = kK E a i 2) =
      true ∧ kpN (fun q_ => entV (ofL (bk d)) (IntKind.u32.wrap (kK E a i 1)) (kK E a i 2) q_) 45 0 (kpN (fun q_ => rssvV (ofL (rk r)) (kK E a i 2) q_) 103 0 (decide (kK E a i 0
      = kK E a i 0) = true ∧ decide (kK E a i 1 = kK E a i 1) = true ∧ decide (kK E a i 2 = kK E a i 2) = true ∧ decide (kK E a i 0 = kK E a i 0) = true ∧ decide (kK E a i 1 =
      kK E a i 1) = true ∧ decide (kK E a i 2 = kK E a i 2) = true ∧ ((savV (ofL (bk (entV (ofL (bk d)) (IntKind.u32.wrap (kK E a i 1)) (kK E a i 2)))) != rsavV (ofL (rk (rssvV
      (ofL (rk r)) (kK E a i 2))))) = true → false = true) ∧ ((savV (ofL (bk (entV (ofL (bk d)) (IntKind.u32.wrap (kK E a i 1)) (kK E a i 2)))) != rsavV (ofL (rk (rssvV (ofL (rk
      r)) (kK E a i 2))))) = false → (59 : Nat) = (59 : Nat) ∧ (37 : Nat) = (37 : Nat) ∧ wfL (45 : Nat) (bk (entV (ofL (bk d)) (IntKind.u32.wrap (kK E a i 1)) (kK E a i 2))) =
      true ∧ wfL (103 : Nat) (rk (rssvV (ofL (rk r)) (kK E a i 2))) = true ∧ ∃ (k : Nat), i < n ∧ k ≤ (16 : Nat) ∧ (0 : Nat) ≤ k ∧ Holds (rel (ofL (bk (entV (ofL (bk d))
      (IntKind.u32.wrap (kK E a i 1)) (kK E a i 2)))) (ofL (rk (rssvV (ofL (rk r)) (kK E a i 2))))) ∧ hdb3 E = hdb3 E ∧ (99 : Nat) = (99 : Nat) ∧ C.p (0 : Nat) (0 : Nat) = C.p
      (0 : Nat) (0 : Nat) ∧ C.p (1 : Nat) (0 : Nat) = C.p (1 : Nat) (0 : Nat) ∧ C.es a n c = C.es a n c ∧ (IntKind.i64 = IntKind.i64 ∧ (↑n : Int) = (↑n : Int)) ∧ (IntKind.i64 =
      IntKind.i64 ∧ (↑i : Int) = (↑i : Int)) ∧ IntKind.i64 = IntKind.i64 ∧ (0 : Int) = (↑k : Int)))))))))) ∧ ((kK E a i 0 == (2 : Int)) = false → ((kK E a i 0 == (3 : Int)) =
      true → kpN (fun q_ => entV (ofL (bk d)) (IntKind.u32.wrap (kK E a i 1)) (kK E a i 2) q_) 45 0 (kpN (fun q_ => rsusV (ofL (rk r)) (kK E a i 1) (kK E a i 2) q_) 103 0
      (decide (kK E a i 0 = kK E a i 0) = true ∧ decide (kK E a i 1 = kK E a i 1) = true ∧ decide (kK E a i 2 = kK E a i 2) = true ∧ decide (kK E a i 0 = kK E a i 0) = true ∧
      decide (kK E a i 1 = kK E a i 1) = true ∧ decide (kK E a i 2 = kK E a i 2) = true ∧ ((entV (ofL (bk d)) (IntKind.u32.wrap (kK E a i 1)) (kK E a i 2) (0 : Nat) != rsusV
      (ofL (rk r)) (kK E a i 1) (kK E a i 2) (102 : Nat)) = true → false = true) ∧ ((entV (ofL (bk d)) (IntKind.u32.wrap (kK E a i 1)) (kK E a i 2) (0 : Nat) != rsusV (ofL (rk
      r)) (kK E a i 1) (kK E a i 2) (102 : Nat)) = false → kpN (fun q_ => entV (ofL (bk d)) (IntKind.u32.wrap (kK E a i 1)) (kK E a i 2) q_) 45 0 (kpN (fun q_ => rsusV (ofL (rk
      r)) (kK E a i 1) (kK E a i 2) q_) 103 0 (decide (kK E a i 0 = kK E a i 0) = true ∧ decide (kK E a i 1 = kK E a i 1) = true ∧ decide (kK E a i 2 = kK E a i 2) = true ∧
      decide (kK E a i 0 = kK E a i 0) = true ∧ decide (kK E a i 1 = kK E a i 1) = true ∧ decide (kK E a i 2 = kK E a i 2) = true ∧ kpN (fun q_ => entV (ofL (bk d))
      (IntKind.u32.wrap (kK E a i 1)) (kK E a i 2) q_) 45 0 (kpN (fun q_ => rsusV (ofL (rk r)) (kK E a i 1) (kK E a i 2) q_) 103 0 (decide (kK E a i 0 = kK E a i 0) = true ∧
      decide (kK E a i 1 = kK E a i 1) = true ∧ decide (kK E a i 2 = kK E a i 2) = true ∧ decide (kK E a i 0 = kK E a i 0) = true ∧ decide (kK E a i 1 = kK E a i 1) = true ∧
      decide (kK E a i 2 = kK E a i 2) = true ∧ ((savV (ofL (bk (entV (ofL (bk d)) (IntKind.u32.wrap (kK E a i 1)) (kK E a i 2)))) != rsavV (ofL (rk (rsusV (ofL (rk r)) (kK E a
      i 1) (kK E a i 2))))) = true → false = true) ∧ ((savV (ofL (bk (entV (ofL (bk d)) (IntKind.u32.wrap (kK E a i 1)) (kK E a i 2)))) != rsavV (ofL (rk (rsusV (ofL (rk r)) (kK
      E a i 1) (kK E a i 2))))) = false → (59 : Nat) = (59 : Nat) ∧ (37 : Nat) = (37 : Nat) ∧ wfL (45 : Nat) (bk (entV (ofL (bk d)) (IntKind.u32.wrap (kK E a i 1)) (kK E a i
      2))) = true ∧ wfL (103 : Nat) (rk (rsusV (ofL (rk r)) (kK E a i 1) (kK E a i 2))) = true ∧ ∃ (k : Nat), i < n ∧ k ≤ (16 : Nat) ∧ (0 : Nat) ≤ k ∧ Holds (rel (ofL (bk (entV
      (ofL (bk d)) (IntKind.u32.wrap (kK E a i 1)) (kK E a i 2)))) (ofL (rk (rsusV (ofL (rk r)) (kK E a i 1) (kK E a i 2))))) ∧ hdb3 E = hdb3 E ∧ (99 : Nat) = (99 : Nat) ∧ C.p
      (0 : Nat) (0 : Nat) = C.p (0 : Nat) (0 : Nat) ∧ C.p (1 : Nat) (0 : Nat) = C.p (1 : Nat) (0 : Nat) ∧ C.es a n c = C.es a n c ∧ (IntKind.i64 = IntKind.i64 ∧ (↑n : Int) = (↑n
      : Int)) ∧ (IntKind.i64 = IntKind.i64 ∧ (↑i : Int) = (↑i : Int)) ∧ IntKind.i64 = IntKind.i64 ∧ (0 : Int) = (↑k : Int)))))))))) ∧ ((kK E a i 0 == (3 : Int)) = false → ((kK E
      a i 0 == (4 : Int)) = true → kpN (fun q_ => entV (ofL (bk d)) (IntKind.u32.wrap (kK E a i 1)) (kK E a i 2) q_) 45 0 (kpN (fun q_ => rentV (ofL (rk r)) (IntKind.u32.wrap
      (kK E a i 1)) (kK E a i 2) q_) 103 0 (decide (kK E a i 0 = kK E a i 0) = true ∧ decide (kK E a i 1 = kK E a i 1) = true ∧ decide (kK E a i 2 = kK E a i 2) = true ∧ decide
      (kK E a i 0 = kK E a i 0) = true ∧ decide (kK E a i 1 = kK E a i 1) = true ∧ decide (kK E a i 2 = kK E a i 2) = true ∧ ((entV (ofL (bk d)) (IntKind.u32.wrap (kK E a i 1))
      (kK E a i 2) (0 : Nat) != rentV (ofL (rk r)) (IntKind.u32.wrap (kK E a i 1)) (kK E a i 2) (102 : Nat)) = true → false = true) ∧ ((entV (ofL (bk d)) (IntKind.u32.wrap (kK E
      a i 1)) (kK E a i 2) (0 : Nat) != rentV (ofL (rk r)) (IntKind.u32.wrap (kK E a i 1)) (kK E a i 2) (102 : Nat)) = false → kpN (fun q_ => entV (ofL (bk d)) (IntKind.u32.wrap
      (kK E a i 1)) (kK E a i 2) q_) 45 0 (kpN (fun q_ => rentV (ofL (rk r)) (IntKind.u32.wrap (kK E a i 1)) (kK E a i 2) q_) 103 0 (decide (kK E a i 0 = kK E a i 0) = true ∧
      decide (kK E a i 1 = kK E a i 1) = true ∧ decide (kK E a i 2 = kK E a i 2) = true ∧ decide (kK E a i 0 = kK E a i 0) = true ∧ decide (kK E a i 1 = kK E a i 1) = true ∧
      decide (kK E a i 2 = kK E a i 2) = true ∧ kpN (fun q_ => entV (ofL (bk d)) (IntKind.u32.wrap (kK E a i 1)) (kK E a i 2) q_) 45 0 (kpN (fun q_ => rentV (ofL (rk r))
      (IntKind.u32.wrap (kK E a i 1)) (kK E a i 2) q_) 103 0 (decide (kK E a i 0 = kK E a i 0) = true ∧ decide (kK E a i 1 = kK E a i 1) = true ∧ decide (kK E a i 2 = kK E a i
      2) = true ∧ decide (kK E a i 0 = kK E a i 0) = true ∧ decide (kK E a i 1 = kK E a i 1) = true ∧ decide (kK E a i 2 = kK E a i 2) = true ∧ ((savV (ofL (bk (entV (ofL (bk
      d)) (IntKind.u32.wrap (kK E a i 1)) (kK E a i 2)))) != rsavV (ofL (rk (rentV (ofL (rk r)) (IntKind.u32.wrap (kK E a i 1)) (kK E a i 2))))) = true → false = true) ∧ ((savV
      (ofL (bk (entV (ofL (bk d)) (IntKind.u32.wrap (kK E a i 1)) (kK E a i 2)))) != rsavV (ofL (rk (rentV (ofL (rk r)) (IntKind.u32.wrap (kK E a i 1)) (kK E a i 2))))) = false
      → (59 : Nat) = (59 : Nat) ∧ (37 : Nat) = (37 : Nat) ∧ wfL (45 : Nat) (bk (entV (ofL (bk d)) (IntKind.u32.wrap (kK E a i 1)) (kK E a i 2))) = true ∧ wfL (103 : Nat) (rk
      (rentV (ofL (rk r)) (IntKind.u32.wrap (kK E a i 1)) (kK E a i 2))) = true ∧ ∃ (k : Nat), i < n ∧ k ≤ (16 : Nat) ∧ (0 : Nat) ≤ k ∧ Holds (rel (ofL (bk (entV (ofL (bk d))
      (IntKind.u32.wrap (kK E a i 1)) (kK E a i 2)))) (ofL (rk (rentV (ofL (rk r)) (IntKind.u32.wrap (kK E a i 1)) (kK E a i 2))))) ∧ hdb3 E = hdb3 E ∧ (99 : Nat) = (99 : Nat) ∧
      C.p (0 : Nat) (0 : Nat) = C.p (0 : Nat) (0 : Nat) ∧ C.p (1 : Nat) (0 : Nat) = C.p (1 : Nat) (0 : Nat) ∧ C.es a n c = C.es a n c ∧ (IntKind.i64 = IntKind.i64 ∧ (↑n : Int) =
      (↑n : Int)) ∧ (IntKind.i64 = IntKind.i64 ∧ (↑i : Int) = (↑i : Int)) ∧ IntKind.i64 = IntKind.i64 ∧ (0 : Int) = (↑k : Int)))))))))) ∧ ((kK E a i 0 == (4 : Int)) = false →
      kpN (fun q_ => entV (ofL (bk d)) (IntKind.u32.wrap (kK E a i 1)) (kK E a i 2) q_) 45 0 (kpN (fun q_ => r q_) 103 0 (decide (kK E a i 0 = kK E a i 0) = true ∧ decide (kK E
      a i 1 = kK E a i 1) = true ∧ decide (kK E a i 2 = kK E a i 2) = true ∧ decide (kK E a i 0 = kK E a i 0) = true ∧ decide (kK E a i 1 = kK E a i 1) = true ∧ decide (kK E a i
      2 = kK E a i 2) = true ∧ ((entV (ofL (bk d)) (IntKind.u32.wrap (kK E a i 1)) (kK E a i 2) (0 : Nat) != r (102 : Nat)) = true → false = true) ∧ ((entV (ofL (bk d))
      (IntKind.u32.wrap (kK E a i 1)) (kK E a i 2) (0 : Nat) != r (102 : Nat)) = false → kpN (fun q_ => entV (ofL (bk d)) (IntKind.u32.wrap (kK E a i 1)) (kK E a i 2) q_) 45 0
      (kpN (fun q_ => r q_) 103 0 (decide (kK E a i 0 = kK E a i 0) = true ∧ decide (kK E a i 1 = kK E a i 1) = true ∧ decide (kK E a i 2 = kK E a i 2) = true ∧ decide (kK E a i
      0 = kK E a i 0) = true ∧ decide (kK E a i 1 = kK E a i 1) = true ∧ decide (kK E a i 2 = kK E a i 2) = true ∧ kpN (fun q_ => entV (ofL (bk d)) (IntKind.u32.wrap (kK E a i
      1)) (kK E a i 2) q_) 45 0 (kpN (fun q_ => r q_) 103 0 (decide (kK E a i 0 = kK E a i 0) = true ∧ decide (kK E a i 1 = kK E a i 1) = true ∧ decide (kK E a i 2 = kK E a i 2)
      = true ∧ decide (kK E a i 0 = kK E a i 0) = true ∧ decide (kK E a i 1 = kK E a i 1) = true ∧ decide (kK E a i 2 = kK E a i 2) = true ∧ ((savV (ofL (bk (entV (ofL (bk d))
      (IntKind.u32.wrap (kK E a i 1)) (kK E a i 2)))) != rsavV (ofL (rk r))) = true → false = true) ∧ ((savV (ofL (bk (entV (ofL (bk d)) (IntKind.u32.wrap (kK E a i 1)) (kK E a
      i 2)))) != rsavV (ofL (rk r))) = false → (59 : Nat) = (59 : Nat) ∧ (37 : Nat) = (37 : Nat) ∧ wfL (45 : Nat) (bk (entV (ofL (bk d)) (IntKind.u32.wrap (kK E a i 1)) (kK E a
      i 2))) = true ∧ wfL (103 : Nat) (rk r) = true ∧ ∃ (k : Nat), i < n ∧ k ≤ (16 : Nat) ∧ (0 : Nat) ≤ k ∧ Holds (rel (ofL (bk (entV (ofL (bk d)) (IntKind.u32.wrap (kK E a i
      1)) (kK E a i 2)))) (ofL (rk r))) ∧ hdb3 E = hdb3 E ∧ (99 : Nat) = (99 : Nat) ∧ C.p (0 : Nat) (0 : Nat) = C.p (0 : Nat) (0 : Nat) ∧ C.p (1 : Nat) (0 : Nat) = C.p (1 : Nat)
      (0 : Nat) ∧ C.es a n c = C.es a n c ∧ (IntKind.i64 = IntKind.i64 ∧ (↑n : Int) = (↑n : Int)) ∧ (IntKind.i64 = IntKind.i64 ∧ (↑i : Int) = (↑i : Int)) ∧ IntKind.i64 =
      IntKind.i64 ∧ (0 : Int) = (↑k : Int))))))))))))))) ∧ ((kK E a i 0 == (4 : Int)) = false → ((kK E a i 0 == (0 : Int)) = true → kpN (fun q_ => d q_) 45 0 (kpN (fun q_ =>
      rsetV (ofL (rk r)) (kK E a i 1) (kK E a i 2) q_) 103 0 (decide (kK E a i 0 = kK E a i 0) = true ∧ decide (kK E a i 1 = kK E a i 1) = true ∧ decide (kK E a i 2 = kK E a i
      2) = true ∧ decide (kK E a i 0 = kK E a i 0) = true ∧ decide (kK E a i 1 = kK E a i 1) = true ∧ decide (kK E a i 2 = kK E a i 2) = true ∧ ((d (0 : Nat) != rsetV (ofL (rk
      r)) (kK E a i 1) (kK E a i 2) (102 : Nat)) = true → false = true) ∧ ((d (0 : Nat) != rsetV (ofL (rk r)) (kK E a i 1) (kK E a i 2) (102 : Nat)) = false → kpN (fun q_ => d
      q_) 45 0 (kpN (fun q_ => rsetV (ofL (rk r)) (kK E a i 1) (kK E a i 2) q_) 103 0 (decide (kK E a i 0 = kK E a i 0) = true ∧ decide (kK E a i 1 = kK E a i 1) = true ∧ decide
      (kK E a i 2 = kK E a i 2) = true ∧ decide (kK E a i 0 = kK E a i 0) = true ∧ decide (kK E a i 1 = kK E a i 1) = true ∧ decide (kK E a i 2 = kK E a i 2) = true ∧ kpN (fun
      q_ => d q_) 45 0 (kpN (fun q_ => rsetV (ofL (rk r)) (kK E a i 1) (kK E a i 2) q_) 103 0 (decide (kK E a i 0 = kK E a i 0) = true ∧ decide (kK E a i 1 = kK E a i 1) = true
      ∧ decide (kK E a i 2 = kK E a i 2) = true ∧ decide (kK E a i 0 = kK E a i 0) = true ∧ decide (kK E a i 1 = kK E a i 1) = true ∧ decide (kK E a i 2 = kK E a i 2) = true ∧
      ((savV (ofL (bk d)) != rsavV (ofL (rk (rsetV (ofL (rk r)) (kK E a i 1) (kK E a i 2))))) = true → false = true) ∧ ((savV (ofL (bk d)) != rsavV (ofL (rk (rsetV (ofL (rk r))
      (kK E a i 1) (kK E a i 2))))) = false → (59 : Nat) = (59 : Nat) ∧ (37 : Nat) = (37 : Nat) ∧ wfL (45 : Nat) (bk d) = true ∧ wfL (103 : Nat) (rk (rsetV (ofL (rk r)) (kK E a
      i 1) (kK E a i 2))) = true ∧ ∃ (k : Nat), i < n ∧ k ≤ (16 : Nat) ∧ (0 : Nat) ≤ k ∧ Holds (rel (ofL (bk d)) (ofL (rk (rsetV (ofL (rk r)) (kK E a i 1) (kK E a i 2))))) ∧
      hdb3 E = hdb3 E ∧ (99 : Nat) = (99 : Nat) ∧ C.p (0 : Nat) (0 : Nat) = C.p (0 : Nat) (0 : Nat) ∧ C.p (1 : Nat) (0 : Nat) = C.p (1 : Nat) (0 : Nat) ∧ C.es a n c = C.es a n c
      ∧ (IntKind.i64 = IntKind.i64 ∧ (↑n : Int) = (↑n : Int)) ∧ (IntKind.i64 = IntKind.i64 ∧ (↑i : Int) = (↑i : Int)) ∧ IntKind.i64 = IntKind.i64 ∧ (0 : Int) = (↑k :
      Int)))))))))) ∧ ((kK E a i 0 == (0 : Int)) = false → ((kK E a i 0 == (1 : Int)) = true → kpN (fun q_ => d q_) 45 0 (kpN (fun q_ => r q_) 102 0 (decide (kK E a i 2 = kK E a
      i 2) = true ∧ decide (kK E a i 0 = kK E a i 0) = true ∧ decide (kK E a i 1 = kK E a i 1) = true ∧ decide (kK E a i 2 = kK E a i 2) = true ∧ decide (kK E a i 0 = kK E a i
      0) = true ∧ decide (kK E a i 1 = kK E a i 1) = true ∧ decide (kK E a i 2 = kK E a i 2) = true ∧ ((d (0 : Nat) != kK E a i 2) = true → false = true) ∧ ((d (0 : Nat) != kK E
      a i 2) = false → kpN (fun q_ => d q_) 45 0 (kpN (fun q_ => r q_) 102 0 (decide (kK E a i 2 = kK E a i 2) = true ∧ decide (kK E a i 0 = kK E a i 0) = true ∧ decide (kK E a
      i 1 = kK E a i 1) = true ∧ decide (kK E a i 2 = kK E a i 2) = true ∧ decide (kK E a i 0 = kK E a i 0) = true ∧ decide (kK E a i 1 = kK E a i 1) = true ∧ decide (kK E a i 2
      = kK E a i 2) = true ∧ kpN (fun q_ => d q_) 45 0 (kpN (fun q_ => r q_) 102 0 (decide (kK E a i 2 = kK E a i 2) = true ∧ decide (kK E a i 0 = kK E a i 0) = true ∧ decide
      (kK E a i 1 = kK E a i 1) = true ∧ decide (kK E a i 2 = kK E a i 2) = true ∧ decide (kK E a i 0 = kK E a i 0) = true ∧ decide (kK E a i 1 = kK E a i 1) = true ∧ decide (kK
      E a i 2 = kK E a i 2) = true ∧ ((savV (ofL (bk d)) != rsavV (ofL (rkS r (kK E a i 2)))) = true → false = true) ∧ ((savV (ofL (bk d)) != rsavV (ofL (rkS r (kK E a i 2)))) =
      false → (59 : Nat) = (59 : Nat) ∧ (37 : Nat) = (37 : Nat) ∧ wfL (45 : Nat) (bk d) = true ∧ wfL (103 : Nat) (rkS r (kK E a i 2)) = true ∧ ∃ (k : Nat), i < n ∧ k ≤ (16 :
      Nat) ∧ (0 : Nat) ≤ k ∧ Holds (rel (ofL (bk d)) (ofL [C.i false IntKind.u32 (r (0 : Nat)), C.i false IntKind.u32 (r (1 : Nat)), C.i false IntKind.u32 (r (2 : Nat)), C.i
      false IntKind.u32 (r (3 : Nat)), C.i false IntKind.u32 (r (4 : Nat)), C.i false IntKind.u32 (r (5 : Nat)), C.i false IntKind.u32 (r (6 : Nat)), C.i false IntKind.u32 (r (7
      : Nat)), C.i false IntKind.u32 (r (8 : Nat)), C.i false IntKind.u32 (r (9 : Nat)), C.i false IntKind.u32 (r (10 : Nat)), C.i false IntKind.u32 (r (11 : Nat)), C.i false
      IntKind.u32 (r (12 : Nat)), C.i false IntKind.u32 (r (13 : Nat)), C.i false IntKind.u32 (r (14 : Nat)), C.i false IntKind.u32 (r (15 : Nat)), C.i false IntKind.u32 (r (16
      : Nat)), C.i false IntKind.u32 (r (17 : Nat)), C.i false IntKind.u32 (r (18 : Nat)), C.i false IntKind.u32 (r (19 : Nat)), C.i false IntKind.u32 (r (20 : Nat)), C.i false
      IntKind.u32 (r (21 : Nat)), C.i false IntKind.u32 (r (22 : Nat)), C.i false IntKind.u32 (r (23 : Nat)), C.i false IntKind.u32 (r (24 : Nat)), C.i false IntKind.u32 (r (25
      : Nat)), C.i false IntKind.u32 (r (26 : Nat)), C.i false IntKind.u32 (r (27 : Nat)), C.i false IntKind.u32 (r (28 : Nat)), C.i false IntKind.u32 (r (29 : Nat)), C.i false
      IntKind.u32 (r (30 : Nat)), C.i false IntKind.u32 (r (31 : Nat)), C.i false IntKind.u32 (r (32 : Nat)), C.i false IntKind.u32 (r (33 : Nat)), C.i false IntKind.u32 (r (34
      : Nat)), C.i false IntKind.u32 (r (35 : Nat)), C.i false IntKind.u32 (r (36 : Nat)), C.i false IntKind.u32 (r (37 : Nat)), C.i false IntKind.u32 (r (38 : Nat)), C.i false
      IntKind.u32 (r (39 : Nat)), C.i false IntKind.u32 (r (40 : Nat)), C.i false IntKind.u32 (r (41 : Nat)), C.i false IntKind.u32 (r (42 : Nat)), C.i false IntKind.u32 (r (43
      : Nat)), C.i false IntKind.u32 (r (44 : Nat)), C.i false IntKind.u32 (r (45 : Nat)), C.i false IntKind.u32 (r (46 : Nat)), C.i false IntKind.u32 (r (47 : Nat)), C.i false
      IntKind.u32 (r (48 : Nat)), C.i false IntKind.u32 (r (49 : Nat)), C.i false IntKind.u32 (r (50 : Nat)), C.i false IntKind.u32 (r (51 : Nat)), C.i false IntKind.u32 (r (52
      : Nat)), C.i false IntKind.u32 (r (53 : Nat)), C.i false IntKind.u32 (r (54 : Nat)), C.i false IntKind.u32 (r (55 : Nat)), C.i false IntKind.u32 (r (56 : Nat)), C.i false
      IntKind.u32 (r (57 : Nat)), C.i false IntKind.u32 (r (58 : Nat)), C.i false IntKind.u32 (r (59 : Nat)), C.i false IntKind.u32 (r (60 : Nat)), C.i false IntKind.u32 (r (61
      : Nat)), C.i false IntKind.u32 (r (62 : Nat)), C.i false IntKind.u32 (r (63 : Nat)), C.i false IntKind.u32 (r (64 : Nat)), C.i false IntKind.u32 (r (65 : Nat)), C.i false
      IntKind.u32 (r (66 : Nat)), C.i false IntKind.u32 (r (67 : Nat)), C.i false IntKind.u32 (r (68 : Nat)), C.i false IntKind.u32 (r (69 : Nat)), C.i false IntKind.u32 (r (70
      : Nat)), C.i false IntKind.u32 (r (71 : Nat)), C.i false IntKind.u32 (r (72 : Nat)), C.i false IntKind.u32 (r (73 : Nat)), C.i false IntKind.u32 (r (74 : Nat)), C.i false
      IntKind.u32 (r (75 : Nat)), C.i false IntKind.u32 (r (76 : Nat)), C.i false IntKind.u32 (r (77 : Nat)), C.i false IntKind.u32 (r (78 : Nat)), C.i false IntKind.u32 (r (79
      : Nat)), C.i false IntKind.u32 (r (80 : Nat)), C.i false IntKind.u32 (r (81 : Nat)), C.i false IntKind.u32 (r (82 : Nat)), C.i false IntKind.u32 (r (83 : Nat)), C.i false
      IntKind.u32 (r (84 : Nat)), C.i false IntKind.u32 (r (85 : Nat)), C.i false IntKind.u32 (r (86 : Nat)), C.i false IntKind.u32 (r (87 : Nat)), C.i false IntKind.u32 (r (88
      : Nat)), C.i false IntKind.u32 (r (89 : Nat)), C.i false IntKind.u32 (r (90 : Nat)), C.i false IntKind.u32 (r (91 : Nat)), C.i false IntKind.u32 (r (92 : Nat)), C.i false
      IntKind.u32 (r (93 : Nat)), C.i false IntKind.u32 (r (94 : Nat)), C.i false IntKind.u32 (r (95 : Nat)), C.i false IntKind.u32 (r (96 : Nat)), C.i false IntKind.u32 (r (97
      : Nat)), C.i false IntKind.u32 (r (98 : Nat)), C.i false IntKind.u32 (r (99 : Nat)), C.i false IntKind.u32 (r (100 : Nat)), C.i false IntKind.u32 (r (101 : Nat)), eC E a
      ((↑i : Int).toNat * (nat_lit 2 + (1 : Nat)) + (nat_lit 1 + (1 : Nat))) (EK.i IntKind.u32)])) ∧ hdb3 E = hdb3 E ∧ (99 : Nat) = (99 : Nat) ∧ C.p (0 : Nat) (0 : Nat) = C.p (0
      : Nat) (0 : Nat) ∧ C.p (1 : Nat) (0 : Nat) = C.p (1 : Nat) (0 : Nat) ∧ C.es a n c = C.es a n c ∧ (IntKind.i64 = IntKind.i64 ∧ (↑n : Int) = (↑n : Int)) ∧ (IntKind.i64 =
      IntKind.i64 ∧ (↑i : Int) = (↑i : Int)) ∧ IntKind.i64 = IntKind.i64 ∧ (0 : Int) = (↑k : Int)))))))))) ∧ ((kK E a i 0 == (1 : Int)) = false → ((kK E a i 0 == (2 : Int)) =
      true → kpN (fun q_ => d q_) 45 0 (kpN (fun q_ => rssvV (ofL (rk r)) (kK E a i 2) q_) 103 0 (decide (kK E a i 0 = kK E a i 0) = true ∧ decide (kK E a i 1 = kK E a i 1) =
      true ∧ decide (kK E a i 2 = kK E a i 2) = true ∧ decide (kK E a i 0 = kK E a i 0) = true ∧ decide (kK E a i 1 = kK E a i 1) = true ∧ decide (kK E a i 2 = kK E a i 2) =
      true ∧ ((d (0 : Nat) != rssvV (ofL (rk r)) (kK E a i 2) (102 : Nat)) = true → false = true) ∧ ((d (0 : Nat) != rssvV (ofL (rk r)) (kK E a i 2) (102 : Nat)) = false → kpN
      (fun q_ => d q_) 45 0 (kpN (fun q_ => rssvV (ofL (rk r)) (kK E a i 2) q_) 103 0 (decide (kK E a i 0 = kK E a i 0) = true ∧ decide (kK E a i 1 = kK E a i 1) = true ∧ decide
      (kK E a i 2 = kK E a i 2) = true ∧ decide (kK E a i 0 = kK E a i 0) = true ∧ decide (kK E a i 1 = kK E a i 1) = true ∧ decide (kK E a i 2 = kK E a i 2) = true ∧ kpN (fun
      q_ => d q_) 45 0 (kpN (fun q_ => rssvV (ofL (rk r)) (kK E a i 2) q_) 103 0 (decide (kK E a i 0 = kK E a i 0) = true ∧ decide (kK E a i 1 = kK E a i 1) = true ∧ decide (kK
      E a i 2 = kK E a i 2) = true ∧ decide (kK E a i 0 = kK E a i 0) = true ∧ decide (kK E a i 1 = kK E a i 1) = true ∧ decide (kK E a i 2 = kK E a i 2) = true ∧ ((savV (ofL
      (bk d)) != rsavV (ofL (rk (rssvV (ofL (rk r)) (kK E a i 2))))) = true → false = true) ∧ ((savV (ofL (bk d)) != rsavV (ofL (rk (rssvV (ofL (rk r)) (kK E a i 2))))) = false
      → (59 : Nat) = (59 : Nat) ∧ (37 : Nat) = (37 : Nat) ∧ wfL (45 : Nat) (bk d) = true ∧ wfL (103 : Nat) (rk (rssvV (ofL (rk r)) (kK E a i 2))) = true ∧ ∃ (k : Nat), i < n ∧ k
      ≤ (16 : Nat) ∧ (0 : Nat) ≤ k ∧ Holds (rel (ofL (bk d)) (ofL (rk (rssvV (ofL (rk r)) (kK E a i 2))))) ∧ hdb3 E = hdb3 E ∧ (99 : Nat) = (99 : Nat) ∧ C.p (0 : Nat) (0 : Nat)
      = C.p (0 : Nat) (0 : Nat) ∧ C.p (1 : Nat) (0 : Nat) = C.p (1 : Nat) (0 : Nat) ∧ C.es a n c = C.es a n c ∧ (IntKind.i64 = IntKind.i64 ∧ (↑n : Int) = (↑n : Int)) ∧
      (IntKind.i64 = IntKind.i64 ∧ (↑i : Int) = (↑i : Int)) ∧ IntKind.i64 = IntKind.i64 ∧ (0 : Int) = (↑k : Int)))))))))) ∧ ((kK E a i 0 == (2 : Int)) = false → ((kK E a i 0 ==
      (3 : Int)) = true → kpN (fun q_ => d q_) 45 0 (kpN (fun q_ => rsusV (ofL (rk r)) (kK E a i 1) (kK E a i 2) q_) 103 0 (decide (kK E a i 0 = kK E a i 0) = true ∧ decide (kK
      E a i 1 = kK E a i 1) = true ∧ decide (kK E a i 2 = kK E a i 2) = true ∧ decide (kK E a i 0 = kK E a i 0) = true ∧ decide (kK E a i 1 = kK E a i 1) = true ∧ decide (kK E a
      i 2 = kK E a i 2) = true ∧ ((d (0 : Nat) != rsusV (ofL (rk r)) (kK E a i 1) (kK E a i 2) (102 : Nat)) = true → false = true) ∧ ((d (0 : Nat) != rsusV (ofL (rk r)) (kK E a
      i 1) (kK E a i 2) (102 : Nat)) = false → kpN (fun q_ => d q_) 45 0 (kpN (fun q_ => rsusV (ofL (rk r)) (kK E a i 1) (kK E a i 2) q_) 103 0 (decide (kK E a i 0 = kK E a i 0)
      = true ∧ decide (kK E a i 1 = kK E a i 1) = true ∧ decide (kK E a i 2 = kK E a i 2) = true ∧ decide (kK E a i 0 = kK E a i 0) = true ∧ decide (kK E a i 1 = kK E a i 1) =
      true ∧ decide (kK E a i 2 = kK E a i 2) = true ∧ kpN (fun q_ => d q_) 45 0 (kpN (fun q_ => rsusV (ofL (rk r)) (kK E a i 1) (kK E a i 2) q_) 103 0 (decide (kK E a i 0 = kK
      E a i 0) = true ∧ decide (kK E a i 1 = kK E a i 1) = true ∧ decide (kK E a i 2 = kK E a i 2) = true ∧ decide (kK E a i 0 = kK E a i 0) = true ∧ decide (kK E a i 1 = kK E a
      i 1) = true ∧ decide (kK E a i 2 = kK E a i 2) = true ∧ ((savV (ofL (bk d)) != rsavV (ofL (rk (rsusV (ofL (rk r)) (kK E a i 1) (kK E a i 2))))) = true → false = true) ∧
      ((savV (ofL (bk d)) != rsavV (ofL (rk (rsusV (ofL (rk r)) (kK E a i 1) (kK E a i 2))))) = false → (59 : Nat) = (59 : Nat) ∧ (37 : Nat) = (37 : Nat) ∧ wfL (45 : Nat) (bk d)
      = true ∧ wfL (103 : Nat) (rk (rsusV (ofL (rk r)) (kK E a i 1) (kK E a i 2))) = true ∧ ∃ (k : Nat), i < n ∧ k ≤ (16 : Nat) ∧ (0 : Nat) ≤ k ∧ Holds (rel (ofL (bk d)) (ofL
      (rk (rsusV (ofL (rk r)) (kK E a i 1) (kK E a i 2))))) ∧ hdb3 E = hdb3 E ∧ (99 : Nat) = (99 : Nat) ∧ C.p (0 : Nat) (0 : Nat) = C.p (0 : Nat) (0 : Nat) ∧ C.p (1 : Nat) (0 :
      Nat) = C.p (1 : Nat) (0 : Nat) ∧ C.es a n c = C.es a n c ∧ (IntKind.i64 = IntKind.i64 ∧ (↑n : Int) = (↑n : Int)) ∧ (IntKind.i64 = IntKind.i64 ∧ (↑i : Int) = (↑i : Int)) ∧
      IntKind.i64 = IntKind.i64 ∧ (0 : Int) = (↑k : Int)))))))))) ∧ ((kK E a i 0 == (3 : Int)) = false → ((kK E a i 0 == (4 : Int)) = true → kpN (fun q_ => d q_) 45 0 (kpN (fun
      q_ => rentV (ofL (rk r)) (IntKind.u32.wrap (kK E a i 1)) (kK E a i 2) q_) 103 0 (decide (kK E a i 0 = kK E a i 0) = true ∧ decide (kK E a i 1 = kK E a i 1) = true ∧ decide
      (kK E a i 2 = kK E a i 2) = true ∧ decide (kK E a i 0 = kK E a i 0) = true ∧ decide (kK E a i 1 = kK E a i 1) = true ∧ decide (kK E a i 2 = kK E a i 2) = true ∧ ((d (0 :
      Nat) != rentV (ofL (rk r)) (IntKind.u32.wrap (kK E a i 1)) (kK E a i 2) (102 : Nat)) = true → false = true) ∧ ((d (0 : Nat) != rentV (ofL (rk r)) (IntKind.u32.wrap (kK E a
      i 1)) (kK E a i 2) (102 : Nat)) = false → kpN (fun q_ => d q_) 45 0 (kpN (fun q_ => rentV (ofL (rk r)) (IntKind.u32.wrap (kK E a i 1)) (kK E a i 2) q_) 103 0 (decide (kK E
      a i 0 = kK E a i 0) = true ∧ decide (kK E a i 1 = kK E a i 1) = true ∧ decide (kK E a i 2 = kK E a i 2) = true ∧ decide (kK E a i 0 = kK E a i 0) = true ∧ decide (kK E a i
      1 = kK E a i 1) = true ∧ decide (kK E a i 2 = kK E a i 2) = true ∧ kpN (fun q_ => d q_) 45 0 (kpN (fun q_ => rentV (ofL (rk r)) (IntKind.u32.wrap (kK E a i 1)) (kK E a i
      2) q_) 103 0 (decide (kK E a i 0 = kK E a i 0) = true ∧ decide (kK E a i 1 = kK E a i 1) = true ∧ decide (kK E a i 2 = kK E a i 2) = true ∧ decide (kK E a i 0 = kK E a i
      0) = true ∧ decide (kK E a i 1 = kK E a i 1) = true ∧ decide (kK E a i 2 = kK E a i 2) = true ∧ ((savV (ofL (bk d)) != rsavV (ofL (rk (rentV (ofL (rk r)) (IntKind.u32.wrap
      (kK E a i 1)) (kK E a i 2))))) = true → false = true) ∧ ((savV (ofL (bk d)) != rsavV (ofL (rk (rentV (ofL (rk r)) (IntKind.u32.wrap (kK E a i 1)) (kK E a i 2))))) = false
      → (59 : Nat) = (59 : Nat) ∧ (37 : Nat) = (37 : Nat) ∧ wfL (45 : Nat) (bk d) = true ∧ wfL (103 : Nat) (rk (rentV (ofL (rk r)) (IntKind.u32.wrap (kK E a i 1)) (kK E a i 2)))
      = true ∧ ∃ (k : Nat), i < n ∧ k ≤ (16 : Nat) ∧ (0 : Nat) ≤ k ∧ Holds (rel (ofL (bk d)) (ofL (rk (rentV (ofL (rk r)) (IntKind.u32.wrap (kK E a i 1)) (kK E a i 2))))) ∧ hdb3
      E = hdb3 E ∧ (99 : Nat) = (99 : Nat) ∧ C.p (0 : Nat) (0 : Nat) = C.p (0 : Nat) (0 : Nat) ∧ C.p (1 : Nat) (0 : Nat) = C.p (1 : Nat) (0 : Nat) ∧ C.es a n c = C.es a n c ∧
      (IntKind.i64 = IntKind.i64 ∧ (↑n : Int) = (↑n : Int)) ∧ (IntKind.i64 = IntKind.i64 ∧ (↑i : Int) = (↑i : Int)) ∧ IntKind.i64 = IntKind.i64 ∧ (0 : Int) = (↑k : Int))))))))))
      ∧ ((kK E a i 0 == (4 : Int)) = false → kpN (fun q_ => d q_) 45 0 (kpN (fun q_ => r q_) 103 0 (decide (kK E a i 0 = kK E a i 0) = true ∧ decide (kK E a i 1 = kK E a i 1) =
      true ∧ decide (kK E a i 2 = kK E a i 2) = true ∧ decide (kK E a i 0 = kK E a i 0) = true ∧ decide (kK E a i 1 = kK E a i 1) = true ∧ decide (kK E a i 2 = kK E a i 2) =
      true ∧ ((d (0 : Nat) != r (102 : Nat)) = true → false = true) ∧ ((d (0 : Nat) != r (102 : Nat)) = false → kpN (fun q_ => d q_) 45 0 (kpN (fun q_ => r q_) 103 0 (decide (kK
      E a i 0 = kK E a i 0) = true ∧ decide (kK E a i 1 = kK E a i 1) = true ∧ decide (kK E a i 2 = kK E a i 2) = true ∧ decide (kK E a i 0 = kK E a i 0) = true ∧ decide (kK E a
      i 1 = kK E a i 1) = true ∧ decide (kK E a i 2 = kK E a i 2) = true ∧ kpN (fun q_ => d q_) 45 0 (kpN (fun q_ => r q_) 103 0 (decide (kK E a i 0 = kK E a i 0) = true ∧
      decide (kK E a i 1 = kK E a i 1) = true ∧ decide (kK E a i 2 = kK E a i 2) = true ∧ decide (kK E a i 0 = kK E a i 0) = true ∧ decide (kK E a i 1 = kK E a i 1) = true ∧
      decide (kK E a i 2 = kK E a i 2) = true ∧ ((savV (ofL (bk d)) != rsavV (ofL (rk r))) = true → false = true) ∧ ((savV (ofL (bk d)) != rsavV (ofL (rk r))) = false → (59 :
      Nat) = (59 : Nat) ∧ (37 : Nat) = (37 : Nat) ∧ wfL (45 : Nat) (bk d) = true ∧ wfL (103 : Nat) (rk r) = true ∧ ∃ (k : Nat), i < n ∧ k ≤ (16 : Nat) ∧ (0 : Nat) ≤ k ∧ Holds
      (rel (ofL (bk d)) (ofL (rk r))) ∧ hdb3 E = hdb3 E ∧ (99 : Nat) = (99 : Nat) ∧ C.p (0 : Nat) (0 : Nat) = C.p (0 : Nat) (0 : Nat) ∧ C.p (1 : Nat) (0 : Nat) = C.p (1 : Nat)
      (0 : Nat) ∧ C.es a n c = C.es a n c ∧ (IntKind.i64 = IntKind.i64 ∧ (↑n : Int) = (↑n : Int)) ∧ (IntKind.i64 = IntKind.i64 ∧ (↑i : Int) = (↑i : Int)) ∧ IntKind.i64 =
      IntKind.i64 ∧ (0 : Int) = (↑k : Int))))))))))))))))))))) ∧ (decide ((↑i : Int) < (↑n : Int)) = false → true = true)) := by kernel_rfl
theorem runs_inner (E : World) (a : Option Addr) (n c : Nat) (i k : Nat) (d r : Nat → Int) :
    (loopP (pe E) Try.f3 (fun v _ => SV.sim v (.c (.b false true))) (Q3 E a n c i k) (run (pe E) (orcX E) (tabL fns) 20000 (2^200-1) (hdb3 E) (mkL Try.f3.ntmps (lb3 a n c i k)) [⟨bk d, 59⟩, ⟨rk r, 37⟩])) =
    ((decide ((↑k : Int) < (16 : Int)) = true → ((getV (ofL (bk d)) (↑k : Int) != rgetV (ofL (rk r)) (↑k : Int)) = true → false = true) ∧ ((getV (ofL (bk d)) (↑k : Int) !=
      rgetV (ofL (rk r)) (↑k : Int)) = false → ((userV (ofL (bk d)) (↑k : Int) != rusrV (ofL (rk r)) (↑k : Int)) = true → false = true) ∧ ((userV (ofL (bk d)) (↑k : Int) !=
      rusrV (ofL (rk r)) (↑k : Int)) = false → (59 : Nat) = (59 : Nat) ∧ (37 : Nat) = (37 : Nat) ∧ wfL (45 : Nat) (bk d) = true ∧ wfL (103 : Nat) (rk r) = true ∧ ∃ (k_1 : Nat),
      i < n ∧ k_1 ≤ (16 : Nat) ∧ k + (1 : Nat) ≤ k_1 ∧ Holds (rel (ofL (bk d)) (ofL (rk r))) ∧ hdb3 E = hdb3 E ∧ (99 : Nat) = (99 : Nat) ∧ C.p (0 : Nat) (0 : Nat) = C.p (0 :
      Nat) (0 : Nat) ∧ C.p (1 : Nat) (0 : Nat) = C.p (1 : Nat) (0 : Nat) ∧ C.es a n c = C.es a n c ∧ (IntKind.i64 = IntKind.i64 ∧ (↑n : Int) = (↑n : Int)) ∧ (IntKind.i64 =
      IntKind.i64 ∧ (↑i : Int) = (↑i : Int)) ∧ IntKind.i64 = IntKind.i64 ∧ IntKind.i64.wrap ((↑k : Int) + (1 : Int)) = (↑k_1 : Int)))) ∧ (decide ((↑k : Int) < (16 : Int)) =
      false → (59 : Nat) = (59 : Nat) ∧ (37 : Nat) = (37 : Nat) ∧ wfL (45 : Nat) (bk d) = true ∧ wfL (103 : Nat) (rk r) = true ∧ ∃ (i_1 : Nat), i_1 ≤ n ∧ i + (1 : Nat) ≤ i_1 ∧
      Holds (rel (ofL (bk d)) (ofL (rk r))) ∧ hd3 E = hd3 E ∧ (99 : Nat) = (99 : Nat) ∧ C.p (0 : Nat) (0 : Nat) = C.p (0 : Nat) (0 : Nat) ∧ C.p (1 : Nat) (0 : Nat) = C.p (1 :
      Nat) (0 : Nat) ∧ C.es a n c = C.es a n c ∧ (IntKind.i64 = IntKind.i64 ∧ (↑n : Int) = (↑n : Int)) ∧ IntKind.i64 = IntKind.i64 ∧ IntKind.i64.wrap ((↑i : Int) + (1 : Int)) =
      (↑i_1 : Int))) := by kernel_rfl
end Go.Proofs.Ytkgpcdnlbgmglaa

