import Derived.Test.YtnpngigighkegaaX
set_option linter.unusedVariables false
set_option linter.unusedSimpArgs false
namespace Go.Proofs.Ytnpngigighkegaa
open Go Go.Proofs Go.Proofs.Ytnpngigighkegaa.Ev
set_option maxRecDepth 100000
def kpN {α : Type} [DecidableEq α] (f : Nat → α) : Nat → Nat → Prop → Prop
  | 0, _, R => R
  | n + 1, k, R => decide (f k = f k) = true ∧ kpN f n (k + 1) R
theorem kpN_eq {α : Type} [DecidableEq α] (f : Nat → α) : ∀ n k (R : Prop), kpN f n k R = R
  | 0, _, _ => rfl
  | n + 1, k, R => by rw [kpN, kpN_eq f n (k + 1) R]; simp
def kX (E : World) (a : Option Addr) (i j : Nat) : Int := eI E a ((i : Int).toNat * 3 + j)
noncomputable def c3 : Code := Try.f3.body.getD .skip
noncomputable def hd3 (E : World) : List Item := headOf (run (pe E) (orcX E) (tabL fns) 20000 4 [.code c3] ⟨Try.f3.ntmps, mkFrGo (Tr.mk 12) 0 [.c (.es none 0 0)]⟩ [])
def la3 (a : Option Addr) (n c : Nat) (i : Nat) : List (Nat × SV) := [(3, .c (.p 0 0)), (4, .c (.p 1 0)), (14, .c (.es a n c)), (15, .c (.i false .i64 (n : Int))), (16, .c (.i false .i64 (i : Int)))]
def sm (en rq wa ky : Int) (pm : Bool) (e r k : Nat → Bool) (w : Int) (m : Bool) : SW := [⟨ck en rq wa ky pm, 45⟩, ⟨rk e r k w m, 31⟩]
def mem2 (s' : SW) (P : Int → Int → Int → Int → Bool → List C → Prop) : Prop := match s' with
  | ⟨[.i false .u16 en, .i false .u16 rq, .i false .u16 wa, .i false .u16 ky, .b false pm], ty⟩ :: ⟨l, ty2⟩ :: _ => ty = 45 ∧ ty2 = 31 ∧ wfB 38 l = true ∧ P en rq wa ky pm l
  | _ => False
theorem runs_pro (E : World) (a : Option Addr) (n c : Nat) :
    (loopP (pe E) Try.f3 (fun v _ => SV.sim v (.c (.b false true))) (fun todo fr s' => todo = hd3 E ∧ fr.nt = Try.f3.ntmps ∧ refP fr (la3 a n c 0) ∧ refT s' (sm 0 0 0 0 false (fun _ => false) (fun _ => false) (fun _ => false) 0 false)) (run (pe E) (orcX E) (tabL fns) 20000 4 [.code c3] ⟨Try.f3.ntmps, mkFrGo (Tr.mk 12) 0 [.c (.es a n c)]⟩ [])) =
    (hd3 E = hd3 E ∧ (97 : Nat) = (97 : Nat) ∧ (C.p (0 : Nat) (0 : Nat) = C.p (0 : Nat) (0 : Nat) ∧ C.p (1 : Nat) (0 : Nat) = C.p (1 : Nat) (0 : Nat) ∧ C.es a n c = C.es a n c
      ∧ (IntKind.i64 = IntKind.i64 ∧ (↑n : Int) = (↑n : Int)) ∧ IntKind.i64 = IntKind.i64 ∧ (0 : Int) = (0 : Int)) ∧ ((45 : Nat) = (45 : Nat) ∧ (IntKind.u16 = IntKind.u16 ∧ (0 :
      Int) = (0 : Int)) ∧ (IntKind.u16 = IntKind.u16 ∧ (0 : Int) = (0 : Int)) ∧ (IntKind.u16 = IntKind.u16 ∧ (0 : Int) = (0 : Int)) ∧ (IntKind.u16 = IntKind.u16 ∧ (0 : Int) = (0
      : Int)) ∧ false = false) ∧ ((31 : Nat) = (31 : Nat) ∧ false = false ∧ false = false ∧ false = false ∧ false = false ∧ false = false ∧ false = false ∧ false = false ∧ false
      = false ∧ false = false ∧ false = false ∧ false = false ∧ false = false ∧ false = false ∧ false = false ∧ false = false ∧ false = false ∧ false = false ∧ false = false ∧
      false = false ∧ false = false ∧ false = false ∧ false = false ∧ false = false ∧ false = false ∧ false = false ∧ false = false ∧ false = false ∧ false = false ∧ false =
      false ∧ false = false ∧ false = false ∧ false = false ∧ false = false ∧ false = false ∧ false = false ∧ false = false ∧ false = false ∧ false = false ∧ (IntKind.u16 =
      IntKind.u16 ∧ (0 : Int) = (0 : Int)) ∧ false = false) ∧ True) := by kernel_rfl
def RelL (en rq wa ky : Int) (pm : Bool) (l : List C) : Prop := Rel en rq wa ky pm (eO l) (rO l) (kO l) (iAt l 38) (bAt l 39)
def I3 (E : World) (a : Option Addr) (n c : Nat) (i : Nat) (todo : List Item) (fr : Fr) (s' : SW) : Prop :=
  mem2 s' fun en rq wa ky pm l => Holds (RelL en rq wa ky pm l) ∧ todo = hd3 E ∧ fr.nt = Try.f3.ntmps ∧ refP fr (la3 a n c i)
theorem runs_round (E : World) (a : Option Addr) (n c : Nat) (i : Nat) (en rq wa ky : Int) (pm : Bool) (e r k : Nat → Bool) (w : Int) (m : Bool) :
    (loopP (pe E) Try.f3 (fun v _ => SV.sim v (.c (.b false true))) (fun todo fr s' => Holds (i < n) ∧ I3 E a n c (i + 1) todo fr s') (run (pe E) (orcX E) (tabL fns) 20000 4 (hd3 E) (mkL Try.f3.ntmps (la3 a n c i)) (sm en rq wa ky pm e r k w m))) =
    ((decide ((↑i : Int) < (↑n : Int)) = true → inB (↑i : Int) n = true ∧ a.isSome = true ∧ eRow E a ((↑i : Int).toNat * (3 : Nat) + (0 : Nat)) ([EK.i IntKind.i64] ++ ([EK.i
      IntKind.i64] ++ ([EK.i IntKind.u16] ++ []))) = true ∧ (((↑i : Int) == (500 : Int)) = true → true = true) ∧ (((↑i : Int) == (500 : Int)) = false → ((eI E a ((↑i :
      Int).toNat * (3 : Nat) + (0 : Nat)) == (0 : Int)) = true → decide (en = en) = true ∧ decide (prR rq (eI E a ((↑i : Int).toNat * (3 : Nat) + (1 : Nat))) = prR rq (eI E a
      ((↑i : Int).toNat * (3 : Nat) + (1 : Nat)))) = true ∧ decide (wa = wa) = true ∧ decide (ky = ky) = true ∧ decide (pm = pm) = true ∧ kpN (fun q_ => eO (rk e r k w m) q_) 14
      0 (kpN (fun q_ => rrR (rO (rk e r k w m)) (eI E a ((↑i : Int).toNat * (3 : Nat) + (1 : Nat))) q_) 14 0 (kpN (fun q_ => kO (rk e r k w m) q_) 10 0 (decide (iAt (rk e r k w
      m) (38 : Nat) = iAt (rk e r k w m) (38 : Nat)) = true ∧ decide (bAt (rk e r k w m) (39 : Nat) = bAt (rk e r k w m) (39 : Nat)) = true ∧ decide (eI E a ((↑i : Int).toNat *
      (3 : Nat) + (0 : Nat)) = eI E a ((↑i : Int).toNat * (3 : Nat) + (0 : Nat))) = true ∧ decide (eI E a ((↑i : Int).toNat * (3 : Nat) + (1 : Nat)) = eI E a ((↑i : Int).toNat *
      (3 : Nat) + (1 : Nat))) = true ∧ decide (eI E a ((↑i : Int).toNat * (3 : Nat) + (2 : Nat)) = eI E a ((↑i : Int).toNat * (3 : Nat) + (2 : Nat))) = true ∧ decide (en = en) =
      true ∧ decide (prR rq (eI E a ((↑i : Int).toNat * (3 : Nat) + (1 : Nat))) = prR rq (eI E a ((↑i : Int).toNat * (3 : Nat) + (1 : Nat)))) = true ∧ decide (wa = wa) = true ∧
      decide (ky = ky) = true ∧ decide (pm = pm) = true ∧ kpN (fun q_ => eO (rk e r k w m) q_) 14 0 (kpN (fun q_ => rrR (rO (rk e r k w m)) (eI E a ((↑i : Int).toNat * (3 : Nat)
      + (1 : Nat))) q_) 14 0 (kpN (fun q_ => kO (rk e r k w m) q_) 10 0 (decide (iAt (rk e r k w m) (38 : Nat) = iAt (rk e r k w m) (38 : Nat)) = true ∧ decide (bAt (rk e r k w
      m) (39 : Nat) = bAt (rk e r k w m) (39 : Nat)) = true ∧ decide (eI E a ((↑i : Int).toNat * (3 : Nat) + (0 : Nat)) = eI E a ((↑i : Int).toNat * (3 : Nat) + (0 : Nat))) =
      true ∧ decide (eI E a ((↑i : Int).toNat * (3 : Nat) + (1 : Nat)) = eI E a ((↑i : Int).toNat * (3 : Nat) + (1 : Nat))) = true ∧ decide (eI E a ((↑i : Int).toNat * (3 : Nat)
      + (2 : Nat)) = eI E a ((↑i : Int).toNat * (3 : Nat) + (2 : Nat))) = true ∧ ((true ^^ pwkV en (prR rq (eI E a ((↑i : Int).toNat * (3 : Nat) + (1 : Nat)))) == wkN (eO (rk
      (eO (rk e r k w m)) (rrR (rO (rk e r k w m)) (eI E a ((↑i : Int).toNat * (3 : Nat) + (1 : Nat)))) (kO (rk e r k w m)) (iAt (rk e r k w m) (38 : Nat)) (bAt (rk e r k w m)
      (39 : Nat)))) (rO (rk (eO (rk e r k w m)) (rrR (rO (rk e r k w m)) (eI E a ((↑i : Int).toNat * (3 : Nat) + (1 : Nat)))) (kO (rk e r k w m)) (iAt (rk e r k w m) (38 : Nat))
      (bAt (rk e r k w m) (39 : Nat)))) (14 : Nat) (0 : Nat)) = true → false = true) ∧ ((true ^^ pwkV en (prR rq (eI E a ((↑i : Int).toNat * (3 : Nat) + (1 : Nat)))) == wkN (eO
      (rk (eO (rk e r k w m)) (rrR (rO (rk e r k w m)) (eI E a ((↑i : Int).toNat * (3 : Nat) + (1 : Nat)))) (kO (rk e r k w m)) (iAt (rk e r k w m) (38 : Nat)) (bAt (rk e r k w
      m) (39 : Nat)))) (rO (rk (eO (rk e r k w m)) (rrR (rO (rk e r k w m)) (eI E a ((↑i : Int).toNat * (3 : Nat) + (1 : Nat)))) (kO (rk e r k w m)) (iAt (rk e r k w m) (38 :
      Nat)) (bAt (rk e r k w m) (39 : Nat)))) (14 : Nat) (0 : Nat)) = false → decide (en = en) = true ∧ decide (prR rq (eI E a ((↑i : Int).toNat * (3 : Nat) + (1 : Nat))) = prR
      rq (eI E a ((↑i : Int).toNat * (3 : Nat) + (1 : Nat)))) = true ∧ decide (wa = wa) = true ∧ decide (ky = ky) = true ∧ decide (pm = pm) = true ∧ kpN (fun q_ => eO (rk e r k
      w m) q_) 14 0 (kpN (fun q_ => rrR (rO (rk e r k w m)) (eI E a ((↑i : Int).toNat * (3 : Nat) + (1 : Nat))) q_) 14 0 (kpN (fun q_ => kO (rk e r k w m) q_) 10 0 (decide (iAt
      (rk e r k w m) (38 : Nat) = iAt (rk e r k w m) (38 : Nat)) = true ∧ decide (bAt (rk e r k w m) (39 : Nat) = bAt (rk e r k w m) (39 : Nat)) = true ∧ decide (eI E a ((↑i :
      Int).toNat * (3 : Nat) + (0 : Nat)) = eI E a ((↑i : Int).toNat * (3 : Nat) + (0 : Nat))) = true ∧ decide (eI E a ((↑i : Int).toNat * (3 : Nat) + (1 : Nat)) = eI E a ((↑i :
      Int).toNat * (3 : Nat) + (1 : Nat))) = true ∧ decide (eI E a ((↑i : Int).toNat * (3 : Nat) + (2 : Nat)) = eI E a ((↑i : Int).toNat * (3 : Nat) + (2 : Nat))) = true ∧
      decide (en = en) = true ∧ decide (prR rq (eI E a ((↑i : Int).toNat * (3 : Nat) + (1 : Nat))) = prR rq (eI E a ((↑i : Int).toNat * (3 : Nat) + (1 : Nat)))) = true ∧ decide
      (wa = wa) = true ∧ decide (ky = ky) = true ∧ decide (pm = pm) = true ∧ kpN (fun q_ => eO (rk e r k w m) q_) 14 0 (kpN (fun q_ => rrR (rO (rk e r k w m)) (eI E a ((↑i :
      Int).toNat * (3 : Nat) + (1 : Nat))) q_) 14 0 (kpN (fun q_ => kO (rk e r k w m) q_) 10 0 (decide (iAt (rk e r k w m) (38 : Nat) = iAt (rk e r k w m) (38 : Nat)) = true ∧
      decide (bAt (rk e r k w m) (39 : Nat) = bAt (rk e r k w m) (39 : Nat)) = true ∧ decide (eI E a ((↑i : Int).toNat * (3 : Nat) + (0 : Nat)) = eI E a ((↑i : Int).toNat * (3 :
      Nat) + (0 : Nat))) = true ∧ decide (eI E a ((↑i : Int).toNat * (3 : Nat) + (1 : Nat)) = eI E a ((↑i : Int).toNat * (3 : Nat) + (1 : Nat))) = true ∧ decide (eI E a ((↑i :
      Int).toNat * (3 : Nat) + (2 : Nat)) = eI E a ((↑i : Int).toNat * (3 : Nat) + (2 : Nat))) = true ∧ ((true ^^ (pwkV en (prR rq (eI E a ((↑i : Int).toNat * (3 : Nat) + (1 :
      Nat)))) && pm) == (bAt (rk (eO (rk e r k w m)) (rrR (rO (rk e r k w m)) (eI E a ((↑i : Int).toNat * (3 : Nat) + (1 : Nat)))) (kO (rk e r k w m)) (iAt (rk e r k w m) (38 :
      Nat)) (bAt (rk e r k w m) (39 : Nat))) (39 : Nat) && wkN (eO (rk (eO (rk e r k w m)) (rrR (rO (rk e r k w m)) (eI E a ((↑i : Int).toNat * (3 : Nat) + (1 : Nat)))) (kO (rk
      e r k w m)) (iAt (rk e r k w m) (38 : Nat)) (bAt (rk e r k w m) (39 : Nat)))) (rO (rk (eO (rk e r k w m)) (rrR (rO (rk e r k w m)) (eI E a ((↑i : Int).toNat * (3 : Nat) +
      (1 : Nat)))) (kO (rk e r k w m)) (iAt (rk e r k w m) (38 : Nat)) (bAt (rk e r k w m) (39 : Nat)))) (14 : Nat) (0 : Nat))) = true → false = true) ∧ ((true ^^ (pwkV en (prR
      rq (eI E a ((↑i : Int).toNat * (3 : Nat) + (1 : Nat)))) && pm) == (bAt (rk (eO (rk e r k w m)) (rrR (rO (rk e r k w m)) (eI E a ((↑i : Int).toNat * (3 : Nat) + (1 :
      Nat)))) (kO (rk e r k w m)) (iAt (rk e r k w m) (38 : Nat)) (bAt (rk e r k w m) (39 : Nat))) (39 : Nat) && wkN (eO (rk (eO (rk e r k w m)) (rrR (rO (rk e r k w m)) (eI E a
      ((↑i : Int).toNat * (3 : Nat) + (1 : Nat)))) (kO (rk e r k w m)) (iAt (rk e r k w m) (38 : Nat)) (bAt (rk e r k w m) (39 : Nat)))) (rO (rk (eO (rk e r k w m)) (rrR (rO (rk
      e r k w m)) (eI E a ((↑i : Int).toNat * (3 : Nat) + (1 : Nat)))) (kO (rk e r k w m)) (iAt (rk e r k w m) (38 : Nat)) (bAt (rk e r k w m) (39 : Nat)))) (14 : Nat) (0 :
      Nat))) = false → decide (en = en) = true ∧ decide (prR rq (eI E a ((↑i : Int).toNat * (3 : Nat) + (1 : Nat))) = prR rq (eI E a ((↑i : Int).toNat * (3 : Nat) + (1 : Nat))))
      = true ∧ decide (wa = wa) = true ∧ decide (ky = ky) = true ∧ decide (pm = pm) = true ∧ kpN (fun q_ => eO (rk e r k w m) q_) 14 0 (kpN (fun q_ => rrR (rO (rk e r k w m))
      (eI E a ((↑i : Int).toNat * (3 : Nat) + (1 : Nat))) q_) 14 0 (kpN (fun q_ => kO (rk e r k w m) q_) 10 0 (decide (iAt (rk e r k w m) (38 : Nat) = iAt (rk e r k w m) (38 :
      Nat)) = true ∧ decide (bAt (rk e r k w m) (39 : Nat) = bAt (rk e r k w m) (39 : Nat)) = true ∧ decide (eI E a ((↑i : Int).toNat * (3 : Nat) + (0 : Nat)) = eI E a ((↑i :
      Int).toNat * (3 : Nat) + (0 : Nat))) = true ∧ decide (eI E a ((↑i : Int).toNat * (3 : Nat) + (1 : Nat)) = eI E a ((↑i : Int).toNat * (3 : Nat) + (1 : Nat))) = true ∧
      decide (eI E a ((↑i : Int).toNat * (3 : Nat) + (2 : Nat)) = eI E a ((↑i : Int).toNat * (3 : Nat) + (2 : Nat))) = true ∧ decide (en = en) = true ∧ decide (prR rq (eI E a
      ((↑i : Int).toNat * (3 : Nat) + (1 : Nat))) = prR rq (eI E a ((↑i : Int).toNat * (3 : Nat) + (1 : Nat)))) = true ∧ decide (wa = wa) = true ∧ decide (ky = ky) = true ∧
      decide (pm = pm) = true ∧ kpN (fun q_ => eO (rk e r k w m) q_) 14 0 (kpN (fun q_ => rrR (rO (rk e r k w m)) (eI E a ((↑i : Int).toNat * (3 : Nat) + (1 : Nat))) q_) 14 0
      (kpN (fun q_ => kO (rk e r k w m) q_) 10 0 (decide (iAt (rk e r k w m) (38 : Nat) = iAt (rk e r k w m) (38 : Nat)) = true ∧ decide (bAt (rk e r k w m) (39 : Nat) = bAt (rk
      e r k w m) (39 : Nat)) = true ∧ decide (eI E a ((↑i : Int).toNat * (3 : Nat) + (0 : Nat)) = eI E a ((↑i : Int).toNat * (3 : Nat) + (0 : Nat))) = true ∧ decide (eI E a ((↑i
      : Int).toNat * (3 : Nat) + (1 : Nat)) = eI E a ((↑i : Int).toNat * (3 : Nat) + (1 : Nat))) = true ∧ decide (eI E a ((↑i : Int).toNat * (3 : Nat) + (2 : Nat)) = eI E a ((↑i
      : Int).toNat * (3 : Nat) + (2 : Nat))) = true ∧ ((pdV en (prR rq (eI E a ((↑i : Int).toNat * (3 : Nat) + (1 : Nat)))) wa ky pm (eI E a ((↑i : Int).toNat * (3 : Nat) + (1 :
      Nat))) != rdV (eO (rk (eO (rk e r k w m)) (rrR (rO (rk e r k w m)) (eI E a ((↑i : Int).toNat * (3 : Nat) + (1 : Nat)))) (kO (rk e r k w m)) (iAt (rk e r k w m) (38 : Nat))
      (bAt (rk e r k w m) (39 : Nat)))) (rO (rk (eO (rk e r k w m)) (rrR (rO (rk e r k w m)) (eI E a ((↑i : Int).toNat * (3 : Nat) + (1 : Nat)))) (kO (rk e r k w m)) (iAt (rk e
      r k w m) (38 : Nat)) (bAt (rk e r k w m) (39 : Nat)))) (kO (rk (eO (rk e r k w m)) (rrR (rO (rk e r k w m)) (eI E a ((↑i : Int).toNat * (3 : Nat) + (1 : Nat)))) (kO (rk e
      r k w m)) (iAt (rk e r k w m) (38 : Nat)) (bAt (rk e r k w m) (39 : Nat)))) (iAt (rk (eO (rk e r k w m)) (rrR (rO (rk e r k w m)) (eI E a ((↑i : Int).toNat * (3 : Nat) +
      (1 : Nat)))) (kO (rk e r k w m)) (iAt (rk e r k w m) (38 : Nat)) (bAt (rk e r k w m) (39 : Nat))) (38 : Nat)) (bAt (rk (eO (rk e r k w m)) (rrR (rO (rk e r k w m)) (eI E a
      ((↑i : Int).toNat * (3 : Nat) + (1 : Nat)))) (kO (rk e r k w m)) (iAt (rk e r k w m) (38 : Nat)) (bAt (rk e r k w m) (39 : Nat))) (39 : Nat)) (eI E a ((↑i : Int).toNat *
      (3 : Nat) + (1 : Nat)))) = true → false = true) ∧ ((pdV en (prR rq (eI E a ((↑i : Int).toNat * (3 : Nat) + (1 : Nat)))) wa ky pm (eI E a ((↑i : Int).toNat * (3 : Nat) + (1
      : Nat))) != rdV (eO (rk (eO (rk e r k w m)) (rrR (rO (rk e r k w m)) (eI E a ((↑i : Int).toNat * (3 : Nat) + (1 : Nat)))) (kO (rk e r k w m)) (iAt (rk e r k w m) (38 :
      Nat)) (bAt (rk e r k w m) (39 : Nat)))) (rO (rk (eO (rk e r k w m)) (rrR (rO (rk e r k w m)) (eI E a ((↑i : Int).toNat * (3 : Nat) + (1 : Nat)))) (kO (rk e r k w m)) (iAt
      (rk e r k w m) (38 : Nat)) (bAt (rk e r k w m) (39 : Nat)))) (kO (rk (eO (rk e r k w m)) (rrR (rO (rk e r k w m)) (eI E a ((↑i : Int).toNat * (3 : Nat) + (1 : Nat)))) (kO
      (rk e r k w m)) (iAt (rk e r k w m) (38 : Nat)) (bAt (rk e r k w m) (39 : Nat)))) (iAt (rk (eO (rk e r k w m)) (rrR (rO (rk e r k w m)) (eI E a ((↑i : Int).toNat * (3 :
      Nat) + (1 : Nat)))) (kO (rk e r k w m)) (iAt (rk e r k w m) (38 : Nat)) (bAt (rk e r k w m) (39 : Nat))) (38 : Nat)) (bAt (rk (eO (rk e r k w m)) (rrR (rO (rk e r k w m))
      (eI E a ((↑i : Int).toNat * (3 : Nat) + (1 : Nat)))) (kO (rk e r k w m)) (iAt (rk e r k w m) (38 : Nat)) (bAt (rk e r k w m) (39 : Nat))) (39 : Nat)) (eI E a ((↑i :
      Int).toNat * (3 : Nat) + (1 : Nat)))) = false → ((pdV en (prR rq (eI E a ((↑i : Int).toNat * (3 : Nat) + (1 : Nat)))) wa ky pm (304 : Int) != rdV (eO (rk (eO (rk e r k w
      m)) (rrR (rO (rk e r k w m)) (eI E a ((↑i : Int).toNat * (3 : Nat) + (1 : Nat)))) (kO (rk e r k w m)) (iAt (rk e r k w m) (38 : Nat)) (bAt (rk e r k w m) (39 : Nat)))) (rO
      (rk (eO (rk e r k w m)) (rrR (rO (rk e r k w m)) (eI E a ((↑i : Int).toNat * (3 : Nat) + (1 : Nat)))) (kO (rk e r k w m)) (iAt (rk e r k w m) (38 : Nat)) (bAt (rk e r k w
      m) (39 : Nat)))) (kO (rk (eO (rk e r k w m)) (rrR (rO (rk e r k w m)) (eI E a ((↑i : Int).toNat * (3 : Nat) + (1 : Nat)))) (kO (rk e r k w m)) (iAt (rk e r k w m) (38 :
      Nat)) (bAt (rk e r k w m) (39 : Nat)))) (iAt (rk (eO (rk e r k w m)) (rrR (rO (rk e r k w m)) (eI E a ((↑i : Int).toNat * (3 : Nat) + (1 : Nat)))) (kO (rk e r k w m)) (iAt
      (rk e r k w m) (38 : Nat)) (bAt (rk e r k w m) (39 : Nat))) (38 : Nat)) (bAt (rk (eO (rk e r k w m)) (rrR (rO (rk e r k w m)) (eI E a ((↑i : Int).toNat * (3 : Nat) + (1 :
      Nat)))) (kO (rk e r k w m)) (iAt (rk e r k w m) (38 : Nat)) (bAt (rk e r k w m) (39 : Nat))) (39 : Nat)) (304 : Int)) = true → false = true) ∧ ((pdV en (prR rq (eI E a
      ((↑i : Int).toNat * (3 : Nat) + (1 : Nat)))) wa ky pm (304 : Int) != rdV (eO (rk (eO (rk e r k w m)) (rrR (rO (rk e r k w m)) (eI E a ((↑i : Int).toNat * (3 : Nat) + (1 :
      Nat)))) (kO (rk e r k w m)) (iAt (rk e r k w m) (38 : Nat)) (bAt (rk e r k w m) (39 : Nat)))) (rO (rk (eO (rk e r k w m)) (rrR (rO (rk e r k w m)) (eI E a ((↑i :
      Int).toNat * (3 : Nat) + (1 : Nat)))) (kO (rk e r k w m)) (iAt (rk e r k w m) (38 : Nat)) (bAt (rk e r k w m) (39 : Nat)))) (kO (rk (eO (rk e r k w m)) (rrR (rO (rk e r k
      w m)) (eI E a ((↑i : Int).toNat * (3 : Nat) + (1 : Nat)))) (kO (rk e r k w m)) (iAt (rk e r k w m) (38 : Nat)) (bAt (rk e r k w m) (39 : Nat)))) (iAt (rk (eO (rk e r k w
      m)) (rrR (rO (rk e r k w m)) (eI E a ((↑i : Int).toNat * (3 : Nat) + (1 : Nat)))) (kO (rk e r k w m)) (iAt (rk e r k w m) (38 : Nat)) (bAt (rk e r k w m) (39 : Nat))) (38
      : Nat)) (bAt (rk (eO (rk e r k w m)) (rrR (rO (rk e r k w m)) (eI E a ((↑i : Int).toNat * (3 : Nat) + (1 : Nat)))) (kO (rk e r k w m)) (iAt (rk e r k w m) (38 : Nat)) (bAt
      (rk e r k w m) (39 : Nat))) (39 : Nat)) (304 : Int)) = false → ((pdV en (prR rq (eI E a ((↑i : Int).toNat * (3 : Nat) + (1 : Nat)))) wa ky pm (306 : Int) != rdV (eO (rk
      (eO (rk e r k w m)) (rrR (rO (rk e r k w m)) (eI E a ((↑i : Int).toNat * (3 : Nat) + (1 : Nat)))) (kO (rk e r k w m)) (iAt (rk e r k w m) (38 : Nat)) (bAt (rk e r k w m)
      (39 : Nat)))) (rO (rk (eO (rk e r k w m)) (rrR (rO (rk e r k w m)) (eI E a ((↑i : Int).toNat * (3 : Nat) + (1 : Nat)))) (kO (rk e r k w m)) (iAt (rk e r k w m) (38 : Nat))
      (bAt (rk e r k w m) (39 : Nat)))) (kO (rk (eO (rk e r k w m)) (rrR (rO (rk e r k w m)) (eI E a ((↑i : Int).toNat * (3 : Nat) + (1 : Nat)))) (kO (rk e r k w m)) (iAt (rk e
      r k w m) (38 : Nat)) (bAt (rk e r k w m) (39 : Nat)))) (iAt (rk (eO (rk e r k w m)) (rrR (rO (rk e r k w m)) (eI E a ((↑i : Int).toNat * (3 : Nat) + (1 : Nat)))) (kO (rk e
      r k w m)) (iAt (rk e r k w m) (38 : Nat)) (bAt (rk e r k w m) (39 : Nat))) (38 : Nat)) (bAt (rk (eO (rk e r k w m)) (rrR (rO (rk e r k w m)) (eI E a ((↑i : Int).toNat * (3
      : Nat) + (1 : Nat)))) (kO (rk e r k w m)) (iAt (rk e r k w m) (38 : Nat)) (bAt (rk e r k w m) (39 : Nat))) (39 : Nat)) (306 : Int)) = true → false = true) ∧ ((pdV en (prR
      rq (eI E a ((↑i : Int).toNat * (3 : Nat) + (1 : Nat)))) wa ky pm (306 : Int) != rdV (eO (rk (eO (rk e r k w m)) (rrR (rO (rk e r k w m)) (eI E a ((↑i : Int).toNat * (3 :
      Nat) + (1 : Nat)))) (kO (rk e r k w m)) (iAt (rk e r k w m) (38 : Nat)) (bAt (rk e r k w m) (39 : Nat)))) (rO (rk (eO (rk e r k w m)) (rrR (rO (rk e r k w m)) (eI E a ((↑i
      : Int).toNat * (3 : Nat) + (1 : Nat)))) (kO (rk e r k w m)) (iAt (rk e r k w m) (38 : Nat)) (bAt (rk e r k w m) (39 : Nat)))) (kO (rk (eO (rk e r k w m)) (rrR (rO (rk e r
      k w m)) (eI E a ((↑i : Int).toNat * (3 : Nat) + (1 : Nat)))) (kO (rk e r k w m)) (iAt (rk e r k w m) (38 : Nat)) (bAt (rk e r k w m) (39 : Nat)))) (iAt (rk (eO (rk e r k w
      m)) (rrR (rO (rk e r k w m)) (eI E a ((↑i : Int).toNat * (3 : Nat) + (1 : Nat)))) (kO (rk e r k w m)) (iAt (rk e r k w m) (38 : Nat)) (bAt (rk e r k w m) (39 : Nat))) (38
      : Nat)) (bAt (rk (eO (rk e r k w m)) (rrR (rO (rk e r k w m)) (eI E a ((↑i : Int).toNat * (3 : Nat) + (1 : Nat)))) (kO (rk e r k w m)) (iAt (rk e r k w m) (38 : Nat)) (bAt
      (rk e r k w m) (39 : Nat))) (39 : Nat)) (306 : Int)) = false → ((pdV en (prR rq (eI E a ((↑i : Int).toNat * (3 : Nat) + (1 : Nat)))) wa ky pm (512 : Int) != rdV (eO (rk
      (eO (rk e r k w m)) (rrR (rO (rk e r k w m)) (eI E a ((↑i : Int).toNat * (3 : Nat) + (1 : Nat)))) (kO (rk e r k w m)) (iAt (rk e r k w m) (38 : Nat)) (bAt (rk e r k w m)
      (39 : Nat)))) (rO (rk (eO (rk e r k w m)) (rrR (rO (rk e r k w m)) (eI E a ((↑i : Int).toNat * (3 : Nat) + (1 : Nat)))) (kO (rk e r k w m)) (iAt (rk e r k w m) (38 : Nat))
      (bAt (rk e r k w m) (39 : Nat)))) (kO (rk (eO (rk e r k w m)) (rrR (rO (rk e r k w m)) (eI E a ((↑i : Int).toNat * (3 : Nat) + (1 : Nat)))) (kO (rk e r k w m)) (iAt (rk e
      r k w m) (38 : Nat)) (bAt (rk e r k w m) (39 : Nat)))) (iAt (rk (eO (rk e r k w m)) (rrR (rO (rk e r k w m)) (eI E a ((↑i : Int).toNat * (3 : Nat) + (1 : Nat)))) (kO (rk e
      r k w m)) (iAt (rk e r k w m) (38 : Nat)) (bAt (rk e r k w m) (39 : Nat))) (38 : Nat)) (bAt (rk (eO (rk e r k w m)) (rrR (rO (rk e r k w m)) (eI E a ((↑i : Int).toNat * (3
      : Nat) + (1 : Nat)))) (kO (rk e r k w m)) (iAt (rk e r k w m) (38 : Nat)) (bAt (rk e r k w m) (39 : Nat))) (39 : Nat)) (512 : Int)) = true → false = true) ∧ ((pdV en (prR
      rq (eI E a ((↑i : Int).toNat * (3 : Nat) + (1 : Nat)))) wa ky pm (512 : Int) != rdV (eO (rk (eO (rk e r k w m)) (rrR (rO (rk e r k w m)) (eI E a ((↑i : Int).toNat * (3 :
      Nat) + (1 : Nat)))) (kO (rk e r k w m)) (iAt (rk e r k w m) (38 : Nat)) (bAt (rk e r k w m) (39 : Nat)))) (rO (rk (eO (rk e r k w m)) (rrR (rO (rk e r k w m)) (eI E a ((↑i
      : Int).toNat * (3 : Nat) + (1 : Nat)))) (kO (rk e r k w m)) (iAt (rk e r k w m) (38 : Nat)) (bAt (rk e r k w m) (39 : Nat)))) (kO (rk (eO (rk e r k w m)) (rrR (rO (rk e r
      k w m)) (eI E a ((↑i : Int).toNat * (3 : Nat) + (1 : Nat)))) (kO (rk e r k w m)) (iAt (rk e r k w m) (38 : Nat)) (bAt (rk e r k w m) (39 : Nat)))) (iAt (rk (eO (rk e r k w
      m)) (rrR (rO (rk e r k w m)) (eI E a ((↑i : Int).toNat * (3 : Nat) + (1 : Nat)))) (kO (rk e r k w m)) (iAt (rk e r k w m) (38 : Nat)) (bAt (rk e r k w m) (39 : Nat))) (38
      : Nat)) (bAt (rk (eO (rk e r k w m)) (rrR (rO (rk e r k w m)) (eI E a ((↑i : Int).toNat * (3 : Nat) + (1 : Nat)))) (kO (rk e r k w m)) (iAt (rk e r k w m) (38 : Nat)) (bAt
      (rk e r k w m) (39 : Nat))) (39 : Nat)) (512 : Int)) = false → ((pdV en (prR rq (eI E a ((↑i : Int).toNat * (3 : Nat) + (1 : Nat)))) wa ky pm (514 : Int) != rdV (eO (rk
      (eO (rk e r k w m)) (rrR (rO (rk e r k w m)) (eI E a ((↑i : Int).toNat * (3 : Nat) + (1 : Nat)))) (kO (rk e r k w m)) (iAt (rk e r k w m) (38 : Nat)) (bAt (rk e r k w m)
      (39 : Nat)))) (rO (rk (eO (rk e r k w m)) (rrR (rO (rk e r k w m)) (eI E a ((↑i : Int).toNat * (3 : Nat) + (1 : Nat)))) (kO (rk e r k w m)) (iAt (rk e r k w m) (38 : Nat))
      (bAt (rk e r k w m) (39 : Nat)))) (kO (rk (eO (rk e r k w m)) (rrR (rO (rk e r k w m)) (eI E a ((↑i : Int).toNat * (3 : Nat) + (1 : Nat)))) (kO (rk e r k w m)) (iAt (rk e
      r k w m) (38 : Nat)) (bAt (rk e r k w m) (39 : Nat)))) (iAt (rk (eO (rk e r k w m)) (rrR (rO (rk e r k w m)) (eI E a ((↑i : Int).toNat * (3 : Nat) + (1 : Nat)))) (kO (rk e
      r k w m)) (iAt (rk e r k w m) (38 : Nat)) (bAt (rk e r k w m) (39 : Nat))) (38 : Nat)) (bAt (rk (eO (rk e r k w m)) (rrR (rO (rk e r k w m)) (eI E a ((↑i : Int).toNat * (3
      : Nat) + (1 : Nat)))) (kO (rk e r k w m)) (iAt (rk e r k w m) (38 : Nat)) (bAt (rk e r k w m) (39 : Nat))) (39 : Nat)) (514 : Int)) = true → false = true) ∧ ((pdV en (prR
      rq (eI E a ((↑i : Int).toNat * (3 : Nat) + (1 : Nat)))) wa ky pm (514 : Int) != rdV (eO (rk (eO (rk e r k w m)) (rrR (rO (rk e r k w m)) (eI E a ((↑i : Int).toNat * (3 :
      Nat) + (1 : Nat)))) (kO (rk e r k w m)) (iAt (rk e r k w m) (38 : Nat)) (bAt (rk e r k w m) (39 : Nat)))) (rO (rk (eO (rk e r k w m)) (rrR (rO (rk e r k w m)) (eI E a ((↑i
      : Int).toNat * (3 : Nat) + (1 : Nat)))) (kO (rk e r k w m)) (iAt (rk e r k w m) (38 : Nat)) (bAt (rk e r k w m) (39 : Nat)))) (kO (rk (eO (rk e r k w m)) (rrR (rO (rk e r
      k w m)) (eI E a ((↑i : Int).toNat * (3 : Nat) + (1 : Nat)))) (kO (rk e r k w m)) (iAt (rk e r k w m) (38 : Nat)) (bAt (rk e r k w m) (39 : Nat)))) (iAt (rk (eO (rk e r k w
      m)) (rrR (rO (rk e r k w m)) (eI E a ((↑i : Int).toNat * (3 : Nat) + (1 : Nat)))) (kO (rk e r k w m)) (iAt (rk e r k w m) (38 : Nat)) (bAt (rk e r k w m) (39 : Nat))) (38
      : Nat)) (bAt (rk (eO (rk e r k w m)) (rrR (rO (rk e r k w m)) (eI E a ((↑i : Int).toNat * (3 : Nat) + (1 : Nat)))) (kO (rk e r k w m)) (iAt (rk e r k w m) (38 : Nat)) (bAt
      (rk e r k w m) (39 : Nat))) (39 : Nat)) (514 : Int)) = false → ((pdV en (prR rq (eI E a ((↑i : Int).toNat * (3 : Nat) + (1 : Nat)))) wa ky pm (520 : Int) != rdV (eO (rk
      (eO (rk e r k w m)) (rrR (rO (rk e r k w m)) (eI E a ((↑i : Int).toNat * (3 : Nat) + (1 : Nat)))) (kO (rk e r k w m)) (iAt (rk e r k w m) (38 : Nat)) (bAt (rk e r k w m)
      (39 : Nat)))) (rO (rk (eO (rk e r k w m)) (rrR (rO (rk e r k w m)) (eI E a ((↑i : Int).toNat * (3 : Nat) + (1 : Nat)))) (kO (rk e r k w m)) (iAt (rk e r k w m) (38 : Nat))
      (bAt (rk e r k w m) (39 : Nat)))) (kO (rk (eO (rk e r k w m)) (rrR (rO (rk e r k w m)) (eI E a ((↑i : Int).toNat * (3 : Nat) + (1 : Nat)))) (kO (rk e r k w m)) (iAt (rk e
      r k w m) (38 : Nat)) (bAt (rk e r k w m) (39 : Nat)))) (iAt (rk (eO (rk e r k w m)) (rrR (rO (rk e r k w m)) (eI E a ((↑i : Int).toNat * (3 : Nat) + (1 : Nat)))) (kO (rk e
      r k w m)) (iAt (rk e r k w m) (38 : Nat)) (bAt (rk e r k w m) (39 : Nat))) (38 : Nat)) (bAt (rk (eO (rk e r k w m)) (rrR (rO (rk e r k w m)) (eI E a ((↑i : Int).toNat * (3
      : Nat) + (1 : Nat)))) (kO (rk e r k w m)) (iAt (rk e r k w m) (38 : Nat)) (bAt (rk e r k w m) (39 : Nat))) (39 : Nat)) (520 : Int)) = true → false = true) ∧ ((pdV en (prR
      rq (eI E a ((↑i : Int).toNat * (3 : Nat) + (1 : Nat)))) wa ky pm (520 : Int) != rdV (eO (rk (eO (rk e r k w m)) (rrR (rO (rk e r k w m)) (eI E a ((↑i : Int).toNat * (3 :
      Nat) + (1 : Nat)))) (kO (rk e r k w m)) (iAt (rk e r k w m) (38 : Nat)) (bAt (rk e r k w m) (39 : Nat)))) (rO (rk (eO (rk e r k w m)) (rrR (rO (rk e r k w m)) (eI E a ((↑i
      : Int).toNat * (3 : Nat) + (1 : Nat)))) (kO (rk e r k w m)) (iAt (rk e r k w m) (38 : Nat)) (bAt (rk e r k w m) (39 : Nat)))) (kO (rk (eO (rk e r k w m)) (rrR (rO (rk e r
      k w m)) (eI E a ((↑i : Int).toNat * (3 : Nat) + (1 : Nat)))) (kO (rk e r k w m)) (iAt (rk e r k w m) (38 : Nat)) (bAt (rk e r k w m) (39 : Nat)))) (iAt (rk (eO (rk e r k w
      m)) (rrR (rO (rk e r k w m)) (eI E a ((↑i : Int).toNat * (3 : Nat) + (1 : Nat)))) (kO (rk e r k w m)) (iAt (rk e r k w m) (38 : Nat)) (bAt (rk e r k w m) (39 : Nat))) (38
      : Nat)) (bAt (rk (eO (rk e r k w m)) (rrR (rO (rk e r k w m)) (eI E a ((↑i : Int).toNat * (3 : Nat) + (1 : Nat)))) (kO (rk e r k w m)) (iAt (rk e r k w m) (38 : Nat)) (bAt
      (rk e r k w m) (39 : Nat))) (39 : Nat)) (520 : Int)) = false → Holds (i < n) ∧ (45 : Nat) = (45 : Nat) ∧ (31 : Nat) = (31 : Nat) ∧ wfB (38 : Nat) (rk (eO (rk e r k w m))
      (rrR (rO (rk e r k w m)) (eI E a ((↑i : Int).toNat * (3 : Nat) + (1 : Nat)))) (kO (rk e r k w m)) (iAt (rk e r k w m) (38 : Nat)) (bAt (rk e r k w m) (39 : Nat))) = true ∧
      Holds (RelL en (prR rq (eI E a ((↑i : Int).toNat * (nat_lit 2 + (1 : Nat)) + (nat_lit 0 + (1 : Nat))))) wa ky pm (rk (eO (rk e r k w m)) (rrR (rO (rk e r k w m)) (eI E a
      ((↑i : Int).toNat * (nat_lit 2 + (1 : Nat)) + (nat_lit 0 + (1 : Nat))))) (kO (rk e r k w m)) (iAt (rk e r k w m) (38 : Nat)) (bAt (rk e r k w m) (39 : Nat)))) ∧ hd3 E =
      hd3 E ∧ (97 : Nat) = (97 : Nat) ∧ C.p (0 : Nat) (0 : Nat) = C.p (0 : Nat) (0 : Nat) ∧ C.p (1 : Nat) (0 : Nat) = C.p (1 : Nat) (0 : Nat) ∧ C.es a n c = C.es a n c ∧
      (IntKind.i64 = IntKind.i64 ∧ (↑n : Int) = (↑n : Int)) ∧ IntKind.i64 = IntKind.i64 ∧ IntKind.i64.wrap ((↑i : Int) + (1 : Int)) = (↑(i + (1 : Nat)) :
      Int)))))))))))))))))))))))))))) ∧ ((eI E a ((↑i : Int).toNat * (3 : Nat) + (0 : Nat)) == (0 : Int)) = false → ((eI E a ((↑i : Int).toNat * (3 : Nat) + (0 : Nat)) == (1 :
      Int)) = true → decide (pwE en (eI E a ((↑i : Int).toNat * (3 : Nat) + (1 : Nat))) (eI E a ((↑i : Int).toNat * (3 : Nat) + (2 : Nat))) = pwE en (eI E a ((↑i : Int).toNat *
      (3 : Nat) + (1 : Nat))) (eI E a ((↑i : Int).toNat * (3 : Nat) + (2 : Nat)))) = true ∧ decide (pwR rq ky (eI E a ((↑i : Int).toNat * (3 : Nat) + (1 : Nat))) (eI E a ((↑i :
      Int).toNat * (3 : Nat) + (2 : Nat))) = pwR rq ky (eI E a ((↑i : Int).toNat * (3 : Nat) + (1 : Nat))) (eI E a ((↑i : Int).toNat * (3 : Nat) + (2 : Nat)))) = true ∧ decide
      (pwW wa (eI E a ((↑i : Int).toNat * (3 : Nat) + (1 : Nat))) (eI E a ((↑i : Int).toNat * (3 : Nat) + (2 : Nat))) = pwW wa (eI E a ((↑i : Int).toNat * (3 : Nat) + (1 :
      Nat))) (eI E a ((↑i : Int).toNat * (3 : Nat) + (2 : Nat)))) = true ∧ decide (ky = ky) = true ∧ decide (pwM pm (eI E a ((↑i : Int).toNat * (3 : Nat) + (1 : Nat))) (eI E a
      ((↑i : Int).toNat * (3 : Nat) + (2 : Nat))) = pwM pm (eI E a ((↑i : Int).toNat * (3 : Nat) + (1 : Nat))) (eI E a ((↑i : Int).toNat * (3 : Nat) + (2 : Nat)))) = true ∧ kpN
      (fun q_ => rwE (eO (rk e r k w m)) (eI E a ((↑i : Int).toNat * (3 : Nat) + (1 : Nat))) (eI E a ((↑i : Int).toNat * (3 : Nat) + (2 : Nat))) q_) 14 0 (kpN (fun q_ => rwR (rO
      (rk e r k w m)) (kO (rk e r k w m)) (eI E a ((↑i : Int).toNat * (3 : Nat) + (1 : Nat))) (eI E a ((↑i : Int).toNat * (3 : Nat) + (2 : Nat))) q_) 14 0 (kpN (fun q_ => kO (rk
      e r k w m) q_) 10 0 (decide (pwW (iAt (rk e r k w m) (38 : Nat)) (eI E a ((↑i : Int).toNat * (3 : Nat) + (1 : Nat))) (eI E a ((↑i : Int).toNat * (3 : Nat) + (2 : Nat))) =
      pwW (iAt (rk e r k w m) (38 : Nat)) (eI E a ((↑i : Int).toNat * (3 : Nat) + (1 : Nat))) (eI E a ((↑i : Int).toNat * (3 : Nat) + (2 : Nat)))) = true ∧ decide (rwM (bAt (rk
      e r k w m) (39 : Nat)) (eI E a ((↑i : Int).toNat * (3 : Nat) + (1 : Nat))) (eI E a ((↑i : Int).toNat * (3 : Nat) + (2 : Nat))) = rwM (bAt (rk e r k w m) (39 : Nat)) (eI E
      a ((↑i : Int).toNat * (3 : Nat) + (1 : Nat))) (eI E a ((↑i : Int).toNat * (3 : Nat) + (2 : Nat)))) = true ∧ decide (eI E a ((↑i : Int).toNat * (3 : Nat) + (0 : Nat)) = eI
      E a ((↑i : Int).toNat * (3 : Nat) + (0 : Nat))) = true ∧ decide (eI E a ((↑i : Int).toNat * (3 : Nat) + (1 : Nat)) = eI E a ((↑i : Int).toNat * (3 : Nat) + (1 : Nat))) =
      true ∧ decide (eI E a ((↑i : Int).toNat * (3 : Nat) + (2 : Nat)) = eI E a ((↑i : Int).toNat * (3 : Nat) + (2 : Nat))) = true ∧ decide (pwE en (eI E a ((↑i : Int).toNat *
      (3 : Nat) + (1 : Nat))) (eI E a ((↑i : Int).toNat * (3 : Nat) + (2 : Nat))) = pwE en (eI E a ((↑i : Int).toNat * (3 : Nat) + (1 : Nat))) (eI E a ((↑i : Int).toNat * (3 :
      Nat) + (2 : Nat)))) = true ∧ decide (pwR rq ky (eI E a ((↑i : Int).toNat * (3 : Nat) + (1 : Nat))) (eI E a ((↑i : Int).toNat * (3 : Nat) + (2 : Nat))) = pwR rq ky (eI E a
      ((↑i : Int).toNat * (3 : Nat) + (1 : Nat))) (eI E a ((↑i : Int).toNat * (3 : Nat) + (2 : Nat)))) = true ∧ decide (pwW wa (eI E a ((↑i : Int).toNat * (3 : Nat) + (1 :
      Nat))) (eI E a ((↑i : Int).toNat * (3 : Nat) + (2 : Nat))) = pwW wa (eI E a ((↑i : Int).toNat * (3 : Nat) + (1 : Nat))) (eI E a ((↑i : Int).toNat * (3 : Nat) + (2 :
      Nat)))) = true ∧ decide (ky = ky) = true ∧ decide (pwM pm (eI E a ((↑i : Int).toNat * (3 : Nat) + (1 : Nat))) (eI E a ((↑i : Int).toNat * (3 : Nat) + (2 : Nat))) = pwM pm
      (eI E a ((↑i : Int).toNat * (3 : Nat) + (1 : Nat))) (eI E a ((↑i : Int).toNat * (3 : Nat) + (2 : Nat)))) = true ∧ kpN (fun q_ => rwE (eO (rk e r k w m)) (eI E a ((↑i :
      Int).toNat * (3 : Nat) + (1 : Nat))) (eI E a ((↑i : Int).toNat * (3 : Nat) + (2 : Nat))) q_) 14 0 (kpN (fun q_ => rwR (rO (rk e r k w m)) (kO (rk e r k w m)) (eI E a ((↑i
      : Int).toNat * (3 : Nat) + (1 : Nat))) (eI E a ((↑i : Int).toNat * (3 : Nat) + (2 : Nat))) q_) 14 0 (kpN (fun q_ => kO (rk e r k w m) q_) 10 0 (decide (pwW (iAt (rk e r k
      w m) (38 : Nat)) (eI E a ((↑i : Int).toNat * (3 : Nat) + (1 : Nat))) (eI E a ((↑i : Int).toNat * (3 : Nat) + (2 : Nat))) = pwW (iAt (rk e r k w m) (38 : Nat)) (eI E a ((↑i
      : Int).toNat * (3 : Nat) + (1 : Nat))) (eI E a ((↑i : Int).toNat * (3 : Nat) + (2 : Nat)))) = true ∧ decide (rwM (bAt (rk e r k w m) (39 : Nat)) (eI E a ((↑i : Int).toNat
      * (3 : Nat) + (1 : Nat))) (eI E a ((↑i : Int).toNat * (3 : Nat) + (2 : Nat))) = rwM (bAt (rk e r k w m) (39 : Nat)) (eI E a ((↑i : Int).toNat * (3 : Nat) + (1 : Nat))) (eI
      E a ((↑i : Int).toNat * (3 : Nat) + (2 : Nat)))) = true ∧ decide (eI E a ((↑i : Int).toNat * (3 : Nat) + (0 : Nat)) = eI E a ((↑i : Int).toNat * (3 : Nat) + (0 : Nat))) =
      true ∧ decide (eI E a ((↑i : Int).toNat * (3 : Nat) + (1 : Nat)) = eI E a ((↑i : Int).toNat * (3 : Nat) + (1 : Nat))) = true ∧ decide (eI E a ((↑i : Int).toNat * (3 : Nat)
      + (2 : Nat)) = eI E a ((↑i : Int).toNat * (3 : Nat) + (2 : Nat))) = true ∧ ((true ^^ pwkV (pwE en (eI E a ((↑i : Int).toNat * (3 : Nat) + (1 : Nat))) (eI E a ((↑i :
      Int).toNat * (3 : Nat) + (2 : Nat)))) (pwR rq ky (eI E a ((↑i : Int).toNat * (3 : Nat) + (1 : Nat))) (eI E a ((↑i : Int).toNat * (3 : Nat) + (2 : Nat)))) == wkN (eO (rk
      (rwE (eO (rk e r k w m)) (eI E a ((↑i : Int).toNat * (3 : Nat) + (1 : Nat))) (eI E a ((↑i : Int).toNat * (3 : Nat) + (2 : Nat)))) (rwR (rO (rk e r k w m)) (kO (rk e r k w
      m)) (eI E a ((↑i : Int).toNat * (3 : Nat) + (1 : Nat))) (eI E a ((↑i : Int).toNat * (3 : Nat) + (2 : Nat)))) (kO (rk e r k w m)) (pwW (iAt (rk e r k w m) (38 : Nat)) (eI E
      a ((↑i : Int).toNat * (3 : Nat) + (1 : Nat))) (eI E a ((↑i : Int).toNat * (3 : Nat) + (2 : Nat)))) (rwM (bAt (rk e r k w m) (39 : Nat)) (eI E a ((↑i : Int).toNat * (3 :
      Nat) + (1 : Nat))) (eI E a ((↑i : Int).toNat * (3 : Nat) + (2 : Nat)))))) (rO (rk (rwE (eO (rk e r k w m)) (eI E a ((↑i : Int).toNat * (3 : Nat) + (1 : Nat))) (eI E a ((↑i
      : Int).toNat * (3 : Nat) + (2 : Nat)))) (rwR (rO (rk e r k w m)) (kO (rk e r k w m)) (eI E a ((↑i : Int).toNat * (3 : Nat) + (1 : Nat))) (eI E a ((↑i : Int).toNat * (3 :
      Nat) + (2 : Nat)))) (kO (rk e r k w m)) (pwW (iAt (rk e r k w m) (38 : Nat)) (eI E a ((↑i : Int).toNat * (3 : Nat) + (1 : Nat))) (eI E a ((↑i : Int).toNat * (3 : Nat) + (2
      : Nat)))) (rwM (bAt (rk e r k w m) (39 : Nat)) (eI E a ((↑i : Int).toNat * (3 : Nat) + (1 : Nat))) (eI E a ((↑i : Int).toNat * (3 : Nat) + (2 : Nat)))))) (14 : Nat) (0 :
      Nat)) = true → false = true) ∧ ((true ^^ pwkV (pwE en (eI E a ((↑i : Int).toNat * (3 : Nat) + (1 : Nat))) (eI E a ((↑i : Int).toNat * (3 : Nat) + (2 : Nat)))) (pwR rq ky
      (eI E a ((↑i : Int).toNat * (3 : Nat) + (1 : Nat))) (eI E a ((↑i : Int).toNat * (3 : Nat) + (2 : Nat)))) == wkN (eO (rk (rwE (eO (rk e r k w m)) (eI E a ((↑i : Int).toNat
      * (3 : Nat) + (1 : Nat))) (eI E a ((↑i : Int).toNat * (3 : Nat) + (2 : Nat)))) (rwR (rO (rk e r k w m)) (kO (rk e r k w m)) (eI E a ((↑i : Int).toNat * (3 : Nat) + (1 :
      Nat))) (eI E a ((↑i : Int).toNat * (3 : Nat) + (2 : Nat)))) (kO (rk e r k w m)) (pwW (iAt (rk e r k w m) (38 : Nat)) (eI E a ((↑i : Int).toNat * (3 : Nat) + (1 : Nat)))
      (eI E a ((↑i : Int).toNat * (3 : Nat) + (2 : Nat)))) (rwM (bAt (rk e r k w m) (39 : Nat)) (eI E a ((↑i : Int).toNat * (3 : Nat) + (1 : Nat))) (eI E a ((↑i : Int).toNat *
      (3 : Nat) + (2 : Nat)))))) (rO (rk (rwE (eO (rk e r k w m)) (eI E a ((↑i : Int).toNat * (3 : Nat) + (1 : Nat))) (eI E a ((↑i : Int).toNat * (3 : Nat) + (2 : Nat)))) (rwR
      (rO (rk e r k w m)) (kO (rk e r k w m)) (eI E a ((↑i : Int).toNat * (3 : Nat) + (1 : Nat))) (eI E a ((↑i : Int).toNat * (3 : Nat) + (2 : Nat)))) (kO (rk e r k w m)) (pwW
      (iAt (rk e r k w m) (38 : Nat)) (eI E a ((↑i : Int).toNat * (3 : Nat) + (1 : Nat))) (eI E a ((↑i : Int).toNat * (3 : Nat) + (2 : Nat)))) (rwM (bAt (rk e r k w m) (39 :
      Nat)) (eI E a ((↑i : Int).toNat * (3 : Nat) + (1 : Nat))) (eI E a ((↑i : Int).toNat * (3 : Nat) + (2 : Nat)))))) (14 : Nat) (0 : Nat)) = false → decide (pwE en (eI E a
      ((↑i : Int).toNat * (3 : Nat) + (1 : Nat))) (eI E a ((↑i : Int).toNat * (3 : Nat) + (2 : Nat))) = pwE en (eI E a ((↑i : Int).toNat * (3 : Nat) + (1 : Nat))) (eI E a ((↑i :
      Int).toNat * (3 : Nat) + (2 : Nat)))) = true ∧ decide (pwR rq ky (eI E a ((↑i : Int).toNat * (3 : Nat) + (1 : Nat))) (eI E a ((↑i : Int).toNat * (3 : Nat) + (2 : Nat))) =
      pwR rq ky (eI E a ((↑i : Int).toNat * (3 : Nat) + (1 : Nat))) (eI E a ((↑i : Int).toNat * (3 : Nat) + (2 : Nat)))) = true ∧ decide (pwW wa (eI E a ((↑i : Int).toNat * (3 :
      Nat) + (1 : Nat))) (eI E a ((↑i : Int).toNat * (3 : Nat) + (2 : Nat))) = pwW wa (eI E a ((↑i : Int).toNat * (3 : Nat) + (1 : Nat))) (eI E a ((↑i : Int).toNat * (3 : Nat) +
      (2 : Nat)))) = true ∧ decide (ky = ky) = true ∧ decide (pwM pm (eI E a ((↑i : Int).toNat * (3 : Nat) + (1 : Nat))) (eI E a ((↑i : Int).toNat * (3 : Nat) + (2 : Nat))) =
      pwM pm (eI E a ((↑i : Int).toNat * (3 : Nat) + (1 : Nat))) (eI E a ((↑i : Int).toNat * (3 : Nat) + (2 : Nat)))) = true ∧ kpN (fun q_ => rwE (eO (rk e r k w m)) (eI E a
      ((↑i : Int).toNat * (3 : Nat) + (1 : Nat))) (eI E a ((↑i : Int).toNat * (3 : Nat) + (2 : Nat))) q_) 14 0 (kpN (fun q_ => rwR (rO (rk e r k w m)) (kO (rk e r k w m)) (eI E
      a ((↑i : Int).toNat * (3 : Nat) + (1 : Nat))) (eI E a ((↑i : Int).toNat * (3 : Nat) + (2 : Nat))) q_) 14 0 (kpN (fun q_ => kO (rk e r k w m) q_) 10 0 (decide (pwW (iAt (rk
      e r k w m) (38 : Nat)) (eI E a ((↑i : Int).toNat * (3 : Nat) + (1 : Nat))) (eI E a ((↑i : Int).toNat * (3 : Nat) + (2 : Nat))) = pwW (iAt (rk e r k w m) (38 : Nat)) (eI E
      a ((↑i : Int).toNat * (3 : Nat) + (1 : Nat))) (eI E a ((↑i : Int).toNat * (3 : Nat) + (2 : Nat)))) = true ∧ decide (rwM (bAt (rk e r k w m) (39 : Nat)) (eI E a ((↑i :
      Int).toNat * (3 : Nat) + (1 : Nat))) (eI E a ((↑i : Int).toNat * (3 : Nat) + (2 : Nat))) = rwM (bAt (rk e r k w m) (39 : Nat)) (eI E a ((↑i : Int).toNat * (3 : Nat) + (1 :
      Nat))) (eI E a ((↑i : Int).toNat * (3 : Nat) + (2 : Nat)))) = true ∧ decide (eI E a ((↑i : Int).toNat * (3 : Nat) + (0 : Nat)) = eI E a ((↑i : Int).toNat * (3 : Nat) + (0
      : Nat))) = true ∧ decide (eI E a ((↑i : Int).toNat * (3 : Nat) + (1 : Nat)) = eI E a ((↑i : Int).toNat * (3 : Nat) + (1 : Nat))) = true ∧ decide (eI E a ((↑i : Int).toNat
      * (3 : Nat) + (2 : Nat)) = eI E a ((↑i : Int).toNat * (3 : Nat) + (2 : Nat))) = true ∧ decide (pwE en (eI E a ((↑i : Int).toNat * (3 : Nat) + (1 : Nat))) (eI E a ((↑i :
      Int).toNat * (3 : Nat) + (2 : Nat))) = pwE en (eI E a ((↑i : Int).toNat * (3 : Nat) + (1 : Nat))) (eI E a ((↑i : Int).toNat * (3 : Nat) + (2 : Nat)))) = true ∧ decide (pwR
      rq ky (eI E a ((↑i : Int).toNat * (3 : Nat) + (1 : Nat))) (eI E a ((↑i : Int).toNat * (3 : Nat) + (2 : Nat))) = pwR rq ky (eI E a ((↑i : Int).toNat * (3 : Nat) + (1 :
      Nat))) (eI E a ((↑i : Int).toNat * (3 : Nat) + (2 : Nat)))) = true ∧ decide (pwW wa (eI E a ((↑i : Int).toNat * (3 : Nat) + (1 : Nat))) (eI E a ((↑i : Int).toNat * (3 :
      Nat) + (2 : Nat))) = pwW wa (eI E a ((↑i : Int).toNat * (3 : Nat) + (1 : Nat))) (eI E a ((↑i : Int).toNat * (3 : Nat) + (2 : Nat)))) = true ∧ decide (ky = ky) = true ∧
      decide (pwM pm (eI E a ((↑i : Int).toNat * (3 : Nat) + (1 : Nat))) (eI E a ((↑i : Int).toNat * (3 : Nat) + (2 : Nat))) = pwM pm (eI E a ((↑i : Int).toNat * (3 : Nat) + (1
      : Nat))) (eI E a ((↑i : Int).toNat * (3 : Nat) + (2 : Nat)))) = true ∧ kpN (fun q_ => rwE (eO (rk e r k w m)) (eI E a ((↑i : Int).toNat * (3 : Nat) + (1 : Nat))) (eI E a
      ((↑i : Int).toNat * (3 : Nat) + (2 : Nat))) q_) 14 0 (kpN (fun q_ => rwR (rO (rk e r k w m)) (kO (rk e r k w m)) (eI E a ((↑i : Int).toNat * (3 : Nat) + (1 : Nat))) (eI E
      a ((↑i : Int).toNat * (3 : Nat) + (2 : Nat))) q_) 14 0 (kpN (fun q_ => kO (rk e r k w m) q_) 10 0 (decide (pwW (iAt (rk e r k w m) (38 : Nat)) (eI E a ((↑i : Int).toNat *
      (3 : Nat) + (1 : Nat))) (eI E a ((↑i : Int).toNat * (3 : Nat) + (2 : Nat))) = pwW (iAt (rk e r k w m) (38 : Nat)) (eI E a ((↑i : Int).toNat * (3 : Nat) + (1 : Nat))) (eI E
      a ((↑i : Int).toNat * (3 : Nat) + (2 : Nat)))) = true ∧ decide (rwM (bAt (rk e r k w m) (39 : Nat)) (eI E a ((↑i : Int).toNat * (3 : Nat) + (1 : Nat))) (eI E a ((↑i :
      Int).toNat * (3 : Nat) + (2 : Nat))) = rwM (bAt (rk e r k w m) (39 : Nat)) (eI E a ((↑i : Int).toNat * (3 : Nat) + (1 : Nat))) (eI E a ((↑i : Int).toNat * (3 : Nat) + (2 :
      Nat)))) = true ∧ decide (eI E a ((↑i : Int).toNat * (3 : Nat) + (0 : Nat)) = eI E a ((↑i : Int).toNat * (3 : Nat) + (0 : Nat))) = true ∧ decide (eI E a ((↑i : Int).toNat *
      (3 : Nat) + (1 : Nat)) = eI E a ((↑i : Int).toNat * (3 : Nat) + (1 : Nat))) = true ∧ decide (eI E a ((↑i : Int).toNat * (3 : Nat) + (2 : Nat)) = eI E a ((↑i : Int).toNat *
      (3 : Nat) + (2 : Nat))) = true ∧ ((true ^^ (pwkV (pwE en (eI E a ((↑i : Int).toNat * (3 : Nat) + (1 : Nat))) (eI E a ((↑i : Int).toNat * (3 : Nat) + (2 : Nat)))) (pwR rq
      ky (eI E a ((↑i : Int).toNat * (3 : Nat) + (1 : Nat))) (eI E a ((↑i : Int).toNat * (3 : Nat) + (2 : Nat)))) && pwM pm (eI E a ((↑i : Int).toNat * (3 : Nat) + (1 : Nat)))
      (eI E a ((↑i : Int).toNat * (3 : Nat) + (2 : Nat)))) == (bAt (rk (rwE (eO (rk e r k w m)) (eI E a ((↑i : Int).toNat * (3 : Nat) + (1 : Nat))) (eI E a ((↑i : Int).toNat *
      (3 : Nat) + (2 : Nat)))) (rwR (rO (rk e r k w m)) (kO (rk e r k w m)) (eI E a ((↑i : Int).toNat * (3 : Nat) + (1 : Nat))) (eI E a ((↑i : Int).toNat * (3 : Nat) + (2 :
      Nat)))) (kO (rk e r k w m)) (pwW (iAt (rk e r k w m) (38 : Nat)) (eI E a ((↑i : Int).toNat * (3 : Nat) + (1 : Nat))) (eI E a ((↑i : Int).toNat * (3 : Nat) + (2 : Nat))))
      (rwM (bAt (rk e r k w m) (39 : Nat)) (eI E a ((↑i : Int).toNat * (3 : Nat) + (1 : Nat))) (eI E a ((↑i : Int).toNat * (3 : Nat) + (2 : Nat))))) (39 : Nat) && wkN (eO (rk
      (rwE (eO (rk e r k w m)) (eI E a ((↑i : Int).toNat * (3 : Nat) + (1 : Nat))) (eI E a ((↑i : Int).toNat * (3 : Nat) + (2 : Nat)))) (rwR (rO (rk e r k w m)) (kO (rk e r k w
      m)) (eI E a ((↑i : Int).toNat * (3 : Nat) + (1 : Nat))) (eI E a ((↑i : Int).toNat * (3 : Nat) + (2 : Nat)))) (kO (rk e r k w m)) (pwW (iAt (rk e r k w m) (38 : Nat)) (eI E
      a ((↑i : Int).toNat * (3 : Nat) + (1 : Nat))) (eI E a ((↑i : Int).toNat * (3 : Nat) + (2 : Nat)))) (rwM (bAt (rk e r k w m) (39 : Nat)) (eI E a ((↑i : Int).toNat * (3 :
      Nat) + (1 : Nat))) (eI E a ((↑i : Int).toNat * (3 : Nat) + (2 : Nat)))))) (rO (rk (rwE (eO (rk e r k w m)) (eI E a ((↑i : Int).toNat * (3 : Nat) + (1 : Nat))) (eI E a ((↑i
      : Int).toNat * (3 : Nat) + (2 : Nat)))) (rwR (rO (rk e r k w m)) (kO (rk e r k w m)) (eI E a ((↑i : Int).toNat * (3 : Nat) + (1 : Nat))) (eI E a ((↑i : Int).toNat * (3 :
      Nat) + (2 : Nat)))) (kO (rk e r k w m)) (pwW (iAt (rk e r k w m) (38 : Nat)) (eI E a ((↑i : Int).toNat * (3 : Nat) + (1 : Nat))) (eI E a ((↑i : Int).toNat * (3 : Nat) + (2
      : Nat)))) (rwM (bAt (rk e r k w m) (39 : Nat)) (eI E a ((↑i : Int).toNat * (3 : Nat) + (1 : Nat))) (eI E a ((↑i : Int).toNat * (3 : Nat) + (2 : Nat)))))) (14 : Nat) (0 :
      Nat))) = true → false = true) ∧ ((true ^^ (pwkV (pwE en (eI E a ((↑i : Int).toNat * (3 : Nat) + (1 : Nat))) (eI E a ((↑i : Int).toNat * (3 : Nat) + (2 : Nat)))) (pwR rq ky
      (eI E a ((↑i : Int).toNat * (3 : Nat) + (1 : Nat))) (eI E a ((↑i : Int).toNat * (3 : Nat) + (2 : Nat)))) && pwM pm (eI E a ((↑i : Int).toNat * (3 : Nat) + (1 : Nat))) (eI
      E a ((↑i : Int).toNat * (3 : Nat) + (2 : Nat)))) == (bAt (rk (rwE (eO (rk e r k w m)) (eI E a ((↑i : Int).toNat * (3 : Nat) + (1 : Nat))) (eI E a ((↑i : Int).toNat * (3 :
      Nat) + (2 : Nat)))) (rwR (rO (rk e r k w m)) (kO (rk e r k w m)) (eI E a ((↑i : Int).toNat * (3 : Nat) + (1 : Nat))) (eI E a ((↑i : Int).toNat * (3 : Nat) + (2 : Nat))))
      (kO (rk e r k w m)) (pwW (iAt (rk e r k w m) (38 : Nat)) (eI E a ((↑i : Int).toNat * (3 : Nat) + (1 : Nat))) (eI E a ((↑i : Int).toNat * (3 : Nat) + (2 : Nat)))) (rwM (bAt
      (rk e r k w m) (39 : Nat)) (eI E a ((↑i : Int).toNat * (3 : Nat) + (1 : Nat))) (eI E a ((↑i : Int).toNat * (3 : Nat) + (2 : Nat))))) (39 : Nat) && wkN (eO (rk (rwE (eO (rk
      e r k w m)) (eI E a ((↑i : Int).toNat * (3 : Nat) + (1 : Nat))) (eI E a ((↑i : Int).toNat * (3 : Nat) + (2 : Nat)))) (rwR (rO (rk e r k w m)) (kO (rk e r k w m)) (eI E a
      ((↑i : Int).toNat * (3 : Nat) + (1 : Nat))) (eI E a ((↑i : Int).toNat * (3 : Nat) + (2 : Nat)))) (kO (rk e r k w m)) (pwW (iAt (rk e r k w m) (38 : Nat)) (eI E a ((↑i :
      Int).toNat * (3 : Nat) + (1 : Nat))) (eI E a ((↑i : Int).toNat * (3 : Nat) + (2 : Nat)))) (rwM (bAt (rk e r k w m) (39 : Nat)) (eI E a ((↑i : Int).toNat * (3 : Nat) + (1 :
      Nat))) (eI E a ((↑i : Int).toNat * (3 : Nat) + (2 : Nat)))))) (rO (rk (rwE (eO (rk e r k w m)) (eI E a ((↑i : Int).toNat * (3 : Nat) + (1 : Nat))) (eI E a ((↑i :
      Int).toNat * (3 : Nat) + (2 : Nat)))) (rwR (rO (rk e r k w m)) (kO (rk e r k w m)) (eI E a ((↑i : Int).toNat * (3 : Nat) + (1 : Nat))) (eI E a ((↑i : Int).toNat * (3 :
      Nat) + (2 : Nat)))) (kO (rk e r k w m)) (pwW (iAt (rk e r k w m) (38 : Nat)) (eI E a ((↑i : Int).toNat * (3 : Nat) + (1 : Nat))) (eI E a ((↑i : Int).toNat * (3 : Nat) + (2
      : Nat)))) (rwM (bAt (rk e r k w m) (39 : Nat)) (eI E a ((↑i : Int).toNat * (3 : Nat) + (1 : Nat))) (eI E a ((↑i : Int).toNat * (3 : Nat) + (2 : Nat)))))) (14 : Nat) (0 :
      Nat))) = false → decide (pwE en (eI E a ((↑i : Int).toNat * (3 : Nat) + (1 : Nat))) (eI E a ((↑i : Int).toNat * (3 : Nat) + (2 : Nat))) = pwE en (eI E a ((↑i : Int).toNat
      * (3 : Nat) + (1 : Nat))) (eI E a ((↑i : Int).toNat * (3 : Nat) + (2 : Nat)))) = true ∧ decide (pwR rq ky (eI E a ((↑i : Int).toNat * (3 : Nat) + (1 : Nat))) (eI E a ((↑i
      : Int).toNat * (3 : Nat) + (2 : Nat))) = pwR rq ky (eI E a ((↑i : Int).toNat * (3 : Nat) + (1 : Nat))) (eI E a ((↑i : Int).toNat * (3 : Nat) + (2 : Nat)))) = true ∧ decide
      (pwW wa (eI E a ((↑i : Int).toNat * (3 : Nat) + (1 : Nat))) (eI E a ((↑i : Int).toNat * (3 : Nat) + (2 : Nat))) = pwW wa (eI E a ((↑i : Int).toNat * (3 : Nat) + (1 :
      Nat))) (eI E a ((↑i : Int).toNat * (3 : Nat) + (2 : Nat)))) = true ∧ decide (ky = ky) = true ∧ decide (pwM pm (eI E a ((↑i : Int).toNat * (3 : Nat) + (1 : Nat))) (eI E a
      ((↑i : Int).toNat * (3 : Nat) + (2 : Nat))) = pwM pm (eI E a ((↑i : Int).toNat * (3 : Nat) + (1 : Nat))) (eI E a ((↑i : Int).toNat * (3 : Nat) + (2 : Nat)))) = true ∧ kpN
      (fun q_ => rwE (eO (rk e r k w m)) (eI E a ((↑i : Int).toNat * (3 : Nat) + (1 : Nat))) (eI E a ((↑i : Int).toNat * (3 : Nat) + (2 : Nat))) q_) 14 0 (kpN (fun q_ => rwR (rO
      (rk e r k w m)) (kO (rk e r k w m)) (eI E a ((↑i : Int).toNat * (3 : Nat) + (1 : Nat))) (eI E a ((↑i : Int).toNat * (3 : Nat) + (2 : Nat))) q_) 14 0 (kpN (fun q_ => kO (rk
      e r k w m) q_) 10 0 (decide (pwW (iAt (rk e r k w m) (38 : Nat)) (eI E a ((↑i : Int).toNat * (3 : Nat) + (1 : Nat))) (eI E a ((↑i : Int).toNat * (3 : Nat) + (2 : Nat))) =
      pwW (iAt (rk e r k w m) (38 : Nat)) (eI E a ((↑i : Int).toNat * (3 : Nat) + (1 : Nat))) (eI E a ((↑i : Int).toNat * (3 : Nat) + (2 : Nat)))) = true ∧ decide (rwM (bAt (rk
      e r k w m) (39 : Nat)) (eI E a ((↑i : Int).toNat * (3 : Nat) + (1 : Nat))) (eI E a ((↑i : Int).toNat * (3 : Nat) + (2 : Nat))) = rwM (bAt (rk e r k w m) (39 : Nat)) (eI E
      a ((↑i : Int).toNat * (3 : Nat) + (1 : Nat))) (eI E a ((↑i : Int).toNat * (3 : Nat) + (2 : Nat)))) = true ∧ decide (eI E a ((↑i : Int).toNat * (3 : Nat) + (0 : Nat)) = eI
      E a ((↑i : Int).toNat * (3 : Nat) + (0 : Nat))) = true ∧ decide (eI E a ((↑i : Int).toNat * (3 : Nat) + (1 : Nat)) = eI E a ((↑i : Int).toNat * (3 : Nat) + (1 : Nat))) =
      true ∧ decide (eI E a ((↑i : Int).toNat * (3 : Nat) + (2 : Nat)) = eI E a ((↑i : Int).toNat * (3 : Nat) + (2 : Nat))) = true ∧ decide (pwE en (eI E a ((↑i : Int).toNat *
      (3 : Nat) + (1 : Nat))) (eI E a ((↑i : Int).toNat * (3 : Nat) + (2 : Nat))) = pwE en (eI E a ((↑i : Int).toNat * (3 : Nat) + (1 : Nat))) (eI E a ((↑i : Int).toNat * (3 :
      Nat) + (2 : Nat)))) = true ∧ decide (pwR rq ky (eI E a ((↑i : Int).toNat * (3 : Nat) + (1 : Nat))) (eI E a ((↑i : Int).toNat * (3 : Nat) + (2 : Nat))) = pwR rq ky (eI E a
      ((↑i : Int).toNat * (3 : Nat) + (1 : Nat))) (eI E a ((↑i : Int).toNat * (3 : Nat) + (2 : Nat)))) = true ∧ decide (pwW wa (eI E a ((↑i : Int).toNat * (3 : Nat) + (1 :
      Nat))) (eI E a ((↑i : Int).toNat * (3 : Nat) + (2 : Nat))) = pwW wa (eI E a ((↑i : Int).toNat * (3 : Nat) + (1 : Nat))) (eI E a ((↑i : Int).toNat * (3 : Nat) + (2 :
      Nat)))) = true ∧ decide (ky = ky) = true ∧ decide (pwM pm (eI E a ((↑i : Int).toNat * (3 : Nat) + (1 : Nat))) (eI E a ((↑i : Int).toNat * (3 : Nat) + (2 : Nat))) = pwM pm
      (eI E a ((↑i : Int).toNat * (3 : Nat) + (1 : Nat))) (eI E a ((↑i : Int).toNat * (3 : Nat) + (2 : Nat)))) = true ∧ kpN (fun q_ => rwE (eO (rk e r k w m)) (eI E a ((↑i :
      Int).toNat * (3 : Nat) + (1 : Nat))) (eI E a ((↑i : Int).toNat * (3 : Nat) + (2 : Nat))) q_) 14 0 (kpN (fun q_ => rwR (rO (rk e r k w m)) (kO (rk e r k w m)) (eI E a ((↑i
      : Int).toNat * (3 : Nat) + (1 : Nat))) (eI E a ((↑i : Int).toNat * (3 : Nat) + (2 : Nat))) q_) 14 0 (kpN (fun q_ => kO (rk e r k w m) q_) 10 0 (decide (pwW (iAt (rk e r k
      w m) (38 : Nat)) (eI E a ((↑i : Int).toNat * (3 : Nat) + (1 : Nat))) (eI E a ((↑i : Int).toNat * (3 : Nat) + (2 : Nat))) = pwW (iAt (rk e r k w m) (38 : Nat)) (eI E a ((↑i
      : Int).toNat * (3 : Nat) + (1 : Nat))) (eI E a ((↑i : Int).toNat * (3 : Nat) + (2 : Nat)))) = true ∧ decide (rwM (bAt (rk e r k w m) (39 : Nat)) (eI E a ((↑i : Int).toNat
      * (3 : Nat) + (1 : Nat))) (eI E a ((↑i : Int).toNat * (3 : Nat) + (2 : Nat))) = rwM (bAt (rk e r k w m) (39 : Nat)) (eI E a ((↑i : Int).toNat * (3 : Nat) + (1 : Nat))) (eI
      E a ((↑i : Int).toNat * (3 : Nat) + (2 : Nat)))) = true ∧ decide (eI E a ((↑i : Int).toNat * (3 : Nat) + (0 : Nat)) = eI E a ((↑i : Int).toNat * (3 : Nat) + (0 : Nat))) =
      true ∧ decide (eI E a ((↑i : Int).toNat * (3 : Nat) + (1 : Nat)) = eI E a ((↑i : Int).toNat * (3 : Nat) + (1 : Nat))) = true ∧ decide (eI E a ((↑i : Int).toNat * (3 : Nat)
      + (2 : Nat)) = eI E a ((↑i : Int).toNat * (3 : Nat) + (2 : Nat))) = true ∧ ((pdV (pwE en (eI E a ((↑i : Int).toNat * (3 : Nat) + (1 : Nat))) (eI E a ((↑i : Int).toNat * (3
      : Nat) + (2 : Nat)))) (pwR rq ky (eI E a ((↑i : Int).toNat * (3 : Nat) + (1 : Nat))) (eI E a ((↑i : Int).toNat * (3 : Nat) + (2 : Nat)))) (pwW wa (eI E a ((↑i : Int).toNat
      * (3 : Nat) + (1 : Nat))) (eI E a ((↑i : Int).toNat * (3 : Nat) + (2 : Nat)))) ky (pwM pm (eI E a ((↑i : Int).toNat * (3 : Nat) + (1 : Nat))) (eI E a ((↑i : Int).toNat *
      (3 : Nat) + (2 : Nat)))) (eI E a ((↑i : Int).toNat * (3 : Nat) + (1 : Nat))) != rdV (eO (rk (rwE (eO (rk e r k w m)) (eI E a ((↑i : Int).toNat * (3 : Nat) + (1 : Nat)))
      (eI E a ((↑i : Int).toNat * (3 : Nat) + (2 : Nat)))) (rwR (rO (rk e r k w m)) (kO (rk e r k w m)) (eI E a ((↑i : Int).toNat * (3 : Nat) + (1 : Nat))) (eI E a ((↑i :
      Int).toNat * (3 : Nat) + (2 : Nat)))) (kO (rk e r k w m)) (pwW (iAt (rk e r k w m) (38 : Nat)) (eI E a ((↑i : Int).toNat * (3 : Nat) + (1 : Nat))) (eI E a ((↑i :
      Int).toNat * (3 : Nat) + (2 : Nat)))) (rwM (bAt (rk e r k w m) (39 : Nat)) (eI E a ((↑i : Int).toNat * (3 : Nat) + (1 : Nat))) (eI E a ((↑i : Int).toNat * (3 : Nat) + (2 :
      Nat)))))) (rO (rk (rwE (eO (rk e r k w m)) (eI E a ((↑i : Int).toNat * (3 : Nat) + (1 : Nat))) (eI E a ((↑i : Int).toNat * (3 : Nat) + (2 : Nat)))) (rwR (rO (rk e r k w
      m)) (kO (rk e r k w m)) (eI E a ((↑i : Int).toNat * (3 : Nat) + (1 : Nat))) (eI E a ((↑i : Int).toNat * (3 : Nat) + (2 : Nat)))) (kO (rk e r k w m)) (pwW (iAt (rk e r k w
      m) (38 : Nat)) (eI E a ((↑i : Int).toNat * (3 : Nat) + (1 : Nat))) (eI E a ((↑i : Int).toNat * (3 : Nat) + (2 : Nat)))) (rwM (bAt (rk e r k w m) (39 : Nat)) (eI E a ((↑i :
      Int).toNat * (3 : Nat) + (1 : Nat))) (eI E a ((↑i : Int).toNat * (3 : Nat) + (2 : Nat)))))) (kO (rk (rwE (eO (rk e r k w m)) (eI E a ((↑i : Int).toNat * (3 : Nat) + (1 :
      Nat))) (eI E a ((↑i : Int).toNat * (3 : Nat) + (2 : Nat)))) (rwR (rO (rk e r k w m)) (kO (rk e r k w m)) (eI E a ((↑i : Int).toNat * (3 : Nat) + (1 : Nat))) (eI E a ((↑i :
      Int).toNat * (3 : Nat) + (2 : Nat)))) (kO (rk e r k w m)) (pwW (iAt (rk e r k w m) (38 : Nat)) (eI E a ((↑i : Int).toNat * (3 : Nat) + (1 : Nat))) (eI E a ((↑i :
      Int).toNat * (3 : Nat) + (2 : Nat)))) (rwM (bAt (rk e r k w m) (39 : Nat)) (eI E a ((↑i : Int).toNat * (3 : Nat) + (1 : Nat))) (eI E a ((↑i : Int).toNat * (3 : Nat) + (2 :
      Nat)))))) (iAt (rk (rwE (eO (rk e r k w m)) (eI E a ((↑i : Int).toNat * (3 : Nat) + (1 : Nat))) (eI E a ((↑i : Int).toNat * (3 : Nat) + (2 : Nat)))) (rwR (rO (rk e r k w
      m)) (kO (rk e r k w m)) (eI E a ((↑i : Int).toNat * (3 : Nat) + (1 : Nat))) (eI E a ((↑i : Int).toNat * (3 : Nat) + (2 : Nat)))) (kO (rk e r k w m)) (pwW (iAt (rk e r k w
      m) (38 : Nat)) (eI E a ((↑i : Int).toNat * (3 : Nat) + (1 : Nat))) (eI E a ((↑i : Int).toNat * (3 : Nat) + (2 : Nat)))) (rwM (bAt (rk e r k w m) (39 : Nat)) (eI E a ((↑i :
      Int).toNat * (3 : Nat) + (1 : Nat))) (eI E a ((↑i : Int).toNat * (3 : Nat) + (2 : Nat))))) (38 : Nat)) (bAt (rk (rwE (eO (rk e r k w m)) (eI E a ((↑i : Int).toNat * (3 :
      Nat) + (1 : Nat))) (eI E a ((↑i : Int).toNat * (3 : Nat) + (2 : Nat)))) (rwR (rO (rk e r k w m)) (kO (rk e r k w m)) (eI E a ((↑i : Int).toNat * (3 : Nat) + (1 : Nat)))
      (eI E a ((↑i : Int).toNat * (3 : Nat) + (2 : Nat)))) (kO (rk e r k w m)) (pwW (iAt (rk e r k w m) (38 : Nat)) (eI E a ((↑i : Int).toNat * (3 : Nat) + (1 : Nat))) (eI E a
      ((↑i : Int).toNat * (3 : Nat) + (2 : Nat)))) (rwM (bAt (rk e r k w m) (39 : Nat)) (eI E a ((↑i : Int).toNat * (3 : Nat) + (1 : Nat))) (eI E a ((↑i : Int).toNat * (3 : Nat)
      + (2 : Nat))))) (39 : Nat)) (eI E a ((↑i : Int).toNat * (3 : Nat) + (1 : Nat)))) = true → false = true) ∧ ((pdV (pwE en (eI E a ((↑i : Int).toNat * (3 : Nat) + (1 : Nat)))
      (eI E a ((↑i : Int).toNat * (3 : Nat) + (2 : Nat)))) (pwR rq ky (eI E a ((↑i : Int).toNat * (3 : Nat) + (1 : Nat))) (eI E a ((↑i : Int).toNat * (3 : Nat) + (2 : Nat))))
      (pwW wa (eI E a ((↑i : Int).toNat * (3 : Nat) + (1 : Nat))) (eI E a ((↑i : Int).toNat * (3 : Nat) + (2 : Nat)))) ky (pwM pm (eI E a ((↑i : Int).toNat * (3 : Nat) + (1 :
      Nat))) (eI E a ((↑i : Int).toNat * (3 : Nat) + (2 : Nat)))) (eI E a ((↑i : Int).toNat * (3 : Nat) + (1 : Nat))) != rdV (eO (rk (rwE (eO (rk e r k w m)) (eI E a ((↑i :
      Int).toNat * (3 : Nat) + (1 : Nat))) (eI E a ((↑i : Int).toNat * (3 : Nat) + (2 : Nat)))) (rwR (rO (rk e r k w m)) (kO (rk e r k w m)) (eI E a ((↑i : Int).toNat * (3 :
      Nat) + (1 : Nat))) (eI E a ((↑i : Int).toNat * (3 : Nat) + (2 : Nat)))) (kO (rk e r k w m)) (pwW (iAt (rk e r k w m) (38 : Nat)) (eI E a ((↑i : Int).toNat * (3 : Nat) + (1
      : Nat))) (eI E a ((↑i : Int).toNat * (3 : Nat) + (2 : Nat)))) (rwM (bAt (rk e r k w m) (39 : Nat)) (eI E a ((↑i : Int).toNat * (3 : Nat) + (1 : Nat))) (eI E a ((↑i :
      Int).toNat * (3 : Nat) + (2 : Nat)))))) (rO (rk (rwE (eO (rk e r k w m)) (eI E a ((↑i : Int).toNat * (3 : Nat) + (1 : Nat))) (eI E a ((↑i : Int).toNat * (3 : Nat) + (2 :
      Nat)))) (rwR (rO (rk e r k w m)) (kO (rk e r k w m)) (eI E a ((↑i : Int).toNat * (3 : Nat) + (1 : Nat))) (eI E a ((↑i : Int).toNat * (3 : Nat) + (2 : Nat)))) (kO (rk e r k
      w m)) (pwW (iAt (rk e r k w m) (38 : Nat)) (eI E a ((↑i : Int).toNat * (3 : Nat) + (1 : Nat))) (eI E a ((↑i : Int).toNat * (3 : Nat) + (2 : Nat)))) (rwM (bAt (rk e r k w
      m) (39 : Nat)) (eI E a ((↑i : Int).toNat * (3 : Nat) + (1 : Nat))) (eI E a ((↑i : Int).toNat * (3 : Nat) + (2 : Nat)))))) (kO (rk (rwE (eO (rk e r k w m)) (eI E a ((↑i :
      Int).toNat * (3 : Nat) + (1 : Nat))) (eI E a ((↑i : Int).toNat * (3 : Nat) + (2 : Nat)))) (rwR (rO (rk e r k w m)) (kO (rk e r k w m)) (eI E a ((↑i : Int).toNat * (3 :
      Nat) + (1 : Nat))) (eI E a ((↑i : Int).toNat * (3 : Nat) + (2 : Nat)))) (kO (rk e r k w m)) (pwW (iAt (rk e r k w m) (38 : Nat)) (eI E a ((↑i : Int).toNat * (3 : Nat) + (1
      : Nat))) (eI E a ((↑i : Int).toNat * (3 : Nat) + (2 : Nat)))) (rwM (bAt (rk e r k w m) (39 : Nat)) (eI E a ((↑i : Int).toNat * (3 : Nat) + (1 : Nat))) (eI E a ((↑i :
      Int).toNat * (3 : Nat) + (2 : Nat)))))) (iAt (rk (rwE (eO (rk e r k w m)) (eI E a ((↑i : Int).toNat * (3 : Nat) + (1 : Nat))) (eI E a ((↑i : Int).toNat * (3 : Nat) + (2 :
      Nat)))) (rwR (rO (rk e r k w m)) (kO (rk e r k w m)) (eI E a ((↑i : Int).toNat * (3 : Nat) + (1 : Nat))) (eI E a ((↑i : Int).toNat * (3 : Nat) + (2 : Nat)))) (kO (rk e r k
      w m)) (pwW (iAt (rk e r k w m) (38 : Nat)) (eI E a ((↑i : Int).toNat * (3 : Nat) + (1 : Nat))) (eI E a ((↑i : Int).toNat * (3 : Nat) + (2 : Nat)))) (rwM (bAt (rk e r k w
      m) (39 : Nat)) (eI E a ((↑i : Int).toNat * (3 : Nat) + (1 : Nat))) (eI E a ((↑i : Int).toNat * (3 : Nat) + (2 : Nat))))) (38 : Nat)) (bAt (rk (rwE (eO (rk e r k w m)) (eI
      E a ((↑i : Int).toNat * (3 : Nat) + (1 : Nat))) (eI E a ((↑i : Int).toNat * (3 : Nat) + (2 : Nat)))) (rwR (rO (rk e r k w m)) (kO (rk e r k w m)) (eI E a ((↑i : Int).toNat
      * (3 : Nat) + (1 : Nat))) (eI E a ((↑i : Int).toNat * (3 : Nat) + (2 : Nat)))) (kO (rk e r k w m)) (pwW (iAt (rk e r k w m) (38 : Nat)) (eI E a ((↑i : Int).toNat * (3 :
      Nat) + (1 : Nat))) (eI E a ((↑i : Int).toNat * (3 : Nat) + (2 : Nat)))) (rwM (bAt (rk e r k w m) (39 : Nat)) (eI E a ((↑i : Int).toNat * (3 : Nat) + (1 : Nat))) (eI E a
      ((↑i : Int).toNat * (3 : Nat) + (2 : Nat))))) (39 : Nat)) (eI E a ((↑i : Int).toNat * (3 : Nat) + (1 : Nat)))) = false → ((pdV (pwE en (eI E a ((↑i : Int).toNat * (3 :
      Nat) + (1 : Nat))) (eI E a ((↑i : Int).toNat * (3 : Nat) + (2 : Nat)))) (pwR rq ky (eI E a ((↑i : Int).toNat * (3 : Nat) + (1 : Nat))) (eI E a ((↑i : Int).toNat * (3 :
      Nat) + (2 : Nat)))) (pwW wa (eI E a ((↑i : Int).toNat * (3 : Nat) + (1 : Nat))) (eI E a ((↑i : Int).toNat * (3 : Nat) + (2 : Nat)))) ky (pwM pm (eI E a ((↑i : Int).toNat *
      (3 : Nat) + (1 : Nat))) (eI E a ((↑i : Int).toNat * (3 : Nat) + (2 : Nat)))) (304 : Int) != rdV (eO (rk (rwE (eO (rk e r k w m)) (eI E a ((↑i : Int).toNat * (3 : Nat) + (1
      : Nat))) (eI E a ((↑i : Int).toNat * (3 : Nat) + (2 : Nat)))) (rwR (rO (rk e r k w m)) (kO (rk e r k w m)) (eI E a ((↑i : Int).toNat * (3 : Nat) + (1 : Nat))) (eI E a ((↑i
      : Int).toNat * (3 : Nat) + (2 : Nat)))) (kO (rk e r k w m)) (pwW (iAt (rk e r k w m) (38 : Nat)) (eI E a ((↑i : Int).toNat * (3 : Nat) + (1 : Nat))) (eI E a ((↑i :
      Int).toNat * (3 : Nat) + (2 : Nat)))) (rwM (bAt (rk e r k w m) (39 : Nat)) (eI E a ((↑i : Int).toNat * (3 : Nat) + (1 : Nat))) (eI E a ((↑i : Int).toNat * (3 : Nat) + (2 :
      Nat)))))) (rO (rk (rwE (eO (rk e r k w m)) (eI E a ((↑i : Int).toNat * (3 : Nat) + (1 : Nat))) (eI E a ((↑i : Int).toNat * (3 : Nat) + (2 : Nat)))) (rwR (rO (rk e r k w
      m)) (kO (rk e r k w m)) (eI E a ((↑i : Int).toNat * (3 : Nat) + (1 : Nat))) (eI E a ((↑i : Int).toNat * (3 : Nat) + (2 : Nat)))) (kO (rk e r k w m)) (pwW (iAt (rk e r k w
      m) (38 : Nat)) (eI E a ((↑i : Int).toNat * (3 : Nat) + (1 : Nat))) (eI E a ((↑i : Int).toNat * (3 : Nat) + (2 : Nat)))) (rwM (bAt (rk e r k w m) (39 : Nat)) (eI E a ((↑i :
      Int).toNat * (3 : Nat) + (1 : Nat))) (eI E a ((↑i : Int).toNat * (3 : Nat) + (2 : Nat)))))) (kO (rk (rwE (eO (rk e r k w m)) (eI E a ((↑i : Int).toNat * (3 : Nat) + (1 :
      Nat))) (eI E a ((↑i : Int).toNat * (3 : Nat) + (2 : Nat)))) (rwR (rO (rk e r k w m)) (kO (rk e r k w m)) (eI E a ((↑i : Int).toNat * (3 : Nat) + (1 : Nat))) (eI E a ((↑i :
      Int).toNat * (3 : Nat) + (2 : Nat)))) (kO (rk e r k w m)) (pwW (iAt (rk e r k w m) (38 : Nat)) (eI E a ((↑i : Int).toNat * (3 : Nat) + (1 : Nat))) (eI E a ((↑i :
      Int).toNat * (3 : Nat) + (2 : Nat)))) (rwM (bAt (rk e r k w m) (39 : Nat)) (eI E a ((↑i : Int).toNat * (3 : Nat) + (1 : Nat))) (eI E a ((↑i : Int).toNat * (3 : Nat) + (2 :
      Nat)))))) (iAt (rk (rwE (eO (rk e r k w m)) (eI E a ((↑i : Int).toNat * (3 : Nat) + (1 : Nat))) (eI E a ((↑i : Int).toNat * (3 : Nat) + (2 : Nat)))) (rwR (rO (rk e r k w
      m)) (kO (rk e r k w m)) (eI E a ((↑i : Int).toNat * (3 : Nat) + (1 : Nat))) (eI E a ((↑i : Int).toNat * (3 : Nat) + (2 : Nat)))) (kO (rk e r k w m)) (pwW (iAt (rk e r k w
      m) (38 : Nat)) (eI E a ((↑i : Int).toNat * (3 : Nat) + (1 : Nat))) (eI E a ((↑i : Int).toNat * (3 : Nat) + (2 : Nat)))) (rwM (bAt (rk e r k w m) (39 : Nat)) (eI E a ((↑i :
      Int).toNat * (3 : Nat) + (1 : Nat))) (eI E a ((↑i : Int).toNat * (3 : Nat) + (2 : Nat))))) (38 : Nat)) (bAt (rk (rwE (eO (rk e r k w m)) (eI E a ((↑i : Int).toNat * (3 :
      Nat) + (1 : Nat))) (eI E a ((↑i : Int).toNat * (3 : Nat) + (2 : Nat)))) (rwR (rO (rk e r k w m)) (kO (rk e r k w m)) (eI E a ((↑i : Int).toNat * (3 : Nat) + (1 : Nat)))
      (eI E a ((↑i : Int).toNat * (3 : Nat) + (2 : Nat)))) (kO (rk e r k w m)) (pwW (iAt (rk e r k w m) (38 : Nat)) (eI E a ((↑i : Int).toNat * (3 : Nat) + (1 : Nat))) (eI E a
      ((↑i : Int).toNat * (3 : Nat) + (2 : Nat)))) (rwM (bAt (rk e r k w m) (39 : Nat)) (eI E a ((↑i : Int).toNat * (3 : Nat) + (1 : Nat))) (eI E a ((↑i : Int).toNat * (3 : Nat)
      + (2 : Nat))))) (39 : Nat)) (304 : Int)) = true → false = true) ∧ ((pdV (pwE en (eI E a ((↑i : Int).toNat * (3 : Nat) + (1 : Nat))) (eI E a ((↑i : Int).toNat * (3 : Nat) +
      (2 : Nat)))) (pwR rq ky (eI E a ((↑i : Int).toNat * (3 : Nat) + (1 : Nat))) (eI E a ((↑i : Int).toNat * (3 : Nat) + (2 : Nat)))) (pwW wa (eI E a ((↑i : Int).toNat * (3 :
      Nat) + (1 : Nat))) (eI E a ((↑i : Int).toNat * (3 : Nat) + (2 : Nat)))) ky (pwM pm (eI E a ((↑i : Int).toNat * (3 : Nat) + (1 : Nat))) (eI E a ((↑i : Int).toNat * (3 :
      Nat) + (2 : Nat)))) (304 : Int) != rdV (eO (rk (rwE (eO (rk e r k w m)) (eI E a ((↑i : Int).toNat * (3 : Nat) + (1 : Nat))) (eI E a ((↑i : Int).toNat * (3 : Nat) + (2 :
      Nat)))) (rwR (rO (rk e r k w m)) (kO (rk e r k w m)) (eI E a ((↑i : Int).toNat * (3 : Nat) + (1 : Nat))) (eI E a ((↑i : Int).toNat * (3 : Nat) + (2 : Nat)))) (kO (rk e r k
      w m)) (pwW (iAt (rk e r k w m) (38 : Nat)) (eI E a ((↑i : Int).toNat * (3 : Nat) + (1 : Nat))) (eI E a ((↑i : Int).toNat * (3 : Nat) + (2 : Nat)))) (rwM (bAt (rk e r k w
      m) (39 : Nat)) (eI E a ((↑i : Int).toNat * (3 : Nat) + (1 : Nat))) (eI E a ((↑i : Int).toNat * (3 : Nat) + (2 : Nat)))))) (rO (rk (rwE (eO (rk e r k w m)) (eI E a ((↑i :
      Int).toNat * (3 : Nat) + (1 : Nat))) (eI E a ((↑i : Int).toNat * (3 : Nat) + (2 : Nat)))) (rwR (rO (rk e r k w m)) (kO (rk e r k w m)) (eI E a ((↑i : Int).toNat * (3 :
      Nat) + (1 : Nat))) (eI E a ((↑i : Int).toNat * (3 : Nat) + (2 : Nat)))) (kO (rk e r k w m)) (pwW (iAt (rk e r k w m) (38 : Nat)) (eI E a ((↑i : Int).toNat * (3 : Nat) + (1
      : Nat))) (eI E a ((↑i : Int).toNat * (3 : Nat) + (2 : Nat)))) (rwM (bAt (rk e r k w m) (39 : Nat)) (eI E a ((↑i : Int).toNat * (3 : Nat) + (1 : Nat))) (eI E a ((↑i :
      Int).toNat * (3 : Nat) + (2 : Nat)))))) (kO (rk (rwE (eO (rk e r k w m)) (eI E a ((↑i : Int).toNat * (3 : Nat) + (1 : Nat))) (eI E a ((↑i : Int).toNat * (3 : Nat) + (2 :
      Nat)))) (rwR (rO (rk e r k w m)) (kO (rk e r k w m)) (eI E a ((↑i : Int).toNat * (3 : Nat) + (1 : Nat))) (eI E a ((↑i : Int).toNat * (3 : Nat) + (2 : Nat)))) (kO (rk e r k
      w m)) (pwW (iAt (rk e r k w m) (38 : Nat)) (eI E a ((↑i : Int).toNat * (3 : Nat) + (1 : Nat))) (eI E a ((↑i : Int).toNat * (3 : Nat) + (2 : Nat)))) (rwM (bAt (rk e r k w
      m) (39 : Nat)) (eI E a ((↑i : Int).toNat * (3 : Nat) + (1 : Nat))) (eI E a ((↑i : Int).toNat * (3 : Nat) + (2 : Nat)))))) (iAt (rk (rwE (eO (rk e r k w m)) (eI E a ((↑i :
      Int).toNat * (3 : Nat) + (1 : Nat))) (eI E a ((↑i : Int).toNat * (3 : Nat) + (2 : Nat)))) (rwR (rO (rk e r k w m)) (kO (rk e r k w m)) (eI E a ((↑i : Int).toNat * (3 :
      Nat) + (1 : Nat))) (eI E a ((↑i : Int).toNat * (3 : Nat) + (2 : Nat)))) (kO (rk e r k w m)) (pwW (iAt (rk e r k w m) (38 : Nat)) (eI E a ((↑i : Int).toNat * (3 : Nat) + (1
      : Nat))) (eI E a ((↑i : Int).toNat * (3 : Nat) + (2 : Nat)))) (rwM (bAt (rk e r k w m) (39 : Nat)) (eI E a ((↑i : Int).toNat * (3 : Nat) + (1 : Nat))) (eI E a ((↑i :
      Int).toNat * (3 : Nat) + (2 : Nat))))) (38 : Nat)) (bAt (rk (rwE (eO (rk e r k w m)) (eI E a ((↑i : Int).toNat * (3 : Nat) + (1 : Nat))) (eI E a ((↑i : Int).toNat * (3 :
      Nat) + (2 : Nat)))) (rwR (rO (rk e r k w m)) (kO (rk e r k w m)) (eI E a ((↑i : Int).toNat * (3 : Nat) + (1 : Nat))) (eI E a ((↑i : Int).toNat * (3 : Nat) + (2 : Nat))))
      (kO (rk e r k w m)) (pwW (iAt (rk e r k w m) (38 : Nat)) (eI E a ((↑i : Int).toNat * (3 : Nat) + (1 : Nat))) (eI E a ((↑i : Int).toNat * (3 : Nat) + (2 : Nat)))) (rwM (bAt
      (rk e r k w m) (39 : Nat)) (eI E a ((↑i : Int).toNat * (3 : Nat) + (1 : Nat))) (eI E a ((↑i : Int).toNat * (3 : Nat) + (2 : Nat))))) (39 : Nat)) (304 : Int)) = false →
      ((pdV (pwE en (eI E a ((↑i : Int).toNat * (3 : Nat) + (1 : Nat))) (eI E a ((↑i : Int).toNat * (3 : Nat) + (2 : Nat)))) (pwR rq ky (eI E a ((↑i : Int).toNat * (3 : Nat) +
      (1 : Nat))) (eI E a ((↑i : Int).toNat * (3 : Nat) + (2 : Nat)))) (pwW wa (eI E a ((↑i : Int).toNat * (3 : Nat) + (1 : Nat))) (eI E a ((↑i : Int).toNat * (3 : Nat) + (2 :
      Nat)))) ky (pwM pm (eI E a ((↑i : Int).toNat * (3 : Nat) + (1 : Nat))) (eI E a ((↑i : Int).toNat * (3 : Nat) + (2 : Nat)))) (306 : Int) != rdV (eO (rk (rwE (eO (rk e r k w
      m)) (eI E a ((↑i : Int).toNat * (3 : Nat) + (1 : Nat))) (eI E a ((↑i : Int).toNat * (3 : Nat) + (2 : Nat)))) (rwR (rO (rk e r k w m)) (kO (rk e r k w m)) (eI E a ((↑i :
      Int).toNat * (3 : Nat) + (1 : Nat))) (eI E a ((↑i : Int).toNat * (3 : Nat) + (2 : Nat)))) (kO (rk e r k w m)) (pwW (iAt (rk e r k w m) (38 : Nat)) (eI E a ((↑i :
      Int).toNat * (3 : Nat) + (1 : Nat))) (eI E a ((↑i : Int).toNat * (3 : Nat) + (2 : Nat)))) (rwM (bAt (rk e r k w m) (39 : Nat)) (eI E a ((↑i : Int).toNat * (3 : Nat) + (1 :
      Nat))) (eI E a ((↑i : Int).toNat * (3 : Nat) + (2 : Nat)))))) (rO (rk (rwE (eO (rk e r k w m)) (eI E a ((↑i : Int).toNat * (3 : Nat) + (1 : Nat))) (eI E a ((↑i :
      Int).toNat * (3 : Nat) + (2 : Nat)))) (rwR (rO (rk e r k w m)) (kO (rk e r k w m)) (eI E a ((↑i : Int).toNat * (3 : Nat) + (1 : Nat))) (eI E a ((↑i : Int).toNat * (3 :
      Nat) + (2 : Nat)))) (kO (rk e r k w m)) (pwW (iAt (rk e r k w m) (38 : Nat)) (eI E a ((↑i : Int).toNat * (3 : Nat) + (1 : Nat))) (eI E a ((↑i : Int).toNat * (3 : Nat) + (2
      : Nat)))) (rwM (bAt (rk e r k w m) (39 : Nat)) (eI E a ((↑i : Int).toNat * (3 : Nat) + (1 : Nat))) (eI E a ((↑i : Int).toNat * (3 : Nat) + (2 : Nat)))))) (kO (rk (rwE (eO
      (rk e r k w m)) (eI E a ((↑i : Int).toNat * (3 : Nat) + (1 : Nat))) (eI E a ((↑i : Int).toNat * (3 : Nat) + (2 : Nat)))) (rwR (rO (rk e r k w m)) (kO (rk e r k w m)) (eI E
      a ((↑i : Int).toNat * (3 : Nat) + (1 : Nat))) (eI E a ((↑i : Int).toNat * (3 : Nat) + (2 : Nat)))) (kO (rk e r k w m)) (pwW (iAt (rk e r k w m) (38 : Nat)) (eI E a ((↑i :
      Int).toNat * (3 : Nat) + (1 : Nat))) (eI E a ((↑i : Int).toNat * (3 : Nat) + (2 : Nat)))) (rwM (bAt (rk e r k w m) (39 : Nat)) (eI E a ((↑i : Int).toNat * (3 : Nat) + (1 :
      Nat))) (eI E a ((↑i : Int).toNat * (3 : Nat) + (2 : Nat)))))) (iAt (rk (rwE (eO (rk e r k w m)) (eI E a ((↑i : Int).toNat * (3 : Nat) + (1 : Nat))) (eI E a ((↑i :
      Int).toNat * (3 : Nat) + (2 : Nat)))) (rwR (rO (rk e r k w m)) (kO (rk e r k w m)) (eI E a ((↑i : Int).toNat * (3 : Nat) + (1 : Nat))) (eI E a ((↑i : Int).toNat * (3 :
      Nat) + (2 : Nat)))) (kO (rk e r k w m)) (pwW (iAt (rk e r k w m) (38 : Nat)) (eI E a ((↑i : Int).toNat * (3 : Nat) + (1 : Nat))) (eI E a ((↑i : Int).toNat * (3 : Nat) + (2
      : Nat)))) (rwM (bAt (rk e r k w m) (39 : Nat)) (eI E a ((↑i : Int).toNat * (3 : Nat) + (1 : Nat))) (eI E a ((↑i : Int).toNat * (3 : Nat) + (2 : Nat))))) (38 : Nat)) (bAt
      (rk (rwE (eO (rk e r k w m)) (eI E a ((↑i : Int).toNat * (3 : Nat) + (1 : Nat))) (eI E a ((↑i : Int).toNat * (3 : Nat) + (2 : Nat)))) (rwR (rO (rk e r k w m)) (kO (rk e r
      k w m)) (eI E a ((↑i : Int).toNat * (3 : Nat) + (1 : Nat))) (eI E a ((↑i : Int).toNat * (3 : Nat) + (2 : Nat)))) (kO (rk e r k w m)) (pwW (iAt (rk e r k w m) (38 : Nat))
      (eI E a ((↑i : Int).toNat * (3 : Nat) + (1 : Nat))) (eI E a ((↑i : Int).toNat * (3 : Nat) + (2 : Nat)))) (rwM (bAt (rk e r k w m) (39 : Nat)) (eI E a ((↑i : Int).toNat *
      (3 : Nat) + (1 : Nat))) (eI E a ((↑i : Int).toNat * (3 : Nat) + (2 : Nat))))) (39 : Nat)) (306 : Int)) = true → false = true) ∧ ((pdV (pwE en (eI E a ((↑i : Int).toNat *
      (3 : Nat) + (1 : Nat))) (eI E a ((↑i : Int).toNat * (3 : Nat) + (2 : Nat)))) (pwR rq ky (eI E a ((↑i : Int).toNat * (3 : Nat) + (1 : Nat))) (eI E a ((↑i : Int).toNat * (3
      : Nat) + (2 : Nat)))) (pwW wa (eI E a ((↑i : Int).toNat * (3 : Nat) + (1 : Nat))) (eI E a ((↑i : Int).toNat * (3 : Nat) + (2 : Nat)))) ky (pwM pm (eI E a ((↑i : Int).toNat
      * (3 : Nat) + (1 : Nat))) (eI E a ((↑i : Int).toNat * (3 : Nat) + (2 : Nat)))) (306 : Int) != rdV (eO (rk (rwE (eO (rk e r k w m)) (eI E a ((↑i : Int).toNat * (3 : Nat) +
      (1 : Nat))) (eI E a ((↑i : Int).toNat * (3 : Nat) + (2 : Nat)))) (rwR (rO (rk e r k w m)) (kO (rk e r k w m)) (eI E a ((↑i : Int).toNat * (3 : Nat) + (1 : Nat))) (eI E a
      ((↑i : Int).toNat * (3 : Nat) + (2 : Nat)))) (kO (rk e r k w m)) (pwW (iAt (rk e r k w m) (38 : Nat)) (eI E a ((↑i : Int).toNat * (3 : Nat) + (1 : Nat))) (eI E a ((↑i :
      Int).toNat * (3 : Nat) + (2 : Nat)))) (rwM (bAt (rk e r k w m) (39 : Nat)) (eI E a ((↑i : Int).toNat * (3 : Nat) + (1 : Nat))) (eI E a ((↑i : Int).toNat * (3 : Nat) + (2 :
      Nat)))))) (rO (rk (rwE (eO (rk e r k w m)) (eI E a ((↑i : Int).toNat * (3 : Nat) + (1 : Nat))) (eI E a ((↑i : Int).toNat * (3 : Nat) + (2 : Nat)))) (rwR (rO (rk e r k w
      m)) (kO (rk e r k w m)) (eI E a ((↑i : Int).toNat * (3 : Nat) + (1 : Nat))) (eI E a ((↑i : Int).toNat * (3 : Nat) + (2 : Nat)))) (kO (rk e r k w m)) (pwW (iAt (rk e r k w
      m) (38 : Nat)) (eI E a ((↑i : Int).toNat * (3 : Nat) + (1 : Nat))) (eI E a ((↑i : Int).toNat * (3 : Nat) + (2 : Nat)))) (rwM (bAt (rk e r k w m) (39 : Nat)) (eI E a ((↑i :
      Int).toNat * (3 : Nat) + (1 : Nat))) (eI E a ((↑i : Int).toNat * (3 : Nat) + (2 : Nat)))))) (kO (rk (rwE (eO (rk e r k w m)) (eI E a ((↑i : Int).toNat * (3 : Nat) + (1 :
      Nat))) (eI E a ((↑i : Int).toNat * (3 : Nat) + (2 : Nat)))) (rwR (rO (rk e r k w m)) (kO (rk e r k w m)) (eI E a ((↑i : Int).toNat * (3 : Nat) + (1 : Nat))) (eI E a ((↑i :
      Int).toNat * (3 : Nat) + (2 : Nat)))) (kO (rk e r k w m)) (pwW (iAt (rk e r k w m) (38 : Nat)) (eI E a ((↑i : Int).toNat * (3 : Nat) + (1 : Nat))) (eI E a ((↑i :
      Int).toNat * (3 : Nat) + (2 : Nat)))) (rwM (bAt (rk e r k w m) (39 : Nat)) (eI E a ((↑i : Int).toNat * (3 : Nat) + (1 : Nat))) (eI E a ((↑i : Int).toNat * (3 : Nat) + (2 :
      Nat)))))) (iAt (rk (rwE (eO (rk e r k w m)) (eI E a ((↑i : Int).toNat * (3 : Nat) + (1 : Nat))) (eI E a ((↑i : Int).toNat * (3 : Nat) + (2 : Nat)))) (rwR (rO (rk e r k w
      m)) (kO (rk e r k w m)) (eI E a ((↑i : Int).toNat * (3 : Nat) + (1 : Nat))) (eI E a ((↑i : Int).toNat * (3 : Nat) + (2 : Nat)))) (kO (rk e r k w m)) (pwW (iAt (rk e r k w
      m) (38 : Nat)) (eI E a ((↑i : Int).toNat * (3 : Nat) + (1 : Nat))) (eI E a ((↑i : Int).toNat * (3 : Nat) + (2 : Nat)))) (rwM (bAt (rk e r k w m) (39 : Nat)) (eI E a ((↑i :
      Int).toNat * (3 : Nat) + (1 : Nat))) (eI E a ((↑i : Int).toNat * (3 : Nat) + (2 : Nat))))) (38 : Nat)) (bAt (rk (rwE (eO (rk e r k w m)) (eI E a ((↑i : Int).toNat * (3 :
      Nat) + (1 : Nat))) (eI E a ((↑i : Int).toNat * (3 : Nat) + (2 : Nat)))) (rwR (rO (rk e r k w m)) (kO (rk e r k w m)) (eI E a ((↑i : Int).toNat * (3 : Nat) + (1 : Nat)))
      (eI E a ((↑i : Int).toNat * (3 : Nat) + (2 : Nat)))) (kO (rk e r k w m)) (pwW (iAt (rk e r k w m) (38 : Nat)) (eI E a ((↑i : Int).toNat * (3 : Nat) + (1 : Nat))) (eI E a
      ((↑i : Int).toNat * (3 : Nat) + (2 : Nat)))) (rwM (bAt (rk e r k w m) (39 : Nat)) (eI E a ((↑i : Int).toNat * (3 : Nat) + (1 : Nat))) (eI E a ((↑i : Int).toNat * (3 : Nat)
      + (2 : Nat))))) (39 : Nat)) (306 : Int)) = false → ((pdV (pwE en (eI E a ((↑i : Int).toNat * (3 : Nat) + (1 : Nat))) (eI E a ((↑i : Int).toNat * (3 : Nat) + (2 : Nat))))
      (pwR rq ky (eI E a ((↑i : Int).toNat * (3 : Nat) + (1 : Nat))) (eI E a ((↑i : Int).toNat * (3 : Nat) + (2 : Nat)))) (pwW wa (eI E a ((↑i : Int).toNat * (3 : Nat) + (1 :
      Nat))) (eI E a ((↑i : Int).toNat * (3 : Nat) + (2 : Nat)))) ky (pwM pm (eI E a ((↑i : Int).toNat * (3 : Nat) + (1 : Nat))) (eI E a ((↑i : Int).toNat * (3 : Nat) + (2 :
      Nat)))) (512 : Int) != rdV (eO (rk (rwE (eO (rk e r k w m)) (eI E a ((↑i : Int).toNat * (3 : Nat) + (1 : Nat))) (eI E a ((↑i : Int).toNat * (3 : Nat) + (2 : Nat)))) (rwR
      (rO (rk e r k w m)) (kO (rk e r k w m)) (eI E a ((↑i : Int).toNat * (3 : Nat) + (1 : Nat))) (eI E a ((↑i : Int).toNat * (3 : Nat) + (2 : Nat)))) (kO (rk e r k w m)) (pwW
      (iAt (rk e r k w m) (38 : Nat)) (eI E a ((↑i : Int).toNat * (3 : Nat) + (1 : Nat))) (eI E a ((↑i : Int).toNat * (3 : Nat) + (2 : Nat)))) (rwM (bAt (rk e r k w m) (39 :
      Nat)) (eI E a ((↑i : Int).toNat * (3 : Nat) + (1 : Nat))) (eI E a ((↑i : Int).toNat * (3 : Nat) + (2 : Nat)))))) (rO (rk (rwE (eO (rk e r k w m)) (eI E a ((↑i : Int).toNat
      * (3 : Nat) + (1 : Nat))) (eI E a ((↑i : Int).toNat * (3 : Nat) + (2 : Nat)))) (rwR (rO (rk e r k w m)) (kO (rk e r k w m)) (eI E a ((↑i : Int).toNat * (3 : Nat) + (1 :
      Nat))) (eI E a ((↑i : Int).toNat * (3 : Nat) + (2 : Nat)))) (kO (rk e r k w m)) (pwW (iAt (rk e r k w m) (38 : Nat)) (eI E a ((↑i : Int).toNat * (3 : Nat) + (1 : Nat)))
      (eI E a ((↑i : Int).toNat * (3 : Nat) + (2 : Nat)))) (rwM (bAt (rk e r k w m) (39 : Nat)) (eI E a ((↑i : Int).toNat * (3 : Nat) + (1 : Nat))) (eI E a ((↑i : Int).toNat *
      (3 : Nat) + (2 : Nat)))))) (kO (rk (rwE (eO (rk e r k w m)) (eI E a ((↑i : Int).toNat * (3 : Nat) + (1 : Nat))) (eI E a ((↑i : Int).toNat * (3 : Nat) + (2 : Nat)))) (rwR
      (rO (rk e r k w m)) (kO (rk e r k w m)) (eI E a ((↑i : Int).toNat * (3 : Nat) + (1 : Nat))) (eI E a ((↑i : Int).toNat * (3 : Nat) + (2 : Nat)))) (kO (rk e r k w m)) (pwW
      (iAt (rk e r k w m) (38 : Nat)) (eI E a ((↑i : Int).toNat * (3 : Nat) + (1 : Nat))) (eI E a ((↑i : Int).toNat * (3 : Nat) + (2 : Nat)))) (rwM (bAt (rk e r k w m) (39 :
      Nat)) (eI E a ((↑i : Int).toNat * (3 : Nat) + (1 : Nat))) (eI E a ((↑i : Int).toNat * (3 : Nat) + (2 : Nat)))))) (iAt (rk (rwE (eO (rk e r k w m)) (eI E a ((↑i :
      Int).toNat * (3 : Nat) + (1 : Nat))) (eI E a ((↑i : Int).toNat * (3 : Nat) + (2 : Nat)))) (rwR (rO (rk e r k w m)) (kO (rk e r k w m)) (eI E a ((↑i : Int).toNat * (3 :
      Nat) + (1 : Nat))) (eI E a ((↑i : Int).toNat * (3 : Nat) + (2 : Nat)))) (kO (rk e r k w m)) (pwW (iAt (rk e r k w m) (38 : Nat)) (eI E a ((↑i : Int).toNat * (3 : Nat) + (1
      : Nat))) (eI E a ((↑i : Int).toNat * (3 : Nat) + (2 : Nat)))) (rwM (bAt (rk e r k w m) (39 : Nat)) (eI E a ((↑i : Int).toNat * (3 : Nat) + (1 : Nat))) (eI E a ((↑i :
      Int).toNat * (3 : Nat) + (2 : Nat))))) (38 : Nat)) (bAt (rk (rwE (eO (rk e r k w m)) (eI E a ((↑i : Int).toNat * (3 : Nat) + (1 : Nat))) (eI E a ((↑i : Int).toNat * (3 :
      Nat) + (2 : Nat)))) (rwR (rO (rk e r k w m)) (kO (rk e r k w m)) (eI E a ((↑i : Int).toNat * (3 : Nat) + (1 : Nat))) (eI E a ((↑i : Int).toNat * (3 : Nat) + (2 : Nat))))
      (kO (rk e r k w m)) (pwW (iAt (rk e r k w m) (38 : Nat)) (eI E a ((↑i : Int).toNat * (3 : Nat) + (1 : Nat))) (eI E a ((↑i : Int).toNat * (3 : Nat) + (2 : Nat)))) (rwM (bAt
      (rk e r k w m) (39 : Nat)) (eI E a ((↑i : Int).toNat * (3 : Nat) + (1 : Nat))) (eI E a ((↑i : Int).toNat * (3 : Nat) + (2 : Nat))))) (39 : Nat)) (512 : Int)) = true →
      false = true) ∧ ((pdV (pwE en (eI E a ((↑i : Int).toNat * (3 : Nat) + (1 : Nat))) (eI E a ((↑i : Int).toNat * (3 : Nat) + (2 : Nat)))) (pwR rq ky (eI E a ((↑i : Int).toNat
      * (3 : Nat) + (1 : Nat))) (eI E a ((↑i : Int).toNat * (3 : Nat) + (2 : Nat)))) (pwW wa (eI E a ((↑i : Int).toNat * (3 : Nat) + (1 : Nat))) (eI E a ((↑i : Int).toNat * (3 :
      Nat) + (2 : Nat)))) ky (pwM pm (eI E a ((↑i : Int).toNat * (3 : Nat) + (1 : Nat))) (eI E a ((↑i : Int).toNat * (3 : Nat) + (2 : Nat)))) (512 : Int) != rdV (eO (rk (rwE (eO
      (rk e r k w m)) (eI E a ((↑i : Int).toNat * (3 : Nat) + (1 : Nat))) (eI E a ((↑i : Int).toNat * (3 : Nat) + (2 : Nat)))) (rwR (rO (rk e r k w m)) (kO (rk e r k w m)) (eI E
      a ((↑i : Int).toNat * (3 : Nat) + (1 : Nat))) (eI E a ((↑i : Int).toNat * (3 : Nat) + (2 : Nat)))) (kO (rk e r k w m)) (pwW (iAt (rk e r k w m) (38 : Nat)) (eI E a ((↑i :
      Int).toNat * (3 : Nat) + (1 : Nat))) (eI E a ((↑i : Int).toNat * (3 : Nat) + (2 : Nat)))) (rwM (bAt (rk e r k w m) (39 : Nat)) (eI E a ((↑i : Int).toNat * (3 : Nat) + (1 :
      Nat))) (eI E a ((↑i : Int).toNat * (3 : Nat) + (2 : Nat)))))) (rO (rk (rwE (eO (rk e r k w m)) (eI E a ((↑i : Int).toNat * (3 : Nat) + (1 : Nat))) (eI E a ((↑i :
      Int).toNat * (3 : Nat) + (2 : Nat)))) (rwR (rO (rk e r k w m)) (kO (rk e r k w m)) (eI E a ((↑i : Int).toNat * (3 : Nat) + (1 : Nat))) (eI E a ((↑i : Int).toNat * (3 :
      Nat) + (2 : Nat)))) (kO (rk e r k w m)) (pwW (iAt (rk e r k w m) (38 : Nat)) (eI E a ((↑i : Int).toNat * (3 : Nat) + (1 : Nat))) (eI E a ((↑i : Int).toNat * (3 : Nat) + (2
      : Nat)))) (rwM (bAt (rk e r k w m) (39 : Nat)) (eI E a ((↑i : Int).toNat * (3 : Nat) + (1 : Nat))) (eI E a ((↑i : Int).toNat * (3 : Nat) + (2 : Nat)))))) (kO (rk (rwE (eO
      (rk e r k w m)) (eI E a ((↑i : Int).toNat * (3 : Nat) + (1 : Nat))) (eI E a ((↑i : Int).toNat * (3 : Nat) + (2 : Nat)))) (rwR (rO (rk e r k w m)) (kO (rk e r k w m)) (eI E
      a ((↑i : Int).toNat * (3 : Nat) + (1 : Nat))) (eI E a ((↑i : Int).toNat * (3 : Nat) + (2 : Nat)))) (kO (rk e r k w m)) (pwW (iAt (rk e r k w m) (38 : Nat)) (eI E a ((↑i :
      Int).toNat * (3 : Nat) + (1 : Nat))) (eI E a ((↑i : Int).toNat * (3 : Nat) + (2 : Nat)))) (rwM (bAt (rk e r k w m) (39 : Nat)) (eI E a ((↑i : Int).toNat * (3 : Nat) + (1 :
      Nat))) (eI E a ((↑i : Int).toNat * (3 : Nat) + (2 : Nat)))))) (iAt (rk (rwE (eO (rk e r k w m)) (eI E a ((↑i : Int).toNat * (3 : Nat) + (1 : Nat))) (eI E a ((↑i :
      Int).toNat * (3 : Nat) + (2 : Nat)))) (rwR (rO (rk e r k w m)) (kO (rk e r k w m)) (eI E a ((↑i : Int).toNat * (3 : Nat) + (1 : Nat))) (eI E a ((↑i : Int).toNat * (3 :
      Nat) + (2 : Nat)))) (kO (rk e r k w m)) (pwW (iAt (rk e r k w m) (38 : Nat)) (eI E a ((↑i : Int).toNat * (3 : Nat) + (1 : Nat))) (eI E a ((↑i : Int).toNat * (3 : Nat) + (2
      : Nat)))) (rwM (bAt (rk e r k w m) (39 : Nat)) (eI E a ((↑i : Int).toNat * (3 : Nat) + (1 : Nat))) (eI E a ((↑i : Int).toNat * (3 : Nat) + (2 : Nat))))) (38 : Nat)) (bAt
      (rk (rwE (eO (rk e r k w m)) (eI E a ((↑i : Int).toNat * (3 : Nat) + (1 : Nat))) (eI E a ((↑i : Int).toNat * (3 : Nat) + (2 : Nat)))) (rwR (rO (rk e r k w m)) (kO (rk e r
      k w m)) (eI E a ((↑i : Int).toNat * (3 : Nat) + (1 : Nat))) (eI E a ((↑i : Int).toNat * (3 : Nat) + (2 : Nat)))) (kO (rk e r k w m)) (pwW (iAt (rk e r k w m) (38 : Nat))
      (eI E a ((↑i : Int).toNat * (3 : Nat) + (1 : Nat))) (eI E a ((↑i : Int).toNat * (3 : Nat) + (2 : Nat)))) (rwM (bAt (rk e r k w m) (39 : Nat)) (eI E a ((↑i : Int).toNat *
      (3 : Nat) + (1 : Nat))) (eI E a ((↑i : Int).toNat * (3 : Nat) + (2 : Nat))))) (39 : Nat)) (512 : Int)) = false → ((pdV (pwE en (eI E a ((↑i : Int).toNat * (3 : Nat) + (1 :
      Nat))) (eI E a ((↑i : Int).toNat * (3 : Nat) + (2 : Nat)))) (pwR rq ky (eI E a ((↑i : Int).toNat * (3 : Nat) + (1 : Nat))) (eI E a ((↑i : Int).toNat * (3 : Nat) + (2 :
      Nat)))) (pwW wa (eI E a ((↑i : Int).toNat * (3 : Nat) + (1 : Nat))) (eI E a ((↑i : Int).toNat * (3 : Nat) + (2 : Nat)))) ky (pwM pm (eI E a ((↑i : Int).toNat * (3 : Nat) +
      (1 : Nat))) (eI E a ((↑i : Int).toNat * (3 : Nat) + (2 : Nat)))) (514 : Int) != rdV (eO (rk (rwE (eO (rk e r k w m)) (eI E a ((↑i : Int).toNat * (3 : Nat) + (1 : Nat)))
      (eI E a ((↑i : Int).toNat * (3 : Nat) + (2 : Nat)))) (rwR (rO (rk e r k w m)) (kO (rk e r k w m)) (eI E a ((↑i : Int).toNat * (3 : Nat) + (1 : Nat))) (eI E a ((↑i :
      Int).toNat * (3 : Nat) + (2 : Nat)))) (kO (rk e r k w m)) (pwW (iAt (rk e r k w m) (38 : Nat)) (eI E a ((↑i : Int).toNat * (3 : Nat) + (1 : Nat))) (eI E a ((↑i :
      Int).toNat * (3 : Nat) + (2 : Nat)))) (rwM (bAt (rk e r k w m) (39 : Nat)) (eI E a ((↑i : Int).toNat * (3 : Nat) + (1 : Nat))) (eI E a ((↑i : Int).toNat * (3 : Nat) + (2 :
      Nat)))))) (rO (rk (rwE (eO (rk e r k w m)) (eI E a ((↑i : Int).toNat * (3 : Nat) + (1 : Nat))) (eI E a ((↑i : Int).toNat * (3 : Nat) + (2 : Nat)))) (rwR (rO (rk e r k w
      m)) (kO (rk e r k w m)) (eI E a ((↑i : Int).toNat * (3 : Nat) + (1 : Nat))) (eI E a ((↑i : Int).toNat * (3 : Nat) + (2 : Nat)))) (kO (rk e r k w m)) (pwW (iAt (rk e r k w
      m) (38 : Nat)) (eI E a ((↑i : Int).toNat * (3 : Nat) + (1 : Nat))) (eI E a ((↑i : Int).toNat * (3 : Nat) + (2 : Nat)))) (rwM (bAt (rk e r k w m) (39 : Nat)) (eI E a ((↑i :
      Int).toNat * (3 : Nat) + (1 : Nat))) (eI E a ((↑i : Int).toNat * (3 : Nat) + (2 : Nat)))))) (kO (rk (rwE (eO (rk e r k w m)) (eI E a ((↑i : Int).toNat * (3 : Nat) + (1 :
      Nat))) (eI E a ((↑i : Int).toNat * (3 : Nat) + (2 : Nat)))) (rwR (rO (rk e r k w m)) (kO (rk e r k w m)) (eI E a ((↑i : Int).toNat * (3 : Nat) + (1 : Nat))) (eI E a ((↑i :
      Int).toNat * (3 : Nat) + (2 : Nat)))) (kO (rk e r k w m)) (pwW (iAt (rk e r k w m) (38 : Nat)) (eI E a ((↑i : Int).toNat * (3 : Nat) + (1 : Nat))) (eI E a ((↑i :
      Int).toNat * (3 : Nat) + (2 : Nat)))) (rwM (bAt (rk e r k w m) (39 : Nat)) (eI E a ((↑i : Int).toNat * (3 : Nat) + (1 : Nat))) (eI E a ((↑i : Int).toNat * (3 : Nat) + (2 :
      Nat)))))) (iAt (rk (rwE (eO (rk e r k w m)) (eI E a ((↑i : Int).toNat * (3 : Nat) + (1 : Nat))) (eI E a ((↑i : Int).toNat * (3 : Nat) + (2 : Nat)))) (rwR (rO (rk e r k w
      m)) (kO (rk e r k w m)) (eI E a ((↑i : Int).toNat * (3 : Nat) + (1 : Nat))) (eI E a ((↑i : Int).toNat * (3 : Nat) + (2 : Nat)))) (kO (rk e r k w m)) (pwW (iAt (rk e r k w
      m) (38 : Nat)) (eI E a ((↑i : Int).toNat * (3 : Nat) + (1 : Nat))) (eI E a ((↑i : Int).toNat * (3 : Nat) + (2 : Nat)))) (rwM (bAt (rk e r k w m) (39 : Nat)) (eI E a ((↑i :
      Int).toNat * (3 : Nat) + (1 : Nat))) (eI E a ((↑i : Int).toNat * (3 : Nat) + (2 : Nat))))) (38 : Nat)) (bAt (rk (rwE (eO (rk e r k w m)) (eI E a ((↑i : Int).toNat * (3 :
      Nat) + (1 : Nat))) (eI E a ((↑i : Int).toNat * (3 : Nat) + (2 : Nat)))) (rwR (rO (rk e r k w m)) (kO (rk e r k w m)) (eI E a ((↑i : Int).toNat * (3 : Nat) + (1 : Nat)))
      (eI E a ((↑i : Int).toNat * (3 : Nat) + (2 : Nat)))) (kO (rk e r k w m)) (pwW (iAt (rk e r k w m) (38 : Nat)) (eI E a ((↑i : Int).toNat * (3 : Nat) + (1 : Nat))) (eI E a
      ((↑i : Int).toNat * (3 : Nat) + (2 : Nat)))) (rwM (bAt (rk e r k w m) (39 : Nat)) (eI E a ((↑i : Int).toNat * (3 : Nat) + (1 : Nat))) (eI E a ((↑i : Int).toNat * (3 : Nat)
      + (2 : Nat))))) (39 : Nat)) (514 : Int)) = true → false = true) ∧ ((pdV (pwE en (eI E a ((↑i : Int).toNat * (3 : Nat) + (1 : Nat))) (eI E a ((↑i : Int).toNat * (3 : Nat) +
      (2 : Nat)))) (pwR rq ky (eI E a ((↑i : Int).toNat * (3 : Nat) + (1 : Nat))) (eI E a ((↑i : Int).toNat * (3 : Nat) + (2 : Nat)))) (pwW wa (eI E a ((↑i : Int).toNat * (3 :
      Nat) + (1 : Nat))) (eI E a ((↑i : Int).toNat * (3 : Nat) + (2 : Nat)))) ky (pwM pm (eI E a ((↑i : Int).toNat * (3 : Nat) + (1 : Nat))) (eI E a ((↑i : Int).toNat * (3 :
      Nat) + (2 : Nat)))) (514 : Int) != rdV (eO (rk (rwE (eO (rk e r k w m)) (eI E a ((↑i : Int).toNat * (3 : Nat) + (1 : Nat))) (eI E a ((↑i : Int).toNat * (3 : Nat) + (2 :
      Nat)))) (rwR (rO (rk e r k w m)) (kO (rk e r k w m)) (eI E a ((↑i : Int).toNat * (3 : Nat) + (1 : Nat))) (eI E a ((↑i : Int).toNat * (3 : Nat) + (2 : Nat)))) (kO (rk e r k
      w m)) (pwW (iAt (rk e r k w m) (38 : Nat)) (eI E a ((↑i : Int).toNat * (3 : Nat) + (1 : Nat))) (eI E a ((↑i : Int).toNat * (3 : Nat) + (2 : Nat)))) (rwM (bAt (rk e r k w
      m) (39 : Nat)) (eI E a ((↑i : Int).toNat * (3 : Nat) + (1 : Nat))) (eI E a ((↑i : Int).toNat * (3 : Nat) + (2 : Nat)))))) (rO (rk (rwE (eO (rk e r k w m)) (eI E a ((↑i :
      Int).toNat * (3 : Nat) + (1 : Nat))) (eI E a ((↑i : Int).toNat * (3 : Nat) + (2 : Nat)))) (rwR (rO (rk e r k w m)) (kO (rk e r k w m)) (eI E a ((↑i : Int).toNat * (3 :
      Nat) + (1 : Nat))) (eI E a ((↑i : Int).toNat * (3 : Nat) + (2 : Nat)))) (kO (rk e r k w m)) (pwW (iAt (rk e r k w m) (38 : Nat)) (eI E a ((↑i : Int).toNat * (3 : Nat) + (1
      : Nat))) (eI E a ((↑i : Int).toNat * (3 : Nat) + (2 : Nat)))) (rwM (bAt (rk e r k w m) (39 : Nat)) (eI E a ((↑i : Int).toNat * (3 : Nat) + (1 : Nat))) (eI E a ((↑i :
      Int).toNat * (3 : Nat) + (2 : Nat)))))) (kO (rk (rwE (eO (rk e r k w m)) (eI E a ((↑i : Int).toNat * (3 : Nat) + (1 : Nat))) (eI E a ((↑i : Int).toNat * (3 : Nat) + (2 :
      Nat)))) (rwR (rO (rk e r k w m)) (kO (rk e r k w m)) (eI E a ((↑i : Int).toNat * (3 : Nat) + (1 : Nat))) (eI E a ((↑i : Int).toNat * (3 : Nat) + (2 : Nat)))) (kO (rk e r k
      w m)) (pwW (iAt (rk e r k w m) (38 : Nat)) (eI E a ((↑i : Int).toNat * (3 : Nat) + (1 : Nat))) (eI E a ((↑i : Int).toNat * (3 : Nat) + (2 : Nat)))) (rwM (bAt (rk e r k w
      m) (39 : Nat)) (eI E a ((↑i : Int).toNat * (3 : Nat) + (1 : Nat))) (eI E a ((↑i : Int).toNat * (3 : Nat) + (2 : Nat)))))) (iAt (rk (rwE (eO (rk e r k w m)) (eI E a ((↑i :
      Int).toNat * (3 : Nat) + (1 : Nat))) (eI E a ((↑i : Int).toNat * (3 : Nat) + (2 : Nat)))) (rwR (rO (rk e r k w m)) (kO (rk e r k w m)) (eI E a ((↑i : Int).toNat * (3 :
      Nat) + (1 : Nat))) (eI E a ((↑i : Int).toNat * (3 : Nat) + (2 : Nat)))) (kO (rk e r k w m)) (pwW (iAt (rk e r k w m) (38 : Nat)) (eI E a ((↑i : Int).toNat * (3 : Nat) + (1
      : Nat))) (eI E a ((↑i : Int).toNat * (3 : Nat) + (2 : Nat)))) (rwM (bAt (rk e r k w m) (39 : Nat)) (eI E a ((↑i : Int).toNat * (3 : Nat) + (1 : Nat))) (eI E a ((↑i :
      Int).toNat * (3 : Nat) + (2 : Nat))))) (38 : Nat)) (bAt (rk (rwE (eO (rk e r k w m)) (eI E a ((↑i : Int).toNat * (3 : Nat) + (1 : Nat))) (eI E a ((↑i : Int).toNat * (3 :
      Nat) + (2 : Nat)))) (rwR (rO (rk e r k w m)) (kO (rk e r k w m)) (eI E a ((↑i : Int).toNat * (3 : Nat) + (1 : Nat))) (eI E a ((↑i : Int).toNat * (3 : Nat) + (2 : Nat))))
      (kO (rk e r k w m)) (pwW (iAt (rk e r k w m) (38 : Nat)) (eI E a ((↑i : Int).toNat * (3 : Nat) + (1 : Nat))) (eI E a ((↑i : Int).toNat * (3 : Nat) + (2 : Nat)))) (rwM (bAt
      (rk e r k w m) (39 : Nat)) (eI E a ((↑i : Int).toNat * (3 : Nat) + (1 : Nat))) (eI E a ((↑i : Int).toNat * (3 : Nat) + (2 : Nat))))) (39 : Nat)) (514 : Int)) = false →
      ((pdV (pwE en (eI E a ((↑i : Int).toNat * (3 : Nat) + (1 : Nat))) (eI E a ((↑i : Int).toNat * (3 : Nat) + (2 : Nat)))) (pwR rq ky (eI E a ((↑i : Int).toNat * (3 : Nat) +
      (1 : Nat))) (eI E a ((↑i : Int).toNat * (3 : Nat) + (2 : Nat)))) (pwW wa (eI E a ((↑i : Int).toNat * (3 : Nat) + (1 : Nat))) (eI E a ((↑i : Int).toNat * (3 : Nat) + (2 :
      Nat)))) ky (pwM pm (eI E a ((↑i : Int).toNat * (3 : Nat) + (1 : Nat))) (eI E a ((↑i : Int).toNat * (3 : Nat) + (2 : Nat)))) (520 : Int) != rdV (eO (rk (rwE (eO (rk e r k w
      m)) (eI E a ((↑i : Int).toNat * (3 : Nat) + (1 : Nat))) (eI E a ((↑i : Int).toNat * (3 : Nat) + (2 : Nat)))) (rwR (rO (rk e r k w m)) (kO (rk e r k w m)) (eI E a ((↑i :
      Int).toNat * (3 : Nat) + (1 : Nat))) (eI E a ((↑i : Int).toNat * (3 : Nat) + (2 : Nat)))) (kO (rk e r k w m)) (pwW (iAt (rk e r k w m) (38 : Nat)) (eI E a ((↑i :
      Int).toNat * (3 : Nat) + (1 : Nat))) (eI E a ((↑i : Int).toNat * (3 : Nat) + (2 : Nat)))) (rwM (bAt (rk e r k w m) (39 : Nat)) (eI E a ((↑i : Int).toNat * (3 : Nat) + (1 :
      Nat))) (eI E a ((↑i : Int).toNat * (3 : Nat) + (2 : Nat)))))) (rO (rk (rwE (eO (rk e r k w m)) (eI E a ((↑i : Int).toNat * (3 : Nat) + (1 : Nat))) (eI E a ((↑i :
      Int).toNat * (3 : Nat) + (2 : Nat)))) (rwR (rO (rk e r k w m)) (kO (rk e r k w m)) (eI E a ((↑i : Int).toNat * (3 : Nat) + (1 : Nat))) (eI E a ((↑i : Int).toNat * (3 :
      Nat) + (2 : Nat)))) (kO (rk e r k w m)) (pwW (iAt (rk e r k w m) (38 : Nat)) (eI E a ((↑i : Int).toNat * (3 : Nat) + (1 : Nat))) (eI E a ((↑i : Int).toNat * (3 : Nat) + (2
      : Nat)))) (rwM (bAt (rk e r k w m) (39 : Nat)) (eI E a ((↑i : Int).toNat * (3 : Nat) + (1 : Nat))) (eI E a ((↑i : Int).toNat * (3 : Nat) + (2 : Nat)))))) (kO (rk (rwE (eO
      (rk e r k w m)) (eI E a ((↑i : Int).toNat * (3 : Nat) + (1 : Nat))) (eI E a ((↑i : Int).toNat * (3 : Nat) + (2 : Nat)))) (rwR (rO (rk e r k w m)) (kO (rk e r k w m)) (eI E
      a ((↑i : Int).toNat * (3 : Nat) + (1 : Nat))) (eI E a ((↑i : Int).toNat * (3 : Nat) + (2 : Nat)))) (kO (rk e r k w m)) (pwW (iAt (rk e r k w m) (38 : Nat)) (eI E a ((↑i :
      Int).toNat * (3 : Nat) + (1 : Nat))) (eI E a ((↑i : Int).toNat * (3 : Nat) + (2 : Nat)))) (rwM (bAt (rk e r k w m) (39 : Nat)) (eI E a ((↑i : Int).toNat * (3 : Nat) + (1 :
      Nat))) (eI E a ((↑i : Int).toNat * (3 : Nat) + (2 : Nat)))))) (iAt (rk (rwE (eO (rk e r k w m)) (eI E a ((↑i : Int).toNat * (3 : Nat) + (1 : Nat))) (eI E a ((↑i :
      Int).toNat * (3 : Nat) + (2 : Nat)))) (rwR (rO (rk e r k w m)) (kO (rk e r k w m)) (eI E a ((↑i : Int).toNat * (3 : Nat) + (1 : Nat))) (eI E a ((↑i : Int).toNat * (3 :
      Nat) + (2 : Nat)))) (kO (rk e r k w m)) (pwW (iAt (rk e r k w m) (38 : Nat)) (eI E a ((↑i : Int).toNat * (3 : Nat) + (1 : Nat))) (eI E a ((↑i : Int).toNat * (3 : Nat) + (2
      : Nat)))) (rwM (bAt (rk e r k w m) (39 : Nat)) (eI E a ((↑i : Int).toNat * (3 : Nat) + (1 : Nat))) (eI E a ((↑i : Int).toNat * (3 : Nat) + (2 : Nat))))) (38 : Nat)) (bAt
      (rk (rwE (eO (rk e r k w m)) (eI E a ((↑i : Int).toNat * (3 : Nat) + (1 : Nat))) (eI E a ((↑i : Int).toNat * (3 : Nat) + (2 : Nat)))) (rwR (rO (rk e r k w m)) (kO (rk e r
      k w m)) (eI E a ((↑i : Int).toNat * (3 : Nat) + (1 : Nat))) (eI E a ((↑i : Int).toNat * (3 : Nat) + (2 : Nat)))) (kO (rk e r k w m)) (pwW (iAt (rk e r k w m) (38 : Nat))
      (eI E a ((↑i : Int).toNat * (3 : Nat) + (1 : Nat))) (eI E a ((↑i : Int).toNat * (3 : Nat) + (2 : Nat)))) (rwM (bAt (rk e r k w m) (39 : Nat)) (eI E a ((↑i : Int).toNat *
      (3 : Nat) + (1 : Nat))) (eI E a ((↑i : Int).toNat * (3 : Nat) + (2 : Nat))))) (39 : Nat)) (520 : Int)) = true → false = true) ∧ ((pdV (pwE en (eI E a ((↑i : Int).toNat *
      (3 : Nat) + (1 : Nat))) (eI E a ((↑i : Int).toNat * (3 : Nat) + (2 : Nat)))) (pwR rq ky (eI E a ((↑i : Int).toNat * (3 : Nat) + (1 : Nat))) (eI E a ((↑i : Int).toNat * (3
      : Nat) + (2 : Nat)))) (pwW wa (eI E a ((↑i : Int).toNat * (3 : Nat) + (1 : Nat))) (eI E a ((↑i : Int).toNat * (3 : Nat) + (2 : Nat)))) ky (pwM pm (eI E a ((↑i : Int).toNat
      * (3 : Nat) + (1 : Nat))) (eI E a ((↑i : Int).toNat * (3 : Nat) + (2 : Nat)))) (520 : Int) != rdV (eO (rk (rwE (eO (rk e r k w m)) (eI E a ((↑i : Int).toNat * (3 : Nat) +
      (1 : Nat))) (eI E a ((↑i : Int).toNat * (3 : Nat) + (2 : Nat)))) (rwR (rO (rk e r k w m)) (kO (rk e r k w m)) (eI E a ((↑i : Int).toNat * (3 : Nat) + (1 : Nat))) (eI E a
      ((↑i : Int).toNat * (3 : Nat) + (2 : Nat)))) (kO (rk e r k w m)) (pwW (iAt (rk e r k w m) (38 : Nat)) (eI E a ((↑i : Int).toNat * (3 : Nat) + (1 : Nat))) (eI E a ((↑i :
      Int).toNat * (3 : Nat) + (2 : Nat)))) (rwM (bAt (rk e r k w m) (39 : Nat)) (eI E a ((↑i : Int).toNat * (3 : Nat) + (1 : Nat))) (eI E a ((↑i : Int).toNat * (3 : Nat) + (2 :
      Nat)))))) (rO (rk (rwE (eO (rk e r k w m)) (eI E a ((↑i : Int).toNat * (3 : Nat) + (1 : Nat))) (eI E a ((↑i : Int).toNat * (3 : Nat) + (2 : Nat)))) (rwR (rO (rk e r k w
      m)) (kO (rk e r k w m)) (eI E a ((↑i : Int).toNat * (3 : Nat) + (1 : Nat))) (eI E a ((↑i : Int).toNat * (3 : Nat) + (2 : Nat)))) (kO (rk e r k w m)) (pwW (iAt (rk e r k w
      m) (38 : Nat)) (eI E a ((↑i : Int).toNat * (3 : Nat) + (1 : Nat))) (eI E a ((↑i : Int).toNat * (3 : Nat) + (2 : Nat)))) (rwM (bAt (rk e r k w m) (39 : Nat)) (eI E a ((↑i :
      Int).toNat * (3 : Nat) + (1 : Nat))) (eI E a ((↑i : Int).toNat * (3 : Nat) + (2 : Nat)))))) (kO (rk (rwE (eO (rk e r k w m)) (eI E a ((↑i : Int).toNat * (3 : Nat) + (1 :
      Nat))) (eI E a ((↑i : Int).toNat * (3 : Nat) + (2 : Nat)))) (rwR (rO (rk e r k w m)) (kO (rk e r k w m)) (eI E a ((↑i : Int).toNat * (3 : Nat) + (1 : Nat))) (eI E a ((↑i :
      Int).toNat * (3 : Nat) + (2 : Nat)))) (kO (rk e r k w m)) (pwW (iAt (rk e r k w m) (38 : Nat)) (eI E a ((↑i : Int).toNat * (3 : Nat) + (1 : Nat))) (eI E a ((↑i :
      Int).toNat * (3 : Nat) + (2 : Nat)))) (rwM (bAt (rk e r k w m) (39 : Nat)) (eI E a ((↑i : Int).toNat * (3 : Nat) + (1 : Nat))) (eI E a ((↑i : Int).toNat * (3 : Nat) + (2 :
      Nat)))))) (iAt (rk (rwE (eO (rk e r k w m)) (eI E a ((↑i : Int).toNat * (3 : Nat) + (1 : Nat))) (eI E a ((↑i : Int).toNat * (3 : Nat) + (2 : Nat)))) (rwR (rO (rk e r k w
      m)) (kO (rk e r k w m)) (eI E a ((↑i : Int).toNat * (3 : Nat) + (1 : Nat))) (eI E a ((↑i : Int).toNat * (3 : Nat) + (2 : Nat)))) (kO (rk e r k w m)) (pwW (iAt (rk e r k w
      m) (38 : Nat)) (eI E a ((↑i : Int).toNat * (3 : Nat) + (1 : Nat))) (eI E a ((↑i : Int).toNat * (3 : Nat) + (2 : Nat)))) (rwM (bAt (rk e r k w m) (39 : Nat)) (eI E a ((↑i :
      Int).toNat * (3 : Nat) + (1 : Nat))) (eI E a ((↑i : Int).toNat * (3 : Nat) + (2 : Nat))))) (38 : Nat)) (bAt (rk (rwE (eO (rk e r k w m)) (eI E a ((↑i : Int).toNat * (3 :
      Nat) + (1 : Nat))) (eI E a ((↑i : Int).toNat * (3 : Nat) + (2 : Nat)))) (rwR (rO (rk e r k w m)) (kO (rk e r k w m)) (eI E a ((↑i : Int).toNat * (3 : Nat) + (1 : Nat)))
      (eI E a ((↑i : Int).toNat * (3 : Nat) + (2 : Nat)))) (kO (rk e r k w m)) (pwW (iAt (rk e r k w m) (38 : Nat)) (eI E a ((↑i : Int).toNat * (3 : Nat) + (1 : Nat))) (eI E a
      ((↑i : Int).toNat * (3 : Nat) + (2 : Nat)))) (rwM (bAt (rk e r k w m) (39 : Nat)) (eI E a ((↑i : Int).toNat * (3 : Nat) + (1 : Nat))) (eI E a ((↑i : Int).toNat * (3 : Nat)
      + (2 : Nat))))) (39 : Nat)) (520 : Int)) = false → Holds (i < n) ∧ (45 : Nat) = (45 : Nat) ∧ (31 : Nat) = (31 : Nat) ∧ wfB (38 : Nat) (rk (rwE (eO (rk e r k w m)) (eI E a
      ((↑i : Int).toNat * (3 : Nat) + (1 : Nat))) (eI E a ((↑i : Int).toNat * (3 : Nat) + (2 : Nat)))) (rwR (rO (rk e r k w m)) (kO (rk e r k w m)) (eI E a ((↑i : Int).toNat *
      (3 : Nat) + (1 : Nat))) (eI E a ((↑i : Int).toNat * (3 : Nat) + (2 : Nat)))) (kO (rk e r k w m)) (pwW (iAt (rk e r k w m) (38 : Nat)) (eI E a ((↑i : Int).toNat * (3 : Nat)
      + (1 : Nat))) (eI E a ((↑i : Int).toNat * (3 : Nat) + (2 : Nat)))) (rwM (bAt (rk e r k w m) (39 : Nat)) (eI E a ((↑i : Int).toNat * (3 : Nat) + (1 : Nat))) (eI E a ((↑i :
      Int).toNat * (3 : Nat) + (2 : Nat))))) = true ∧ Holds (RelL (pwE en (eI E a ((↑i : Int).toNat * (nat_lit 2 + (1 : Nat)) + (nat_lit 0 + (1 : Nat)))) (eI E a ((↑i :
      Int).toNat * (nat_lit 2 + (1 : Nat)) + (nat_lit 1 + (1 : Nat))))) (pwR rq ky (eI E a ((↑i : Int).toNat * (nat_lit 2 + (1 : Nat)) + (nat_lit 0 + (1 : Nat)))) (eI E a ((↑i :
      Int).toNat * (nat_lit 2 + (1 : Nat)) + (nat_lit 1 + (1 : Nat))))) (pwW wa (eI E a ((↑i : Int).toNat * (nat_lit 2 + (1 : Nat)) + (nat_lit 0 + (1 : Nat)))) (eI E a ((↑i :
      Int).toNat * (nat_lit 2 + (1 : Nat)) + (nat_lit 1 + (1 : Nat))))) ky (pwM pm (eI E a ((↑i : Int).toNat * (nat_lit 2 + (1 : Nat)) + (nat_lit 0 + (1 : Nat)))) (eI E a ((↑i :
      Int).toNat * (nat_lit 2 + (1 : Nat)) + (nat_lit 1 + (1 : Nat))))) (rk (rwE (eO (rk e r k w m)) (eI E a ((↑i : Int).toNat * (nat_lit 2 + (1 : Nat)) + (nat_lit 0 + (1 :
      Nat)))) (eI E a ((↑i : Int).toNat * (nat_lit 2 + (1 : Nat)) + (nat_lit 1 + (1 : Nat))))) (rwR (rO (rk e r k w m)) (kO (rk e r k w m)) (eI E a ((↑i : Int).toNat * (nat_lit
      2 + (1 : Nat)) + (nat_lit 0 + (1 : Nat)))) (eI E a ((↑i : Int).toNat * (nat_lit 2 + (1 : Nat)) + (nat_lit 1 + (1 : Nat))))) (kO (rk e r k w m)) (pwW (iAt (rk e r k w m)
      (38 : Nat)) (eI E a ((↑i : Int).toNat * (nat_lit 2 + (1 : Nat)) + (nat_lit 0 + (1 : Nat)))) (eI E a ((↑i : Int).toNat * (nat_lit 2 + (1 : Nat)) + (nat_lit 1 + (1 :
      Nat))))) (rwM (bAt (rk e r k w m) (39 : Nat)) (eI E a ((↑i : Int).toNat * (nat_lit 2 + (1 : Nat)) + (nat_lit 0 + (1 : Nat)))) (eI E a ((↑i : Int).toNat * (nat_lit 2 + (1 :
      Nat)) + (nat_lit 1 + (1 : Nat))))))) ∧ hd3 E = hd3 E ∧ (97 : Nat) = (97 : Nat) ∧ C.p (0 : Nat) (0 : Nat) = C.p (0 : Nat) (0 : Nat) ∧ C.p (1 : Nat) (0 : Nat) = C.p (1 :
      Nat) (0 : Nat) ∧ C.es a n c = C.es a n c ∧ (IntKind.i64 = IntKind.i64 ∧ (↑n : Int) = (↑n : Int)) ∧ IntKind.i64 = IntKind.i64 ∧ IntKind.i64.wrap ((↑i : Int) + (1 : Int)) =
      (↑(i + (1 : Nat)) : Int)))))))))))))))))))))))))))) ∧ ((eI E a ((↑i : Int).toNat * (3 : Nat) + (0 : Nat)) == (1 : Int)) = false → ((eI E a ((↑i : Int).toNat * (3 : Nat) +
      (0 : Nat)) == (2 : Int)) = true → decide (en = en) = true ∧ decide (pkR (pkV wa (a1 (eI E a ((↑i : Int).toNat * (3 : Nat) + (2 : Nat))) (1023 : Int))) rq = pkR (pkV wa (a1
      (eI E a ((↑i : Int).toNat * (3 : Nat) + (2 : Nat))) (1023 : Int))) rq) = true ∧ decide (wa = wa) = true ∧ decide (a1 (eI E a ((↑i : Int).toNat * (3 : Nat) + (2 : Nat)))
      (1023 : Int) = a1 (eI E a ((↑i : Int).toNat * (3 : Nat) + (2 : Nat))) (1023 : Int)) = true ∧ decide (pm = pm) = true ∧ kpN (fun q_ => eO (rk e r k w m) q_) 14 0 (kpN (fun
      q_ => setB (kpV (iAt (rk e r k w m) (38 : Nat)) fun (j : Nat) => bt (eI E a ((↑i : Int).toNat * (3 : Nat) + (2 : Nat))) (↑j : Int)) (12 : Nat) (rO (rk e r k w m)) q_) 14 0
      (decide (bt (eI E a ((↑i : Int).toNat * (3 : Nat) + (2 : Nat))) (0 : Int) = bt (eI E a ((↑i : Int).toNat * (3 : Nat) + (2 : Nat))) (0 : Int)) = true ∧ decide (bt (eI E a
      ((↑i : Int).toNat * (3 : Nat) + (2 : Nat))) (1 : Int) = bt (eI E a ((↑i : Int).toNat * (3 : Nat) + (2 : Nat))) (1 : Int)) = true ∧ decide (bt (eI E a ((↑i : Int).toNat *
      (3 : Nat) + (2 : Nat))) (2 : Int) = bt (eI E a ((↑i : Int).toNat * (3 : Nat) + (2 : Nat))) (2 : Int)) = true ∧ decide (bt (eI E a ((↑i : Int).toNat * (3 : Nat) + (2 :
      Nat))) (3 : Int) = bt (eI E a ((↑i : Int).toNat * (3 : Nat) + (2 : Nat))) (3 : Int)) = true ∧ decide (bt (eI E a ((↑i : Int).toNat * (3 : Nat) + (2 : Nat))) (4 : Int) = bt
      (eI E a ((↑i : Int).toNat * (3 : Nat) + (2 : Nat))) (4 : Int)) = true ∧ decide (bt (eI E a ((↑i : Int).toNat * (3 : Nat) + (2 : Nat))) (5 : Int) = bt (eI E a ((↑i :
      Int).toNat * (3 : Nat) + (2 : Nat))) (5 : Int)) = true ∧ decide (bt (eI E a ((↑i : Int).toNat * (3 : Nat) + (2 : Nat))) (6 : Int) = bt (eI E a ((↑i : Int).toNat * (3 :
      Nat) + (2 : Nat))) (6 : Int)) = true ∧ decide (bt (eI E a ((↑i : Int).toNat * (3 : Nat) + (2 : Nat))) (7 : Int) = bt (eI E a ((↑i : Int).toNat * (3 : Nat) + (2 : Nat))) (7
      : Int)) = true ∧ decide (bt (eI E a ((↑i : Int).toNat * (3 : Nat) + (2 : Nat))) (8 : Int) = bt (eI E a ((↑i : Int).toNat * (3 : Nat) + (2 : Nat))) (8 : Int)) = true ∧
      decide (bt (eI E a ((↑i : Int).toNat * (3 : Nat) + (2 : Nat))) (9 : Int) = bt (eI E a ((↑i : Int).toNat * (3 : Nat) + (2 : Nat))) (9 : Int)) = true ∧ decide (iAt (rk e r k
      w m) (38 : Nat) = iAt (rk e r k w m) (38 : Nat)) = true ∧ decide (bAt (rk e r k w m) (39 : Nat) = bAt (rk e r k w m) (39 : Nat)) = true ∧ decide (eI E a ((↑i : Int).toNat
      * (3 : Nat) + (0 : Nat)) = eI E a ((↑i : Int).toNat * (3 : Nat) + (0 : Nat))) = true ∧ decide (eI E a ((↑i : Int).toNat * (3 : Nat) + (1 : Nat)) = eI E a ((↑i : Int).toNat
      * (3 : Nat) + (1 : Nat))) = true ∧ decide (eI E a ((↑i : Int).toNat * (3 : Nat) + (2 : Nat)) = eI E a ((↑i : Int).toNat * (3 : Nat) + (2 : Nat))) = true ∧ decide (en = en)
      = true ∧ decide (pkR (pkV wa (a1 (eI E a ((↑i : Int).toNat * (3 : Nat) + (2 : Nat))) (1023 : Int))) rq = pkR (pkV wa (a1 (eI E a ((↑i : Int).toNat * (3 : Nat) + (2 :
      Nat))) (1023 : Int))) rq) = true ∧ decide (wa = wa) = true ∧ decide (a1 (eI E a ((↑i : Int).toNat * (3 : Nat) + (2 : Nat))) (1023 : Int) = a1 (eI E a ((↑i : Int).toNat *
      (3 : Nat) + (2 : Nat))) (1023 : Int)) = true ∧ decide (pm = pm) = true ∧ kpN (fun q_ => eO (rk e r k w m) q_) 14 0 (kpN (fun q_ => setB (kpV (iAt (rk e r k w m) (38 :
      Nat)) fun (j : Nat) => bt (eI E a ((↑i : Int).toNat * (3 : Nat) + (2 : Nat))) (↑j : Int)) (12 : Nat) (rO (rk e r k w m)) q_) 14 0 (decide (bt (eI E a ((↑i : Int).toNat *
      (3 : Nat) + (2 : Nat))) (0 : Int) = bt (eI E a ((↑i : Int).toNat * (3 : Nat) + (2 : Nat))) (0 : Int)) = true ∧ decide (bt (eI E a ((↑i : Int).toNat * (3 : Nat) + (2 :
      Nat))) (1 : Int) = bt (eI E a ((↑i : Int).toNat * (3 : Nat) + (2 : Nat))) (1 : Int)) = true ∧ decide (bt (eI E a ((↑i : Int).toNat * (3 : Nat) + (2 : Nat))) (2 : Int) = bt
      (eI E a ((↑i : Int).toNat * (3 : Nat) + (2 : Nat))) (2 : Int)) = true ∧ decide (bt (eI E a ((↑i : Int).toNat * (3 : Nat) + (2 : Nat))) (3 : Int) = bt (eI E a ((↑i :
      Int).toNat * (3 : Nat) + (2 : Nat))) (3 : Int)) = true ∧ decide (bt (eI E a ((↑i : Int).toNat * (3 : Nat) + (2 : Nat))) (4 : Int) = bt (eI E a ((↑i : Int).toNat * (3 :
      Nat) + (2 : Nat))) (4 : Int)) = true ∧ decide (bt (eI E a ((↑i : Int).toNat * (3 : Nat) + (2 : Nat))) (5 : Int) = bt (eI E a ((↑i : Int).toNat * (3 : Nat) + (2 : Nat))) (5
      : Int)) = true ∧ decide (bt (eI E a ((↑i : Int).toNat * (3 : Nat) + (2 : Nat))) (6 : Int) = bt (eI E a ((↑i : Int).toNat * (3 : Nat) + (2 : Nat))) (6 : Int)) = true ∧
      decide (bt (eI E a ((↑i : Int).toNat * (3 : Nat) + (2 : Nat))) (7 : Int) = bt (eI E a ((↑i : Int).toNat * (3 : Nat) + (2 : Nat))) (7 : Int)) = true ∧ decide (bt (eI E a
      ((↑i : Int).toNat * (3 : Nat) + (2 : Nat))) (8 : Int) = bt (eI E a ((↑i : Int).toNat * (3 : Nat) + (2 : Nat))) (8 : Int)) = true ∧ decide (bt (eI E a ((↑i : Int).toNat *
      (3 : Nat) + (2 : Nat))) (9 : Int) = bt (eI E a ((↑i : Int).toNat * (3 : Nat) + (2 : Nat))) (9 : Int)) = true ∧ decide (iAt (rk e r k w m) (38 : Nat) = iAt (rk e r k w m)
      (38 : Nat)) = true ∧ decide (bAt (rk e r k w m) (39 : Nat) = bAt (rk e r k w m) (39 : Nat)) = true ∧ decide (eI E a ((↑i : Int).toNat * (3 : Nat) + (0 : Nat)) = eI E a
      ((↑i : Int).toNat * (3 : Nat) + (0 : Nat))) = true ∧ decide (eI E a ((↑i : Int).toNat * (3 : Nat) + (1 : Nat)) = eI E a ((↑i : Int).toNat * (3 : Nat) + (1 : Nat))) = true
      ∧ decide (eI E a ((↑i : Int).toNat * (3 : Nat) + (2 : Nat)) = eI E a ((↑i : Int).toNat * (3 : Nat) + (2 : Nat))) = true ∧ ((true ^^ pwkV en (pkR (pkV wa (a1 (eI E a ((↑i :
      Int).toNat * (3 : Nat) + (2 : Nat))) (1023 : Int))) rq) == wkN (eO (rk (eO (rk e r k w m)) (setB (kpV (iAt (rk e r k w m) (38 : Nat)) fun (j : Nat) => bt (eI E a ((↑i :
      Int).toNat * (3 : Nat) + (2 : Nat))) (↑j : Int)) (12 : Nat) (rO (rk e r k w m))) (fun (j : Nat) => bt (eI E a ((↑i : Int).toNat * (3 : Nat) + (2 : Nat))) (↑j : Int)) (iAt
      (rk e r k w m) (38 : Nat)) (bAt (rk e r k w m) (39 : Nat)))) (rO (rk (eO (rk e r k w m)) (setB (kpV (iAt (rk e r k w m) (38 : Nat)) fun (j : Nat) => bt (eI E a ((↑i :
      Int).toNat * (3 : Nat) + (2 : Nat))) (↑j : Int)) (12 : Nat) (rO (rk e r k w m))) (fun (j : Nat) => bt (eI E a ((↑i : Int).toNat * (3 : Nat) + (2 : Nat))) (↑j : Int)) (iAt
      (rk e r k w m) (38 : Nat)) (bAt (rk e r k w m) (39 : Nat)))) (14 : Nat) (0 : Nat)) = true → false = true) ∧ ((true ^^ pwkV en (pkR (pkV wa (a1 (eI E a ((↑i : Int).toNat *
      (3 : Nat) + (2 : Nat))) (1023 : Int))) rq) == wkN (eO (rk (eO (rk e r k w m)) (setB (kpV (iAt (rk e r k w m) (38 : Nat)) fun (j : Nat) => bt (eI E a ((↑i : Int).toNat * (3
      : Nat) + (2 : Nat))) (↑j : Int)) (12 : Nat) (rO (rk e r k w m))) (fun (j : Nat) => bt (eI E a ((↑i : Int).toNat * (3 : Nat) + (2 : Nat))) (↑j : Int)) (iAt (rk e r k w m)
      (38 : Nat)) (bAt (rk e r k w m) (39 : Nat)))) (rO (rk (eO (rk e r k w m)) (setB (kpV (iAt (rk e r k w m) (38 : Nat)) fun (j : Nat) => bt (eI E a ((↑i : Int).toNat * (3 :
      Nat) + (2 : Nat))) (↑j : Int)) (12 : Nat) (rO (rk e r k w m))) (fun (j : Nat) => bt (eI E a ((↑i : Int).toNat * (3 : Nat) + (2 : Nat))) (↑j : Int)) (iAt (rk e r k w m) (38
      : Nat)) (bAt (rk e r k w m) (39 : Nat)))) (14 : Nat) (0 : Nat)) = false → decide (en = en) = true ∧ decide (pkR (pkV wa (a1 (eI E a ((↑i : Int).toNat * (3 : Nat) + (2 :
      Nat))) (1023 : Int))) rq = pkR (pkV wa (a1 (eI E a ((↑i : Int).toNat * (3 : Nat) + (2 : Nat))) (1023 : Int))) rq) = true ∧ decide (wa = wa) = true ∧ decide (a1 (eI E a
      ((↑i : Int).toNat * (3 : Nat) + (2 : Nat))) (1023 : Int) = a1 (eI E a ((↑i : Int).toNat * (3 : Nat) + (2 : Nat))) (1023 : Int)) = true ∧ decide (pm = pm) = true ∧ kpN (fun
      q_ => eO (rk e r k w m) q_) 14 0 (kpN (fun q_ => setB (kpV (iAt (rk e r k w m) (38 : Nat)) fun (j : Nat) => bt (eI E a ((↑i : Int).toNat * (3 : Nat) + (2 : Nat))) (↑j :
      Int)) (12 : Nat) (rO (rk e r k w m)) q_) 14 0 (decide (bt (eI E a ((↑i : Int).toNat * (3 : Nat) + (2 : Nat))) (0 : Int) = bt (eI E a ((↑i : Int).toNat * (3 : Nat) + (2 :
      Nat))) (0 : Int)) = true ∧ decide (bt (eI E a ((↑i : Int).toNat * (3 : Nat) + (2 : Nat))) (1 : Int) = bt (eI E a ((↑i : Int).toNat * (3 : Nat) + (2 : Nat))) (1 : Int)) =
      true ∧ decide (bt (eI E a ((↑i : Int).toNat * (3 : Nat) + (2 : Nat))) (2 : Int) = bt (eI E a ((↑i : Int).toNat * (3 : Nat) + (2 : Nat))) (2 : Int)) = true ∧ decide (bt (eI
      E a ((↑i : Int).toNat * (3 : Nat) + (2 : Nat))) (3 : Int) = bt (eI E a ((↑i : Int).toNat * (3 : Nat) + (2 : Nat))) (3 : Int)) = true ∧ decide (bt (eI E a ((↑i : Int).toNat
      * (3 : Nat) + (2 : Nat))) (4 : Int) = bt (eI E a ((↑i : Int).toNat * (3 : Nat) + (2 : Nat))) (4 : Int)) = true ∧ decide (bt (eI E a ((↑i : Int).toNat * (3 : Nat) + (2 :
      Nat))) (5 : Int) = bt (eI E a ((↑i : Int).toNat * (3 : Nat) + (2 : Nat))) (5 : Int)) = true ∧ decide (bt (eI E a ((↑i : Int).toNat * (3 : Nat) + (2 : Nat))) (6 : Int) = bt
      (eI E a ((↑i : Int).toNat * (3 : Nat) + (2 : Nat))) (6 : Int)) = true ∧ decide (bt (eI E a ((↑i : Int).toNat * (3 : Nat) + (2 : Nat))) (7 : Int) = bt (eI E a ((↑i :
      Int).toNat * (3 : Nat) + (2 : Nat))) (7 : Int)) = true ∧ decide (bt (eI E a ((↑i : Int).toNat * (3 : Nat) + (2 : Nat))) (8 : Int) = bt (eI E a ((↑i : Int).toNat * (3 :
      Nat) + (2 : Nat))) (8 : Int)) = true ∧ decide (bt (eI E a ((↑i : Int).toNat * (3 : Nat) + (2 : Nat))) (9 : Int) = bt (eI E a ((↑i : Int).toNat * (3 : Nat) + (2 : Nat))) (9
      : Int)) = true ∧ decide (iAt (rk e r k w m) (38 : Nat) = iAt (rk e r k w m) (38 : Nat)) = true ∧ decide (bAt (rk e r k w m) (39 : Nat) = bAt (rk e r k w m) (39 : Nat)) =
      true ∧ decide (eI E a ((↑i : Int).toNat * (3 : Nat) + (0 : Nat)) = eI E a ((↑i : Int).toNat * (3 : Nat) + (0 : Nat))) = true ∧ decide (eI E a ((↑i : Int).toNat * (3 : Nat)
      + (1 : Nat)) = eI E a ((↑i : Int).toNat * (3 : Nat) + (1 : Nat))) = true ∧ decide (eI E a ((↑i : Int).toNat * (3 : Nat) + (2 : Nat)) = eI E a ((↑i : Int).toNat * (3 : Nat)
      + (2 : Nat))) = true ∧ decide (en = en) = true ∧ decide (pkR (pkV wa (a1 (eI E a ((↑i : Int).toNat * (3 : Nat) + (2 : Nat))) (1023 : Int))) rq = pkR (pkV wa (a1 (eI E a
      ((↑i : Int).toNat * (3 : Nat) + (2 : Nat))) (1023 : Int))) rq) = true ∧ decide (wa = wa) = true ∧ decide (a1 (eI E a ((↑i : Int).toNat * (3 : Nat) + (2 : Nat))) (1023 :
      Int) = a1 (eI E a ((↑i : Int).toNat * (3 : Nat) + (2 : Nat))) (1023 : Int)) = true ∧ decide (pm = pm) = true ∧ kpN (fun q_ => eO (rk e r k w m) q_) 14 0 (kpN (fun q_ =>
      setB (kpV (iAt (rk e r k w m) (38 : Nat)) fun (j : Nat) => bt (eI E a ((↑i : Int).toNat * (3 : Nat) + (2 : Nat))) (↑j : Int)) (12 : Nat) (rO (rk e r k w m)) q_) 14 0
      (decide (bt (eI E a ((↑i : Int).toNat * (3 : Nat) + (2 : Nat))) (0 : Int) = bt (eI E a ((↑i : Int).toNat * (3 : Nat) + (2 : Nat))) (0 : Int)) = true ∧ decide (bt (eI E a
      ((↑i : Int).toNat * (3 : Nat) + (2 : Nat))) (1 : Int) = bt (eI E a ((↑i : Int).toNat * (3 : Nat) + (2 : Nat))) (1 : Int)) = true ∧ decide (bt (eI E a ((↑i : Int).toNat *
      (3 : Nat) + (2 : Nat))) (2 : Int) = bt (eI E a ((↑i : Int).toNat * (3 : Nat) + (2 : Nat))) (2 : Int)) = true ∧ decide (bt (eI E a ((↑i : Int).toNat * (3 : Nat) + (2 :
      Nat))) (3 : Int) = bt (eI E a ((↑i : Int).toNat * (3 : Nat) + (2 : Nat))) (3 : Int)) = true ∧ decide (bt (eI E a ((↑i : Int).toNat * (3 : Nat) + (2 : Nat))) (4 : Int) = bt
      (eI E a ((↑i : Int).toNat * (3 : Nat) + (2 : Nat))) (4 : Int)) = true ∧ decide (bt (eI E a ((↑i : Int).toNat * (3 : Nat) + (2 : Nat))) (5 : Int) = bt (eI E a ((↑i :
      Int).toNat * (3 : Nat) + (2 : Nat))) (5 : Int)) = true ∧ decide (bt (eI E a ((↑i : Int).toNat * (3 : Nat) + (2 : Nat))) (6 : Int) = bt (eI E a ((↑i : Int).toNat * (3 :
      Nat) + (2 : Nat))) (6 : Int)) = true ∧ decide (bt (eI E a ((↑i : Int).toNat * (3 : Nat) + (2 : Nat))) (7 : Int) = bt (eI E a ((↑i : Int).toNat * (3 : Nat) + (2 : Nat))) (7
      : Int)) = true ∧ decide (bt (eI E a ((↑i : Int).toNat * (3 : Nat) + (2 : Nat))) (8 : Int) = bt (eI E a ((↑i : Int).toNat * (3 : Nat) + (2 : Nat))) (8 : Int)) = true ∧
      decide (bt (eI E a ((↑i : Int).toNat * (3 : Nat) + (2 : Nat))) (9 : Int) = bt (eI E a ((↑i : Int).toNat * (3 : Nat) + (2 : Nat))) (9 : Int)) = true ∧ decide (iAt (rk e r k
      w m) (38 : Nat) = iAt (rk e r k w m) (38 : Nat)) = true ∧ decide (bAt (rk e r k w m) (39 : Nat) = bAt (rk e r k w m) (39 : Nat)) = true ∧ decide (eI E a ((↑i : Int).toNat
      * (3 : Nat) + (0 : Nat)) = eI E a ((↑i : Int).toNat * (3 : Nat) + (0 : Nat))) = true ∧ decide (eI E a ((↑i : Int).toNat * (3 : Nat) + (1 : Nat)) = eI E a ((↑i : Int).toNat
      * (3 : Nat) + (1 : Nat))) = true ∧ decide (eI E a ((↑i : Int).toNat * (3 : Nat) + (2 : Nat)) = eI E a ((↑i : Int).toNat * (3 : Nat) + (2 : Nat))) = true ∧ ((true ^^ (pwkV
      en (pkR (pkV wa (a1 (eI E a ((↑i : Int).toNat * (3 : Nat) + (2 : Nat))) (1023 : Int))) rq) && pm) == (bAt (rk (eO (rk e r k w m)) (setB (kpV (iAt (rk e r k w m) (38 :
      Nat)) fun (j : Nat) => bt (eI E a ((↑i : Int).toNat * (3 : Nat) + (2 : Nat))) (↑j : Int)) (12 : Nat) (rO (rk e r k w m))) (fun (j : Nat) => bt (eI E a ((↑i : Int).toNat *
      (3 : Nat) + (2 : Nat))) (↑j : Int)) (iAt (rk e r k w m) (38 : Nat)) (bAt (rk e r k w m) (39 : Nat))) (39 : Nat) && wkN (eO (rk (eO (rk e r k w m)) (setB (kpV (iAt (rk e r
      k w m) (38 : Nat)) fun (j : Nat) => bt (eI E a ((↑i : Int).toNat * (3 : Nat) + (2 : Nat))) (↑j : Int)) (12 : Nat) (rO (rk e r k w m))) (fun (j : Nat) => bt (eI E a ((↑i :
      Int).toNat * (3 : Nat) + (2 : Nat))) (↑j : Int)) (iAt (rk e r k w m) (38 : Nat)) (bAt (rk e r k w m) (39 : Nat)))) (rO (rk (eO (rk e r k w m)) (setB (kpV (iAt (rk e r k w
      m) (38 : Nat)) fun (j : Nat) => bt (eI E a ((↑i : Int).toNat * (3 : Nat) + (2 : Nat))) (↑j : Int)) (12 : Nat) (rO (rk e r k w m))) (fun (j : Nat) => bt (eI E a ((↑i :
      Int).toNat * (3 : Nat) + (2 : Nat))) (↑j : Int)) (iAt (rk e r k w m) (38 : Nat)) (bAt (rk e r k w m) (39 : Nat)))) (14 : Nat) (0 : Nat))) = true → false = true) ∧ ((true
      ^^ (pwkV en (pkR (pkV wa (a1 (eI E a ((↑i : Int).toNat * (3 : Nat) + (2 : Nat))) (1023 : Int))) rq) && pm) == (bAt (rk (eO (rk e r k w m)) (setB (kpV (iAt (rk e r k w m)
      (38 : Nat)) fun (j : Nat) => bt (eI E a ((↑i : Int).toNat * (3 : Nat) + (2 : Nat))) (↑j : Int)) (12 : Nat) (rO (rk e r k w m))) (fun (j : Nat) => bt (eI E a ((↑i :
      Int).toNat * (3 : Nat) + (2 : Nat))) (↑j : Int)) (iAt (rk e r k w m) (38 : Nat)) (bAt (rk e r k w m) (39 : Nat))) (39 : Nat) && wkN (eO (rk (eO (rk e r k w m)) (setB (kpV
      (iAt (rk e r k w m) (38 : Nat)) fun (j : Nat) => bt (eI E a ((↑i : Int).toNat * (3 : Nat) + (2 : Nat))) (↑j : Int)) (12 : Nat) (rO (rk e r k w m))) (fun (j : Nat) => bt
      (eI E a ((↑i : Int).toNat * (3 : Nat) + (2 : Nat))) (↑j : Int)) (iAt (rk e r k w m) (38 : Nat)) (bAt (rk e r k w m) (39 : Nat)))) (rO (rk (eO (rk e r k w m)) (setB (kpV
      (iAt (rk e r k w m) (38 : Nat)) fun (j : Nat) => bt (eI E a ((↑i : Int).toNat * (3 : Nat) + (2 : Nat))) (↑j : Int)) (12 : Nat) (rO (rk e r k w m))) (fun (j : Nat) => bt
      (eI E a ((↑i : Int).toNat * (3 : Nat) + (2 : Nat))) (↑j : Int)) (iAt (rk e r k w m) (38 : Nat)) (bAt (rk e r k w m) (39 : Nat)))) (14 : Nat) (0 : Nat))) = false → decide
      (en = en) = true ∧ decide (pkR (pkV wa (a1 (eI E a ((↑i : Int).toNat * (3 : Nat) + (2 : Nat))) (1023 : Int))) rq = pkR (pkV wa (a1 (eI E a ((↑i : Int).toNat * (3 : Nat) +
      (2 : Nat))) (1023 : Int))) rq) = true ∧ decide (wa = wa) = true ∧ decide (a1 (eI E a ((↑i : Int).toNat * (3 : Nat) + (2 : Nat))) (1023 : Int) = a1 (eI E a ((↑i :
      Int).toNat * (3 : Nat) + (2 : Nat))) (1023 : Int)) = true ∧ decide (pm = pm) = true ∧ kpN (fun q_ => eO (rk e r k w m) q_) 14 0 (kpN (fun q_ => setB (kpV (iAt (rk e r k w
      m) (38 : Nat)) fun (j : Nat) => bt (eI E a ((↑i : Int).toNat * (3 : Nat) + (2 : Nat))) (↑j : Int)) (12 : Nat) (rO (rk e r k w m)) q_) 14 0 (decide (bt (eI E a ((↑i :
      Int).toNat * (3 : Nat) + (2 : Nat))) (0 : Int) = bt (eI E a ((↑i : Int).toNat * (3 : Nat) + (2 : Nat))) (0 : Int)) = true ∧ decide (bt (eI E a ((↑i : Int).toNat * (3 :
      Nat) + (2 : Nat))) (1 : Int) = bt (eI E a ((↑i : Int).toNat * (3 : Nat) + (2 : Nat))) (1 : Int)) = true ∧ decide (bt (eI E a ((↑i : Int).toNat * (3 : Nat) + (2 : Nat))) (2
      : Int) = bt (eI E a ((↑i : Int).toNat * (3 : Nat) + (2 : Nat))) (2 : Int)) = true ∧ decide (bt (eI E a ((↑i : Int).toNat * (3 : Nat) + (2 : Nat))) (3 : Int) = bt (eI E a
      ((↑i : Int).toNat * (3 : Nat) + (2 : Nat))) (3 : Int)) = true ∧ decide (bt (eI E a ((↑i : Int).toNat * (3 : Nat) + (2 : Nat))) (4 : Int) = bt (eI E a ((↑i : Int).toNat *
      (3 : Nat) + (2 : Nat))) (4 : Int)) = true ∧ decide (bt (eI E a ((↑i : Int).toNat * (3 : Nat) + (2 : Nat))) (5 : Int) = bt (eI E a ((↑i : Int).toNat * (3 : Nat) + (2 :
      Nat))) (5 : Int)) = true ∧ decide (bt (eI E a ((↑i : Int).toNat * (3 : Nat) + (2 : Nat))) (6 : Int) = bt (eI E a ((↑i : Int).toNat * (3 : Nat) + (2 : Nat))) (6 : Int)) =
      true ∧ decide (bt (eI E a ((↑i : Int).toNat * (3 : Nat) + (2 : Nat))) (7 : Int) = bt (eI E a ((↑i : Int).toNat * (3 : Nat) + (2 : Nat))) (7 : Int)) = true ∧ decide (bt (eI
      E a ((↑i : Int).toNat * (3 : Nat) + (2 : Nat))) (8 : Int) = bt (eI E a ((↑i : Int).toNat * (3 : Nat) + (2 : Nat))) (8 : Int)) = true ∧ decide (bt (eI E a ((↑i : Int).toNat
      * (3 : Nat) + (2 : Nat))) (9 : Int) = bt (eI E a ((↑i : Int).toNat * (3 : Nat) + (2 : Nat))) (9 : Int)) = true ∧ decide (iAt (rk e r k w m) (38 : Nat) = iAt (rk e r k w m)
      (38 : Nat)) = true ∧ decide (bAt (rk e r k w m) (39 : Nat) = bAt (rk e r k w m) (39 : Nat)) = true ∧ decide (eI E a ((↑i : Int).toNat * (3 : Nat) + (0 : Nat)) = eI E a
      ((↑i : Int).toNat * (3 : Nat) + (0 : Nat))) = true ∧ decide (eI E a ((↑i : Int).toNat * (3 : Nat) + (1 : Nat)) = eI E a ((↑i : Int).toNat * (3 : Nat) + (1 : Nat))) = true
      ∧ decide (eI E a ((↑i : Int).toNat * (3 : Nat) + (2 : Nat)) = eI E a ((↑i : Int).toNat * (3 : Nat) + (2 : Nat))) = true ∧ decide (en = en) = true ∧ decide (pkR (pkV wa (a1
      (eI E a ((↑i : Int).toNat * (3 : Nat) + (2 : Nat))) (1023 : Int))) rq = pkR (pkV wa (a1 (eI E a ((↑i : Int).toNat * (3 : Nat) + (2 : Nat))) (1023 : Int))) rq) = true ∧
      decide (wa = wa) = true ∧ decide (a1 (eI E a ((↑i : Int).toNat * (3 : Nat) + (2 : Nat))) (1023 : Int) = a1 (eI E a ((↑i : Int).toNat * (3 : Nat) + (2 : Nat))) (1023 :
      Int)) = true ∧ decide (pm = pm) = true ∧ kpN (fun q_ => eO (rk e r k w m) q_) 14 0 (kpN (fun q_ => setB (kpV (iAt (rk e r k w m) (38 : Nat)) fun (j : Nat) => bt (eI E a
      ((↑i : Int).toNat * (3 : Nat) + (2 : Nat))) (↑j : Int)) (12 : Nat) (rO (rk e r k w m)) q_) 14 0 (decide (bt (eI E a ((↑i : Int).toNat * (3 : Nat) + (2 : Nat))) (0 : Int) =
      bt (eI E a ((↑i : Int).toNat * (3 : Nat) + (2 : Nat))) (0 : Int)) = true ∧ decide (bt (eI E a ((↑i : Int).toNat * (3 : Nat) + (2 : Nat))) (1 : Int) = bt (eI E a ((↑i :
      Int).toNat * (3 : Nat) + (2 : Nat))) (1 : Int)) = true ∧ decide (bt (eI E a ((↑i : Int).toNat * (3 : Nat) + (2 : Nat))) (2 : Int) = bt (eI E a ((↑i : Int).toNat * (3 :
      Nat) + (2 : Nat))) (2 : Int)) = true ∧ decide (bt (eI E a ((↑i : Int).toNat * (3 : Nat) + (2 : Nat))) (3 : Int) = bt (eI E a ((↑i : Int).toNat * (3 : Nat) + (2 : Nat))) (3
      : Int)) = true ∧ decide (bt (eI E a ((↑i : Int).toNat * (3 : Nat) + (2 : Nat))) (4 : Int) = bt (eI E a ((↑i : Int).toNat * (3 : Nat) + (2 : Nat))) (4 : Int)) = true ∧
      decide (bt (eI E a ((↑i : Int).toNat * (3 : Nat) + (2 : Nat))) (5 : Int) = bt (eI E a ((↑i : Int).toNat * (3 : Nat) + (2 : Nat))) (5 : Int)) = true ∧ decide (bt (eI E a
      ((↑i : Int).toNat * (3 : Nat) + (2 : Nat))) (6 : Int) = bt (eI E a ((↑i : Int).toNat * (3 : Nat) + (2 : Nat))) (6 : Int)) = true ∧ decide (bt (eI E a ((↑i : Int).toNat *
      (3 : Nat) + (2 : Nat))) (7 : Int) = bt (eI E a ((↑i : Int).toNat * (3 : Nat) + (2 : Nat))) (7 : Int)) = true ∧ decide (bt (eI E a ((↑i : Int).toNat * (3 : Nat) + (2 :
      Nat))) (8 : Int) = bt (eI E a ((↑i : Int).toNat * (3 : Nat) + (2 : Nat))) (8 : Int)) = true ∧ decide (bt (eI E a ((↑i : Int).toNat * (3 : Nat) + (2 : Nat))) (9 : Int) = bt
      (eI E a ((↑i : Int).toNat * (3 : Nat) + (2 : Nat))) (9 : Int)) = true ∧ decide (iAt (rk e r k w m) (38 : Nat) = iAt (rk e r k w m) (38 : Nat)) = true ∧ decide (bAt (rk e r
      k w m) (39 : Nat) = bAt (rk e r k w m) (39 : Nat)) = true ∧ decide (eI E a ((↑i : Int).toNat * (3 : Nat) + (0 : Nat)) = eI E a ((↑i : Int).toNat * (3 : Nat) + (0 : Nat)))
      = true ∧ decide (eI E a ((↑i : Int).toNat * (3 : Nat) + (1 : Nat)) = eI E a ((↑i : Int).toNat * (3 : Nat) + (1 : Nat))) = true ∧ decide (eI E a ((↑i : Int).toNat * (3 :
      Nat) + (2 : Nat)) = eI E a ((↑i : Int).toNat * (3 : Nat) + (2 : Nat))) = true ∧ ((pdV en (pkR (pkV wa (a1 (eI E a ((↑i : Int).toNat * (3 : Nat) + (2 : Nat))) (1023 :
      Int))) rq) wa (a1 (eI E a ((↑i : Int).toNat * (3 : Nat) + (2 : Nat))) (1023 : Int)) pm (eI E a ((↑i : Int).toNat * (3 : Nat) + (1 : Nat))) != rdV (eO (rk (eO (rk e r k w
      m)) (setB (kpV (iAt (rk e r k w m) (38 : Nat)) fun (j : Nat) => bt (eI E a ((↑i : Int).toNat * (3 : Nat) + (2 : Nat))) (↑j : Int)) (12 : Nat) (rO (rk e r k w m))) (fun (j
      : Nat) => bt (eI E a ((↑i : Int).toNat * (3 : Nat) + (2 : Nat))) (↑j : Int)) (iAt (rk e r k w m) (38 : Nat)) (bAt (rk e r k w m) (39 : Nat)))) (rO (rk (eO (rk e r k w m))
      (setB (kpV (iAt (rk e r k w m) (38 : Nat)) fun (j : Nat) => bt (eI E a ((↑i : Int).toNat * (3 : Nat) + (2 : Nat))) (↑j : Int)) (12 : Nat) (rO (rk e r k w m))) (fun (j :
      Nat) => bt (eI E a ((↑i : Int).toNat * (3 : Nat) + (2 : Nat))) (↑j : Int)) (iAt (rk e r k w m) (38 : Nat)) (bAt (rk e r k w m) (39 : Nat)))) (kO (rk (eO (rk e r k w m))
      (setB (kpV (iAt (rk e r k w m) (38 : Nat)) fun (j : Nat) => bt (eI E a ((↑i : Int).toNat * (3 : Nat) + (2 : Nat))) (↑j : Int)) (12 : Nat) (rO (rk e r k w m))) (fun (j :
      Nat) => bt (eI E a ((↑i : Int).toNat * (3 : Nat) + (2 : Nat))) (↑j : Int)) (iAt (rk e r k w m) (38 : Nat)) (bAt (rk e r k w m) (39 : Nat)))) (iAt (rk (eO (rk e r k w m))
      (setB (kpV (iAt (rk e r k w m) (38 : Nat)) fun (j : Nat) => bt (eI E a ((↑i : Int).toNat * (3 : Nat) + (2 : Nat))) (↑j : Int)) (12 : Nat) (rO (rk e r k w m))) (fun (j :
      Nat) => bt (eI E a ((↑i : Int).toNat * (3 : Nat) + (2 : Nat))) (↑j : Int)) (iAt (rk e r k w m) (38 : Nat)) (bAt (rk e r k w m) (39 : Nat))) (38 : Nat)) (bAt (rk (eO (rk e
      r k w m)) (setB (kpV (iAt (rk e r k w m) (38 : Nat)) fun (j : Nat) => bt (eI E a ((↑i : Int).toNat * (3 : Nat) + (2 : Nat))) (↑j : Int)) (12 : Nat) (rO (rk e r k w m)))
      (fun (j : Nat) => bt (eI E a ((↑i : Int).toNat * (3 : Nat) + (2 : Nat))) (↑j : Int)) (iAt (rk e r k w m) (38 : Nat)) (bAt (rk e r k w m) (39 : Nat))) (39 : Nat)) (eI E a
      ((↑i : Int).toNat * (3 : Nat) + (1 : Nat)))) = true → false = true) ∧ ((pdV en (pkR (pkV wa (a1 (eI E a ((↑i : Int).toNat * (3 : Nat) + (2 : Nat))) (1023 : Int))) rq) wa
      (a1 (eI E a ((↑i : Int).toNat * (3 : Nat) + (2 : Nat))) (1023 : Int)) pm (eI E a ((↑i : Int).toNat * (3 : Nat) + (1 : Nat))) != rdV (eO (rk (eO (rk e r k w m)) (setB (kpV
      (iAt (rk e r k w m) (38 : Nat)) fun (j : Nat) => bt (eI E a ((↑i : Int).toNat * (3 : Nat) + (2 : Nat))) (↑j : Int)) (12 : Nat) (rO (rk e r k w m))) (fun (j : Nat) => bt
      (eI E a ((↑i : Int).toNat * (3 : Nat) + (2 : Nat))) (↑j : Int)) (iAt (rk e r k w m) (38 : Nat)) (bAt (rk e r k w m) (39 : Nat)))) (rO (rk (eO (rk e r k w m)) (setB (kpV
      (iAt (rk e r k w m) (38 : Nat)) fun (j : Nat) => bt (eI E a ((↑i : Int).toNat * (3 : Nat) + (2 : Nat))) (↑j : Int)) (12 : Nat) (rO (rk e r k w m))) (fun (j : Nat) => bt
      (eI E a ((↑i : Int).toNat * (3 : Nat) + (2 : Nat))) (↑j : Int)) (iAt (rk e r k w m) (38 : Nat)) (bAt (rk e r k w m) (39 : Nat)))) (kO (rk (eO (rk e r k w m)) (setB (kpV
      (iAt (rk e r k w m) (38 : Nat)) fun (j : Nat) => bt (eI E a ((↑i : Int).toNat * (3 : Nat) + (2 : Nat))) (↑j : Int)) (12 : Nat) (rO (rk e r k w m))) (fun (j : Nat) => bt
      (eI E a ((↑i : Int).toNat * (3 : Nat) + (2 : Nat))) (↑j : Int)) (iAt (rk e r k w m) (38 : Nat)) (bAt (rk e r k w m) (39 : Nat)))) (iAt (rk (eO (rk e r k w m)) (setB (kpV
      (iAt (rk e r k w m) (38 : Nat)) fun (j : Nat) => bt (eI E a ((↑i : Int).toNat * (3 : Nat) + (2 : Nat))) (↑j : Int)) (12 : Nat) (rO (rk e r k w m))) (fun (j : Nat) => bt
      (eI E a ((↑i : Int).toNat * (3 : Nat) + (2 : Nat))) (↑j : Int)) (iAt (rk e r k w m) (38 : Nat)) (bAt (rk e r k w m) (39 : Nat))) (38 : Nat)) (bAt (rk (eO (rk e r k w m))
      (setB (kpV (iAt (rk e r k w m) (38 : Nat)) fun (j : Nat) => bt (eI E a ((↑i : Int).toNat * (3 : Nat) + (2 : Nat))) (↑j : Int)) (12 : Nat) (rO (rk e r k w m))) (fun (j :
      Nat) => bt (eI E a ((↑i : Int).toNat * (3 : Nat) + (2 : Nat))) (↑j : Int)) (iAt (rk e r k w m) (38 : Nat)) (bAt (rk e r k w m) (39 : Nat))) (39 : Nat)) (eI E a ((↑i :
      Int).toNat * (3 : Nat) + (1 : Nat)))) = false → ((pdV en (pkR (pkV wa (a1 (eI E a ((↑i : Int).toNat * (3 : Nat) + (2 : Nat))) (1023 : Int))) rq) wa (a1 (eI E a ((↑i :
      Int).toNat * (3 : Nat) + (2 : Nat))) (1023 : Int)) pm (304 : Int) != rdV (eO (rk (eO (rk e r k w m)) (setB (kpV (iAt (rk e r k w m) (38 : Nat)) fun (j : Nat) => bt (eI E a
      ((↑i : Int).toNat * (3 : Nat) + (2 : Nat))) (↑j : Int)) (12 : Nat) (rO (rk e r k w m))) (fun (j : Nat) => bt (eI E a ((↑i : Int).toNat * (3 : Nat) + (2 : Nat))) (↑j :
      Int)) (iAt (rk e r k w m) (38 : Nat)) (bAt (rk e r k w m) (39 : Nat)))) (rO (rk (eO (rk e r k w m)) (setB (kpV (iAt (rk e r k w m) (38 : Nat)) fun (j : Nat) => bt (eI E a
      ((↑i : Int).toNat * (3 : Nat) + (2 : Nat))) (↑j : Int)) (12 : Nat) (rO (rk e r k w m))) (fun (j : Nat) => bt (eI E a ((↑i : Int).toNat * (3 : Nat) + (2 : Nat))) (↑j :
      Int)) (iAt (rk e r k w m) (38 : Nat)) (bAt (rk e r k w m) (39 : Nat)))) (kO (rk (eO (rk e r k w m)) (setB (kpV (iAt (rk e r k w m) (38 : Nat)) fun (j : Nat) => bt (eI E a
      ((↑i : Int).toNat * (3 : Nat) + (2 : Nat))) (↑j : Int)) (12 : Nat) (rO (rk e r k w m))) (fun (j : Nat) => bt (eI E a ((↑i : Int).toNat * (3 : Nat) + (2 : Nat))) (↑j :
      Int)) (iAt (rk e r k w m) (38 : Nat)) (bAt (rk e r k w m) (39 : Nat)))) (iAt (rk (eO (rk e r k w m)) (setB (kpV (iAt (rk e r k w m) (38 : Nat)) fun (j : Nat) => bt (eI E a
      ((↑i : Int).toNat * (3 : Nat) + (2 : Nat))) (↑j : Int)) (12 : Nat) (rO (rk e r k w m))) (fun (j : Nat) => bt (eI E a ((↑i : Int).toNat * (3 : Nat) + (2 : Nat))) (↑j :
      Int)) (iAt (rk e r k w m) (38 : Nat)) (bAt (rk e r k w m) (39 : Nat))) (38 : Nat)) (bAt (rk (eO (rk e r k w m)) (setB (kpV (iAt (rk e r k w m) (38 : Nat)) fun (j : Nat) =>
      bt (eI E a ((↑i : Int).toNat * (3 : Nat) + (2 : Nat))) (↑j : Int)) (12 : Nat) (rO (rk e r k w m))) (fun (j : Nat) => bt (eI E a ((↑i : Int).toNat * (3 : Nat) + (2 : Nat)))
      (↑j : Int)) (iAt (rk e r k w m) (38 : Nat)) (bAt (rk e r k w m) (39 : Nat))) (39 : Nat)) (304 : Int)) = true → false = true) ∧ ((pdV en (pkR (pkV wa (a1 (eI E a ((↑i :
      Int).toNat * (3 : Nat) + (2 : Nat))) (1023 : Int))) rq) wa (a1 (eI E a ((↑i : Int).toNat * (3 : Nat) + (2 : Nat))) (1023 : Int)) pm (304 : Int) != rdV (eO (rk (eO (rk e r
      k w m)) (setB (kpV (iAt (rk e r k w m) (38 : Nat)) fun (j : Nat) => bt (eI E a ((↑i : Int).toNat * (3 : Nat) + (2 : Nat))) (↑j : Int)) (12 : Nat) (rO (rk e r k w m))) (fun
      (j : Nat) => bt (eI E a ((↑i : Int).toNat * (3 : Nat) + (2 : Nat))) (↑j : Int)) (iAt (rk e r k w m) (38 : Nat)) (bAt (rk e r k w m) (39 : Nat)))) (rO (rk (eO (rk e r k w
      m)) (setB (kpV (iAt (rk e r k w m) (38 : Nat)) fun (j : Nat) => bt (eI E a ((↑i : Int).toNat * (3 : Nat) + (2 : Nat))) (↑j : Int)) (12 : Nat) (rO (rk e r k w m))) (fun (j
      : Nat) => bt (eI E a ((↑i : Int).toNat * (3 : Nat) + (2 : Nat))) (↑j : Int)) (iAt (rk e r k w m) (38 : Nat)) (bAt (rk e r k w m) (39 : Nat)))) (kO (rk (eO (rk e r k w m))
      (setB (kpV (iAt (rk e r k w m) (38 : Nat)) fun (j : Nat) => bt (eI E a ((↑i : Int).toNat * (3 : Nat) + (2 : Nat))) (↑j : Int)) (12 : Nat) (rO (rk e r k w m))) (fun (j :
      Nat) => bt (eI E a ((↑i : Int).toNat * (3 : Nat) + (2 : Nat))) (↑j : Int)) (iAt (rk e r k w m) (38 : Nat)) (bAt (rk e r k w m) (39 : Nat)))) (iAt (rk (eO (rk e r k w m))
      (setB (kpV (iAt (rk e r k w m) (38 : Nat)) fun (j : Nat) => bt (eI E a ((↑i : Int).toNat * (3 : Nat) + (2 : Nat))) (↑j : Int)) (12 : Nat) (rO (rk e r k w m))) (fun (j :
      Nat) => bt (eI E a ((↑i : Int).toNat * (3 : Nat) + (2 : Nat))) (↑j : Int)) (iAt (rk e r k w m) (38 : Nat)) (bAt (rk e r k w m) (39 : Nat))) (38 : Nat)) (bAt (rk (eO (rk e
      r k w m)) (setB (kpV (iAt (rk e r k w m) (38 : Nat)) fun (j : Nat) => bt (eI E a ((↑i : Int).toNat * (3 : Nat) + (2 : Nat))) (↑j : Int)) (12 : Nat) (rO (rk e r k w m)))
      (fun (j : Nat) => bt (eI E a ((↑i : Int).toNat * (3 : Nat) + (2 : Nat))) (↑j : Int)) (iAt (rk e r k w m) (38 : Nat)) (bAt (rk e r k w m) (39 : Nat))) (39 : Nat)) (304 :
      Int)) = false → ((pdV en (pkR (pkV wa (a1 (eI E a ((↑i : Int).toNat * (3 : Nat) + (2 : Nat))) (1023 : Int))) rq) wa (a1 (eI E a ((↑i : Int).toNat * (3 : Nat) + (2 : Nat)))
      (1023 : Int)) pm (306 : Int) != rdV (eO (rk (eO (rk e r k w m)) (setB (kpV (iAt (rk e r k w m) (38 : Nat)) fun (j : Nat) => bt (eI E a ((↑i : Int).toNat * (3 : Nat) + (2 :
      Nat))) (↑j : Int)) (12 : Nat) (rO (rk e r k w m))) (fun (j : Nat) => bt (eI E a ((↑i : Int).toNat * (3 : Nat) + (2 : Nat))) (↑j : Int)) (iAt (rk e r k w m) (38 : Nat))
      (bAt (rk e r k w m) (39 : Nat)))) (rO (rk (eO (rk e r k w m)) (setB (kpV (iAt (rk e r k w m) (38 : Nat)) fun (j : Nat) => bt (eI E a ((↑i : Int).toNat * (3 : Nat) + (2 :
      Nat))) (↑j : Int)) (12 : Nat) (rO (rk e r k w m))) (fun (j : Nat) => bt (eI E a ((↑i : Int).toNat * (3 : Nat) + (2 : Nat))) (↑j : Int)) (iAt (rk e r k w m) (38 : Nat))
      (bAt (rk e r k w m) (39 : Nat)))) (kO (rk (eO (rk e r k w m)) (setB (kpV (iAt (rk e r k w m) (38 : Nat)) fun (j : Nat) => bt (eI E a ((↑i : Int).toNat * (3 : Nat) + (2 :
      Nat))) (↑j : Int)) (12 : Nat) (rO (rk e r k w m))) (fun (j : Nat) => bt (eI E a ((↑i : Int).toNat * (3 : Nat) + (2 : Nat))) (↑j : Int)) (iAt (rk e r k w m) (38 : Nat))
      (bAt (rk e r k w m) (39 : Nat)))) (iAt (rk (eO (rk e r k w m)) (setB (kpV (iAt (rk e r k w m) (38 : Nat)) fun (j : Nat) => bt (eI E a ((↑i : Int).toNat * (3 : Nat) + (2 :
      Nat))) (↑j : Int)) (12 : Nat) (rO (rk e r k w m))) (fun (j : Nat) => bt (eI E a ((↑i : Int).toNat * (3 : Nat) + (2 : Nat))) (↑j : Int)) (iAt (rk e r k w m) (38 : Nat))
      (bAt (rk e r k w m) (39 : Nat))) (38 : Nat)) (bAt (rk (eO (rk e r k w m)) (setB (kpV (iAt (rk e r k w m) (38 : Nat)) fun (j : Nat) => bt (eI E a ((↑i : Int).toNat * (3 :
      Nat) + (2 : Nat))) (↑j : Int)) (12 : Nat) (rO (rk e r k w m))) (fun (j : Nat) => bt (eI E a ((↑i : Int).toNat * (3 : Nat) + (2 : Nat))) (↑j : Int)) (iAt (rk e r k w m) (38
      : Nat)) (bAt (rk e r k w m) (39 : Nat))) (39 : Nat)) (306 : Int)) = true → false = true) ∧ ((pdV en (pkR (pkV wa (a1 (eI E a ((↑i : Int).toNat * (3 : Nat) + (2 : Nat)))
      (1023 : Int))) rq) wa (a1 (eI E a ((↑i : Int).toNat * (3 : Nat) + (2 : Nat))) (1023 : Int)) pm (306 : Int) != rdV (eO (rk (eO (rk e r k w m)) (setB (kpV (iAt (rk e r k w
      m) (38 : Nat)) fun (j : Nat) => bt (eI E a ((↑i : Int).toNat * (3 : Nat) + (2 : Nat))) (↑j : Int)) (12 : Nat) (rO (rk e r k w m))) (fun (j : Nat) => bt (eI E a ((↑i :
      Int).toNat * (3 : Nat) + (2 : Nat))) (↑j : Int)) (iAt (rk e r k w m) (38 : Nat)) (bAt (rk e r k w m) (39 : Nat)))) (rO (rk (eO (rk e r k w m)) (setB (kpV (iAt (rk e r k w
      m) (38 : Nat)) fun (j : Nat) => bt (eI E a ((↑i : Int).toNat * (3 : Nat) + (2 : Nat))) (↑j : Int)) (12 : Nat) (rO (rk e r k w m))) (fun (j : Nat) => bt (eI E a ((↑i :
      Int).toNat * (3 : Nat) + (2 : Nat))) (↑j : Int)) (iAt (rk e r k w m) (38 : Nat)) (bAt (rk e r k w m) (39 : Nat)))) (kO (rk (eO (rk e r k w m)) (setB (kpV (iAt (rk e r k w
      m) (38 : Nat)) fun (j : Nat) => bt (eI E a ((↑i : Int).toNat * (3 : Nat) + (2 : Nat))) (↑j : Int)) (12 : Nat) (rO (rk e r k w m))) (fun (j : Nat) => bt (eI E a ((↑i :
      Int).toNat * (3 : Nat) + (2 : Nat))) (↑j : Int)) (iAt (rk e r k w m) (38 : Nat)) (bAt (rk e r k w m) (39 : Nat)))) (iAt (rk (eO (rk e r k w m)) (setB (kpV (iAt (rk e r k w
      m) (38 : Nat)) fun (j : Nat) => bt (eI E a ((↑i : Int).toNat * (3 : Nat) + (2 : Nat))) (↑j : Int)) (12 : Nat) (rO (rk e r k w m))) (fun (j : Nat) => bt (eI E a ((↑i :
      Int).toNat * (3 : Nat) + (2 : Nat))) (↑j : Int)) (iAt (rk e r k w m) (38 : Nat)) (bAt (rk e r k w m) (39 : Nat))) (38 : Nat)) (bAt (rk (eO (rk e r k w m)) (setB (kpV (iAt
      (rk e r k w m) (38 : Nat)) fun (j : Nat) => bt (eI E a ((↑i : Int).toNat * (3 : Nat) + (2 : Nat))) (↑j : Int)) (12 : Nat) (rO (rk e r k w m))) (fun (j : Nat) => bt (eI E a
      ((↑i : Int).toNat * (3 : Nat) + (2 : Nat))) (↑j : Int)) (iAt (rk e r k w m) (38 : Nat)) (bAt (rk e r k w m) (39 : Nat))) (39 : Nat)) (306 : Int)) = false → ((pdV en (pkR
      (pkV wa (a1 (eI E a ((↑i : Int).toNat * (3 : Nat) + (2 : Nat))) (1023 : Int))) rq) wa (a1 (eI E a ((↑i : Int).toNat * (3 : Nat) + (2 : Nat))) (1023 : Int)) pm (512 : Int)
      != rdV (eO (rk (eO (rk e r k w m)) (setB (kpV (iAt (rk e r k w m) (38 : Nat)) fun (j : Nat) => bt (eI E a ((↑i : Int).toNat * (3 : Nat) + (2 : Nat))) (↑j : Int)) (12 :
      Nat) (rO (rk e r k w m))) (fun (j : Nat) => bt (eI E a ((↑i : Int).toNat * (3 : Nat) + (2 : Nat))) (↑j : Int)) (iAt (rk e r k w m) (38 : Nat)) (bAt (rk e r k w m) (39 :
      Nat)))) (rO (rk (eO (rk e r k w m)) (setB (kpV (iAt (rk e r k w m) (38 : Nat)) fun (j : Nat) => bt (eI E a ((↑i : Int).toNat * (3 : Nat) + (2 : Nat))) (↑j : Int)) (12 :
      Nat) (rO (rk e r k w m))) (fun (j : Nat) => bt (eI E a ((↑i : Int).toNat * (3 : Nat) + (2 : Nat))) (↑j : Int)) (iAt (rk e r k w m) (38 : Nat)) (bAt (rk e r k w m) (39 :
      Nat)))) (kO (rk (eO (rk e r k w m)) (setB (kpV (iAt (rk e r k w m) (38 : Nat)) fun (j : Nat) => bt (eI E a ((↑i : Int).toNat * (3 : Nat) + (2 : Nat))) (↑j : Int)) (12 :
      Nat) (rO (rk e r k w m))) (fun (j : Nat) => bt (eI E a ((↑i : Int).toNat * (3 : Nat) + (2 : Nat))) (↑j : Int)) (iAt (rk e r k w m) (38 : Nat)) (bAt (rk e r k w m) (39 :
      Nat)))) (iAt (rk (eO (rk e r k w m)) (setB (kpV (iAt (rk e r k w m) (38 : Nat)) fun (j : Nat) => bt (eI E a ((↑i : Int).toNat * (3 : Nat) + (2 : Nat))) (↑j : Int)) (12 :
      Nat) (rO (rk e r k w m))) (fun (j : Nat) => bt (eI E a ((↑i : Int).toNat * (3 : Nat) + (2 : Nat))) (↑j : Int)) (iAt (rk e r k w m) (38 : Nat)) (bAt (rk e r k w m) (39 :
      Nat))) (38 : Nat)) (bAt (rk (eO (rk e r k w m)) (setB (kpV (iAt (rk e r k w m) (38 : Nat)) fun (j : Nat) => bt (eI E a ((↑i : Int).toNat * (3 : Nat) + (2 : Nat))) (↑j :
      Int)) (12 : Nat) (rO (rk e r k w m))) (fun (j : Nat) => bt (eI E a ((↑i : Int).toNat * (3 : Nat) + (2 : Nat))) (↑j : Int)) (iAt (rk e r k w m) (38 : Nat)) (bAt (rk e r k w
      m) (39 : Nat))) (39 : Nat)) (512 : Int)) = true → false = true) ∧ ((pdV en (pkR (pkV wa (a1 (eI E a ((↑i : Int).toNat * (3 : Nat) + (2 : Nat))) (1023 : Int))) rq) wa (a1
      (eI E a ((↑i : Int).toNat * (3 : Nat) + (2 : Nat))) (1023 : Int)) pm (512 : Int) != rdV (eO (rk (eO (rk e r k w m)) (setB (kpV (iAt (rk e r k w m) (38 : Nat)) fun (j :
      Nat) => bt (eI E a ((↑i : Int).toNat * (3 : Nat) + (2 : Nat))) (↑j : Int)) (12 : Nat) (rO (rk e r k w m))) (fun (j : Nat) => bt (eI E a ((↑i : Int).toNat * (3 : Nat) + (2
      : Nat))) (↑j : Int)) (iAt (rk e r k w m) (38 : Nat)) (bAt (rk e r k w m) (39 : Nat)))) (rO (rk (eO (rk e r k w m)) (setB (kpV (iAt (rk e r k w m) (38 : Nat)) fun (j : Nat)
      => bt (eI E a ((↑i : Int).toNat * (3 : Nat) + (2 : Nat))) (↑j : Int)) (12 : Nat) (rO (rk e r k w m))) (fun (j : Nat) => bt (eI E a ((↑i : Int).toNat * (3 : Nat) + (2 :
      Nat))) (↑j : Int)) (iAt (rk e r k w m) (38 : Nat)) (bAt (rk e r k w m) (39 : Nat)))) (kO (rk (eO (rk e r k w m)) (setB (kpV (iAt (rk e r k w m) (38 : Nat)) fun (j : Nat)
      => bt (eI E a ((↑i : Int).toNat * (3 : Nat) + (2 : Nat))) (↑j : Int)) (12 : Nat) (rO (rk e r k w m))) (fun (j : Nat) => bt (eI E a ((↑i : Int).toNat * (3 : Nat) + (2 :
      Nat))) (↑j : Int)) (iAt (rk e r k w m) (38 : Nat)) (bAt (rk e r k w m) (39 : Nat)))) (iAt (rk (eO (rk e r k w m)) (setB (kpV (iAt (rk e r k w m) (38 : Nat)) fun (j : Nat)
      => bt (eI E a ((↑i : Int).toNat * (3 : Nat) + (2 : Nat))) (↑j : Int)) (12 : Nat) (rO (rk e r k w m))) (fun (j : Nat) => bt (eI E a ((↑i : Int).toNat * (3 : Nat) + (2 :
      Nat))) (↑j : Int)) (iAt (rk e r k w m) (38 : Nat)) (bAt (rk e r k w m) (39 : Nat))) (38 : Nat)) (bAt (rk (eO (rk e r k w m)) (setB (kpV (iAt (rk e r k w m) (38 : Nat)) fun
      (j : Nat) => bt (eI E a ((↑i : Int).toNat * (3 : Nat) + (2 : Nat))) (↑j : Int)) (12 : Nat) (rO (rk e r k w m))) (fun (j : Nat) => bt (eI E a ((↑i : Int).toNat * (3 : Nat)
      + (2 : Nat))) (↑j : Int)) (iAt (rk e r k w m) (38 : Nat)) (bAt (rk e r k w m) (39 : Nat))) (39 : Nat)) (512 : Int)) = false → ((pdV en (pkR (pkV wa (a1 (eI E a ((↑i :
      Int).toNat * (3 : Nat) + (2 : Nat))) (1023 : Int))) rq) wa (a1 (eI E a ((↑i : Int).toNat * (3 : Nat) + (2 : Nat))) (1023 : Int)) pm (514 : Int) != rdV (eO (rk (eO (rk e r
      k w m)) (setB (kpV (iAt (rk e r k w m) (38 : Nat)) fun (j : Nat) => bt (eI E a ((↑i : Int).toNat * (3 : Nat) + (2 : Nat))) (↑j : Int)) (12 : Nat) (rO (rk e r k w m))) (fun
      (j : Nat) => bt (eI E a ((↑i : Int).toNat * (3 : Nat) + (2 : Nat))) (↑j : Int)) (iAt (rk e r k w m) (38 : Nat)) (bAt (rk e r k w m) (39 : Nat)))) (rO (rk (eO (rk e r k w
      m)) (setB (kpV (iAt (rk e r k w m) (38 : Nat)) fun (j : Nat) => bt (eI E a ((↑i : Int).toNat * (3 : Nat) + (2 : Nat))) (↑j : Int)) (12 : Nat) (rO (rk e r k w m))) (fun (j
      : Nat) => bt (eI E a ((↑i : Int).toNat * (3 : Nat) + (2 : Nat))) (↑j : Int)) (iAt (rk e r k w m) (38 : Nat)) (bAt (rk e r k w m) (39 : Nat)))) (kO (rk (eO (rk e r k w m))
      (setB (kpV (iAt (rk e r k w m) (38 : Nat)) fun (j : Nat) => bt (eI E a ((↑i : Int).toNat * (3 : Nat) + (2 : Nat))) (↑j : Int)) (12 : Nat) (rO (rk e r k w m))) (fun (j :
      Nat) => bt (eI E a ((↑i : Int).toNat * (3 : Nat) + (2 : Nat))) (↑j : Int)) (iAt (rk e r k w m) (38 : Nat)) (bAt (rk e r k w m) (39 : Nat)))) (iAt (rk (eO (rk e r k w m))
      (setB (kpV (iAt (rk e r k w m) (38 : Nat)) fun (j : Nat) => bt (eI E a ((↑i : Int).toNat * (3 : Nat) + (2 : Nat))) (↑j : Int)) (12 : Nat) (rO (rk e r k w m))) (fun (j :
      Nat) => bt (eI E a ((↑i : Int).toNat * (3 : Nat) + (2 : Nat))) (↑j : Int)) (iAt (rk e r k w m) (38 : Nat)) (bAt (rk e r k w m) (39 : Nat))) (38 : Nat)) (bAt (rk (eO (rk e
      r k w m)) (setB (kpV (iAt (rk e r k w m) (38 : Nat)) fun (j : Nat) => bt (eI E a ((↑i : Int).toNat * (3 : Nat) + (2 : Nat))) (↑j : Int)) (12 : Nat) (rO (rk e r k w m)))
      (fun (j : Nat) => bt (eI E a ((↑i : Int).toNat * (3 : Nat) + (2 : Nat))) (↑j : Int)) (iAt (rk e r k w m) (38 : Nat)) (bAt (rk e r k w m) (39 : Nat))) (39 : Nat)) (514 :
      Int)) = true → false = true) ∧ ((pdV en (pkR (pkV wa (a1 (eI E a ((↑i : Int).toNat * (3 : Nat) + (2 : Nat))) (1023 : Int))) rq) wa (a1 (eI E a ((↑i : Int).toNat * (3 :
      Nat) + (2 : Nat))) (1023 : Int)) pm (514 : Int) != rdV (eO (rk (eO (rk e r k w m)) (setB (kpV (iAt (rk e r k w m) (38 : Nat)) fun (j : Nat) => bt (eI E a ((↑i : Int).toNat
      * (3 : Nat) + (2 : Nat))) (↑j : Int)) (12 : Nat) (rO (rk e r k w m))) (fun (j : Nat) => bt (eI E a ((↑i : Int).toNat * (3 : Nat) + (2 : Nat))) (↑j : Int)) (iAt (rk e r k w
      m) (38 : Nat)) (bAt (rk e r k w m) (39 : Nat)))) (rO (rk (eO (rk e r k w m)) (setB (kpV (iAt (rk e r k w m) (38 : Nat)) fun (j : Nat) => bt (eI E a ((↑i : Int).toNat * (3
      : Nat) + (2 : Nat))) (↑j : Int)) (12 : Nat) (rO (rk e r k w m))) (fun (j : Nat) => bt (eI E a ((↑i : Int).toNat * (3 : Nat) + (2 : Nat))) (↑j : Int)) (iAt (rk e r k w m)
      (38 : Nat)) (bAt (rk e r k w m) (39 : Nat)))) (kO (rk (eO (rk e r k w m)) (setB (kpV (iAt (rk e r k w m) (38 : Nat)) fun (j : Nat) => bt (eI E a ((↑i : Int).toNat * (3 :
      Nat) + (2 : Nat))) (↑j : Int)) (12 : Nat) (rO (rk e r k w m))) (fun (j : Nat) => bt (eI E a ((↑i : Int).toNat * (3 : Nat) + (2 : Nat))) (↑j : Int)) (iAt (rk e r k w m) (38
      : Nat)) (bAt (rk e r k w m) (39 : Nat)))) (iAt (rk (eO (rk e r k w m)) (setB (kpV (iAt (rk e r k w m) (38 : Nat)) fun (j : Nat) => bt (eI E a ((↑i : Int).toNat * (3 : Nat)
      + (2 : Nat))) (↑j : Int)) (12 : Nat) (rO (rk e r k w m))) (fun (j : Nat) => bt (eI E a ((↑i : Int).toNat * (3 : Nat) + (2 : Nat))) (↑j : Int)) (iAt (rk e r k w m) (38 :
      Nat)) (bAt (rk e r k w m) (39 : Nat))) (38 : Nat)) (bAt (rk (eO (rk e r k w m)) (setB (kpV (iAt (rk e r k w m) (38 : Nat)) fun (j : Nat) => bt (eI E a ((↑i : Int).toNat *
      (3 : Nat) + (2 : Nat))) (↑j : Int)) (12 : Nat) (rO (rk e r k w m))) (fun (j : Nat) => bt (eI E a ((↑i : Int).toNat * (3 : Nat) + (2 : Nat))) (↑j : Int)) (iAt (rk e r k w
      m) (38 : Nat)) (bAt (rk e r k w m) (39 : Nat))) (39 : Nat)) (514 : Int)) = false → ((pdV en (pkR (pkV wa (a1 (eI E a ((↑i : Int).toNat * (3 : Nat) + (2 : Nat))) (1023 :
      Int))) rq) wa (a1 (eI E a ((↑i : Int).toNat * (3 : Nat) + (2 : Nat))) (1023 : Int)) pm (520 : Int) != rdV (eO (rk (eO (rk e r k w m)) (setB (kpV (iAt (rk e r k w m) (38 :
      Nat)) fun (j : Nat) => bt (eI E a ((↑i : Int).toNat * (3 : Nat) + (2 : Nat))) (↑j : Int)) (12 : Nat) (rO (rk e r k w m))) (fun (j : Nat) => bt (eI E a ((↑i : Int).toNat *
      (3 : Nat) + (2 : Nat))) (↑j : Int)) (iAt (rk e r k w m) (38 : Nat)) (bAt (rk e r k w m) (39 : Nat)))) (rO (rk (eO (rk e r k w m)) (setB (kpV (iAt (rk e r k w m) (38 :
      Nat)) fun (j : Nat) => bt (eI E a ((↑i : Int).toNat * (3 : Nat) + (2 : Nat))) (↑j : Int)) (12 : Nat) (rO (rk e r k w m))) (fun (j : Nat) => bt (eI E a ((↑i : Int).toNat *
      (3 : Nat) + (2 : Nat))) (↑j : Int)) (iAt (rk e r k w m) (38 : Nat)) (bAt (rk e r k w m) (39 : Nat)))) (kO (rk (eO (rk e r k w m)) (setB (kpV (iAt (rk e r k w m) (38 :
      Nat)) fun (j : Nat) => bt (eI E a ((↑i : Int).toNat * (3 : Nat) + (2 : Nat))) (↑j : Int)) (12 : Nat) (rO (rk e r k w m))) (fun (j : Nat) => bt (eI E a ((↑i : Int).toNat *
      (3 : Nat) + (2 : Nat))) (↑j : Int)) (iAt (rk e r k w m) (38 : Nat)) (bAt (rk e r k w m) (39 : Nat)))) (iAt (rk (eO (rk e r k w m)) (setB (kpV (iAt (rk e r k w m) (38 :
      Nat)) fun (j : Nat) => bt (eI E a ((↑i : Int).toNat * (3 : Nat) + (2 : Nat))) (↑j : Int)) (12 : Nat) (rO (rk e r k w m))) (fun (j : Nat) => bt (eI E a ((↑i : Int).toNat *
      (3 : Nat) + (2 : Nat))) (↑j : Int)) (iAt (rk e r k w m) (38 : Nat)) (bAt (rk e r k w m) (39 : Nat))) (38 : Nat)) (bAt (rk (eO (rk e r k w m)) (setB (kpV (iAt (rk e r k w
      m) (38 : Nat)) fun (j : Nat) => bt (eI E a ((↑i : Int).toNat * (3 : Nat) + (2 : Nat))) (↑j : Int)) (12 : Nat) (rO (rk e r k w m))) (fun (j : Nat) => bt (eI E a ((↑i :
      Int).toNat * (3 : Nat) + (2 : Nat))) (↑j : Int)) (iAt (rk e r k w m) (38 : Nat)) (bAt (rk e r k w m) (39 : Nat))) (39 : Nat)) (520 : Int)) = true → false = true) ∧ ((pdV
      en (pkR (pkV wa (a1 (eI E a ((↑i : Int).toNat * (3 : Nat) + (2 : Nat))) (1023 : Int))) rq) wa (a1 (eI E a ((↑i : Int).toNat * (3 : Nat) + (2 : Nat))) (1023 : Int)) pm (520
      : Int) != rdV (eO (rk (eO (rk e r k w m)) (setB (kpV (iAt (rk e r k w m) (38 : Nat)) fun (j : Nat) => bt (eI E a ((↑i : Int).toNat * (3 : Nat) + (2 : Nat))) (↑j : Int))
      (12 : Nat) (rO (rk e r k w m))) (fun (j : Nat) => bt (eI E a ((↑i : Int).toNat * (3 : Nat) + (2 : Nat))) (↑j : Int)) (iAt (rk e r k w m) (38 : Nat)) (bAt (rk e r k w m)
      (39 : Nat)))) (rO (rk (eO (rk e r k w m)) (setB (kpV (iAt (rk e r k w m) (38 : Nat)) fun (j : Nat) => bt (eI E a ((↑i : Int).toNat * (3 : Nat) + (2 : Nat))) (↑j : Int))
      (12 : Nat) (rO (rk e r k w m))) (fun (j : Nat) => bt (eI E a ((↑i : Int).toNat * (3 : Nat) + (2 : Nat))) (↑j : Int)) (iAt (rk e r k w m) (38 : Nat)) (bAt (rk e r k w m)
      (39 : Nat)))) (kO (rk (eO (rk e r k w m)) (setB (kpV (iAt (rk e r k w m) (38 : Nat)) fun (j : Nat) => bt (eI E a ((↑i : Int).toNat * (3 : Nat) + (2 : Nat))) (↑j : Int))
      (12 : Nat) (rO (rk e r k w m))) (fun (j : Nat) => bt (eI E a ((↑i : Int).toNat * (3 : Nat) + (2 : Nat))) (↑j : Int)) (iAt (rk e r k w m) (38 : Nat)) (bAt (rk e r k w m)
      (39 : Nat)))) (iAt (rk (eO (rk e r k w m)) (setB (kpV (iAt (rk e r k w m) (38 : Nat)) fun (j : Nat) => bt (eI E a ((↑i : Int).toNat * (3 : Nat) + (2 : Nat))) (↑j : Int))
      (12 : Nat) (rO (rk e r k w m))) (fun (j : Nat) => bt (eI E a ((↑i : Int).toNat * (3 : Nat) + (2 : Nat))) (↑j : Int)) (iAt (rk e r k w m) (38 : Nat)) (bAt (rk e r k w m)
      (39 : Nat))) (38 : Nat)) (bAt (rk (eO (rk e r k w m)) (setB (kpV (iAt (rk e r k w m) (38 : Nat)) fun (j : Nat) => bt (eI E a ((↑i : Int).toNat * (3 : Nat) + (2 : Nat)))
      (↑j : Int)) (12 : Nat) (rO (rk e r k w m))) (fun (j : Nat) => bt (eI E a ((↑i : Int).toNat * (3 : Nat) + (2 : Nat))) (↑j : Int)) (iAt (rk e r k w m) (38 : Nat)) (bAt (rk e
      r k w m) (39 : Nat))) (39 : Nat)) (520 : Int)) = false → Holds (i < n) ∧ (45 : Nat) = (45 : Nat) ∧ (31 : Nat) = (31 : Nat) ∧ wfB (38 : Nat) (rk (eO (rk e r k w m)) (setB
      (kpV (iAt (rk e r k w m) (38 : Nat)) fun (j : Nat) => bt (eI E a ((↑i : Int).toNat * (3 : Nat) + (2 : Nat))) (↑j : Int)) (12 : Nat) (rO (rk e r k w m))) (fun (j : Nat) =>
      bt (eI E a ((↑i : Int).toNat * (3 : Nat) + (2 : Nat))) (↑j : Int)) (iAt (rk e r k w m) (38 : Nat)) (bAt (rk e r k w m) (39 : Nat))) = true ∧ Holds (RelL en (pkR (pkV wa
      (a1 (eI E a ((↑i : Int).toNat * (nat_lit 2 + (1 : Nat)) + (nat_lit 1 + (1 : Nat)))) (1023 : Int))) rq) wa (a1 (eI E a ((↑i : Int).toNat * (nat_lit 2 + (1 : Nat)) +
      (nat_lit 1 + (1 : Nat)))) (1023 : Int)) pm (rk (eO (rk e r k w m)) (setB (kpV (iAt (rk e r k w m) (38 : Nat)) fun (j : Nat) => bt (eI E a ((↑i : Int).toNat * (nat_lit 2 +
      (1 : Nat)) + (nat_lit 1 + (1 : Nat)))) (↑j : Int)) (12 : Nat) (rO (rk e r k w m))) (fun (j : Nat) => bt (eI E a ((↑i : Int).toNat * (nat_lit 2 + (1 : Nat)) + (nat_lit 1 +
      (1 : Nat)))) (↑j : Int)) (iAt (rk e r k w m) (38 : Nat)) (bAt (rk e r k w m) (39 : Nat)))) ∧ hd3 E = hd3 E ∧ (97 : Nat) = (97 : Nat) ∧ C.p (0 : Nat) (0 : Nat) = C.p (0 :
      Nat) (0 : Nat) ∧ C.p (1 : Nat) (0 : Nat) = C.p (1 : Nat) (0 : Nat) ∧ C.es a n c = C.es a n c ∧ (IntKind.i64 = IntKind.i64 ∧ (↑n : Int) = (↑n : Int)) ∧ IntKind.i64 =
      IntKind.i64 ∧ IntKind.i64.wrap ((↑i : Int) + (1 : Int)) = (↑(i + (1 : Nat)) : Int)))))))))))))))))))))) ∧ ((eI E a ((↑i : Int).toNat * (3 : Nat) + (0 : Nat)) == (2 : Int))
      = false → decide (en = en) = true ∧ decide (rq = rq) = true ∧ decide (wa = wa) = true ∧ decide (ky = ky) = true ∧ decide (pm = pm) = true ∧ kpN (fun q_ => e q_) 14 0 (kpN
      (fun q_ => r q_) 14 0 (kpN (fun q_ => k q_) 10 0 (decide (w = w) = true ∧ decide (m = m) = true ∧ decide (eI E a ((↑i : Int).toNat * (3 : Nat) + (0 : Nat)) = eI E a ((↑i :
      Int).toNat * (3 : Nat) + (0 : Nat))) = true ∧ decide (eI E a ((↑i : Int).toNat * (3 : Nat) + (1 : Nat)) = eI E a ((↑i : Int).toNat * (3 : Nat) + (1 : Nat))) = true ∧
      decide (eI E a ((↑i : Int).toNat * (3 : Nat) + (2 : Nat)) = eI E a ((↑i : Int).toNat * (3 : Nat) + (2 : Nat))) = true ∧ decide (en = en) = true ∧ decide (rq = rq) = true ∧
      decide (wa = wa) = true ∧ decide (ky = ky) = true ∧ decide (pm = pm) = true ∧ kpN (fun q_ => e q_) 14 0 (kpN (fun q_ => r q_) 14 0 (kpN (fun q_ => k q_) 10 0 (decide (w =
      w) = true ∧ decide (m = m) = true ∧ decide (eI E a ((↑i : Int).toNat * (3 : Nat) + (0 : Nat)) = eI E a ((↑i : Int).toNat * (3 : Nat) + (0 : Nat))) = true ∧ decide (eI E a
      ((↑i : Int).toNat * (3 : Nat) + (1 : Nat)) = eI E a ((↑i : Int).toNat * (3 : Nat) + (1 : Nat))) = true ∧ decide (eI E a ((↑i : Int).toNat * (3 : Nat) + (2 : Nat)) = eI E a
      ((↑i : Int).toNat * (3 : Nat) + (2 : Nat))) = true ∧ ((true ^^ pwkV en rq == wkN (eO (rk e r k w m)) (rO (rk e r k w m)) (14 : Nat) (0 : Nat)) = true → false = true) ∧
      ((true ^^ pwkV en rq == wkN (eO (rk e r k w m)) (rO (rk e r k w m)) (14 : Nat) (0 : Nat)) = false → decide (en = en) = true ∧ decide (rq = rq) = true ∧ decide (wa = wa) =
      true ∧ decide (ky = ky) = true ∧ decide (pm = pm) = true ∧ kpN (fun q_ => e q_) 14 0 (kpN (fun q_ => r q_) 14 0 (kpN (fun q_ => k q_) 10 0 (decide (w = w) = true ∧ decide
      (m = m) = true ∧ decide (eI E a ((↑i : Int).toNat * (3 : Nat) + (0 : Nat)) = eI E a ((↑i : Int).toNat * (3 : Nat) + (0 : Nat))) = true ∧ decide (eI E a ((↑i : Int).toNat *
      (3 : Nat) + (1 : Nat)) = eI E a ((↑i : Int).toNat * (3 : Nat) + (1 : Nat))) = true ∧ decide (eI E a ((↑i : Int).toNat * (3 : Nat) + (2 : Nat)) = eI E a ((↑i : Int).toNat *
      (3 : Nat) + (2 : Nat))) = true ∧ decide (en = en) = true ∧ decide (rq = rq) = true ∧ decide (wa = wa) = true ∧ decide (ky = ky) = true ∧ decide (pm = pm) = true ∧ kpN (fun
      q_ => e q_) 14 0 (kpN (fun q_ => r q_) 14 0 (kpN (fun q_ => k q_) 10 0 (decide (w = w) = true ∧ decide (m = m) = true ∧ decide (eI E a ((↑i : Int).toNat * (3 : Nat) + (0 :
      Nat)) = eI E a ((↑i : Int).toNat * (3 : Nat) + (0 : Nat))) = true ∧ decide (eI E a ((↑i : Int).toNat * (3 : Nat) + (1 : Nat)) = eI E a ((↑i : Int).toNat * (3 : Nat) + (1 :
      Nat))) = true ∧ decide (eI E a ((↑i : Int).toNat * (3 : Nat) + (2 : Nat)) = eI E a ((↑i : Int).toNat * (3 : Nat) + (2 : Nat))) = true ∧ ((true ^^ (pwkV en rq && pm) ==
      (bAt (rk e r k w m) (39 : Nat) && wkN (eO (rk e r k w m)) (rO (rk e r k w m)) (14 : Nat) (0 : Nat))) = true → false = true) ∧ ((true ^^ (pwkV en rq && pm) == (bAt (rk e r
      k w m) (39 : Nat) && wkN (eO (rk e r k w m)) (rO (rk e r k w m)) (14 : Nat) (0 : Nat))) = false → decide (en = en) = true ∧ decide (rq = rq) = true ∧ decide (wa = wa) =
      true ∧ decide (ky = ky) = true ∧ decide (pm = pm) = true ∧ kpN (fun q_ => e q_) 14 0 (kpN (fun q_ => r q_) 14 0 (kpN (fun q_ => k q_) 10 0 (decide (w = w) = true ∧ decide
      (m = m) = true ∧ decide (eI E a ((↑i : Int).toNat * (3 : Nat) + (0 : Nat)) = eI E a ((↑i : Int).toNat * (3 : Nat) + (0 : Nat))) = true ∧ decide (eI E a ((↑i : Int).toNat *
      (3 : Nat) + (1 : Nat)) = eI E a ((↑i : Int).toNat * (3 : Nat) + (1 : Nat))) = true ∧ decide (eI E a ((↑i : Int).toNat * (3 : Nat) + (2 : Nat)) = eI E a ((↑i : Int).toNat *
      (3 : Nat) + (2 : Nat))) = true ∧ decide (en = en) = true ∧ decide (rq = rq) = true ∧ decide (wa = wa) = true ∧ decide (ky = ky) = true ∧ decide (pm = pm) = true ∧ kpN (fun
      q_ => e q_) 14 0 (kpN (fun q_ => r q_) 14 0 (kpN (fun q_ => k q_) 10 0 (decide (w = w) = true ∧ decide (m = m) = true ∧ decide (eI E a ((↑i : Int).toNat * (3 : Nat) + (0 :
      Nat)) = eI E a ((↑i : Int).toNat * (3 : Nat) + (0 : Nat))) = true ∧ decide (eI E a ((↑i : Int).toNat * (3 : Nat) + (1 : Nat)) = eI E a ((↑i : Int).toNat * (3 : Nat) + (1 :
      Nat))) = true ∧ decide (eI E a ((↑i : Int).toNat * (3 : Nat) + (2 : Nat)) = eI E a ((↑i : Int).toNat * (3 : Nat) + (2 : Nat))) = true ∧ ((pdV en rq wa ky pm (eI E a ((↑i :
      Int).toNat * (3 : Nat) + (1 : Nat))) != rdV (eO (rk e r k w m)) (rO (rk e r k w m)) (kO (rk e r k w m)) (iAt (rk e r k w m) (38 : Nat)) (bAt (rk e r k w m) (39 : Nat)) (eI
      E a ((↑i : Int).toNat * (3 : Nat) + (1 : Nat)))) = true → false = true) ∧ ((pdV en rq wa ky pm (eI E a ((↑i : Int).toNat * (3 : Nat) + (1 : Nat))) != rdV (eO (rk e r k w
      m)) (rO (rk e r k w m)) (kO (rk e r k w m)) (iAt (rk e r k w m) (38 : Nat)) (bAt (rk e r k w m) (39 : Nat)) (eI E a ((↑i : Int).toNat * (3 : Nat) + (1 : Nat)))) = false →
      ((pdV en rq wa ky pm (304 : Int) != rdV (eO (rk e r k w m)) (rO (rk e r k w m)) (kO (rk e r k w m)) (iAt (rk e r k w m) (38 : Nat)) (bAt (rk e r k w m) (39 : Nat)) (304 :
      Int)) = true → false = true) ∧ ((pdV en rq wa ky pm (304 : Int) != rdV (eO (rk e r k w m)) (rO (rk e r k w m)) (kO (rk e r k w m)) (iAt (rk e r k w m) (38 : Nat)) (bAt (rk
      e r k w m) (39 : Nat)) (304 : Int)) = false → ((pdV en rq wa ky pm (306 : Int) != rdV (eO (rk e r k w m)) (rO (rk e r k w m)) (kO (rk e r k w m)) (iAt (rk e r k w m) (38 :
      Nat)) (bAt (rk e r k w m) (39 : Nat)) (306 : Int)) = true → false = true) ∧ ((pdV en rq wa ky pm (306 : Int) != rdV (eO (rk e r k w m)) (rO (rk e r k w m)) (kO (rk e r k w
      m)) (iAt (rk e r k w m) (38 : Nat)) (bAt (rk e r k w m) (39 : Nat)) (306 : Int)) = false → ((pdV en rq wa ky pm (512 : Int) != rdV (eO (rk e r k w m)) (rO (rk e r k w m))
      (kO (rk e r k w m)) (iAt (rk e r k w m) (38 : Nat)) (bAt (rk e r k w m) (39 : Nat)) (512 : Int)) = true → false = true) ∧ ((pdV en rq wa ky pm (512 : Int) != rdV (eO (rk e
      r k w m)) (rO (rk e r k w m)) (kO (rk e r k w m)) (iAt (rk e r k w m) (38 : Nat)) (bAt (rk e r k w m) (39 : Nat)) (512 : Int)) = false → ((pdV en rq wa ky pm (514 : Int)
      != rdV (eO (rk e r k w m)) (rO (rk e r k w m)) (kO (rk e r k w m)) (iAt (rk e r k w m) (38 : Nat)) (bAt (rk e r k w m) (39 : Nat)) (514 : Int)) = true → false = true) ∧
      ((pdV en rq wa ky pm (514 : Int) != rdV (eO (rk e r k w m)) (rO (rk e r k w m)) (kO (rk e r k w m)) (iAt (rk e r k w m) (38 : Nat)) (bAt (rk e r k w m) (39 : Nat)) (514 :
      Int)) = false → ((pdV en rq wa ky pm (520 : Int) != rdV (eO (rk e r k w m)) (rO (rk e r k w m)) (kO (rk e r k w m)) (iAt (rk e r k w m) (38 : Nat)) (bAt (rk e r k w m) (39
      : Nat)) (520 : Int)) = true → false = true) ∧ ((pdV en rq wa ky pm (520 : Int) != rdV (eO (rk e r k w m)) (rO (rk e r k w m)) (kO (rk e r k w m)) (iAt (rk e r k w m) (38 :
      Nat)) (bAt (rk e r k w m) (39 : Nat)) (520 : Int)) = false → Holds (i < n) ∧ (45 : Nat) = (45 : Nat) ∧ (31 : Nat) = (31 : Nat) ∧ wfB (38 : Nat) (rk e r k w m) = true ∧
      Holds (RelL en rq wa ky pm (rk e r k w m)) ∧ hd3 E = hd3 E ∧ (97 : Nat) = (97 : Nat) ∧ C.p (0 : Nat) (0 : Nat) = C.p (0 : Nat) (0 : Nat) ∧ C.p (1 : Nat) (0 : Nat) = C.p (1
      : Nat) (0 : Nat) ∧ C.es a n c = C.es a n c ∧ (IntKind.i64 = IntKind.i64 ∧ (↑n : Int) = (↑n : Int)) ∧ IntKind.i64 = IntKind.i64 ∧ IntKind.i64.wrap ((↑i : Int) + (1 : Int))
      = (↑(i + (1 : Nat)) : Int)))))))))))))))))))))))))))))))) ∧ (decide ((↑i : Int) < (↑n : Int)) = false → true = true)) := by kernel_rfl
end Go.Proofs.Ytnpngigighkegaa

