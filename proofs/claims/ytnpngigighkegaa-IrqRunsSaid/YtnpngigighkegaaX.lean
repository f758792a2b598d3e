import Derived.Test.YtnpngigighkegaaV
set_option linter.unusedVariables false
set_option linter.unusedSimpArgs false
namespace Go.Proofs.Ytnpngigighkegaa
open Go Go.Proofs Go.Proofs.Ytnpngigighkegaa.Ev
set_option maxRecDepth 100000
def orcQ (E : World) : Orc := fun g vs s => match g, vs, s with
  | 9, [.c (.p 0 0), .c (.i _ .i64 y)], ⟨[.i false .u16 en, .i false .u16 rq, .i false .u16 wa, .i false .u16 ky, .b false m], 45⟩ :: S => some (.leaf (.t [], ⟨ck en (prR rq y) wa ky m, 45⟩ :: S))
  | 11, [.c (.p 0 0), .c (.i _ .i64 y), .c (.i _ .u16 x)], ⟨[.i false .u16 en, .i false .u16 rq, .i false .u16 wa, .i false .u16 ky, .b false m], 45⟩ :: S => some (.leaf (.t [], ⟨ck (pwE en y x) (pwR rq ky y x) (pwW wa y x) ky (pwM m y x), 45⟩ :: S))
  | 13, [.c (.p 0 0), .c (.i _ .u16 x)], ⟨[.i false .u16 en, .i false .u16 rq, .i false .u16 wa, .i false .u16 ky, .b false m], 45⟩ :: S => some (.leaf (.t [], ⟨ck en (pkR (pkV wa (a1 x 1023)) rq) wa (a1 x 1023) m, 45⟩ :: S))
  | 15, [.c (.p 0 0)], ⟨[.i false .u16 en, .i false .u16 rq, .i false .u16 wa, .i false .u16 ky, .b false m], 45⟩ :: S => some (.leaf (.c (.b false (pwkV en rq)), ⟨ck en rq wa ky m, 45⟩ :: S))
  | 17, [.c (.p 0 0)], ⟨[.i false .u16 en, .i false .u16 rq, .i false .u16 wa, .i false .u16 ky, .b false m], 45⟩ :: S => some (.leaf (.c (.b false (pwkV en rq && m)), ⟨ck en rq wa ky m, 45⟩ :: S))
  | 19, [.c (.p 0 0), .c (.i _ .i64 y)], ⟨[.i false .u16 en, .i false .u16 rq, .i false .u16 wa, .i false .u16 ky, .b false m], 45⟩ :: S => some (.leaf (.c (.i false .u16 (pdV en rq wa ky m y)), ⟨ck en rq wa ky m, 45⟩ :: S))
  | g, vs, s => orcP E g vs s
theorem orcQ_ok {E : World} : OrcOK (pe E) (orcQ E) := by
  intro g vs s t h
  unfold orcQ at h
  split at h
  · cases h
    exact CallTree.args (by simp [simL, SV.sim, S1.sim, C.sim]) (praise_c E _ _ _ _ _ _ _)
  · cases h
    exact CallTree.args (by simp [simL, SV.sim, S1.sim, C.sim]) (pwrite_c E _ _ _ _ _ _ _ _)
  · cases h
    exact CallTree.args (by simp [simL, SV.sim, S1.sim, C.sim]) (pkeys_c E _ _ _ _ _ _ _)
  · cases h
    exact pwakes_c E _ _ _ _ _ _
  · cases h
    exact pfires_c E _ _ _ _ _ _
  · cases h
    exact CallTree.args (by simp [simL, SV.sim, S1.sim, C.sim]) (pread_c E _ _ _ _ _ _ _)
  · exact orcP_ok _ _ _ _ h
def opR (X : Bl) (l : List C) (S : SW) : FuncId → List SV → Option (Tree (SV × SW)) := fun g vs => match g, vs with
  | 10, [.c (.p 1 0), .c (.i _ .i64 y)] => some (.leaf (.t [], X :: ⟨rk (eO l) (rrR (rO l) y) (kO l) (iAt l 38) (bAt l 39), 31⟩ :: S))
  | 14, [.c (.p 1 0), .c (.i _ .u16 x)] => some (.leaf (.t [], X :: ⟨rk (eO l) (setB (kpV (iAt l 38) (fun j => bt x (j : Int))) 12 (rO l)) (fun j => bt x (j : Int)) (iAt l 38) (bAt l 39), 31⟩ :: S))
  | 16, [.c (.p 1 0)] => some (.leaf (.c (.b false (wkN (eO l) (rO l) 14 0)), X :: ⟨l, 31⟩ :: S))
  | 18, [.c (.p 1 0)] => some (.leaf (.c (.b false (bAt l 39 && wkN (eO l) (rO l) 14 0)), X :: ⟨l, 31⟩ :: S))
  | 20, [.c (.p 1 0), .c (.i _ .i64 y)] => some (.leaf (.c (.i false .u16 (rdV (eO l) (rO l) (kO l) (iAt l 38) (bAt l 39) y)), X :: ⟨l, 31⟩ :: S))
  | _, _ => none
theorem opR_ok {E : World} {X : Bl} {l : List C} {S : SW} {g : FuncId} {vs : List SV} {t : Tree (SV × SW)} (hl : wfB 38 l = true) (h : opR X l S g vs = some t) : CallTree (pe E) g vs (X :: ⟨l, 31⟩ :: S) t := by
  unfold opR at h
  split at h
  · cases h
    rename_i lt y
    have K : ∀ e r k w m, l = rk e r k w m → CallTree (pe E) 10 [.c (.p 1 0), .c (.i false .i64 y)] (X :: ⟨l, 31⟩ :: S) (.leaf (.t [], X :: ⟨rk e (rrR r y) k w m, 31⟩ :: S)) := by
      intro e r k w m hh
      rw [hh]
      exact rraise_c E X S e r k w m y
    exact CallTree.args (by simp [simL, SV.sim, S1.sim, C.sim]) (K _ _ _ _ _ (wfB_eq hl))
  · cases h
    rename_i lt x
    have K : ∀ e r k w m, l = rk e r k w m → CallTree (pe E) 14 [.c (.p 1 0), .c (.i false .u16 x)] (X :: ⟨l, 31⟩ :: S) (.leaf (.t [], X :: ⟨rk e (setB (kpV w (fun j => bt x (j : Int))) 12 r) (fun j => bt x (j : Int)) w m, 31⟩ :: S)) := by
      intro e r k w m hh
      rw [hh]
      exact rpress_c E X S e r k w m x
    exact CallTree.args (by simp [simL, SV.sim, S1.sim, C.sim]) (K _ _ _ _ _ (wfB_eq hl))
  · cases h
    have K : ∀ e r k w m, l = rk e r k w m → CallTree (pe E) 16 [.c (.p 1 0)] (X :: ⟨l, 31⟩ :: S) (.leaf (.c (.b false (wkN e r 14 0)), X :: ⟨l, 31⟩ :: S)) := by
      intro e r k w m hh
      rw [hh]
      exact rwakes_c E X S e r k w m 
    exact K _ _ _ _ _ (wfB_eq hl)
  · cases h
    have K : ∀ e r k w m, l = rk e r k w m → CallTree (pe E) 18 [.c (.p 1 0)] (X :: ⟨l, 31⟩ :: S) (.leaf (.c (.b false (m && wkN e r 14 0)), X :: ⟨l, 31⟩ :: S)) := by
      intro e r k w m hh
      rw [hh]
      exact rfires_c E X S e r k w m 
    exact K _ _ _ _ _ (wfB_eq hl)
  · cases h
    rename_i lt y
    have K : ∀ e r k w m, l = rk e r k w m → CallTree (pe E) 20 [.c (.p 1 0), .c (.i false .i64 y)] (X :: ⟨l, 31⟩ :: S) (.leaf (.c (.i false .u16 (rdV e r k w m y)), X :: ⟨l, 31⟩ :: S)) := by
      intro e r k w m hh
      rw [hh]
      exact rread_c E X S e r k w m y
    exact CallTree.args (by simp [simL, SV.sim, S1.sim, C.sim]) (K _ _ _ _ _ (wfB_eq hl))
  · cases h
def op12 (en rq wa ky z1 z2 z3 : Int) (pm : Bool) (l : List C) : FuncId → List SV → Option (Tree (SV × SW)) := fun g vs => match g, vs with
  | 12, [.c (.p 1 0), .c (.i _ .i64 y), .c (.i _ .u16 x)] => some (.leaf (.t [], [⟨ck en rq wa ky pm, 45⟩, ⟨rk (rwE (eO l) y x) (rwR (rO l) (kO l) y x) (kO l) (pwW (iAt l 38) y x) (rwM (bAt l 39) y x), 31⟩, ⟨[.i false .i64 z1, .i false .i64 z2, .i false .u16 z3], 33⟩]))
  | _, _ => none
theorem op12_ok {E : World} {en rq wa ky z1 z2 z3 : Int} {pm : Bool} {l : List C} {g : FuncId} {vs : List SV} {t : Tree (SV × SW)} (hl : wfB 38 l = true) (h : op12 en rq wa ky z1 z2 z3 pm l g vs = some t) : CallTree (pe E) g vs [⟨ck en rq wa ky pm, 45⟩, ⟨l, 31⟩, ⟨[.i false .i64 z1, .i false .i64 z2, .i false .u16 z3], 33⟩] t := by
  unfold op12 at h
  split at h
  · cases h
    rename_i l1 y l2 x
    have K : ∀ e r k w m, l = rk e r k w m → CallTree (pe E) 12 [.c (.p 1 0), .c (.i false .i64 y), .c (.i false .u16 x)] [⟨ck en rq wa ky pm, 45⟩, ⟨l, 31⟩, ⟨[.i false .i64 z1, .i false .i64 z2, .i false .u16 z3], 33⟩] (.leaf (.t [], [⟨ck en rq wa ky pm, 45⟩, ⟨rk (rwE e y x) (rwR r k y x) k (pwW w y x) (rwM m y x), 31⟩, ⟨[.i false .i64 z1, .i false .i64 z2, .i false .u16 z3], 33⟩])) := by
      intro e r k w m hh
      rw [hh]
      exact rwrite_c E en rq wa ky z1 z2 z3 pm e r k w m y x
    exact CallTree.args (by simp [simL, SV.sim, S1.sim, C.sim]) (K _ _ _ _ _ (wfB_eq hl))
  · cases h
def orcR (E : World) : Orc := fun g vs s => match s with
  | X :: ⟨l, 31⟩ :: S => (match (cond (wfB 38 l) (opR X l S g vs) none) with
    | some t => some t
    | none => orcQ E g vs s)
  | _ => orcQ E g vs s
theorem orcR_ok {E : World} : OrcOK (pe E) (orcR E) := by
  intro g vs s t h
  unfold orcR at h
  split at h
  · rename_i X l S
    split at h
    · rename_i t' ht
      cases h
      cases hl : wfB 38 l <;> rw [hl] at ht <;> simp only [cond_true, cond_false] at ht
      · cases ht
      · exact opR_ok hl ht
    · exact orcQ_ok _ _ _ _ h
  · exact orcQ_ok _ _ _ _ h
def orcX (E : World) : Orc := fun g vs s => match s with
  | [⟨[.i false .u16 en, .i false .u16 rq, .i false .u16 wa, .i false .u16 ky, .b false pm], 45⟩, ⟨l, 31⟩, ⟨[.i false .i64 z1, .i false .i64 z2, .i false .u16 z3], 33⟩] => (match (cond (wfB 38 l) (op12 en rq wa ky z1 z2 z3 pm l g vs) none) with
    | some t => some t
    | none => orcR E g vs s)
  | _ => orcR E g vs s
theorem orcX_ok {E : World} : OrcOK (pe E) (orcX E) := by
  intro g vs s t h
  unfold orcX at h
  split at h
  · rename_i en rq wa ky pm l z1 z2 z3
    split at h
    · rename_i t' ht
      cases h
      cases hl : wfB 38 l <;> rw [hl] at ht <;> simp only [cond_true, cond_false] at ht
      · cases ht
      · exact op12_ok hl ht
    · exact orcR_ok _ _ _ _ h
  · exact orcR_ok _ _ _ _ h
end Go.Proofs.Ytnpngigighkegaa

