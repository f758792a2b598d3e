import Derived.Test.YtkgpcdnlbgmglaaE
set_option linter.unusedVariables false
set_option linter.unusedSimpArgs false
namespace Go.Proofs.Ytkgpcdnlbgmglaa
open Go Go.Proofs Go.Proofs.Ytkgpcdnlbgmglaa.Ev
def md2 (x : Int) : Nat := cond (x.tmod 32 == 17) 1 (cond (x.tmod 32 == 18) 2 (cond (x.tmod 32 == 19) 3 (cond (x.tmod 32 == 23) 4 (cond (x.tmod 32 == 27) 5 0))))
def mdT {α : Type} (x : Int) (f : Nat → Tree α) : Tree α := .node (x.tmod 32 == 17) (f 1) (.node (x.tmod 32 == 18) (f 2) (.node (x.tmod 32 == 19) (f 3) (.node (x.tmod 32 == 23) (f 4) (.node (x.tmod 32 == 27) (f 5) (f 0)))))
def pl (m : Nat) (K : Int) : Nat := cond (K == 13) m (cond (K == 14) m (cond (decide (K ≥ 8)) (cond (decide (K ≤ 12)) (cond (Nat.beq m 1) 1 0) 0) 0))
def plT {α : Type} (m : Nat) (K : Int) (f : Nat → Tree α) : Tree α := .node (K == 13) (f m) (.node (K == 14) (f m) (.node (decide (K ≥ 8)) (.node (decide (K ≤ 12)) (f (cond (Nat.beq m 1) 1 0)) (f 0)) (f 0)))
theorem conE_md {r : SV × SW} {x : Int} {f : Nat → Tree (SV × SW)} (h : conE r (f (md2 x))) : conE r (mdT x f) := by
  unfold md2 at h
  unfold mdT
  refine ⟨fun e => by rw [e] at h; exact h, fun e => ?_⟩
  rw [e] at h
  refine ⟨fun e => by rw [e] at h; exact h, fun e => ?_⟩
  rw [e] at h
  refine ⟨fun e => by rw [e] at h; exact h, fun e => ?_⟩
  rw [e] at h
  refine ⟨fun e => by rw [e] at h; exact h, fun e => ?_⟩
  rw [e] at h
  refine ⟨fun e => by rw [e] at h; exact h, fun e => ?_⟩
  rw [e] at h
  exact h
theorem conE_pl {r : SV × SW} {m : Nat} {K : Int} {f : Nat → Tree (SV × SW)} (h : conE r (f (pl m K))) : conE r (plT m K f) := by
  unfold pl at h
  unfold plT
  refine ⟨fun e => by rw [e] at h; exact h, fun e => ?_⟩
  rw [e] at h
  refine ⟨fun e => by rw [e] at h; exact h, fun e => ?_⟩
  rw [e] at h
  refine ⟨fun e => ?_, fun e => by rw [e] at h; exact h⟩
  rw [e] at h
  exact ⟨fun e => by rw [e] at h; exact h, fun e => by rw [e] at h; exact h⟩
def rk (c : Nat → Int) : List C := [.i false .u32 (c 0), .i false .u32 (c 1), .i false .u32 (c 2), .i false .u32 (c 3), .i false .u32 (c 4), .i false .u32 (c 5), .i false .u32 (c 6), .i false .u32 (c 7), .i false .u32 (c 8), .i false .u32 (c 9), .i false .u32 (c 10), .i false .u32 (c 11), .i false .u32 (c 12), .i false .u32 (c 13), .i false .u32 (c 14), .i false .u32 (c 15), .i false .u32 (c 16), .i false .u32 (c 17), .i false .u32 (c 18), .i false .u32 (c 19), .i false .u32 (c 20), .i false .u32 (c 21), .i false .u32 (c 22), .i false .u32 (c 23), .i false .u32 (c 24), .i false .u32 (c 25), .i false .u32 (c 26), .i false .u32 (c 27), .i false .u32 (c 28), .i false .u32 (c 29), .i false .u32 (c 30), .i false .u32 (c 31), .i false .u32 (c 32), .i false .u32 (c 33), .i false .u32 (c 34), .i false .u32 (c 35), .i false .u32 (c 36), .i false .u32 (c 37), .i false .u32 (c 38), .i false .u32 (c 39), .i false .u32 (c 40), .i false .u32 (c 41), .i false .u32 (c 42), .i false .u32 (c 43), .i false .u32 (c 44), .i false .u32 (c 45), .i false .u32 (c 46), .i false .u32 (c 47), .i false .u32 (c 48), .i false .u32 (c 49), .i false .u32 (c 50), .i false .u32 (c 51), .i false .u32 (c 52), .i false .u32 (c 53), .i false .u32 (c 54), .i false .u32 (c 55), .i false .u32 (c 56), .i false .u32 (c 57), .i false .u32 (c 58), .i false .u32 (c 59), .i false .u32 (c 60), .i false .u32 (c 61), .i false .u32 (c 62), .i false .u32 (c 63), .i false .u32 (c 64), .i false .u32 (c 65), .i false .u32 (c 66), .i false .u32 (c 67), .i false .u32 (c 68), .i false .u32 (c 69), .i false .u32 (c 70), .i false .u32 (c 71), .i false .u32 (c 72), .i false .u32 (c 73), .i false .u32 (c 74), .i false .u32 (c 75), .i false .u32 (c 76), .i false .u32 (c 77), .i false .u32 (c 78), .i false .u32 (c 79), .i false .u32 (c 80), .i false .u32 (c 81), .i false .u32 (c 82), .i false .u32 (c 83), .i false .u32 (c 84), .i false .u32 (c 85), .i false .u32 (c 86), .i false .u32 (c 87), .i false .u32 (c 88), .i false .u32 (c 89), .i false .u32 (c 90), .i false .u32 (c 91), .i false .u32 (c 92), .i false .u32 (c 93), .i false .u32 (c 94), .i false .u32 (c 95), .i false .u32 (c 96), .i false .u32 (c 97), .i false .u32 (c 98), .i false .u32 (c 99), .i false .u32 (c 100), .i false .u32 (c 101), .i false .u32 (c 102)]
def row (c : Nat → Int) (p : Nat) : List Int := [c (16 * p + 0), c (16 * p + 1), c (16 * p + 2), c (16 * p + 3), c (16 * p + 4), c (16 * p + 5), c (16 * p + 6), c (16 * p + 7), c (16 * p + 8), c (16 * p + 9), c (16 * p + 10), c (16 * p + 11), c (16 * p + 12), c (16 * p + 13), c (16 * p + 14), c (16 * p + 15)]
def rrow (c : Nat → Int) (p : Nat) (K x : Int) (j : Nat) : Int := cond (Nat.ble (16 * p) j && Nat.blt j (16 * p + 16)) (cond (K == ((j - 16 * p : Nat) : Int)) x (c j)) (c j)
def rsv (c : Nat → Int) (m : Nat) (x : Int) (j : Nat) : Int := cond (!(Nat.beq m 0) && Nat.beq j (96 + m)) x (c j)
def rst (c : Nat → Int) (x : Int) (j : Nat) : Int := cond (Nat.beq j 102) x (c j)
def kk (i : Int) : Int := bits .and .i64 i 15
def rsetV (c : Nat → Int) (i x : Int) : Nat → Int := rrow c (pl (md2 (c 102)) (kk i)) (kk i) x
def rgetV (c : Nat → Int) (i : Int) : Int := selI (row c (pl (md2 (c 102)) (kk i))) (kk i)
def rsusV (c : Nat → Int) (i x : Int) : Nat → Int := rrow c 0 (kk i) x
def rusrV (c : Nat → Int) (i : Int) : Int := selI (row c 0) (kk i)
def rssvV (c : Nat → Int) (x : Int) : Nat → Int := rsv c (md2 (c 102)) x
def rsavV (c : Nat → Int) : Int := cond (Nat.beq (md2 (c 102)) 0) (c 102) (c (96 + md2 (c 102)))
theorem inKK (i : Int) : inB (kk i) 16 = true := inK i
set_option maxRecDepth 100000 in
theorem rget_t (E : World) (i x : Int) (X : Bl) (c : Nat → Int) (S : SW) : fnTree (pe E) (orcA E) (tabL fns) 20000 Try.f20 [.c (.p 1 0), .c (.i false .i64 i)] (X :: ⟨rk c, 37⟩ :: S) = (mdT (c 102) fun m => plT m (kk i) fun p => .need (inB (kk i) 16) (.leaf (.c (.i false .u32 (selI (row c p) (kk i))), X :: ⟨rk c, 37⟩ :: S))) := by kernel_rfl
set_option maxRecDepth 100000 in
theorem rget_c (E : World) (i x : Int) (X : Bl) (c : Nat → Int) (S : SW) : CallTree (pe E) 20 [.c (.p 1 0), .c (.i false .i64 i)] (X :: ⟨rk c, 37⟩ :: S) (.leaf (.c (.i false .u32 (rgetV c i)), X :: ⟨rk c, 37⟩ :: S)) := by
  refine call_conE (t := mdT (c 102) fun m => plT m (kk i) fun p => .need (inB (kk i) 16) (.leaf (.c (.i false .u32 (selI (row c p) (kk i))), X :: ⟨rk c, 37⟩ :: S))) ?_ (conE_md (conE_pl ⟨inKK i, rfl⟩))
  rw [← rget_t E i x X c S]
  exact fnTree_sound (P := pe E) orcA_ok tab_ok tab_sz mixed 20000 Try.func20 (by decide) [.c (.p 1 0), .c (.i false .i64 i)] (X :: ⟨rk c, 37⟩ :: S)
set_option maxRecDepth 100000 in
theorem rset_t (E : World) (i x : Int) (X : Bl) (c : Nat → Int) (S : SW) : fnTree (pe E) (orcA E) (tabL fns) 20000 Try.f12 [.c (.p 1 0), .c (.i false .i64 i), .c (.i false .u32 x)] (X :: ⟨rk c, 37⟩ :: S) = (mdT (c 102) fun m => plT m (kk i) fun p => .need (inB (kk i) 16) (.leaf (.t [], X :: ⟨rk (rrow c p (kk i) x), 37⟩ :: S))) := by kernel_rfl
set_option maxRecDepth 100000 in
theorem rset_c (E : World) (i x : Int) (X : Bl) (c : Nat → Int) (S : SW) : CallTree (pe E) 12 [.c (.p 1 0), .c (.i false .i64 i), .c (.i false .u32 x)] (X :: ⟨rk c, 37⟩ :: S) (.leaf (.t [], X :: ⟨rk (rsetV c i x), 37⟩ :: S)) := by
  refine call_conE (t := mdT (c 102) fun m => plT m (kk i) fun p => .need (inB (kk i) 16) (.leaf (.t [], X :: ⟨rk (rrow c p (kk i) x), 37⟩ :: S))) ?_ (conE_md (conE_pl ⟨inKK i, rfl⟩))
  rw [← rset_t E i x X c S]
  exact fnTree_sound (P := pe E) orcA_ok tab_ok tab_sz mixed 20000 Try.func12 (by decide) [.c (.p 1 0), .c (.i false .i64 i), .c (.i false .u32 x)] (X :: ⟨rk c, 37⟩ :: S)
set_option maxRecDepth 100000 in
theorem rssv_t (E : World) (i x : Int) (X : Bl) (c : Nat → Int) (S : SW) : fnTree (pe E) (orcA E) (tabL fns) 20000 Try.f13 [.c (.p 1 0), .c (.i false .u32 x)] (X :: ⟨rk c, 37⟩ :: S) = (mdT (c 102) fun m => .leaf (.t [], X :: ⟨rk (rsv c m x), 37⟩ :: S)) := by kernel_rfl
set_option maxRecDepth 100000 in
theorem rssv_c (E : World) (i x : Int) (X : Bl) (c : Nat → Int) (S : SW) : CallTree (pe E) 13 [.c (.p 1 0), .c (.i false .u32 x)] (X :: ⟨rk c, 37⟩ :: S) (.leaf (.t [], X :: ⟨rk (rssvV c x), 37⟩ :: S)) := by
  refine call_conE (t := mdT (c 102) fun m => .leaf (.t [], X :: ⟨rk (rsv c m x), 37⟩ :: S)) ?_ (conE_md rfl)
  rw [← rssv_t E i x X c S]
  exact fnTree_sound (P := pe E) orcA_ok tab_ok tab_sz mixed 20000 Try.func13 (by decide) [.c (.p 1 0), .c (.i false .u32 x)] (X :: ⟨rk c, 37⟩ :: S)
set_option maxRecDepth 100000 in
theorem rsus_t (E : World) (i x : Int) (X : Bl) (c : Nat → Int) (S : SW) : fnTree (pe E) (orcA E) (tabL fns) 20000 Try.f14 [.c (.p 1 0), .c (.i false .i64 i), .c (.i false .u32 x)] (X :: ⟨rk c, 37⟩ :: S) = (.need (inB (kk i) 16) (.leaf (.t [], X :: ⟨rk (rrow c 0 (kk i) x), 37⟩ :: S))) := by kernel_rfl
set_option maxRecDepth 100000 in
theorem rsus_c (E : World) (i x : Int) (X : Bl) (c : Nat → Int) (S : SW) : CallTree (pe E) 14 [.c (.p 1 0), .c (.i false .i64 i), .c (.i false .u32 x)] (X :: ⟨rk c, 37⟩ :: S) (.leaf (.t [], X :: ⟨rk (rsusV c i x), 37⟩ :: S)) := by
  refine call_conE (t := .need (inB (kk i) 16) (.leaf (.t [], X :: ⟨rk (rrow c 0 (kk i) x), 37⟩ :: S))) ?_ (⟨inKK i, rfl⟩)
  rw [← rsus_t E i x X c S]
  exact fnTree_sound (P := pe E) orcA_ok tab_ok tab_sz mixed 20000 Try.func14 (by decide) [.c (.p 1 0), .c (.i false .i64 i), .c (.i false .u32 x)] (X :: ⟨rk c, 37⟩ :: S)
set_option maxRecDepth 100000 in
theorem rusr_t (E : World) (i x : Int) (X : Bl) (c : Nat → Int) (S : SW) : fnTree (pe E) (orcA E) (tabL fns) 20000 Try.f22 [.c (.p 1 0), .c (.i false .i64 i)] (X :: ⟨rk c, 37⟩ :: S) = (.need (inB (kk i) 16) (.leaf (.c (.i false .u32 (selI (row c 0) (kk i))), X :: ⟨rk c, 37⟩ :: S))) := by kernel_rfl
set_option maxRecDepth 100000 in
theorem rusr_c (E : World) (i x : Int) (X : Bl) (c : Nat → Int) (S : SW) : CallTree (pe E) 22 [.c (.p 1 0), .c (.i false .i64 i)] (X :: ⟨rk c, 37⟩ :: S) (.leaf (.c (.i false .u32 (rusrV c i)), X :: ⟨rk c, 37⟩ :: S)) := by
  refine call_conE (t := .need (inB (kk i) 16) (.leaf (.c (.i false .u32 (selI (row c 0) (kk i))), X :: ⟨rk c, 37⟩ :: S))) ?_ (⟨inKK i, rfl⟩)
  rw [← rusr_t E i x X c S]
  exact fnTree_sound (P := pe E) orcA_ok tab_ok tab_sz mixed 20000 Try.func22 (by decide) [.c (.p 1 0), .c (.i false .i64 i)] (X :: ⟨rk c, 37⟩ :: S)
set_option maxRecDepth 100000 in
theorem rsav_t (E : World) (i x : Int) (X : Bl) (c : Nat → Int) (S : SW) : fnTree (pe E) (orcA E) (tabL fns) 20000 Try.f18 [.c (.p 1 0)] (X :: ⟨rk c, 37⟩ :: S) = (mdT (c 102) fun m => .leaf (.c (.i false .u32 (cond (Nat.beq m 0) (c 102) (c (96 + m)))), X :: ⟨rk c, 37⟩ :: S)) := by kernel_rfl
set_option maxRecDepth 100000 in
theorem rsav_c (E : World) (i x : Int) (X : Bl) (c : Nat → Int) (S : SW) : CallTree (pe E) 18 [.c (.p 1 0)] (X :: ⟨rk c, 37⟩ :: S) (.leaf (.c (.i false .u32 (rsavV c)), X :: ⟨rk c, 37⟩ :: S)) := by
  refine call_conE (t := mdT (c 102) fun m => .leaf (.c (.i false .u32 (cond (Nat.beq m 0) (c 102) (c (96 + m)))), X :: ⟨rk c, 37⟩ :: S)) ?_ (conE_md rfl)
  rw [← rsav_t E i x X c S]
  exact fnTree_sound (P := pe E) orcA_ok tab_ok tab_sz mixed 20000 Try.func18 (by decide) [.c (.p 1 0)] (X :: ⟨rk c, 37⟩ :: S)
theorem rk_eq (l : List C) (h : wfL 103 l = true) : l = rk (ofL l) := wfL_eq 103 l h
def opR (X : Bl) (l : List C) (S : SW) : FuncId → List SV → Option (Tree (SV × SW)) := fun g vs => match g, vs with
  | 20, [.c (.p 1 0), .c (.i _ .i64 i)] => some (.leaf (.c (.i false .u32 (rgetV (ofL l) i)), X :: ⟨l, 37⟩ :: S))
  | 12, [.c (.p 1 0), .c (.i _ .i64 i), .c (.i _ .u32 x)] => some (.leaf (.t [], X :: ⟨rk (rsetV (ofL l) i x), 37⟩ :: S))
  | 13, [.c (.p 1 0), .c (.i _ .u32 x)] => some (.leaf (.t [], X :: ⟨rk (rssvV (ofL l) x), 37⟩ :: S))
  | 14, [.c (.p 1 0), .c (.i _ .i64 i), .c (.i _ .u32 x)] => some (.leaf (.t [], X :: ⟨rk (rsusV (ofL l) i x), 37⟩ :: S))
  | 22, [.c (.p 1 0), .c (.i _ .i64 i)] => some (.leaf (.c (.i false .u32 (rusrV (ofL l) i)), X :: ⟨l, 37⟩ :: S))
  | 18, [.c (.p 1 0)] => some (.leaf (.c (.i false .u32 (rsavV (ofL l))), X :: ⟨l, 37⟩ :: S))
  | _, _ => none
theorem opR_ok {E : World} {X : Bl} {l : List C} {S : SW} {g : FuncId} {vs : List SV} {t : Tree (SV × SW)} (hl : l = rk (ofL l)) (h : opR X l S g vs = some t) : CallTree (pe E) g vs (X :: ⟨l, 37⟩ :: S) t := by
  unfold opR at h
  split at h
  · cases h
    rename_i _ i
    refine CallTree.args (vs' := [.c (.p 1 0), .c (.i false .i64 i)]) (by simp [simL, SV.sim, S1.sim, C.sim]) ?_
    have K : ∀ d, l = rk d → CallTree (pe E) 20 [.c (.p 1 0), .c (.i false .i64 i)] (X :: ⟨l, 37⟩ :: S) (.leaf (.c (.i false .u32 (rgetV d i)), X :: ⟨l, 37⟩ :: S)) := by
      intro d e
      rw [e]
      exact rget_c E i 0 X d S
    exact K _ hl
  · cases h
    rename_i _ i _ x
    refine CallTree.args (vs' := [.c (.p 1 0), .c (.i false .i64 i), .c (.i false .u32 x)]) (by simp [simL, SV.sim, S1.sim, C.sim]) ?_
    have K : ∀ d, l = rk d → CallTree (pe E) 12 [.c (.p 1 0), .c (.i false .i64 i), .c (.i false .u32 x)] (X :: ⟨l, 37⟩ :: S) (.leaf (.t [], X :: ⟨rk (rsetV d i x), 37⟩ :: S)) := by
      intro d e
      rw [e]
      exact rset_c E i x X d S
    exact K _ hl
  · cases h
    rename_i _ x
    refine CallTree.args (vs' := [.c (.p 1 0), .c (.i false .u32 x)]) (by simp [simL, SV.sim, S1.sim, C.sim]) ?_
    have K : ∀ d, l = rk d → CallTree (pe E) 13 [.c (.p 1 0), .c (.i false .u32 x)] (X :: ⟨l, 37⟩ :: S) (.leaf (.t [], X :: ⟨rk (rssvV d x), 37⟩ :: S)) := by
      intro d e
      rw [e]
      exact rssv_c E 0 x X d S
    exact K _ hl
  · cases h
    rename_i _ i _ x
    refine CallTree.args (vs' := [.c (.p 1 0), .c (.i false .i64 i), .c (.i false .u32 x)]) (by simp [simL, SV.sim, S1.sim, C.sim]) ?_
    have K : ∀ d, l = rk d → CallTree (pe E) 14 [.c (.p 1 0), .c (.i false .i64 i), .c (.i false .u32 x)] (X :: ⟨l, 37⟩ :: S) (.leaf (.t [], X :: ⟨rk (rsusV d i x), 37⟩ :: S)) := by
      intro d e
      rw [e]
      exact rsus_c E i x X d S
    exact K _ hl
  · cases h
    rename_i _ i
    refine CallTree.args (vs' := [.c (.p 1 0), .c (.i false .i64 i)]) (by simp [simL, SV.sim, S1.sim, C.sim]) ?_
    have K : ∀ d, l = rk d → CallTree (pe E) 22 [.c (.p 1 0), .c (.i false .i64 i)] (X :: ⟨l, 37⟩ :: S) (.leaf (.c (.i false .u32 (rusrV d i)), X :: ⟨l, 37⟩ :: S)) := by
      intro d e
      rw [e]
      exact rusr_c E i 0 X d S
    exact K _ hl
  · cases h
    refine CallTree.args (vs' := [.c (.p 1 0)]) (by simp [simL, SV.sim, S1.sim, C.sim]) ?_
    have K : ∀ d, l = rk d → CallTree (pe E) 18 [.c (.p 1 0)] (X :: ⟨l, 37⟩ :: S) (.leaf (.c (.i false .u32 (rsavV d)), X :: ⟨l, 37⟩ :: S)) := by
      intro d e
      rw [e]
      exact rsav_c E 0 0 X d S
    exact K _ hl
  · cases h
def orcR (E : World) : Orc := fun g vs s => match s with
  | X :: ⟨l, ty⟩ :: S => cond (Nat.beq ty 37 && wfL 103 l) (match opR X l S g vs with | some t => some t | none => orcA E g vs s) (orcA E g vs s)
  | _ => orcA E g vs s
theorem orcR_ok {E : World} : OrcOK (pe E) (orcR E) := by
  intro g vs s t h
  unfold orcR at h
  split at h
  · rename_i X l ty S
    cases hb : (Nat.beq ty 37 && wfL 103 l) with
    | false => rw [hb] at h; exact orcA_ok _ _ _ _ h
    | true =>
      rw [hb] at h
      simp only [cond_true] at h
      rw [Bool.and_eq_true] at hb
      obtain rfl : ty = 37 := Nat.eq_of_beq_eq_true hb.1
      split at h
      · rename_i t' ht
        cases h
        exact opR_ok (rk_eq l hb.2) ht
      · exact orcA_ok _ _ _ _ h
  · exact orcA_ok _ _ _ _ h
def u0 (s m : Int) : Int := IntKind.u32.wrap (IntKind.u32.wrap (s - s.tmod 32) + m.tmod 32)
def b5 (s m : Int) : Bool := ((u0 s m).fdiv 32).tmod 2 == 1
def b7 (u : Int) : Bool := !((u.fdiv 128).tmod 2 == 1)
def u1 (s m : Int) : Int := cond (b5 s m) (IntKind.u32.wrap (u0 s m - 32)) (u0 s m)
def rentW (s m : Int) : Int := cond (b7 (u1 s m)) (IntKind.u32.wrap (u1 s m + 128)) (u1 s m)
def entR (c : Nat → Int) (u x : Int) : Nat → Int := rsetV (ofL (rk (rssvV (ofL (rk (rst c u))) (c 102)))) 14 x
def rentV (c : Nat → Int) (m x : Int) : Nat → Int := entR c (rentW (c 102) m) x
def rentT (m x : Int) (X : Bl) (c : Nat → Int) (S : SW) : Tree (SV × SW) :=
  .node (b5 (c 102) m) (.node (b7 (IntKind.u32.wrap (u0 (c 102) m - 32))) (.leaf (.t [], X :: ⟨rk (entR c (IntKind.u32.wrap (IntKind.u32.wrap (u0 (c 102) m - 32) + 128)) x), 37⟩ :: S)) (.leaf (.t [], X :: ⟨rk (entR c (IntKind.u32.wrap (u0 (c 102) m - 32)) x), 37⟩ :: S)))
    (.node (b7 (u0 (c 102) m)) (.leaf (.t [], X :: ⟨rk (entR c (IntKind.u32.wrap (u0 (c 102) m + 128)) x), 37⟩ :: S)) (.leaf (.t [], X :: ⟨rk (entR c (u0 (c 102) m) x), 37⟩ :: S)))
set_option maxRecDepth 100000 in
theorem rent_t (E : World) (m x : Int) (X : Bl) (c : Nat → Int) (S : SW) : fnTree (pe E) (orcR E) (tabL fns) 20000 Try.f15 [.c (.p 1 0), .c (.i false .u32 m), .c (.i false .u32 x)] (X :: ⟨rk c, 37⟩ :: S) = rentT m x X c S := by kernel_rfl
theorem rent_e (m x : Int) (X : Bl) (c : Nat → Int) (S : SW) : conE (.t [], X :: ⟨rk (rentV c m x), 37⟩ :: S) (rentT m x X c S) := by
  unfold rentT rentV rentW u1
  refine ⟨fun h => ⟨fun h2 => ?_, fun h2 => ?_⟩, fun h => ⟨fun h2 => ?_, fun h2 => ?_⟩⟩ <;> rw [h] <;> simp only [cond_true, cond_false] <;> rw [h2] <;> rfl
theorem rent_c (E : World) (m x : Int) (X : Bl) (c : Nat → Int) (S : SW) : CallTree (pe E) 15 [.c (.p 1 0), .c (.i false .u32 m), .c (.i false .u32 x)] (X :: ⟨rk c, 37⟩ :: S) (.leaf (.t [], X :: ⟨rk (rentV c m x), 37⟩ :: S)) := by
  refine call_conE (t := rentT m x X c S) ?_ (rent_e m x X c S)
  rw [← rent_t E m x X c S]
  exact fnTree_sound (P := pe E) orcR_ok tab_ok tab_sz mixed 20000 Try.func15 (by decide) [.c (.p 1 0), .c (.i false .u32 m), .c (.i false .u32 x)] (X :: ⟨rk c, 37⟩ :: S)
def opS (X : Bl) (l : List C) (S : SW) : FuncId → List SV → Option (Tree (SV × SW)) := fun g vs => match g, vs with
  | 15, [.c (.p 1 0), .c (.i _ .u32 m), .c (.i _ .u32 x)] => some (.leaf (.t [], X :: ⟨rk (rentV (ofL l) m x), 37⟩ :: S))
  | _, _ => none
theorem opS_ok {E : World} {X : Bl} {l : List C} {S : SW} {g : FuncId} {vs : List SV} {t : Tree (SV × SW)} (hl : l = rk (ofL l)) (h : opS X l S g vs = some t) : CallTree (pe E) g vs (X :: ⟨l, 37⟩ :: S) t := by
  unfold opS at h
  split at h
  · cases h
    rename_i _ m _ x
    refine CallTree.args (vs' := [.c (.p 1 0), .c (.i false .u32 m), .c (.i false .u32 x)]) (by simp [simL, SV.sim, S1.sim, C.sim]) ?_
    have K : ∀ d, l = rk d → CallTree (pe E) 15 [.c (.p 1 0), .c (.i false .u32 m), .c (.i false .u32 x)] (X :: ⟨l, 37⟩ :: S) (.leaf (.t [], X :: ⟨rk (rentV d m x), 37⟩ :: S)) := by
      intro d e
      rw [e]
      exact rent_c E m x X d S
    exact K _ hl
  · cases h
def orcS (E : World) : Orc := fun g vs s => match s with
  | X :: ⟨l, ty⟩ :: S => cond (Nat.beq ty 37 && wfL 103 l) (match opS X l S g vs with | some t => some t | none => orcR E g vs s) (orcR E g vs s)
  | _ => orcR E g vs s
theorem orcS_ok {E : World} : OrcOK (pe E) (orcS E) := by
  intro g vs s t h
  unfold orcS at h
  split at h
  · rename_i X l ty S
    cases hb : (Nat.beq ty 37 && wfL 103 l) with
    | false => rw [hb] at h; exact orcR_ok _ _ _ _ h
    | true =>
      rw [hb] at h
      simp only [cond_true] at h
      rw [Bool.and_eq_true] at hb
      obtain rfl : ty = 37 := Nat.eq_of_beq_eq_true hb.1
      split at h
      · rename_i t' ht
        cases h
        exact opS_ok (rk_eq l hb.2) ht
      · exact orcR_ok _ _ _ _ h
  · exact orcR_ok _ _ _ _ h
def orcX (E : World) : Orc := fun g vs s => match orcS E g vs s with
  | some t => some t
  | none => orcE E g vs s
theorem orcX_ok {E : World} : OrcOK (pe E) (orcX E) := by
  intro g vs s t h
  unfold orcX at h
  split at h
  · rename_i t' ht
    cases h
    exact orcS_ok _ _ _ _ ht
  · exact orcE_ok _ _ _ _ h
end Go.Proofs.Ytkgpcdnlbgmglaa

