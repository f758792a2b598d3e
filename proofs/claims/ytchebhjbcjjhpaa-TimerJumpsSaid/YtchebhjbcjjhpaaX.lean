import Derived.Test.YtchebhjbcjjhpaaQ
set_option linter.unusedVariables false
set_option linter.unusedSimpArgs false
namespace Go.Proofs.Ytchebhjbcjjhpaa
open Go Go.Proofs Go.Proofs.Ytchebhjbcjjhpaa.Ev
set_option maxRecDepth 100000
def nF {α : Type} : Tree α → Tree α
  | .node _ _ f => f
  | t => t
def fA (p : Nat → Int) : Int := nxA p [0, 1, 2, 3] 0 false
def fN (p : Nat → Int) (y : Int) : Bool := bif !(nxF p [0, 1, 2, 3] false) then true else decide (fA p > y)
def b0 (p : Nat → Int) : Bool := fire p 0 (fA p) false
def p1 (p : Nat → Int) : Nat → Int := adP p 0 (fA p) false
def b1 (p : Nat → Int) : Bool := fire (p1 p) 1 (fA p) (b0 p)
def p2 (p : Nat → Int) : Nat → Int := adP (p1 p) 1 (fA p) (b0 p)
def b2 (p : Nat → Int) : Bool := fire (p2 p) 2 (fA p) (b1 p)
def p3 (p : Nat → Int) : Nat → Int := adP (p2 p) 2 (fA p) (b1 p)
def b3 (p : Nat → Int) : Bool := fire (p3 p) 3 (fA p) (b2 p)
def p4 (p : Nat → Int) : Nat → Int := adP (p3 p) 3 (fA p) (b2 p)
def or1 (b : Bool) (m k : Int) : Int := cond b (bits .or .i64 m k) m
def mskV (a b c d : Bool) : Int := or1 d (or1 c (or1 b (cond a 1 0) 2) 4) 8
theorem fire_t (E : World) (S : SW) (p : Nat → Int) (y : Int) : fnTree (pe E) (orcF E) (tabL fns) 20000 Try.f11 [.c (.p 0 0), .c (.i false .i64 y)] (⟨pk p, 56⟩ :: S) = (.node (fN p y) (.leaf (.t [.c (.i true .i64 0), .c (.i true .i64 0)], ⟨pk p, 56⟩ :: S)) (.leaf (.t [.c (.i false .i64 (fA p)), .c (.i false .i64 (mskV (b0 p) (b1 p) (b2 p) (b3 p)))], ⟨pk (p4 p), 56⟩ :: S))) := by kernel_rfl
def fiA (p : Nat → Int) (y : Int) : Int := cond (fN p y) 0 (fA p)
def fiM (p : Nat → Int) (y : Int) : Int := cond (fN p y) 0 (mskV (b0 p) (b1 p) (b2 p) (b3 p))
def fiP (p : Nat → Int) (y : Int) : Nat → Int := cond (fN p y) p (p4 p)
theorem fire_c (E : World) (S : SW) (p : Nat → Int) (y : Int) : CallTree (pe E) 11 [.c (.p 0 0), .c (.i false .i64 y)] (⟨pk p, 56⟩ :: S) (.leaf (.t [.c (.i false .i64 (fiA p y)), .c (.i false .i64 (fiM p y))], ⟨pk (fiP p y), 56⟩ :: S)) := by
  refine call_conF ?_ (t := (.node (fN p y) (.leaf (.t [.c (.i true .i64 0), .c (.i true .i64 0)], ⟨pk p, 56⟩ :: S)) (.leaf (.t [.c (.i false .i64 (fA p)), .c (.i false .i64 (mskV (b0 p) (b1 p) (b2 p) (b3 p)))], ⟨pk (p4 p), 56⟩ :: S)))) ⟨fun h => by unfold fiA fiM fiP; rw [h]; exact ⟨⟨⟨rfl, rfl⟩, rfl, rfl⟩, refS_refl _⟩, fun h => by unfold fiA fiM fiP; rw [h]; exact ⟨⟨⟨rfl, rfl⟩, rfl, rfl⟩, refS_refl _⟩⟩
  rw [← fire_t E]
  exact fnTree_sound (P := pe E) orcF_ok tab_ok tab_sz mixed 20000 Try.func11 (by decide) [.c (.p 0 0), .c (.i false .i64 y)] _
theorem rele_t (E : World) (p q : Nat → Int) (z1 z2 z3 z4 : Int) (w : Int) (i x : Int) : fnTree (pe E) (orcK E) (tabL fns) 20000 Try.f12 [.c (.p 0 0), .c (.i false .i64 i), .c (.i false .u16 x)] [⟨pk p, 56⟩, ⟨rk q w, 32⟩, ⟨[.i false .i64 z1, .i false .i64 z2, .i false .i64 z3, .i false .u16 z4], 34⟩] = .node (has4 i) (nT (fnTree (pe E) (orcK E) (tabL fns) 20000 Try.f12 [.c (.p 0 0), .c (.i false .i64 i), .c (.i false .u16 x)] [⟨pk p, 56⟩, ⟨rk q w, 32⟩, ⟨[.i false .i64 z1, .i false .i64 z2, .i false .i64 z3, .i false .u16 z4], 34⟩])) (.leaf (.t [], [⟨pk p, 56⟩, ⟨rk q w, 32⟩, ⟨[.i false .i64 z1, .i false .i64 z2, .i false .i64 z3, .i false .u16 z4], 34⟩])) := by kernel_rfl
theorem rele_c (E : World) (p q : Nat → Int) (z1 z2 z3 z4 : Int) (w : Int) (i x : Int) (h : has4 i = false) : CallTree (pe E) 12 [.c (.p 0 0), .c (.i false .i64 i), .c (.i false .u16 x)] [⟨pk p, 56⟩, ⟨rk q w, 32⟩, ⟨[.i false .i64 z1, .i false .i64 z2, .i false .i64 z3, .i false .u16 z4], 34⟩] (.leaf (.t [], [⟨pk p, 56⟩, ⟨rk q w, 32⟩, ⟨[.i false .i64 z1, .i false .i64 z2, .i false .i64 z3, .i false .u16 z4], 34⟩])) := by
  have hc := fnTree_sound (P := pe E) orcK_ok tab_ok tab_sz mixed 20000 Try.func12 (by decide) [.c (.p 0 0), .c (.i false .i64 i), .c (.i false .u16 x)] [⟨pk p, 56⟩, ⟨rk q w, 32⟩, ⟨[.i false .i64 z1, .i false .i64 z2, .i false .i64 z3, .i false .u16 z4], 34⟩]
  rw [rele_t] at hc
  exact call_conG hc (Nat.le_refl 3) rfl rfl ⟨fun h2 => (by rw [h] at h2; cases h2), fun _ => ⟨trivial, refT_app [⟨pk p, 56⟩, ⟨rk q w, 32⟩, ⟨[.i false .i64 z1, .i false .i64 z2, .i false .i64 z3, .i false .u16 z4], 34⟩] []⟩⟩
theorem rel_c (E : World) (p q : Nat → Int) (z1 z2 z3 z4 : Int) (w : Int) (i x : Int) : CallTree (pe E) 12 [.c (.p 0 0), .c (.i false .i64 i), .c (.i false .u16 x)] [⟨pk p, 56⟩, ⟨rk q w, 32⟩, ⟨[.i false .i64 z1, .i false .i64 z2, .i false .i64 z3, .i false .u16 z4], 34⟩] (.leaf (.t [], [⟨pk (sel4 i (u1 p 0 x) (u1 p 4 x) (u1 p 8 x) (u1 p 12 x) p), 56⟩, ⟨rk q w, 32⟩, ⟨[.i false .i64 z1, .i false .i64 z2, .i false .i64 z3, .i false .u16 z4], 34⟩])) := by
  by_cases h0 : i = 0
  · subst h0
    exact CallTree.args (vs' := [.c (.p 0 0), .c (.i true .i64 0), .c (.i false .u16 x)]) (by simp [simL, SV.sim, S1.sim, C.sim]) (rel0_c E p q z1 z2 z3 z4 w x)
  by_cases h1 : i = 1
  · subst h1
    exact CallTree.args (vs' := [.c (.p 0 0), .c (.i true .i64 1), .c (.i false .u16 x)]) (by simp [simL, SV.sim, S1.sim, C.sim]) (rel1_c E p q z1 z2 z3 z4 w x)
  by_cases h2 : i = 2
  · subst h2
    exact CallTree.args (vs' := [.c (.p 0 0), .c (.i true .i64 2), .c (.i false .u16 x)]) (by simp [simL, SV.sim, S1.sim, C.sim]) (rel2_c E p q z1 z2 z3 z4 w x)
  by_cases h3 : i = 3
  · subst h3
    exact CallTree.args (vs' := [.c (.p 0 0), .c (.i true .i64 3), .c (.i false .u16 x)]) (by simp [simL, SV.sim, S1.sim, C.sim]) (rel3_c E p q z1 z2 z3 z4 w x)
  have hc := rele_c E p q z1 z2 z3 z4 w i x (has4_F h0 h1 h2 h3)
  rw [sel4_d h0 h1 h2 h3]
  exact hc
theorem sce_t (E : World) (p q : Nat → Int) (z1 z2 z3 z4 : Int) (w : Int) (i y x : Int) : fnTree (pe E) (orcK E) (tabL fns) 20000 Try.f13 [.c (.p 0 0), .c (.i false .i64 i), .c (.i false .i64 y), .c (.i false .u16 x)] [⟨pk p, 56⟩, ⟨rk q w, 32⟩, ⟨[.i false .i64 z1, .i false .i64 z2, .i false .i64 z3, .i false .u16 z4], 34⟩] = .node (!(has4 i)) (.leaf (.t [], [⟨pk p, 56⟩, ⟨rk q w, 32⟩, ⟨[.i false .i64 z1, .i false .i64 z2, .i false .i64 z3, .i false .u16 z4], 34⟩])) (nF (fnTree (pe E) (orcK E) (tabL fns) 20000 Try.f13 [.c (.p 0 0), .c (.i false .i64 i), .c (.i false .i64 y), .c (.i false .u16 x)] [⟨pk p, 56⟩, ⟨rk q w, 32⟩, ⟨[.i false .i64 z1, .i false .i64 z2, .i false .i64 z3, .i false .u16 z4], 34⟩])) := by kernel_rfl
theorem sce_c (E : World) (p q : Nat → Int) (z1 z2 z3 z4 : Int) (w : Int) (i y x : Int) (h : has4 i = false) : CallTree (pe E) 13 [.c (.p 0 0), .c (.i false .i64 i), .c (.i false .i64 y), .c (.i false .u16 x)] [⟨pk p, 56⟩, ⟨rk q w, 32⟩, ⟨[.i false .i64 z1, .i false .i64 z2, .i false .i64 z3, .i false .u16 z4], 34⟩] (.leaf (.t [], [⟨pk p, 56⟩, ⟨rk q w, 32⟩, ⟨[.i false .i64 z1, .i false .i64 z2, .i false .i64 z3, .i false .u16 z4], 34⟩])) := by
  have hc := fnTree_sound (P := pe E) orcK_ok tab_ok tab_sz mixed 20000 Try.func13 (by decide) [.c (.p 0 0), .c (.i false .i64 i), .c (.i false .i64 y), .c (.i false .u16 x)] [⟨pk p, 56⟩, ⟨rk q w, 32⟩, ⟨[.i false .i64 z1, .i false .i64 z2, .i false .i64 z3, .i false .u16 z4], 34⟩]
  rw [sce_t] at hc
  exact call_conG hc (Nat.le_refl 3) rfl rfl ⟨fun _ => ⟨trivial, refT_app [⟨pk p, 56⟩, ⟨rk q w, 32⟩, ⟨[.i false .i64 z1, .i false .i64 z2, .i false .i64 z3, .i false .u16 z4], 34⟩] []⟩, fun h2 => (by rw [h] at h2; cases h2)⟩
theorem sc_c (E : World) (p q : Nat → Int) (z1 z2 z3 z4 : Int) (w : Int) (i y x : Int) : CallTree (pe E) 13 [.c (.p 0 0), .c (.i false .i64 i), .c (.i false .i64 y), .c (.i false .u16 x)] [⟨pk p, 56⟩, ⟨rk q w, 32⟩, ⟨[.i false .i64 z1, .i false .i64 z2, .i false .i64 z3, .i false .u16 z4], 34⟩] (.leaf (.t [], [⟨pk (sel4 i (scP p 0 y x) (scP p 1 y x) (scP p 2 y x) (scP p 3 y x) p), 56⟩, ⟨rk q w, 32⟩, ⟨[.i false .i64 z1, .i false .i64 z2, .i false .i64 z3, .i false .u16 z4], 34⟩])) := by
  by_cases h0 : i = 0
  · subst h0
    exact CallTree.args (vs' := [.c (.p 0 0), .c (.i true .i64 0), .c (.i false .i64 y), .c (.i false .u16 x)]) (by simp [simL, SV.sim, S1.sim, C.sim]) (sc0_c E p q z1 z2 z3 z4 w y x)
  by_cases h1 : i = 1
  · subst h1
    exact CallTree.args (vs' := [.c (.p 0 0), .c (.i true .i64 1), .c (.i false .i64 y), .c (.i false .u16 x)]) (by simp [simL, SV.sim, S1.sim, C.sim]) (sc1_c E p q z1 z2 z3 z4 w y x)
  by_cases h2 : i = 2
  · subst h2
    exact CallTree.args (vs' := [.c (.p 0 0), .c (.i true .i64 2), .c (.i false .i64 y), .c (.i false .u16 x)]) (by simp [simL, SV.sim, S1.sim, C.sim]) (sc2_c E p q z1 z2 z3 z4 w y x)
  by_cases h3 : i = 3
  · subst h3
    exact CallTree.args (vs' := [.c (.p 0 0), .c (.i true .i64 3), .c (.i false .i64 y), .c (.i false .u16 x)]) (by simp [simL, SV.sim, S1.sim, C.sim]) (sc3_c E p q z1 z2 z3 z4 w y x)
  have hc := sce_c E p q z1 z2 z3 z4 w i y x (has4_F h0 h1 h2 h3)
  rw [sel4_d h0 h1 h2 h3]
  exact hc
theorem se_c (E : World) (p q : Nat → Int) (z1 z2 z3 z4 : Int) (w : Int) (i x : Int) (h : inB i 4 = true) : CallTree (pe E) 14 [.c (.p 1 0), .c (.i false .i64 i), .c (.i false .u16 x)] [⟨pk p, 56⟩, ⟨rk q w, 32⟩, ⟨[.i false .i64 z1, .i false .i64 z2, .i false .i64 z3, .i false .u16 z4], 34⟩] (.leaf (.t [], [⟨pk p, 56⟩, ⟨rk (sel4 i (seR q 0 x) (seR q 1 x) (seR q 2 x) (seR q 3 x) q) w, 32⟩, ⟨[.i false .i64 z1, .i false .i64 z2, .i false .i64 z3, .i false .u16 z4], 34⟩])) := by
  by_cases h0 : i = 0
  · subst h0
    exact CallTree.args (vs' := [.c (.p 1 0), .c (.i true .i64 0), .c (.i false .u16 x)]) (by simp [simL, SV.sim, S1.sim, C.sim]) (se0_c E p q z1 z2 z3 z4 w x)
  by_cases h1 : i = 1
  · subst h1
    exact CallTree.args (vs' := [.c (.p 1 0), .c (.i true .i64 1), .c (.i false .u16 x)]) (by simp [simL, SV.sim, S1.sim, C.sim]) (se1_c E p q z1 z2 z3 z4 w x)
  by_cases h2 : i = 2
  · subst h2
    exact CallTree.args (vs' := [.c (.p 1 0), .c (.i true .i64 2), .c (.i false .u16 x)]) (by simp [simL, SV.sim, S1.sim, C.sim]) (se2_c E p q z1 z2 z3 z4 w x)
  by_cases h3 : i = 3
  · subst h3
    exact CallTree.args (vs' := [.c (.p 1 0), .c (.i true .i64 3), .c (.i false .u16 x)]) (by simp [simL, SV.sim, S1.sim, C.sim]) (se3_c E p q z1 z2 z3 z4 w x)
  have := inB_spec h
  omega
def opX (l l2 : List C) (z1 z2 z3 z4 : Int) : FuncId → List SV → Option (Tree (SV × SW)) := fun g vs => match g, vs with
  | 10, [.c (.p 1 0)] => some (.need (decide (0 ≤ iA l2 1)) (.need (decide (0 ≤ iA l2 5)) (.need (decide (0 ≤ iA l2 9)) (.need (decide (0 ≤ iA l2 13)) (.leaf (.c (.i false .i64 (ov4 (iA l2))), [⟨l, 56⟩, ⟨rk (q4 (iA l2)) (IntKind.i64.wrap (iA l2 16 + 1)), 32⟩, ⟨[.i false .i64 z1, .i false .i64 z2, .i false .i64 z3, .i false .u16 z4], 34⟩]))))))
  | 11, [.c (.p 0 0), .c (.i _ .i64 y)] => some (.leaf (.t [.c (.i false .i64 (fiA (iA l) y)), .c (.i false .i64 (fiM (iA l) y))], [⟨pk (fiP (iA l) y), 56⟩, ⟨l2, 32⟩, ⟨[.i false .i64 z1, .i false .i64 z2, .i false .i64 z3, .i false .u16 z4], 34⟩]))
  | 12, [.c (.p 0 0), .c (.i _ .i64 i), .c (.i _ .u16 x)] => some (.leaf (.t [], [⟨pk (sel4 i (u1 (iA l) 0 x) (u1 (iA l) 4 x) (u1 (iA l) 8 x) (u1 (iA l) 12 x) (iA l)), 56⟩, ⟨l2, 32⟩, ⟨[.i false .i64 z1, .i false .i64 z2, .i false .i64 z3, .i false .u16 z4], 34⟩]))
  | 13, [.c (.p 0 0), .c (.i _ .i64 i), .c (.i _ .i64 y), .c (.i _ .u16 x)] => some (.leaf (.t [], [⟨pk (sel4 i (scP (iA l) 0 y x) (scP (iA l) 1 y x) (scP (iA l) 2 y x) (scP (iA l) 3 y x) (iA l)), 56⟩, ⟨l2, 32⟩, ⟨[.i false .i64 z1, .i false .i64 z2, .i false .i64 z3, .i false .u16 z4], 34⟩]))
  | 14, [.c (.p 1 0), .c (.i _ .i64 i), .c (.i _ .u16 x)] => some (.need (inB i 4) (.leaf (.t [], [⟨l, 56⟩, ⟨rk (sel4 i (seR (iA l2) 0 x) (seR (iA l2) 1 x) (seR (iA l2) 2 x) (seR (iA l2) 3 x) (iA l2)) (iA l2 16), 32⟩, ⟨[.i false .i64 z1, .i false .i64 z2, .i false .i64 z3, .i false .u16 z4], 34⟩])))
  | 15, [.c (.p 0 0), .c (.i true .i64 0), .c (.i _ .i64 y)] => some (.leaf (.c (.i false .u16 (rdV (iA l) 0 y)), [⟨l, 56⟩, ⟨l2, 32⟩, ⟨[.i false .i64 z1, .i false .i64 z2, .i false .i64 z3, .i false .u16 z4], 34⟩]))
  | 16, [.c (.p 0 0), .c (.i true .i64 0)] => some (.leaf (.c (.i false .u16 (iA l 1)), [⟨l, 56⟩, ⟨l2, 32⟩, ⟨[.i false .i64 z1, .i false .i64 z2, .i false .i64 z3, .i false .u16 z4], 34⟩]))
  | 17, [.c (.p 0 0), .c (.i true .i64 0)] => some (.leaf (.c (.b false (a1 (iA l 1) 64 != 0)), [⟨l, 56⟩, ⟨l2, 32⟩, ⟨[.i false .i64 z1, .i false .i64 z2, .i false .i64 z3, .i false .u16 z4], 34⟩]))
  | 15, [.c (.p 0 0), .c (.i true .i64 1), .c (.i _ .i64 y)] => some (.leaf (.c (.i false .u16 (rdV (iA l) 1 y)), [⟨l, 56⟩, ⟨l2, 32⟩, ⟨[.i false .i64 z1, .i false .i64 z2, .i false .i64 z3, .i false .u16 z4], 34⟩]))
  | 16, [.c (.p 0 0), .c (.i true .i64 1)] => some (.leaf (.c (.i false .u16 (iA l 5)), [⟨l, 56⟩, ⟨l2, 32⟩, ⟨[.i false .i64 z1, .i false .i64 z2, .i false .i64 z3, .i false .u16 z4], 34⟩]))
  | 17, [.c (.p 0 0), .c (.i true .i64 1)] => some (.leaf (.c (.b false (a1 (iA l 5) 64 != 0)), [⟨l, 56⟩, ⟨l2, 32⟩, ⟨[.i false .i64 z1, .i false .i64 z2, .i false .i64 z3, .i false .u16 z4], 34⟩]))
  | 15, [.c (.p 0 0), .c (.i true .i64 2), .c (.i _ .i64 y)] => some (.leaf (.c (.i false .u16 (rdV (iA l) 2 y)), [⟨l, 56⟩, ⟨l2, 32⟩, ⟨[.i false .i64 z1, .i false .i64 z2, .i false .i64 z3, .i false .u16 z4], 34⟩]))
  | 16, [.c (.p 0 0), .c (.i true .i64 2)] => some (.leaf (.c (.i false .u16 (iA l 9)), [⟨l, 56⟩, ⟨l2, 32⟩, ⟨[.i false .i64 z1, .i false .i64 z2, .i false .i64 z3, .i false .u16 z4], 34⟩]))
  | 17, [.c (.p 0 0), .c (.i true .i64 2)] => some (.leaf (.c (.b false (a1 (iA l 9) 64 != 0)), [⟨l, 56⟩, ⟨l2, 32⟩, ⟨[.i false .i64 z1, .i false .i64 z2, .i false .i64 z3, .i false .u16 z4], 34⟩]))
  | 15, [.c (.p 0 0), .c (.i true .i64 3), .c (.i _ .i64 y)] => some (.leaf (.c (.i false .u16 (rdV (iA l) 3 y)), [⟨l, 56⟩, ⟨l2, 32⟩, ⟨[.i false .i64 z1, .i false .i64 z2, .i false .i64 z3, .i false .u16 z4], 34⟩]))
  | 16, [.c (.p 0 0), .c (.i true .i64 3)] => some (.leaf (.c (.i false .u16 (iA l 13)), [⟨l, 56⟩, ⟨l2, 32⟩, ⟨[.i false .i64 z1, .i false .i64 z2, .i false .i64 z3, .i false .u16 z4], 34⟩]))
  | 17, [.c (.p 0 0), .c (.i true .i64 3)] => some (.leaf (.c (.b false (a1 (iA l 13) 64 != 0)), [⟨l, 56⟩, ⟨l2, 32⟩, ⟨[.i false .i64 z1, .i false .i64 z2, .i false .i64 z3, .i false .u16 z4], 34⟩]))
  | _, _ => none
theorem opX_ok {E : World} {l l2 : List C} {z1 z2 z3 z4 : Int} {g : FuncId} {vs : List SV} {t : Tree (SV × SW)} (hl : wfP 4 l = true) (hl2 : wfR 4 l2 = true) (h : opX l l2 z1 z2 z3 z4 g vs = some t) : CallTree (pe E) g vs [⟨l, 56⟩, ⟨l2, 32⟩, ⟨[.i false .i64 z1, .i false .i64 z2, .i false .i64 z3, .i false .u16 z4], 34⟩] t := by
  unfold opX at h
  split at h
  · cases h
    have K : ∀ p q w, l = pk p → l2 = rk q w → 0 ≤ q 1 → 0 ≤ q 5 → 0 ≤ q 9 → 0 ≤ q 13 → CallTree (pe E) 10 [.c (.p 1 0)] [⟨l, 56⟩, ⟨l2, 32⟩, ⟨[.i false .i64 z1, .i false .i64 z2, .i false .i64 z3, .i false .u16 z4], 34⟩] (.leaf (.c (.i false .i64 (ov4 q)), [⟨l, 56⟩, ⟨rk (q4 q) (IntKind.i64.wrap (w + 1)), 32⟩, ⟨[.i false .i64 z1, .i false .i64 z2, .i false .i64 z3, .i false .u16 z4], 34⟩])) := by
      intro p q w h1 h2 c1 c2 c3 c4
      rw [h1, h2]
      exact tick_c E p z1 z2 z3 z4 q w c1 c2 c3 c4
    exact CallTree.need fun d1 => CallTree.need fun d2 => CallTree.need fun d3 => CallTree.need fun d4 => K _ _ _ (wfP_eq hl) (wfR_eq hl2) (of_decide_eq_true d1) (of_decide_eq_true d2) (of_decide_eq_true d3) (of_decide_eq_true d4)
  · rename_i lt0 y
    cases h
    have K : ∀ p q w, l = pk p → l2 = rk q w → CallTree (pe E) 11 [.c (.p 0 0), .c (.i false .i64 y)] [⟨l, 56⟩, ⟨l2, 32⟩, ⟨[.i false .i64 z1, .i false .i64 z2, .i false .i64 z3, .i false .u16 z4], 34⟩] (.leaf (.t [.c (.i false .i64 (fiA p y)), .c (.i false .i64 (fiM p y))], [⟨pk (fiP p y), 56⟩, ⟨l2, 32⟩, ⟨[.i false .i64 z1, .i false .i64 z2, .i false .i64 z3, .i false .u16 z4], 34⟩])) := by
      intro p q w h1 h2
      rw [h1, h2]
      exact fire_c E [⟨rk q w, 32⟩, ⟨[.i false .i64 z1, .i false .i64 z2, .i false .i64 z3, .i false .u16 z4], 34⟩] p y
    exact CallTree.args (by simp [simL, SV.sim, S1.sim, C.sim]) (K _ _ _ (wfP_eq hl) (wfR_eq hl2))
  · rename_i lt0 i lt1 x
    cases h
    have K : ∀ p q w, l = pk p → l2 = rk q w → CallTree (pe E) 12 [.c (.p 0 0), .c (.i false .i64 i), .c (.i false .u16 x)] [⟨l, 56⟩, ⟨l2, 32⟩, ⟨[.i false .i64 z1, .i false .i64 z2, .i false .i64 z3, .i false .u16 z4], 34⟩] (.leaf (.t [], [⟨pk (sel4 i (u1 p 0 x) (u1 p 4 x) (u1 p 8 x) (u1 p 12 x) p), 56⟩, ⟨l2, 32⟩, ⟨[.i false .i64 z1, .i false .i64 z2, .i false .i64 z3, .i false .u16 z4], 34⟩])) := by
      intro p q w h1 h2
      rw [h1, h2]
      exact rel_c E p q z1 z2 z3 z4 w i x
    exact CallTree.args (by simp [simL, SV.sim, S1.sim, C.sim]) (K _ _ _ (wfP_eq hl) (wfR_eq hl2))
  · rename_i lt0 i lt1 y lt2 x
    cases h
    have K : ∀ p q w, l = pk p → l2 = rk q w → CallTree (pe E) 13 [.c (.p 0 0), .c (.i false .i64 i), .c (.i false .i64 y), .c (.i false .u16 x)] [⟨l, 56⟩, ⟨l2, 32⟩, ⟨[.i false .i64 z1, .i false .i64 z2, .i false .i64 z3, .i false .u16 z4], 34⟩] (.leaf (.t [], [⟨pk (sel4 i (scP p 0 y x) (scP p 1 y x) (scP p 2 y x) (scP p 3 y x) p), 56⟩, ⟨l2, 32⟩, ⟨[.i false .i64 z1, .i false .i64 z2, .i false .i64 z3, .i false .u16 z4], 34⟩])) := by
      intro p q w h1 h2
      rw [h1, h2]
      exact sc_c E p q z1 z2 z3 z4 w i y x
    exact CallTree.args (by simp [simL, SV.sim, S1.sim, C.sim]) (K _ _ _ (wfP_eq hl) (wfR_eq hl2))
  · rename_i lt0 i lt1 x
    cases h
    have K : ∀ p q w, l = pk p → l2 = rk q w → inB i 4 = true → CallTree (pe E) 14 [.c (.p 1 0), .c (.i false .i64 i), .c (.i false .u16 x)] [⟨l, 56⟩, ⟨l2, 32⟩, ⟨[.i false .i64 z1, .i false .i64 z2, .i false .i64 z3, .i false .u16 z4], 34⟩] (.leaf (.t [], [⟨l, 56⟩, ⟨rk (sel4 i (seR q 0 x) (seR q 1 x) (seR q 2 x) (seR q 3 x) q) (w), 32⟩, ⟨[.i false .i64 z1, .i false .i64 z2, .i false .i64 z3, .i false .u16 z4], 34⟩])) := by
      intro p q w h1 h2 hi
      rw [h1, h2]
      exact se_c E p q z1 z2 z3 z4 w i x hi
    exact CallTree.args (by simp [simL, SV.sim, S1.sim, C.sim]) (CallTree.need fun hi => K _ _ _ (wfP_eq hl) (wfR_eq hl2) hi)
  · rename_i lt0 y
    cases h
    have K : ∀ p q w, l = pk p → l2 = rk q w → CallTree (pe E) 15 [.c (.p 0 0), .c (.i true .i64 0), .c (.i false .i64 y)] [⟨l, 56⟩, ⟨l2, 32⟩, ⟨[.i false .i64 z1, .i false .i64 z2, .i false .i64 z3, .i false .u16 z4], 34⟩] (.leaf (.c (.i false .u16 (rdV p 0 y)), [⟨l, 56⟩, ⟨l2, 32⟩, ⟨[.i false .i64 z1, .i false .i64 z2, .i false .i64 z3, .i false .u16 z4], 34⟩])) := by
      intro p q w h1 h2
      rw [h1, h2]
      exact read0_c E p q z1 z2 z3 z4 w y
    exact CallTree.args (by simp [simL, SV.sim, S1.sim, C.sim]) (K _ _ _ (wfP_eq hl) (wfR_eq hl2))
  · cases h
    have K : ∀ p q w, l = pk p → l2 = rk q w → CallTree (pe E) 16 [.c (.p 0 0), .c (.i true .i64 0)] [⟨l, 56⟩, ⟨l2, 32⟩, ⟨[.i false .i64 z1, .i false .i64 z2, .i false .i64 z3, .i false .u16 z4], 34⟩] (.leaf (.c (.i false .u16 (p 1)), [⟨l, 56⟩, ⟨l2, 32⟩, ⟨[.i false .i64 z1, .i false .i64 z2, .i false .i64 z3, .i false .u16 z4], 34⟩])) := by
      intro p q w h1 h2
      rw [h1, h2]
      exact ctl0_c E p q z1 z2 z3 z4 w 
    exact K _ _ _ (wfP_eq hl) (wfR_eq hl2)
  · cases h
    have K : ∀ p q w, l = pk p → l2 = rk q w → CallTree (pe E) 17 [.c (.p 0 0), .c (.i true .i64 0)] [⟨l, 56⟩, ⟨l2, 32⟩, ⟨[.i false .i64 z1, .i false .i64 z2, .i false .i64 z3, .i false .u16 z4], 34⟩] (.leaf (.c (.b false (a1 (p 1) 64 != 0)), [⟨l, 56⟩, ⟨l2, 32⟩, ⟨[.i false .i64 z1, .i false .i64 z2, .i false .i64 z3, .i false .u16 z4], 34⟩])) := by
      intro p q w h1 h2
      rw [h1, h2]
      exact asks0_c E p q z1 z2 z3 z4 w 
    exact K _ _ _ (wfP_eq hl) (wfR_eq hl2)
  · rename_i lt0 y
    cases h
    have K : ∀ p q w, l = pk p → l2 = rk q w → CallTree (pe E) 15 [.c (.p 0 0), .c (.i true .i64 1), .c (.i false .i64 y)] [⟨l, 56⟩, ⟨l2, 32⟩, ⟨[.i false .i64 z1, .i false .i64 z2, .i false .i64 z3, .i false .u16 z4], 34⟩] (.leaf (.c (.i false .u16 (rdV p 1 y)), [⟨l, 56⟩, ⟨l2, 32⟩, ⟨[.i false .i64 z1, .i false .i64 z2, .i false .i64 z3, .i false .u16 z4], 34⟩])) := by
      intro p q w h1 h2
      rw [h1, h2]
      exact read1_c E p q z1 z2 z3 z4 w y
    exact CallTree.args (by simp [simL, SV.sim, S1.sim, C.sim]) (K _ _ _ (wfP_eq hl) (wfR_eq hl2))
  · cases h
    have K : ∀ p q w, l = pk p → l2 = rk q w → CallTree (pe E) 16 [.c (.p 0 0), .c (.i true .i64 1)] [⟨l, 56⟩, ⟨l2, 32⟩, ⟨[.i false .i64 z1, .i false .i64 z2, .i false .i64 z3, .i false .u16 z4], 34⟩] (.leaf (.c (.i false .u16 (p 5)), [⟨l, 56⟩, ⟨l2, 32⟩, ⟨[.i false .i64 z1, .i false .i64 z2, .i false .i64 z3, .i false .u16 z4], 34⟩])) := by
      intro p q w h1 h2
      rw [h1, h2]
      exact ctl1_c E p q z1 z2 z3 z4 w 
    exact K _ _ _ (wfP_eq hl) (wfR_eq hl2)
  · cases h
    have K : ∀ p q w, l = pk p → l2 = rk q w → CallTree (pe E) 17 [.c (.p 0 0), .c (.i true .i64 1)] [⟨l, 56⟩, ⟨l2, 32⟩, ⟨[.i false .i64 z1, .i false .i64 z2, .i false .i64 z3, .i false .u16 z4], 34⟩] (.leaf (.c (.b false (a1 (p 5) 64 != 0)), [⟨l, 56⟩, ⟨l2, 32⟩, ⟨[.i false .i64 z1, .i false .i64 z2, .i false .i64 z3, .i false .u16 z4], 34⟩])) := by
      intro p q w h1 h2
      rw [h1, h2]
      exact asks1_c E p q z1 z2 z3 z4 w 
    exact K _ _ _ (wfP_eq hl) (wfR_eq hl2)
  · rename_i lt0 y
    cases h
    have K : ∀ p q w, l = pk p → l2 = rk q w → CallTree (pe E) 15 [.c (.p 0 0), .c (.i true .i64 2), .c (.i false .i64 y)] [⟨l, 56⟩, ⟨l2, 32⟩, ⟨[.i false .i64 z1, .i false .i64 z2, .i false .i64 z3, .i false .u16 z4], 34⟩] (.leaf (.c (.i false .u16 (rdV p 2 y)), [⟨l, 56⟩, ⟨l2, 32⟩, ⟨[.i false .i64 z1, .i false .i64 z2, .i false .i64 z3, .i false .u16 z4], 34⟩])) := by
      intro p q w h1 h2
      rw [h1, h2]
      exact read2_c E p q z1 z2 z3 z4 w y
    exact CallTree.args (by simp [simL, SV.sim, S1.sim, C.sim]) (K _ _ _ (wfP_eq hl) (wfR_eq hl2))
  · cases h
    have K : ∀ p q w, l = pk p → l2 = rk q w → CallTree (pe E) 16 [.c (.p 0 0), .c (.i true .i64 2)] [⟨l, 56⟩, ⟨l2, 32⟩, ⟨[.i false .i64 z1, .i false .i64 z2, .i false .i64 z3, .i false .u16 z4], 34⟩] (.leaf (.c (.i false .u16 (p 9)), [⟨l, 56⟩, ⟨l2, 32⟩, ⟨[.i false .i64 z1, .i false .i64 z2, .i false .i64 z3, .i false .u16 z4], 34⟩])) := by
      intro p q w h1 h2
      rw [h1, h2]
      exact ctl2_c E p q z1 z2 z3 z4 w 
    exact K _ _ _ (wfP_eq hl) (wfR_eq hl2)
  · cases h
    have K : ∀ p q w, l = pk p → l2 = rk q w → CallTree (pe E) 17 [.c (.p 0 0), .c (.i true .i64 2)] [⟨l, 56⟩, ⟨l2, 32⟩, ⟨[.i false .i64 z1, .i false .i64 z2, .i false .i64 z3, .i false .u16 z4], 34⟩] (.leaf (.c (.b false (a1 (p 9) 64 != 0)), [⟨l, 56⟩, ⟨l2, 32⟩, ⟨[.i false .i64 z1, .i false .i64 z2, .i false .i64 z3, .i false .u16 z4], 34⟩])) := by
      intro p q w h1 h2
      rw [h1, h2]
      exact asks2_c E p q z1 z2 z3 z4 w 
    exact K _ _ _ (wfP_eq hl) (wfR_eq hl2)
  · rename_i lt0 y
    cases h
    have K : ∀ p q w, l = pk p → l2 = rk q w → CallTree (pe E) 15 [.c (.p 0 0), .c (.i true .i64 3), .c (.i false .i64 y)] [⟨l, 56⟩, ⟨l2, 32⟩, ⟨[.i false .i64 z1, .i false .i64 z2, .i false .i64 z3, .i false .u16 z4], 34⟩] (.leaf (.c (.i false .u16 (rdV p 3 y)), [⟨l, 56⟩, ⟨l2, 32⟩, ⟨[.i false .i64 z1, .i false .i64 z2, .i false .i64 z3, .i false .u16 z4], 34⟩])) := by
      intro p q w h1 h2
      rw [h1, h2]
      exact read3_c E p q z1 z2 z3 z4 w y
    exact CallTree.args (by simp [simL, SV.sim, S1.sim, C.sim]) (K _ _ _ (wfP_eq hl) (wfR_eq hl2))
  · cases h
    have K : ∀ p q w, l = pk p → l2 = rk q w → CallTree (pe E) 16 [.c (.p 0 0), .c (.i true .i64 3)] [⟨l, 56⟩, ⟨l2, 32⟩, ⟨[.i false .i64 z1, .i false .i64 z2, .i false .i64 z3, .i false .u16 z4], 34⟩] (.leaf (.c (.i false .u16 (p 13)), [⟨l, 56⟩, ⟨l2, 32⟩, ⟨[.i false .i64 z1, .i false .i64 z2, .i false .i64 z3, .i false .u16 z4], 34⟩])) := by
      intro p q w h1 h2
      rw [h1, h2]
      exact ctl3_c E p q z1 z2 z3 z4 w 
    exact K _ _ _ (wfP_eq hl) (wfR_eq hl2)
  · cases h
    have K : ∀ p q w, l = pk p → l2 = rk q w → CallTree (pe E) 17 [.c (.p 0 0), .c (.i true .i64 3)] [⟨l, 56⟩, ⟨l2, 32⟩, ⟨[.i false .i64 z1, .i false .i64 z2, .i false .i64 z3, .i false .u16 z4], 34⟩] (.leaf (.c (.b false (a1 (p 13) 64 != 0)), [⟨l, 56⟩, ⟨l2, 32⟩, ⟨[.i false .i64 z1, .i false .i64 z2, .i false .i64 z3, .i false .u16 z4], 34⟩])) := by
      intro p q w h1 h2
      rw [h1, h2]
      exact asks3_c E p q z1 z2 z3 z4 w 
    exact K _ _ _ (wfP_eq hl) (wfR_eq hl2)
  · cases h
def orcX (E : World) : Orc := fun g vs s => match s with
  | [⟨l, 56⟩, ⟨l2, 32⟩, ⟨[.i false .i64 z1, .i false .i64 z2, .i false .i64 z3, .i false .u16 z4], 34⟩] => (match (cond (wfP 4 l && wfR 4 l2) (opX l l2 z1 z2 z3 z4 g vs) none) with
    | some t => some t
    | none => orcK E g vs s)
  | _ => orcK E g vs s
theorem orcX_ok {E : World} : OrcOK (pe E) (orcX E) := by
  intro g vs s t h
  unfold orcX at h
  split at h
  · rename_i l l2 z1 z2 z3 z4
    split at h
    · rename_i t' ht
      cases h
      cases hl : (wfP 4 l && wfR 4 l2) <;> rw [hl] at ht <;> simp only [cond_true, cond_false] at ht
      · cases ht
      · rw [Bool.and_eq_true] at hl
        exact opX_ok hl.1 hl.2 ht
    · exact orcK_ok _ _ _ _ h
  · exact orcK_ok _ _ _ _ h
end Go.Proofs.Ytchebhjbcjjhpaa

