import Derived.Test.YtchebhjbcjjhpaaJ
set_option linter.unusedVariables false
set_option linter.unusedSimpArgs false
namespace Go.Proofs.Ytchebhjbcjjhpaa
open Go Go.Proofs Go.Proofs.Ytchebhjbcjjhpaa.Ev
set_option maxRecDepth 100000
/-- A way's end: its answer, and the memory as it was, perhaps with more behind it. -/
def conK (v : SV) (s : SW) : Tree (SV × SW) → Prop
  | .leaf p => SV.sim p.1 v ∧ ∃ e, p.2 = s ++ e
  | .node b t f => (b = true → conK v s t) ∧ (b = false → conK v s f)
  | .need b t => b = true ∧ conK v s t
  | .fail => False
theorem conK_OK {v : SV} {s : SW} : ∀ t : Tree (SV × SW), conK v s t → t.OK fun p => SV.sim p.1 v ∧ ∃ e, p.2 = s ++ e := by
  intro t
  induction t with
  | leaf x => exact id
  | node b t f iht ihf => exact fun h => ⟨fun hb => iht (h.1 hb), fun hb => ihf (h.2 hb)⟩
  | need b t ih => exact fun h => ⟨h.1, ih h.2⟩
  | fail => exact id
theorem call_conK {P : PE} {g : FuncId} {vs : List SV} {s : SW} {v : SV} {t : Tree (SV × SW)} (h : CallTree P g vs s t) (hv : v.ok 0 = true) (ht : conK v s t) : CallTree P g vs s (.leaf (v, s)) := by
  intro W L ρ w post hI hok hp
  refine Calls.mono (h W L ρ w _ hI hok (conK_OK t ht)) ?_
  rintro e w' ⟨x, s1, ρ', rfl, hag, hle, hx, hI', hs, e1, h1⟩
  simp only at hs h1
  subst h1
  refine ⟨v, s, ρ, ?_, Agree.refl _ _, Nat.le_refl _, SV.ok_mono (Nat.zero_le _) hv, hI'.part hI.okc (by have := hI.len; omega) hag, hp⟩
  rw [SV.sim_den hs, SV.den_agree (n := 0) (ρ := ρ) (ρ' := ρ') (fun i hi => absurd hi (Nat.not_lt_zero _)) hv]
def stR (c : Int) : Int := selI [1, 64, 256, 1024] (c.tmod 4)
def rnR (c : Int) : Bool := (c.fdiv 128).tmod 2 == 1
def flR (c : Int) : Bool := (c.fdiv 4).tmod 2 == 0
def alC (i : Nat) (c : Int) : Bool := rnR c && cond (Nat.beq i 0) true (flR c)
def alR (r : Nat → Int) (i : Nat) : Bool := alC i (r (4 * i + 1))
theorem inM (c : Int) (h : 0 ≤ c) : inB (c.tmod 4) 4 = true := by
  rw [Int.tmod_eq_emod_of_nonneg h]
  simp only [inB, Bool.and_eq_true, decide_eq_true_eq]; omega
def lits : List C := [.i true .i64 1, .i true .i64 64, .i true .i64 256, .i true .i64 1024]
theorem rn0_t (E : World) (p : Nat → Int) (Z : Bl) (r : Nat → Int) (w : Int) : fnTree (pe E) (orcF E) (tabL fns) 20000 Try.f21 [.c (.p 1 0)] ([⟨pk p, 56⟩, ⟨rk r w, 32⟩, Z]) = ((.leaf (.c (.b false (rnR (r 1))), [⟨pk p, 56⟩, ⟨rk r w, 32⟩, Z]))) := by kernel_rfl
theorem rn0_c (E : World) (p : Nat → Int) (Z : Bl) (r : Nat → Int) (w : Int) : CallTree (pe E) 21 [.c (.p 1 0)] ([⟨pk p, 56⟩, ⟨rk r w, 32⟩, Z]) (.leaf (.c (.b false (rnR (r 1))), [⟨pk p, 56⟩, ⟨rk r w, 32⟩, Z])) := by
  refine call_conK (t := (.leaf (.c (.b false (rnR (r 1))), [⟨pk p, 56⟩, ⟨rk r w, 32⟩, Z]))) ?_ rfl (⟨rfl, ⟨[], (List.append_nil _).symm⟩⟩)
  rw [← rn0_t E]
  exact fnTree_sound (P := pe E) orcF_ok tab_ok tab_sz mixed 20000 Try.func21 (by decide) [.c (.p 1 0)] _
theorem st0_t (E : World) (p : Nat → Int) (Z : Bl) (r : Nat → Int) (w : Int) : fnTree (pe E) (orcF E) (tabL fns) 20000 Try.f20 [.c (.p 1 0)] ([⟨pk p, 56⟩, ⟨rk r w, 32⟩, Z]) = (.need (inB ((r 1).tmod 4) 4) (.leaf (.c (.i false .i64 (stR (r 1))), [⟨pk p, 56⟩, ⟨rk r w, 32⟩, Z, ⟨lits, 3⟩]))) := by kernel_rfl
theorem st0_c (E : World) (p : Nat → Int) (Z : Bl) (r : Nat → Int) (w : Int) (h : 0 ≤ r 1) : CallTree (pe E) 20 [.c (.p 1 0)] ([⟨pk p, 56⟩, ⟨rk r w, 32⟩, Z]) (.leaf (.c (.i false .i64 (stR (r 1))), [⟨pk p, 56⟩, ⟨rk r w, 32⟩, Z])) := by
  refine call_conK (t := .need (inB ((r 1).tmod 4) 4) (.leaf (.c (.i false .i64 (stR (r 1))), [⟨pk p, 56⟩, ⟨rk r w, 32⟩, Z, ⟨lits, 3⟩]))) ?_ rfl (⟨inM _ h, ⟨rfl, rfl⟩, ⟨[⟨lits, 3⟩], rfl⟩⟩)
  rw [← st0_t E]
  exact fnTree_sound (P := pe E) orcF_ok tab_ok tab_sz mixed 20000 Try.func20 (by decide) [.c (.p 1 0)] _
theorem al0_t (E : World) (p : Nat → Int) (Z : Bl) (r : Nat → Int) (w : Int) : fnTree (pe E) (orcF E) (tabL fns) 20000 Try.f19 [.c (.p 1 0), .c (.i true .i64 0)] ([⟨pk p, 56⟩, ⟨rk r w, 32⟩, Z]) = (.node (rnR (r 1)) (.leaf (.c (.b true true), [⟨pk p, 56⟩, ⟨rk r w, 32⟩, Z])) (.leaf (.c (.b true false), [⟨pk p, 56⟩, ⟨rk r w, 32⟩, Z]))) := by kernel_rfl
theorem al0_c (E : World) (p : Nat → Int) (Z : Bl) (r : Nat → Int) (w : Int) : CallTree (pe E) 19 [.c (.p 1 0), .c (.i true .i64 0)] ([⟨pk p, 56⟩, ⟨rk r w, 32⟩, Z]) (.leaf (.c (.b false (alR r 0)), [⟨pk p, 56⟩, ⟨rk r w, 32⟩, Z])) := by
  refine call_conK (t := .node (rnR (r 1)) (.leaf (.c (.b true true), [⟨pk p, 56⟩, ⟨rk r w, 32⟩, Z])) (.leaf (.c (.b true false), [⟨pk p, 56⟩, ⟨rk r w, 32⟩, Z]))) ?_ rfl (⟨fun h => ⟨by show _ = (rnR (r 1) && _); rw [h]; rfl, ⟨[], (List.append_nil _).symm⟩⟩, fun h => ⟨by show _ = (rnR (r 1) && _); rw [h]; rfl, ⟨[], (List.append_nil _).symm⟩⟩⟩)
  rw [← al0_t E]
  exact fnTree_sound (P := pe E) orcF_ok tab_ok tab_sz mixed 20000 Try.func19 (by decide) [.c (.p 1 0), .c (.i true .i64 0)] _
theorem rn1_t (E : World) (p : Nat → Int) (Z : Bl) (r : Nat → Int) (w : Int) : fnTree (pe E) (orcF E) (tabL fns) 20000 Try.f21 [.c (.p 1 4)] ([⟨pk p, 56⟩, ⟨rk r w, 32⟩, Z]) = ((.leaf (.c (.b false (rnR (r 5))), [⟨pk p, 56⟩, ⟨rk r w, 32⟩, Z]))) := by kernel_rfl
theorem rn1_c (E : World) (p : Nat → Int) (Z : Bl) (r : Nat → Int) (w : Int) : CallTree (pe E) 21 [.c (.p 1 4)] ([⟨pk p, 56⟩, ⟨rk r w, 32⟩, Z]) (.leaf (.c (.b false (rnR (r 5))), [⟨pk p, 56⟩, ⟨rk r w, 32⟩, Z])) := by
  refine call_conK (t := (.leaf (.c (.b false (rnR (r 5))), [⟨pk p, 56⟩, ⟨rk r w, 32⟩, Z]))) ?_ rfl (⟨rfl, ⟨[], (List.append_nil _).symm⟩⟩)
  rw [← rn1_t E]
  exact fnTree_sound (P := pe E) orcF_ok tab_ok tab_sz mixed 20000 Try.func21 (by decide) [.c (.p 1 4)] _
theorem st1_t (E : World) (p : Nat → Int) (Z : Bl) (r : Nat → Int) (w : Int) : fnTree (pe E) (orcF E) (tabL fns) 20000 Try.f20 [.c (.p 1 4)] ([⟨pk p, 56⟩, ⟨rk r w, 32⟩, Z]) = (.need (inB ((r 5).tmod 4) 4) (.leaf (.c (.i false .i64 (stR (r 5))), [⟨pk p, 56⟩, ⟨rk r w, 32⟩, Z, ⟨lits, 3⟩]))) := by kernel_rfl
theorem st1_c (E : World) (p : Nat → Int) (Z : Bl) (r : Nat → Int) (w : Int) (h : 0 ≤ r 5) : CallTree (pe E) 20 [.c (.p 1 4)] ([⟨pk p, 56⟩, ⟨rk r w, 32⟩, Z]) (.leaf (.c (.i false .i64 (stR (r 5))), [⟨pk p, 56⟩, ⟨rk r w, 32⟩, Z])) := by
  refine call_conK (t := .need (inB ((r 5).tmod 4) 4) (.leaf (.c (.i false .i64 (stR (r 5))), [⟨pk p, 56⟩, ⟨rk r w, 32⟩, Z, ⟨lits, 3⟩]))) ?_ rfl (⟨inM _ h, ⟨rfl, rfl⟩, ⟨[⟨lits, 3⟩], rfl⟩⟩)
  rw [← st1_t E]
  exact fnTree_sound (P := pe E) orcF_ok tab_ok tab_sz mixed 20000 Try.func20 (by decide) [.c (.p 1 4)] _
theorem al1_t (E : World) (p : Nat → Int) (Z : Bl) (r : Nat → Int) (w : Int) : fnTree (pe E) (orcF E) (tabL fns) 20000 Try.f19 [.c (.p 1 0), .c (.i true .i64 1)] ([⟨pk p, 56⟩, ⟨rk r w, 32⟩, Z]) = (.node (rnR (r 5)) (.leaf (.c (.b false (flR (r 5))), [⟨pk p, 56⟩, ⟨rk r w, 32⟩, Z])) (.leaf (.c (.b true false), [⟨pk p, 56⟩, ⟨rk r w, 32⟩, Z]))) := by kernel_rfl
theorem al1_c (E : World) (p : Nat → Int) (Z : Bl) (r : Nat → Int) (w : Int) : CallTree (pe E) 19 [.c (.p 1 0), .c (.i true .i64 1)] ([⟨pk p, 56⟩, ⟨rk r w, 32⟩, Z]) (.leaf (.c (.b false (alR r 1)), [⟨pk p, 56⟩, ⟨rk r w, 32⟩, Z])) := by
  refine call_conK (t := .node (rnR (r 5)) (.leaf (.c (.b false (flR (r 5))), [⟨pk p, 56⟩, ⟨rk r w, 32⟩, Z])) (.leaf (.c (.b true false), [⟨pk p, 56⟩, ⟨rk r w, 32⟩, Z]))) ?_ rfl (⟨fun h => ⟨by show _ = (rnR (r 5) && _); rw [h]; rfl, ⟨[], (List.append_nil _).symm⟩⟩, fun h => ⟨by show _ = (rnR (r 5) && _); rw [h]; rfl, ⟨[], (List.append_nil _).symm⟩⟩⟩)
  rw [← al1_t E]
  exact fnTree_sound (P := pe E) orcF_ok tab_ok tab_sz mixed 20000 Try.func19 (by decide) [.c (.p 1 0), .c (.i true .i64 1)] _
theorem rn2_t (E : World) (p : Nat → Int) (Z : Bl) (r : Nat → Int) (w : Int) : fnTree (pe E) (orcF E) (tabL fns) 20000 Try.f21 [.c (.p 1 8)] ([⟨pk p, 56⟩, ⟨rk r w, 32⟩, Z]) = ((.leaf (.c (.b false (rnR (r 9))), [⟨pk p, 56⟩, ⟨rk r w, 32⟩, Z]))) := by kernel_rfl
theorem rn2_c (E : World) (p : Nat → Int) (Z : Bl) (r : Nat → Int) (w : Int) : CallTree (pe E) 21 [.c (.p 1 8)] ([⟨pk p, 56⟩, ⟨rk r w, 32⟩, Z]) (.leaf (.c (.b false (rnR (r 9))), [⟨pk p, 56⟩, ⟨rk r w, 32⟩, Z])) := by
  refine call_conK (t := (.leaf (.c (.b false (rnR (r 9))), [⟨pk p, 56⟩, ⟨rk r w, 32⟩, Z]))) ?_ rfl (⟨rfl, ⟨[], (List.append_nil _).symm⟩⟩)
  rw [← rn2_t E]
  exact fnTree_sound (P := pe E) orcF_ok tab_ok tab_sz mixed 20000 Try.func21 (by decide) [.c (.p 1 8)] _
theorem st2_t (E : World) (p : Nat → Int) (Z : Bl) (r : Nat → Int) (w : Int) : fnTree (pe E) (orcF E) (tabL fns) 20000 Try.f20 [.c (.p 1 8)] ([⟨pk p, 56⟩, ⟨rk r w, 32⟩, Z]) = (.need (inB ((r 9).tmod 4) 4) (.leaf (.c (.i false .i64 (stR (r 9))), [⟨pk p, 56⟩, ⟨rk r w, 32⟩, Z, ⟨lits, 3⟩]))) := by kernel_rfl
theorem st2_c (E : World) (p : Nat → Int) (Z : Bl) (r : Nat → Int) (w : Int) (h : 0 ≤ r 9) : CallTree (pe E) 20 [.c (.p 1 8)] ([⟨pk p, 56⟩, ⟨rk r w, 32⟩, Z]) (.leaf (.c (.i false .i64 (stR (r 9))), [⟨pk p, 56⟩, ⟨rk r w, 32⟩, Z])) := by
  refine call_conK (t := .need (inB ((r 9).tmod 4) 4) (.leaf (.c (.i false .i64 (stR (r 9))), [⟨pk p, 56⟩, ⟨rk r w, 32⟩, Z, ⟨lits, 3⟩]))) ?_ rfl (⟨inM _ h, ⟨rfl, rfl⟩, ⟨[⟨lits, 3⟩], rfl⟩⟩)
  rw [← st2_t E]
  exact fnTree_sound (P := pe E) orcF_ok tab_ok tab_sz mixed 20000 Try.func20 (by decide) [.c (.p 1 8)] _
theorem al2_t (E : World) (p : Nat → Int) (Z : Bl) (r : Nat → Int) (w : Int) : fnTree (pe E) (orcF E) (tabL fns) 20000 Try.f19 [.c (.p 1 0), .c (.i true .i64 2)] ([⟨pk p, 56⟩, ⟨rk r w, 32⟩, Z]) = (.node (rnR (r 9)) (.leaf (.c (.b false (flR (r 9))), [⟨pk p, 56⟩, ⟨rk r w, 32⟩, Z])) (.leaf (.c (.b true false), [⟨pk p, 56⟩, ⟨rk r w, 32⟩, Z]))) := by kernel_rfl
theorem al2_c (E : World) (p : Nat → Int) (Z : Bl) (r : Nat → Int) (w : Int) : CallTree (pe E) 19 [.c (.p 1 0), .c (.i true .i64 2)] ([⟨pk p, 56⟩, ⟨rk r w, 32⟩, Z]) (.leaf (.c (.b false (alR r 2)), [⟨pk p, 56⟩, ⟨rk r w, 32⟩, Z])) := by
  refine call_conK (t := .node (rnR (r 9)) (.leaf (.c (.b false (flR (r 9))), [⟨pk p, 56⟩, ⟨rk r w, 32⟩, Z])) (.leaf (.c (.b true false), [⟨pk p, 56⟩, ⟨rk r w, 32⟩, Z]))) ?_ rfl (⟨fun h => ⟨by show _ = (rnR (r 9) && _); rw [h]; rfl, ⟨[], (List.append_nil _).symm⟩⟩, fun h => ⟨by show _ = (rnR (r 9) && _); rw [h]; rfl, ⟨[], (List.append_nil _).symm⟩⟩⟩)
  rw [← al2_t E]
  exact fnTree_sound (P := pe E) orcF_ok tab_ok tab_sz mixed 20000 Try.func19 (by decide) [.c (.p 1 0), .c (.i true .i64 2)] _
theorem rn3_t (E : World) (p : Nat → Int) (Z : Bl) (r : Nat → Int) (w : Int) : fnTree (pe E) (orcF E) (tabL fns) 20000 Try.f21 [.c (.p 1 12)] ([⟨pk p, 56⟩, ⟨rk r w, 32⟩, Z]) = ((.leaf (.c (.b false (rnR (r 13))), [⟨pk p, 56⟩, ⟨rk r w, 32⟩, Z]))) := by kernel_rfl
theorem rn3_c (E : World) (p : Nat → Int) (Z : Bl) (r : Nat → Int) (w : Int) : CallTree (pe E) 21 [.c (.p 1 12)] ([⟨pk p, 56⟩, ⟨rk r w, 32⟩, Z]) (.leaf (.c (.b false (rnR (r 13))), [⟨pk p, 56⟩, ⟨rk r w, 32⟩, Z])) := by
  refine call_conK (t := (.leaf (.c (.b false (rnR (r 13))), [⟨pk p, 56⟩, ⟨rk r w, 32⟩, Z]))) ?_ rfl (⟨rfl, ⟨[], (List.append_nil _).symm⟩⟩)
  rw [← rn3_t E]
  exact fnTree_sound (P := pe E) orcF_ok tab_ok tab_sz mixed 20000 Try.func21 (by decide) [.c (.p 1 12)] _
theorem st3_t (E : World) (p : Nat → Int) (Z : Bl) (r : Nat → Int) (w : Int) : fnTree (pe E) (orcF E) (tabL fns) 20000 Try.f20 [.c (.p 1 12)] ([⟨pk p, 56⟩, ⟨rk r w, 32⟩, Z]) = (.need (inB ((r 13).tmod 4) 4) (.leaf (.c (.i false .i64 (stR (r 13))), [⟨pk p, 56⟩, ⟨rk r w, 32⟩, Z, ⟨lits, 3⟩]))) := by kernel_rfl
theorem st3_c (E : World) (p : Nat → Int) (Z : Bl) (r : Nat → Int) (w : Int) (h : 0 ≤ r 13) : CallTree (pe E) 20 [.c (.p 1 12)] ([⟨pk p, 56⟩, ⟨rk r w, 32⟩, Z]) (.leaf (.c (.i false .i64 (stR (r 13))), [⟨pk p, 56⟩, ⟨rk r w, 32⟩, Z])) := by
  refine call_conK (t := .need (inB ((r 13).tmod 4) 4) (.leaf (.c (.i false .i64 (stR (r 13))), [⟨pk p, 56⟩, ⟨rk r w, 32⟩, Z, ⟨lits, 3⟩]))) ?_ rfl (⟨inM _ h, ⟨rfl, rfl⟩, ⟨[⟨lits, 3⟩], rfl⟩⟩)
  rw [← st3_t E]
  exact fnTree_sound (P := pe E) orcF_ok tab_ok tab_sz mixed 20000 Try.func20 (by decide) [.c (.p 1 12)] _
theorem al3_t (E : World) (p : Nat → Int) (Z : Bl) (r : Nat → Int) (w : Int) : fnTree (pe E) (orcF E) (tabL fns) 20000 Try.f19 [.c (.p 1 0), .c (.i true .i64 3)] ([⟨pk p, 56⟩, ⟨rk r w, 32⟩, Z]) = (.node (rnR (r 13)) (.leaf (.c (.b false (flR (r 13))), [⟨pk p, 56⟩, ⟨rk r w, 32⟩, Z])) (.leaf (.c (.b true false), [⟨pk p, 56⟩, ⟨rk r w, 32⟩, Z]))) := by kernel_rfl
theorem al3_c (E : World) (p : Nat → Int) (Z : Bl) (r : Nat → Int) (w : Int) : CallTree (pe E) 19 [.c (.p 1 0), .c (.i true .i64 3)] ([⟨pk p, 56⟩, ⟨rk r w, 32⟩, Z]) (.leaf (.c (.b false (alR r 3)), [⟨pk p, 56⟩, ⟨rk r w, 32⟩, Z])) := by
  refine call_conK (t := .node (rnR (r 13)) (.leaf (.c (.b false (flR (r 13))), [⟨pk p, 56⟩, ⟨rk r w, 32⟩, Z])) (.leaf (.c (.b true false), [⟨pk p, 56⟩, ⟨rk r w, 32⟩, Z]))) ?_ rfl (⟨fun h => ⟨by show _ = (rnR (r 13) && _); rw [h]; rfl, ⟨[], (List.append_nil _).symm⟩⟩, fun h => ⟨by show _ = (rnR (r 13) && _); rw [h]; rfl, ⟨[], (List.append_nil _).symm⟩⟩⟩)
  rw [← al3_t E]
  exact fnTree_sound (P := pe E) orcF_ok tab_ok tab_sz mixed 20000 Try.func19 (by decide) [.c (.p 1 0), .c (.i true .i64 3)] _
end Go.Proofs.Ytchebhjbcjjhpaa

