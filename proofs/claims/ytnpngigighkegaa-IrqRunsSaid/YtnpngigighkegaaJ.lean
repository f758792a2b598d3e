import Derived.Test.YtnpngigighkegaaI
set_option linter.unusedVariables false
set_option linter.unusedSimpArgs false
namespace Go.Proofs.Ytnpngigighkegaa
open Go Go.Proofs Go.Proofs.Ytnpngigighkegaa.Ev
set_option maxRecDepth 100000
def a1 (x y : Int) : Int := bits .and .u16 x y
def pkT {α : Type} (w k : Int) (yes no : Tree α) : Tree α := .node (a1 w 16384 == 0) no (.node (a1 w 32768 != 0) (.node (a1 k (a1 w 1023) == a1 w 1023) yes (.node (a1 w 32768 == 0) (.node (a1 k (a1 w 1023) != 0) yes no) no)) (.node (a1 w 32768 == 0) (.node (a1 k (a1 w 1023) != 0) yes no) no))
def pkV (w k : Int) : Bool := !(a1 w 16384 == 0) && ((a1 w 32768 != 0 && a1 k (a1 w 1023) == a1 w 1023) || (a1 w 32768 == 0 && a1 k (a1 w 1023) != 0))
theorem conF_pk {r : SV × SW} {w k : Int} {yes no : Tree (SV × SW)} (hy : pkV w k = true → conF r yes) (hn : pkV w k = false → conF r no) : conF r (pkT w k yes no) := by
  unfold pkV at hy hn
  unfold pkT
  refine ⟨fun a => hn (by rw [a]; rfl), fun a => ⟨fun b => ⟨fun c => hy (by rw [a, b, c]; rfl), fun c => ⟨fun d => ⟨fun f => hy (by rw [a, b, c, d, f]; rfl), fun f => hn (by rw [a, b, c, d, f]; rfl)⟩, fun d => hn (by rw [a, b, c, d]; rfl)⟩⟩, fun b => ⟨fun d => ⟨fun f => hy (by rw [a, b, d, f]; rfl), fun f => hn (by rw [a, b, d, f]; rfl)⟩, fun d => hn (by rw [a, b, d]; rfl)⟩⟩⟩
def inR (y : Int) : Bool := bif decide (y ≥ 0) then decide (y < 14) else false
def prR (rq y : Int) : Int := cond (inR y) (bits .or .u16 rq (IntKind.u16.wrap (1 * 2 ^ min y.toNat 16))) rq
def pkR (b : Bool) (rq : Int) : Int := cond b (bits .or .u16 rq 4096) rq
def pwE (en y x : Int) : Int := cond (y == 306) en (cond (y == 512) (a1 x 16383) en)
def pwR (rq ky y x : Int) : Int := cond (y == 306) (pkR (pkV (a1 x 50175) ky) rq) (cond (y == 512) rq (cond (y == 514) (bits .andNot .u16 rq x) rq))
def pwW (wa y x : Int) : Int := cond (y == 306) (a1 x 50175) wa
def pwM (m : Bool) (y x : Int) : Bool := cond (y == 306) m (cond (y == 512) m (cond (y == 514) m (cond (y == 520) (a1 x 1 != 0) m)))
def pdV (en rq wa ky : Int) (m : Bool) (y : Int) : Int := cond (y == 304) (a1 (bits .xor .u16 65535 ky) 1023) (cond (y == 306) wa (cond (y == 512) en (cond (y == 514) rq (cond (y == 520) (cond m 1 0) 0))))
def pwkV (en rq : Int) : Bool := a1 en rq != 0
-- the program's functions
theorem pwatch_t (E : World) (S : SW) (en rq wa ky : Int) (m : Bool) : fnTree (pe E) (orcK E) (tabL fns) 20000 Try.f21 [.c (.p 0 0)] (⟨ck en rq wa ky m, 45⟩ :: S) = (pkT wa ky (.leaf (.t [], ⟨ck en (bits .or .u16 rq 4096) wa ky m, 45⟩ :: S)) (.leaf (.t [], ⟨ck en rq wa ky m, 45⟩ :: S))) := by kernel_rfl
theorem pwatch_c (E : World) (S : SW) (en rq wa ky : Int) (m : Bool) : CallTree (pe E) 21 [.c (.p 0 0)] (⟨ck en rq wa ky m, 45⟩ :: S) (.leaf (.t [], ⟨ck en (pkR (pkV wa ky) rq) wa ky m, 45⟩ :: S)) := by
  refine call_conF (t := pkT wa ky (.leaf (.t [], ⟨ck en (bits .or .u16 rq 4096) wa ky m, 45⟩ :: S)) (.leaf (.t [], ⟨ck en rq wa ky m, 45⟩ :: S))) ?_ (conF_pk (fun h => by rw [h]; exact ⟨trivial, refS_refl _⟩) (fun h => by rw [h]; exact ⟨trivial, refS_refl _⟩))
  rw [← pwatch_t E]
  exact fnTree_sound (P := pe E) orcK_ok tab_ok tab_sz mixed 20000 Try.func21 (by decide) [.c (.p 0 0)] _
def orcP (E : World) : Orc := fun g vs s => match g, vs, s with
  | 21, [.c (.p 0 0)], ⟨[.i false .u16 en, .i false .u16 rq, .i false .u16 wa, .i false .u16 ky, .b false m], 45⟩ :: S => some (.leaf (.t [], ⟨ck en (pkR (pkV wa ky) rq) wa ky m, 45⟩ :: S))
  | g, vs, s => orcK E g vs s
theorem orcP_ok {E : World} : OrcOK (pe E) (orcP E) := by
  intro g vs s t h
  unfold orcP at h
  split at h
  · cases h
    exact pwatch_c E _ _ _ _ _ _
  · exact orcK_ok _ _ _ _ h
theorem praise_t (E : World) (S : SW) (en rq wa ky : Int) (m : Bool) (y : Int) : fnTree (pe E) (orcP E) (tabL fns) 20000 Try.f9 [.c (.p 0 0), .c (.i false .i64 y)] (⟨ck en rq wa ky m, 45⟩ :: S) = (.node (inR y) (.need (decide (0 ≤ y)) (.leaf (.t [], ⟨ck en (bits .or .u16 rq (IntKind.u16.wrap (1 * 2 ^ min y.toNat 16))) wa ky m, 45⟩ :: S))) (.leaf (.t [], ⟨ck en rq wa ky m, 45⟩ :: S))) := by kernel_rfl
theorem praise_c (E : World) (S : SW) (en rq wa ky : Int) (m : Bool) (y : Int) : CallTree (pe E) 9 [.c (.p 0 0), .c (.i false .i64 y)] (⟨ck en rq wa ky m, 45⟩ :: S) (.leaf (.t [], ⟨ck en (prR rq y) wa ky m, 45⟩ :: S)) := by
  refine call_conF (t := .node (inR y) (.need (decide (0 ≤ y)) (.leaf (.t [], ⟨ck en (bits .or .u16 rq (IntKind.u16.wrap (1 * 2 ^ min y.toNat 16))) wa ky m, 45⟩ :: S))) (.leaf (.t [], ⟨ck en rq wa ky m, 45⟩ :: S))) ?_ (⟨fun h => ⟨by unfold inR at h; cases h1 : decide (y ≥ 0) <;> rw [h1] at h <;> first | (cases h; done) | exact h1, by unfold prR; rw [h]; exact ⟨trivial, refS_refl _⟩⟩, fun h => by unfold prR; rw [h]; exact ⟨trivial, refS_refl _⟩⟩)
  rw [← praise_t E]
  exact fnTree_sound (P := pe E) orcP_ok tab_ok tab_sz mixed 20000 Try.func9 (by decide) [.c (.p 0 0), .c (.i false .i64 y)] _
theorem pkeys_t (E : World) (S : SW) (en rq wa ky : Int) (m : Bool) (x : Int) : fnTree (pe E) (orcP E) (tabL fns) 20000 Try.f13 [.c (.p 0 0), .c (.i false .u16 x)] (⟨ck en rq wa ky m, 45⟩ :: S) = ((.leaf (.t [], ⟨ck en (pkR (pkV wa (a1 x 1023)) rq) wa (a1 x 1023) m, 45⟩ :: S))) := by kernel_rfl
theorem pkeys_c (E : World) (S : SW) (en rq wa ky : Int) (m : Bool) (x : Int) : CallTree (pe E) 13 [.c (.p 0 0), .c (.i false .u16 x)] (⟨ck en rq wa ky m, 45⟩ :: S) (.leaf (.t [], ⟨ck en (pkR (pkV wa (a1 x 1023)) rq) wa (a1 x 1023) m, 45⟩ :: S)) := by
  refine call_conF (t := (.leaf (.t [], ⟨ck en (pkR (pkV wa (a1 x 1023)) rq) wa (a1 x 1023) m, 45⟩ :: S))) ?_ (⟨trivial, refS_refl _⟩)
  rw [← pkeys_t E]
  exact fnTree_sound (P := pe E) orcP_ok tab_ok tab_sz mixed 20000 Try.func13 (by decide) [.c (.p 0 0), .c (.i false .u16 x)] _
theorem pwakes_t (E : World) (S : SW) (en rq wa ky : Int) (m : Bool) : fnTree (pe E) (orcP E) (tabL fns) 20000 Try.f15 [.c (.p 0 0)] (⟨ck en rq wa ky m, 45⟩ :: S) = ((.leaf (.c (.b false (pwkV en rq)), ⟨ck en rq wa ky m, 45⟩ :: S))) := by kernel_rfl
theorem pwakes_c (E : World) (S : SW) (en rq wa ky : Int) (m : Bool) : CallTree (pe E) 15 [.c (.p 0 0)] (⟨ck en rq wa ky m, 45⟩ :: S) (.leaf (.c (.b false (pwkV en rq)), ⟨ck en rq wa ky m, 45⟩ :: S)) := by
  refine call_conF (t := (.leaf (.c (.b false (pwkV en rq)), ⟨ck en rq wa ky m, 45⟩ :: S))) ?_ (⟨rfl, refS_refl _⟩)
  rw [← pwakes_t E]
  exact fnTree_sound (P := pe E) orcP_ok tab_ok tab_sz mixed 20000 Try.func15 (by decide) [.c (.p 0 0)] _
theorem pfires_t (E : World) (S : SW) (en rq wa ky : Int) (m : Bool) : fnTree (pe E) (orcP E) (tabL fns) 20000 Try.f17 [.c (.p 0 0)] (⟨ck en rq wa ky m, 45⟩ :: S) = (.node (pwkV en rq) (.leaf (.c (.b false m), ⟨ck en rq wa ky m, 45⟩ :: S)) (.leaf (.c (.b true false), ⟨ck en rq wa ky m, 45⟩ :: S))) := by kernel_rfl
theorem pfires_c (E : World) (S : SW) (en rq wa ky : Int) (m : Bool) : CallTree (pe E) 17 [.c (.p 0 0)] (⟨ck en rq wa ky m, 45⟩ :: S) (.leaf (.c (.b false (pwkV en rq && m)), ⟨ck en rq wa ky m, 45⟩ :: S)) := by
  refine call_conF (t := .node (pwkV en rq) (.leaf (.c (.b false m), ⟨ck en rq wa ky m, 45⟩ :: S)) (.leaf (.c (.b true false), ⟨ck en rq wa ky m, 45⟩ :: S))) ?_ (⟨fun h => by rw [h]; exact ⟨rfl, refS_refl _⟩, fun h => by rw [h]; exact ⟨rfl, refS_refl _⟩⟩)
  rw [← pfires_t E]
  exact fnTree_sound (P := pe E) orcP_ok tab_ok tab_sz mixed 20000 Try.func17 (by decide) [.c (.p 0 0)] _
theorem pread_t (E : World) (S : SW) (en rq wa ky : Int) (m : Bool) (y : Int) : fnTree (pe E) (orcP E) (tabL fns) 20000 Try.f19 [.c (.p 0 0), .c (.i false .i64 y)] (⟨ck en rq wa ky m, 45⟩ :: S) = (.node (y == 304) (.leaf (.c (.i false .u16 (a1 (bits .xor .u16 65535 ky) 1023)), ⟨ck en rq wa ky m, 45⟩ :: S)) (.node (y == 306) (.leaf (.c (.i false .u16 wa), ⟨ck en rq wa ky m, 45⟩ :: S)) (.node (y == 512) (.leaf (.c (.i false .u16 en), ⟨ck en rq wa ky m, 45⟩ :: S)) (.node (y == 514) (.leaf (.c (.i false .u16 rq), ⟨ck en rq wa ky m, 45⟩ :: S)) (.node (y == 520) (.node m (.leaf (.c (.i true .u16 1), ⟨ck en rq wa ky m, 45⟩ :: S)) (.leaf (.c (.i true .u16 0), ⟨ck en rq wa ky m, 45⟩ :: S))) (.leaf (.c (.i true .u16 0), ⟨ck en rq wa ky m, 45⟩ :: S))))))) := by kernel_rfl
theorem pread_c (E : World) (S : SW) (en rq wa ky : Int) (m : Bool) (y : Int) : CallTree (pe E) 19 [.c (.p 0 0), .c (.i false .i64 y)] (⟨ck en rq wa ky m, 45⟩ :: S) (.leaf (.c (.i false .u16 (pdV en rq wa ky m y)), ⟨ck en rq wa ky m, 45⟩ :: S)) := by
  refine call_conF (t := .node (y == 304) (.leaf (.c (.i false .u16 (a1 (bits .xor .u16 65535 ky) 1023)), ⟨ck en rq wa ky m, 45⟩ :: S)) (.node (y == 306) (.leaf (.c (.i false .u16 wa), ⟨ck en rq wa ky m, 45⟩ :: S)) (.node (y == 512) (.leaf (.c (.i false .u16 en), ⟨ck en rq wa ky m, 45⟩ :: S)) (.node (y == 514) (.leaf (.c (.i false .u16 rq), ⟨ck en rq wa ky m, 45⟩ :: S)) (.node (y == 520) (.node m (.leaf (.c (.i true .u16 1), ⟨ck en rq wa ky m, 45⟩ :: S)) (.leaf (.c (.i true .u16 0), ⟨ck en rq wa ky m, 45⟩ :: S))) (.leaf (.c (.i true .u16 0), ⟨ck en rq wa ky m, 45⟩ :: S))))))) ?_ (by
    unfold pdV
    refine ⟨fun h => by rw [h]; exact ⟨⟨rfl, rfl⟩, refS_refl _⟩, fun h1 => ⟨fun h => by rw [h1, h]; exact ⟨⟨rfl, rfl⟩, refS_refl _⟩, fun h2 => ⟨fun h => by rw [h1, h2, h]; exact ⟨⟨rfl, rfl⟩, refS_refl _⟩, fun h3 => ⟨fun h => by rw [h1, h2, h3, h]; exact ⟨⟨rfl, rfl⟩, refS_refl _⟩, fun h4 => ⟨fun h => ⟨fun h5 => by rw [h1, h2, h3, h4, h, h5]; exact ⟨⟨rfl, rfl⟩, refS_refl _⟩, fun h5 => by rw [h1, h2, h3, h4, h, h5]; exact ⟨⟨rfl, rfl⟩, refS_refl _⟩⟩, fun h => by rw [h1, h2, h3, h4, h]; exact ⟨⟨rfl, rfl⟩, refS_refl _⟩⟩⟩⟩⟩⟩)
  rw [← pread_t E]
  exact fnTree_sound (P := pe E) orcP_ok tab_ok tab_sz mixed 20000 Try.func19 (by decide) [.c (.p 0 0), .c (.i false .i64 y)] _
theorem pwrite_t (E : World) (S : SW) (en rq wa ky : Int) (m : Bool) (y x : Int) : fnTree (pe E) (orcP E) (tabL fns) 20000 Try.f11 [.c (.p 0 0), .c (.i false .i64 y), .c (.i false .u16 x)] (⟨ck en rq wa ky m, 45⟩ :: S) = (.node (y == 306) (.leaf (.t [], ⟨ck en (pkR (pkV (a1 x 50175) ky) rq) (a1 x 50175) ky m, 45⟩ :: S)) (.node (y == 512) (.leaf (.t [], ⟨ck (a1 x 16383) rq wa ky m, 45⟩ :: S)) (.node (y == 514) (.leaf (.t [], ⟨ck en (bits .andNot .u16 rq x) wa ky m, 45⟩ :: S)) (.node (y == 520) (.leaf (.t [], ⟨ck en rq wa ky (a1 x 1 != 0), 45⟩ :: S)) (.leaf (.t [], ⟨ck en rq wa ky m, 45⟩ :: S)))))) := by kernel_rfl
theorem pwrite_c (E : World) (S : SW) (en rq wa ky : Int) (m : Bool) (y x : Int) : CallTree (pe E) 11 [.c (.p 0 0), .c (.i false .i64 y), .c (.i false .u16 x)] (⟨ck en rq wa ky m, 45⟩ :: S) (.leaf (.t [], ⟨ck (pwE en y x) (pwR rq ky y x) (pwW wa y x) ky (pwM m y x), 45⟩ :: S)) := by
  refine call_conF (t := .node (y == 306) (.leaf (.t [], ⟨ck en (pkR (pkV (a1 x 50175) ky) rq) (a1 x 50175) ky m, 45⟩ :: S)) (.node (y == 512) (.leaf (.t [], ⟨ck (a1 x 16383) rq wa ky m, 45⟩ :: S)) (.node (y == 514) (.leaf (.t [], ⟨ck en (bits .andNot .u16 rq x) wa ky m, 45⟩ :: S)) (.node (y == 520) (.leaf (.t [], ⟨ck en rq wa ky (a1 x 1 != 0), 45⟩ :: S)) (.leaf (.t [], ⟨ck en rq wa ky m, 45⟩ :: S)))))) ?_ (by
    unfold pwE pwR pwW pwM
    refine ⟨fun h => by rw [h]; exact ⟨trivial, refS_refl _⟩, fun h1 => ⟨fun h => by rw [h1, h]; exact ⟨trivial, refS_refl _⟩, fun h2 => ⟨fun h => by rw [h1, h2, h]; exact ⟨trivial, refS_refl _⟩, fun h3 => ⟨fun h => by rw [h1, h2, h3, h]; exact ⟨trivial, refS_refl _⟩, fun h => by rw [h1, h2, h3, h]; exact ⟨trivial, refS_refl _⟩⟩⟩⟩⟩)
  rw [← pwrite_t E]
  exact fnTree_sound (P := pe E) orcP_ok tab_ok tab_sz mixed 20000 Try.func11 (by decide) [.c (.p 0 0), .c (.i false .i64 y), .c (.i false .u16 x)] _
end Go.Proofs.Ytnpngigighkegaa

