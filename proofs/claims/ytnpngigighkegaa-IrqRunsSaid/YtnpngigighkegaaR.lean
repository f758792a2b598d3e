import Derived.Test.YtnpngigighkegaaJ
set_option linter.unusedVariables false
set_option linter.unusedSimpArgs false
namespace Go.Proofs.Ytnpngigighkegaa
open Go Go.Proofs Go.Proofs.Ytnpngigighkegaa.Ev
set_option maxRecDepth 100000
def rsT (r : Nat → Bool) (y : Int) (j : Nat) : Bool := cond (y == (j : Int)) true (r j)
def rrR (r : Nat → Bool) (y : Int) (j : Nat) : Bool := cond (inR y) (rsT r y j) (r j)
def wkN (e r : Nat → Bool) : Nat → Nat → Bool
  | 0, _ => false
  | n + 1, j => cond (cond (e j) (r j) false) true (wkN e r n (j + 1))
def wkT {α : Type} (e r : Nat → Bool) (yes no : Tree α) : Nat → Nat → Tree α
  | 0, _ => no
  | n + 1, j => .node (cond (e j) (r j) false) yes (wkT e r yes no n (j + 1))
theorem conF_wk {x : SV × SW} {e r : Nat → Bool} {yes no : Tree (SV × SW)} : ∀ (n j : Nat), (wkN e r n j = true → conF x yes) → (wkN e r n j = false → conF x no) → conF x (wkT e r yes no n j)
  | 0, _, _, hn => hn rfl
  | n + 1, j, hy, hn => ⟨fun h => hy (by unfold wkN; rw [h]; rfl), fun h => conF_wk n (j + 1) (fun h2 => hy (by unfold wkN; rw [h]; exact h2)) (fun h2 => hn (by unfold wkN; rw [h]; exact h2))⟩
def p2 : Nat → Int | 0 => 1 | 1 => 2 | 2 => 4 | 3 => 8 | 4 => 16 | 5 => 32 | 6 => 64 | 7 => 128 | 8 => 256 | 9 => 512 | 10 => 1024 | 11 => 2048 | 12 => 4096 | _ => 8192
def sumN (f : Nat → Bool) : Nat → Int
  | 0 => 0
  | n + 1 => cond (f n) (IntKind.u16.wrap (sumN f n + p2 n)) (sumN f n)
def rdV (e r k : Nat → Bool) (w : Int) (m : Bool) (y : Int) : Int := cond (y == 304) (sumN (fun j => !(k j)) 10) (cond (y == 306) w (cond (y == 512) (sumN e 14) (cond (y == 514) (sumN r 14) (cond (y == 520) (cond m 1 0) 0))))
def rwE (e : Nat → Bool) (y x : Int) (j : Nat) : Bool := cond (y == 306) (e j) (cond (y == 512) (bt x (j : Int)) (e j))
def rwR (r k : Nat → Bool) (y x : Int) (j : Nat) : Bool := cond (y == 306) (setB (kpV (a1 x 50175) k) 12 r j) (cond (y == 512) (r j) (cond (y == 514) (cond (bt x (j : Int)) false (r j)) (r j)))
def rwM (m : Bool) (y x : Int) : Bool := cond (y == 306) m (cond (y == 512) m (cond (y == 514) m (cond (y == 520) (bt x 0) m)))
theorem rraise_t (E : World) (X : Bl) (S : SW) (e r k : Nat → Bool) (w : Int) (m : Bool) (y : Int) : fnTree (pe E) (orcK E) (tabL fns) 20000 Try.f10 [.c (.p 1 0), .c (.i false .i64 y)] (X :: ⟨rk e r k w m, 31⟩ :: S) = (.node (inR y) (.need (inB y 14) (.leaf (.t [], X :: ⟨rk e (rsT r y) k w m, 31⟩ :: S))) (.leaf (.t [], X :: ⟨rk e r k w m, 31⟩ :: S))) := by kernel_rfl
theorem rraise_c (E : World) (X : Bl) (S : SW) (e r k : Nat → Bool) (w : Int) (m : Bool) (y : Int) : CallTree (pe E) 10 [.c (.p 1 0), .c (.i false .i64 y)] (X :: ⟨rk e r k w m, 31⟩ :: S) (.leaf (.t [], X :: ⟨rk e (rrR r y) k w m, 31⟩ :: S)) := by
  refine call_conF (t := .node (inR y) (.need (inB y 14) (.leaf (.t [], X :: ⟨rk e (rsT r y) k w m, 31⟩ :: S))) (.leaf (.t [], X :: ⟨rk e r k w m, 31⟩ :: S))) ?_ (⟨fun h => ⟨by unfold inR at h; cases h1 : decide (y ≥ 0) <;> rw [h1] at h <;> first | (cases h; done) | (simp only [cond_true] at h; have a := of_decide_eq_true h1; have b := of_decide_eq_true h; simp only [inB, Bool.and_eq_true, decide_eq_true_eq]; omega), trivial, by rw [show rk e (rrR r y) k w m = rk e (rsT r y) k w m from rk_congr w m (fun _ _ => rfl) (fun j _ => by unfold rrR; rw [h]; rfl) (fun _ _ => rfl)]; exact refS_refl _⟩, fun h => ⟨trivial, by rw [show rk e (rrR r y) k w m = rk e r k w m from rk_congr w m (fun _ _ => rfl) (fun j _ => by unfold rrR; rw [h]; rfl) (fun _ _ => rfl)]; exact refS_refl _⟩⟩)
  rw [← rraise_t E]
  exact fnTree_sound (P := pe E) orcK_ok tab_ok tab_sz mixed 20000 Try.func10 (by decide) [.c (.p 1 0), .c (.i false .i64 y)] _
theorem rwakes_t (E : World) (X : Bl) (S : SW) (e r k : Nat → Bool) (w : Int) (m : Bool) : fnTree (pe E) (orcK E) (tabL fns) 20000 Try.f16 [.c (.p 1 0)] (X :: ⟨rk e r k w m, 31⟩ :: S) = (wkT e r (.leaf (.c (.b true true), X :: ⟨rk e r k w m, 31⟩ :: S)) (.leaf (.c (.b true false), X :: ⟨rk e r k w m, 31⟩ :: S)) 14 0) := by kernel_rfl
theorem rwakes_c (E : World) (X : Bl) (S : SW) (e r k : Nat → Bool) (w : Int) (m : Bool) : CallTree (pe E) 16 [.c (.p 1 0)] (X :: ⟨rk e r k w m, 31⟩ :: S) (.leaf (.c (.b false (wkN e r 14 0)), X :: ⟨rk e r k w m, 31⟩ :: S)) := by
  refine call_conF (t := wkT e r (.leaf (.c (.b true true), X :: ⟨rk e r k w m, 31⟩ :: S)) (.leaf (.c (.b true false), X :: ⟨rk e r k w m, 31⟩ :: S)) 14 0) ?_ (conF_wk 14 0 (fun h => by rw [h]; exact ⟨rfl, refS_refl _⟩) (fun h => by rw [h]; exact ⟨rfl, refS_refl _⟩))
  rw [← rwakes_t E]
  exact fnTree_sound (P := pe E) orcK_ok tab_ok tab_sz mixed 20000 Try.func16 (by decide) [.c (.p 1 0)] _
theorem rfires_t (E : World) (X : Bl) (S : SW) (e r k : Nat → Bool) (w : Int) (m : Bool) : fnTree (pe E) (orcK E) (tabL fns) 20000 Try.f18 [.c (.p 1 0)] (X :: ⟨rk e r k w m, 31⟩ :: S) = (.node m (wkT e r (.leaf (.c (.b true true), X :: ⟨rk e r k w m, 31⟩ :: S)) (.leaf (.c (.b true false), X :: ⟨rk e r k w m, 31⟩ :: S)) 14 0) (.leaf (.c (.b true false), X :: ⟨rk e r k w m, 31⟩ :: S))) := by kernel_rfl
theorem rfires_c (E : World) (X : Bl) (S : SW) (e r k : Nat → Bool) (w : Int) (m : Bool) : CallTree (pe E) 18 [.c (.p 1 0)] (X :: ⟨rk e r k w m, 31⟩ :: S) (.leaf (.c (.b false (m && wkN e r 14 0)), X :: ⟨rk e r k w m, 31⟩ :: S)) := by
  refine call_conF (t := .node m (wkT e r (.leaf (.c (.b true true), X :: ⟨rk e r k w m, 31⟩ :: S)) (.leaf (.c (.b true false), X :: ⟨rk e r k w m, 31⟩ :: S)) 14 0) (.leaf (.c (.b true false), X :: ⟨rk e r k w m, 31⟩ :: S))) ?_ (⟨fun h => conF_wk 14 0 (fun h2 => by rw [h, h2]; exact ⟨rfl, refS_refl _⟩) (fun h2 => by rw [h, h2]; exact ⟨rfl, refS_refl _⟩), fun h => by rw [h]; exact ⟨rfl, refS_refl _⟩⟩)
  rw [← rfires_t E]
  exact fnTree_sound (P := pe E) orcK_ok tab_ok tab_sz mixed 20000 Try.func18 (by decide) [.c (.p 1 0)] _
theorem rpress_t (E : World) (X : Bl) (S : SW) (e r k : Nat → Bool) (w : Int) (m : Bool) (x : Int) : fnTree (pe E) (orcK E) (tabL fns) 20000 Try.f14 [.c (.p 1 0), .c (.i false .u16 x)] (X :: ⟨rk e r k w m, 31⟩ :: S) = ((.leaf (.t [], X :: ⟨rk e (setB (kpV w (fun j => bt x (j : Int))) 12 r) (fun j => bt x (j : Int)) w m, 31⟩ :: S))) := by kernel_rfl
theorem rpress_c (E : World) (X : Bl) (S : SW) (e r k : Nat → Bool) (w : Int) (m : Bool) (x : Int) : CallTree (pe E) 14 [.c (.p 1 0), .c (.i false .u16 x)] (X :: ⟨rk e r k w m, 31⟩ :: S) (.leaf (.t [], X :: ⟨rk e (setB (kpV w (fun j => bt x (j : Int))) 12 r) (fun j => bt x (j : Int)) w m, 31⟩ :: S)) := by
  refine call_conF (t := (.leaf (.t [], X :: ⟨rk e (setB (kpV w (fun j => bt x (j : Int))) 12 r) (fun j => bt x (j : Int)) w m, 31⟩ :: S))) ?_ (⟨trivial, refS_refl _⟩)
  rw [← rpress_t E]
  exact fnTree_sound (P := pe E) orcK_ok tab_ok tab_sz mixed 20000 Try.func14 (by decide) [.c (.p 1 0), .c (.i false .u16 x)] _
theorem rread_t (E : World) (X : Bl) (S : SW) (e r k : Nat → Bool) (w : Int) (m : Bool) (y : Int) : fnTree (pe E) (orcK E) (tabL fns) 20000 Try.f20 [.c (.p 1 0), .c (.i false .i64 y)] (X :: ⟨rk e r k w m, 31⟩ :: S) = (.node (y == 304) (.leaf (.c (.i false .u16 (sumN (fun j => !(k j)) 10)), X :: ⟨rk e r k w m, 31⟩ :: S)) (.node (y == 306) (.leaf (.c (.i false .u16 w), X :: ⟨rk e r k w m, 31⟩ :: S)) (.node (y == 512) (.leaf (.c (.i false .u16 (sumN e 14)), X :: ⟨rk e r k w m, 31⟩ :: S)) (.node (y == 514) (.leaf (.c (.i false .u16 (sumN r 14)), X :: ⟨rk e r k w m, 31⟩ :: S)) (.leaf (.c (.i false .u16 (cond (y == 520) (cond m 1 0) 0)), X :: ⟨rk e r k w m, 31⟩ :: S)))))) := by kernel_rfl
theorem rread_c (E : World) (X : Bl) (S : SW) (e r k : Nat → Bool) (w : Int) (m : Bool) (y : Int) : CallTree (pe E) 20 [.c (.p 1 0), .c (.i false .i64 y)] (X :: ⟨rk e r k w m, 31⟩ :: S) (.leaf (.c (.i false .u16 (rdV e r k w m y)), X :: ⟨rk e r k w m, 31⟩ :: S)) := by
  refine call_conF (t := .node (y == 304) (.leaf (.c (.i false .u16 (sumN (fun j => !(k j)) 10)), X :: ⟨rk e r k w m, 31⟩ :: S)) (.node (y == 306) (.leaf (.c (.i false .u16 w), X :: ⟨rk e r k w m, 31⟩ :: S)) (.node (y == 512) (.leaf (.c (.i false .u16 (sumN e 14)), X :: ⟨rk e r k w m, 31⟩ :: S)) (.node (y == 514) (.leaf (.c (.i false .u16 (sumN r 14)), X :: ⟨rk e r k w m, 31⟩ :: S)) (.leaf (.c (.i false .u16 (cond (y == 520) (cond m 1 0) 0)), X :: ⟨rk e r k w m, 31⟩ :: S)))))) ?_ (by
    unfold rdV
    refine ⟨fun h => by rw [h]; exact ⟨⟨rfl, rfl⟩, refS_refl _⟩, fun h1 => ⟨fun h => by rw [h1, h]; exact ⟨⟨rfl, rfl⟩, refS_refl _⟩, fun h2 => ⟨fun h => by rw [h1, h2, h]; exact ⟨⟨rfl, rfl⟩, refS_refl _⟩, fun h3 => ⟨fun h => by rw [h1, h2, h3, h]; exact ⟨⟨rfl, rfl⟩, refS_refl _⟩, fun h => by rw [h1, h2, h3, h]; exact ⟨⟨rfl, rfl⟩, refS_refl _⟩⟩⟩⟩⟩)
  rw [← rread_t E]
  exact fnTree_sound (P := pe E) orcK_ok tab_ok tab_sz mixed 20000 Try.func20 (by decide) [.c (.p 1 0), .c (.i false .i64 y)] _
end Go.Proofs.Ytnpngigighkegaa

