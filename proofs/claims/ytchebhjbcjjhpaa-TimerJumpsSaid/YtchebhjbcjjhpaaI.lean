import Derived.Test.YtchebhjbcjjhpaaA
set_option linter.unusedVariables false
set_option linter.unusedSimpArgs false
namespace Go.Proofs.Ytchebhjbcjjhpaa
open Go Go.Proofs Go.Proofs.Ytchebhjbcjjhpaa.Ev
set_option maxRecDepth 100000
/-- A way's end: its answer as it is wanted, and the memory. -/
def conF (r : SV × SW) : Tree (SV × SW) → Prop
  | .leaf p => SV.sim p.1 r.1 ∧ refS p.2 r.2
  | .node b t f => (b = true → conF r t) ∧ (b = false → conF r f)
  | .need b t => b = true ∧ conF r t
  | .fail => False
theorem conF_OK {r : SV × SW} : ∀ t : Tree (SV × SW), conF r t → t.OK fun p => SV.sim p.1 r.1 ∧ refS p.2 r.2 := by
  intro t
  induction t with
  | leaf x => exact id
  | node b t f iht ihf => exact fun h => ⟨fun hb => iht (h.1 hb), fun hb => ihf (h.2 hb)⟩
  | need b t ih => exact fun h => ⟨h.1, ih h.2⟩
  | fail => exact id
theorem call_conF {P : PE} {g : FuncId} {vs : List SV} {s s' : SW} {v : SV} {t : Tree (SV × SW)} (h : CallTree P g vs s t) (ht : conF (v, s') t) : CallTree P g vs s (.leaf (v, s')) := by
  intro W L ρ w post hI hok hp
  refine Calls.mono (h W L ρ w _ hI hok (conF_OK t ht)) ?_
  rintro e w' ⟨x, s1, ρ', rfl, hag, hle, hv, hI', hx, h1⟩
  simp only at h1 hx
  have hl := refS_len h1
  exact ⟨v, s', ρ', by rw [SV.sim_den hx], hag, hl ▸ hle, hl ▸ SV.sim_ok hx hv, hI'.ref h1, hp⟩
theorem C.sim_refl (x : C) : C.sim x x := by cases x <;> first | rfl | exact ⟨rfl, rfl⟩
theorem simL_refl : ∀ l : List C, simL C.sim l l
  | [] => trivial
  | [x] => C.sim_refl x
  | x :: y :: l => ⟨C.sim_refl x, simL_refl (y :: l)⟩
theorem blkSim_refl (l : List C) : blkSim l l := by cases l <;> first | trivial | exact simL_refl _
theorem refS_refl : ∀ s : SW, refS s s
  | [] => trivial
  | b :: s => ⟨⟨rfl, blkSim_refl _⟩, refS_refl s⟩
theorem refS_1 {X : Bl} {S : SW} {l l' : List C} {t : Nat} (h : blkSim l l') : refS (X :: ⟨l, t⟩ :: S) (X :: ⟨l', t⟩ :: S) := ⟨⟨rfl, blkSim_refl _⟩, ⟨rfl, h⟩, refS_refl S⟩
theorem refS_0 {S : SW} {l l' : List C} {t : Nat} (h : blkSim l l') : refS (⟨l, t⟩ :: S) (⟨l', t⟩ :: S) := ⟨⟨rfl, h⟩, refS_refl S⟩

def a1 (x y : Int) : Int := bits .and .u16 x y
def pk (p : Nat → Int) : List C := [.i false .u16 (p 0), .i false .u16 (p 1), .i false .u16 (p 2), .i false .i64 (p 3), .i false .u16 (p 4), .i false .u16 (p 5), .i false .u16 (p 6), .i false .i64 (p 7), .i false .u16 (p 8), .i false .u16 (p 9), .i false .u16 (p 10), .i false .i64 (p 11), .i false .u16 (p 12), .i false .u16 (p 13), .i false .u16 (p 14), .i false .i64 (p 15)]
def rk (r : Nat → Int) (w : Int) : List C := [.i false .i64 (r 0), .i false .u16 (r 1), .i false .i64 (r 2), .i false .i64 (r 3), .i false .i64 (r 4), .i false .u16 (r 5), .i false .i64 (r 6), .i false .i64 (r 7), .i false .i64 (r 8), .i false .u16 (r 9), .i false .i64 (r 10), .i false .i64 (r 11), .i false .i64 (r 12), .i false .u16 (r 13), .i false .i64 (r 14), .i false .i64 (r 15), .i false .i64 w]
def stp (c : Int) : Int := selI [1, 64, 256, 1024] (a1 c 3)
def dueV (c n s : Int) : Int := IntKind.i64.wrap (s + IntKind.i64.wrap (IntKind.i64.wrap (65536 - IntKind.i64.wrap n) * stp c))
theorem in3 (c : Int) : inB (a1 c 3) 4 = true := by
  have h : a1 c 3 = c % 4 := and_m2 .u16 c (by decide)
  rw [h]
  simp only [inB, Bool.and_eq_true, decide_eq_true_eq]; omega
theorem step_p (E : World) (a b c d : Int) :
    (conP (.c (.i false .i64 (stp b))) (fnTree (pe E) (orcA E) (tabL fns) 20000 Try.f26 [.a [.i false .u16 a, .i false .u16 b, .i false .u16 c, .i false .i64 d]] [])) =
    (inB (bits BinOp.and IntKind.u16 b (3 : Int)) (4 : Nat) = true ∧ IntKind.i64 = IntKind.i64 ∧ selI [(1 : Int), (64 : Int), (256 : Int), (1024 : Int)] (bits BinOp.and
      IntKind.u16 b (3 : Int)) = stp b) := by kernel_rfl
theorem due_p (E : World) (a b c d : Int) :
    (conP (.c (.i false .i64 (dueV b c d))) (fnTree (pe E) (orcA E) (tabL fns) 20000 Try.f27 [.a [.i false .u16 a, .i false .u16 b, .i false .u16 c, .i false .i64 d]] [])) =
    (inB (bits BinOp.and IntKind.u16 b (3 : Int)) (4 : Nat) = true ∧ IntKind.i64 = IntKind.i64 ∧ IntKind.i64.wrap (d + IntKind.i64.wrap (IntKind.i64.wrap ((65536 : Int) -
      IntKind.i64.wrap c) * selI [(1 : Int), (64 : Int), (256 : Int), (1024 : Int)] (bits BinOp.and IntKind.u16 b (3 : Int)))) = dueV b c d) := by kernel_rfl
theorem step_c (E : World) (a b c d : Int) (s : SW) : CallTree (pe E) 26 [.a [.i false .u16 a, .i false .u16 b, .i false .u16 c, .i false .i64 d]] s (.leaf (.c (.i false .i64 (stp b)), s)) :=
  pure_contractH (fnTree_sound (P := pe E) orcA_ok tab_ok tab_sz mixed 20000 Try.func26 (by decide) _ []) (by simp [SV.ok, C.ok, okL]) (v := .c (.i false .i64 (stp b))) rfl ⟨by rw [step_p]; exact ⟨in3 b, rfl, rfl⟩⟩ s
theorem due_c (E : World) (a b c d : Int) (s : SW) : CallTree (pe E) 27 [.a [.i false .u16 a, .i false .u16 b, .i false .u16 c, .i false .i64 d]] s (.leaf (.c (.i false .i64 (dueV b c d)), s)) :=
  pure_contractH (fnTree_sound (P := pe E) orcA_ok tab_ok tab_sz mixed 20000 Try.func27 (by decide) _ []) (by simp [SV.ok, C.ok, okL]) (v := .c (.i false .i64 (dueV b c d))) rfl ⟨by rw [due_p]; exact ⟨in3 b, rfl, rfl⟩⟩ s
def orcB (E : World) : Orc := fun g vs s => match g, vs with
  | 26, [.a [.i _ .u16 a, .i _ .u16 b, .i _ .u16 c, .i _ .i64 d]] => some (.leaf (.c (.i false .i64 (stp b)), s))
  | 27, [.a [.i _ .u16 a, .i _ .u16 b, .i _ .u16 c, .i _ .i64 d]] => some (.leaf (.c (.i false .i64 (dueV b c d)), s))
  | g, vs => orcA E g vs s
theorem orcB_ok {E : World} : OrcOK (pe E) (orcB E) := by
  intro g vs s t h
  unfold orcB at h
  split at h
  · rename_i l1 a l2 b l3 c l4 d
    cases h
    exact CallTree.args (vs' := [.a [.i false .u16 a, .i false .u16 b, .i false .u16 c, .i false .i64 d]]) ⟨⟨rfl, rfl⟩, ⟨rfl, rfl⟩, ⟨rfl, rfl⟩, rfl, rfl⟩ (step_c E a b c d s)
  · rename_i l1 a l2 b l3 c l4 d
    cases h
    exact CallTree.args (vs' := [.a [.i false .u16 a, .i false .u16 b, .i false .u16 c, .i false .i64 d]]) ⟨⟨rfl, rfl⟩, ⟨rfl, rfl⟩, ⟨rfl, rfl⟩, rfl, rfl⟩ (due_c E a b c d s)
  · exact orcA_ok _ _ _ _ h
def cnt (p : Nat → Int) (i : Nat) : Bool := a1 (p (4 * i + 1)) 128 != 0
def fol (p : Nat → Int) (i : Nat) : Bool := cond (Nat.beq i 0) true (a1 (p (4 * i + 1)) 4 == 0)
def ind (p : Nat → Int) (i : Nat) : Bool := cnt p i && fol p i
def due (p : Nat → Int) (i : Nat) : Int := dueV (p (4 * i + 1)) (p (4 * i + 2)) (p (4 * i + 3))
theorem cnt0_t (E : World) (S : SW) (p : Nat → Int) : fnTree (pe E) (orcB E) (tabL fns) 20000 Try.f24 [.c (.p 0 0), .c (.i true .i64 0)] (⟨pk p, 56⟩ :: S) = ((.leaf (.c (.b false (cnt p 0)), ⟨pk p, 56⟩ :: S))) := by kernel_rfl
theorem cnt0_c (E : World) (S : SW) (p : Nat → Int) : CallTree (pe E) 24 [.c (.p 0 0), .c (.i true .i64 0)] (⟨pk p, 56⟩ :: S) (.leaf (.c (.b false (cnt p 0)), ⟨pk p, 56⟩ :: S)) := by
  refine call_conF (t := (.leaf (.c (.b false (cnt p 0)), ⟨pk p, 56⟩ :: S))) ?_ (⟨rfl, refS_refl _⟩)
  rw [← cnt0_t E]
  exact fnTree_sound (P := pe E) orcB_ok tab_ok tab_sz mixed 20000 Try.func24 (by decide) [.c (.p 0 0), .c (.i true .i64 0)] _
theorem ind0_t (E : World) (S : SW) (p : Nat → Int) : fnTree (pe E) (orcB E) (tabL fns) 20000 Try.f25 [.c (.p 0 0), .c (.i true .i64 0)] (⟨pk p, 56⟩ :: S) = (.node (cnt p 0) (.leaf (.c (.b true true), ⟨pk p, 56⟩ :: S)) (.leaf (.c (.b true false), ⟨pk p, 56⟩ :: S))) := by kernel_rfl
theorem ind0_c (E : World) (S : SW) (p : Nat → Int) : CallTree (pe E) 25 [.c (.p 0 0), .c (.i true .i64 0)] (⟨pk p, 56⟩ :: S) (.leaf (.c (.b false (ind p 0)), ⟨pk p, 56⟩ :: S)) := by
  refine call_conF (t := .node (cnt p 0) (.leaf (.c (.b true true), ⟨pk p, 56⟩ :: S)) (.leaf (.c (.b true false), ⟨pk p, 56⟩ :: S))) ?_ (⟨fun h => ⟨by show _ = (cnt p 0 && fol p 0); rw [h]; rfl, refS_refl _⟩, fun h => ⟨by show _ = (cnt p 0 && fol p 0); rw [h]; rfl, refS_refl _⟩⟩)
  rw [← ind0_t E]
  exact fnTree_sound (P := pe E) orcB_ok tab_ok tab_sz mixed 20000 Try.func25 (by decide) [.c (.p 0 0), .c (.i true .i64 0)] _
theorem cnt1_t (E : World) (S : SW) (p : Nat → Int) : fnTree (pe E) (orcB E) (tabL fns) 20000 Try.f24 [.c (.p 0 0), .c (.i true .i64 1)] (⟨pk p, 56⟩ :: S) = ((.leaf (.c (.b false (cnt p 1)), ⟨pk p, 56⟩ :: S))) := by kernel_rfl
theorem cnt1_c (E : World) (S : SW) (p : Nat → Int) : CallTree (pe E) 24 [.c (.p 0 0), .c (.i true .i64 1)] (⟨pk p, 56⟩ :: S) (.leaf (.c (.b false (cnt p 1)), ⟨pk p, 56⟩ :: S)) := by
  refine call_conF (t := (.leaf (.c (.b false (cnt p 1)), ⟨pk p, 56⟩ :: S))) ?_ (⟨rfl, refS_refl _⟩)
  rw [← cnt1_t E]
  exact fnTree_sound (P := pe E) orcB_ok tab_ok tab_sz mixed 20000 Try.func24 (by decide) [.c (.p 0 0), .c (.i true .i64 1)] _
theorem ind1_t (E : World) (S : SW) (p : Nat → Int) : fnTree (pe E) (orcB E) (tabL fns) 20000 Try.f25 [.c (.p 0 0), .c (.i true .i64 1)] (⟨pk p, 56⟩ :: S) = (.node (cnt p 1) (.leaf (.c (.b false (fol p 1)), ⟨pk p, 56⟩ :: S)) (.leaf (.c (.b true false), ⟨pk p, 56⟩ :: S))) := by kernel_rfl
theorem ind1_c (E : World) (S : SW) (p : Nat → Int) : CallTree (pe E) 25 [.c (.p 0 0), .c (.i true .i64 1)] (⟨pk p, 56⟩ :: S) (.leaf (.c (.b false (ind p 1)), ⟨pk p, 56⟩ :: S)) := by
  refine call_conF (t := .node (cnt p 1) (.leaf (.c (.b false (fol p 1)), ⟨pk p, 56⟩ :: S)) (.leaf (.c (.b true false), ⟨pk p, 56⟩ :: S))) ?_ (⟨fun h => ⟨by show _ = (cnt p 1 && fol p 1); rw [h]; rfl, refS_refl _⟩, fun h => ⟨by show _ = (cnt p 1 && fol p 1); rw [h]; rfl, refS_refl _⟩⟩)
  rw [← ind1_t E]
  exact fnTree_sound (P := pe E) orcB_ok tab_ok tab_sz mixed 20000 Try.func25 (by decide) [.c (.p 0 0), .c (.i true .i64 1)] _
theorem cnt2_t (E : World) (S : SW) (p : Nat → Int) : fnTree (pe E) (orcB E) (tabL fns) 20000 Try.f24 [.c (.p 0 0), .c (.i true .i64 2)] (⟨pk p, 56⟩ :: S) = ((.leaf (.c (.b false (cnt p 2)), ⟨pk p, 56⟩ :: S))) := by kernel_rfl
theorem cnt2_c (E : World) (S : SW) (p : Nat → Int) : CallTree (pe E) 24 [.c (.p 0 0), .c (.i true .i64 2)] (⟨pk p, 56⟩ :: S) (.leaf (.c (.b false (cnt p 2)), ⟨pk p, 56⟩ :: S)) := by
  refine call_conF (t := (.leaf (.c (.b false (cnt p 2)), ⟨pk p, 56⟩ :: S))) ?_ (⟨rfl, refS_refl _⟩)
  rw [← cnt2_t E]
  exact fnTree_sound (P := pe E) orcB_ok tab_ok tab_sz mixed 20000 Try.func24 (by decide) [.c (.p 0 0), .c (.i true .i64 2)] _
theorem ind2_t (E : World) (S : SW) (p : Nat → Int) : fnTree (pe E) (orcB E) (tabL fns) 20000 Try.f25 [.c (.p 0 0), .c (.i true .i64 2)] (⟨pk p, 56⟩ :: S) = (.node (cnt p 2) (.leaf (.c (.b false (fol p 2)), ⟨pk p, 56⟩ :: S)) (.leaf (.c (.b true false), ⟨pk p, 56⟩ :: S))) := by kernel_rfl
theorem ind2_c (E : World) (S : SW) (p : Nat → Int) : CallTree (pe E) 25 [.c (.p 0 0), .c (.i true .i64 2)] (⟨pk p, 56⟩ :: S) (.leaf (.c (.b false (ind p 2)), ⟨pk p, 56⟩ :: S)) := by
  refine call_conF (t := .node (cnt p 2) (.leaf (.c (.b false (fol p 2)), ⟨pk p, 56⟩ :: S)) (.leaf (.c (.b true false), ⟨pk p, 56⟩ :: S))) ?_ (⟨fun h => ⟨by show _ = (cnt p 2 && fol p 2); rw [h]; rfl, refS_refl _⟩, fun h => ⟨by show _ = (cnt p 2 && fol p 2); rw [h]; rfl, refS_refl _⟩⟩)
  rw [← ind2_t E]
  exact fnTree_sound (P := pe E) orcB_ok tab_ok tab_sz mixed 20000 Try.func25 (by decide) [.c (.p 0 0), .c (.i true .i64 2)] _
theorem cnt3_t (E : World) (S : SW) (p : Nat → Int) : fnTree (pe E) (orcB E) (tabL fns) 20000 Try.f24 [.c (.p 0 0), .c (.i true .i64 3)] (⟨pk p, 56⟩ :: S) = ((.leaf (.c (.b false (cnt p 3)), ⟨pk p, 56⟩ :: S))) := by kernel_rfl
theorem cnt3_c (E : World) (S : SW) (p : Nat → Int) : CallTree (pe E) 24 [.c (.p 0 0), .c (.i true .i64 3)] (⟨pk p, 56⟩ :: S) (.leaf (.c (.b false (cnt p 3)), ⟨pk p, 56⟩ :: S)) := by
  refine call_conF (t := (.leaf (.c (.b false (cnt p 3)), ⟨pk p, 56⟩ :: S))) ?_ (⟨rfl, refS_refl _⟩)
  rw [← cnt3_t E]
  exact fnTree_sound (P := pe E) orcB_ok tab_ok tab_sz mixed 20000 Try.func24 (by decide) [.c (.p 0 0), .c (.i true .i64 3)] _
theorem ind3_t (E : World) (S : SW) (p : Nat → Int) : fnTree (pe E) (orcB E) (tabL fns) 20000 Try.f25 [.c (.p 0 0), .c (.i true .i64 3)] (⟨pk p, 56⟩ :: S) = (.node (cnt p 3) (.leaf (.c (.b false (fol p 3)), ⟨pk p, 56⟩ :: S)) (.leaf (.c (.b true false), ⟨pk p, 56⟩ :: S))) := by kernel_rfl
theorem ind3_c (E : World) (S : SW) (p : Nat → Int) : CallTree (pe E) 25 [.c (.p 0 0), .c (.i true .i64 3)] (⟨pk p, 56⟩ :: S) (.leaf (.c (.b false (ind p 3)), ⟨pk p, 56⟩ :: S)) := by
  refine call_conF (t := .node (cnt p 3) (.leaf (.c (.b false (fol p 3)), ⟨pk p, 56⟩ :: S)) (.leaf (.c (.b true false), ⟨pk p, 56⟩ :: S))) ?_ (⟨fun h => ⟨by show _ = (cnt p 3 && fol p 3); rw [h]; rfl, refS_refl _⟩, fun h => ⟨by show _ = (cnt p 3 && fol p 3); rw [h]; rfl, refS_refl _⟩⟩)
  rw [← ind3_t E]
  exact fnTree_sound (P := pe E) orcB_ok tab_ok tab_sz mixed 20000 Try.func25 (by decide) [.c (.p 0 0), .c (.i true .i64 3)] _
end Go.Proofs.Ytchebhjbcjjhpaa

