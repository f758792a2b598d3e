import Derived.Test.YtbnglhfhmhnimaaF
set_option linter.unusedVariables false
set_option linter.unusedSimpArgs false
namespace Go.Proofs.Ytbnglhfhmhnimaa
open Go Go.Proofs Go.Proofs.Ytbnglhfhmhnimaa.Ev
set_option maxRecDepth 100000
/-- A way's end: its answer as it is wanted, and the memory. -/
def conF (r : SV × SW) : Tree (SV × SW) → Prop
  | .leaf p => SV.sim p.1 r.1 ∧ refS p.2 r.2
  | .node b t f => (b = true → conF r t) ∧ (b = false → conF r f)
  | .need b t => b = true ∧ conF r t
  | .fail => False
theorem conF_OK {r : SV × SW} : ∀ t : Tree (SV × SW), conF r t → t.OK fun p => SV.sim p.1 r.1 ∧ refS p.2 r.2 := by
  intro t
  induction t with
  | leaf x => exact id
  | node b t f iht ihf => exact fun h => ⟨fun hb => iht (h.1 hb), fun hb => ihf (h.2 hb)⟩
  | need b t ih => exact fun h => ⟨h.1, ih h.2⟩
  | fail => exact id
theorem call_conF {P : PE} {g : FuncId} {vs : List SV} {s s' : SW} {v : SV} {t : Tree (SV × SW)} (h : CallTree P g vs s t) (ht : conF (v, s') t) : CallTree P g vs s (.leaf (v, s')) := by
  intro W L ρ w post hI hok hp
  refine Calls.mono (h W L ρ w _ hI hok (conF_OK t ht)) ?_
  rintro e w' ⟨x, s1, ρ', rfl, hag, hle, hv, hI', hx, h1⟩
  simp only at h1 hx
  have hl := refS_len h1
  exact ⟨v, s', ρ', by rw [SV.sim_den hx], hag, hl ▸ hle, hl ▸ SV.sim_ok hx hv, hI'.ref h1, hp⟩
theorem C.sim_refl (x : C) : C.sim x x := by cases x <;> first | rfl | exact ⟨rfl, rfl⟩
theorem simL_refl : ∀ l : List C, simL C.sim l l
  | [] => trivial
  | [x] => C.sim_refl x
  | x :: y :: l => ⟨C.sim_refl x, simL_refl (y :: l)⟩
theorem blkSim_refl (l : List C) : blkSim l l := by cases l <;> first | trivial | exact simL_refl _
theorem refS_refl : ∀ s : SW, refS s s
  | [] => trivial
  | b :: s => ⟨⟨rfl, blkSim_refl _⟩, refS_refl s⟩
theorem refS_1 {X : Bl} {S : SW} {l l' : List C} {t : Nat} (h : blkSim l l') : refS (X :: ⟨l, t⟩ :: S) (X :: ⟨l', t⟩ :: S) := ⟨⟨rfl, blkSim_refl _⟩, ⟨rfl, h⟩, refS_refl S⟩
theorem refS_0 {S : SW} {l l' : List C} {t : Nat} (h : blkSim l l') : refS (⟨l, t⟩ :: S) (⟨l', t⟩ :: S) := ⟨⟨rfl, h⟩, refS_refl S⟩

def tabL9 : List C := [.i true .i64 2, .str true (ByteArray.mk #[99, 99, 99, 99, 48, 48, 48, 48, 48, 48, 65, 70, 100, 100, 100, 100, 110, 110, 110, 110, 115, 115, 115, 115, 49, 48, 48, 49, 109, 109, 109, 109]), .i true .i64 3, .str true (ByteArray.mk #[99, 99, 99, 99, 48, 48, 48, 48, 49, 83, 65, 70, 100, 100, 100, 100, 110, 110, 110, 110, 115, 115, 115, 115, 49, 48, 48, 49, 109, 109, 109, 109]), .i true .i64 4, .str true (ByteArray.mk #[99, 99, 99, 99, 48, 48, 48, 49, 48, 66, 48, 48, 110, 110, 110, 110, 100, 100, 100, 100, 48, 48, 48, 48, 49, 48, 48, 49, 109, 109, 109, 109]), .i true .i64 6, .str true (ByteArray.mk #[99, 99, 99, 99, 48, 48, 48, 80, 85, 48, 87, 49, 110, 110, 110, 110, 100, 100, 100, 100, 46, 46, 46, 46, 49, 72, 72, 49, 109, 109, 109, 109]), .i true .i64 6, .str true (ByteArray.mk #[99, 99, 99, 99, 48, 48, 48, 80, 85, 48, 87, 48, 110, 110, 110, 110, 100, 100, 100, 100, 46, 46, 46, 46, 49, 48, 49, 49, 109, 109, 109, 109]), .i true .i64 6, .str true (ByteArray.mk #[99, 99, 99, 99, 48, 48, 48, 80, 85, 49, 87, 49, 110, 110, 110, 110, 100, 100, 100, 100, 73, 73, 73, 73, 49, 72, 72, 49, 73, 73, 73, 73]), .i true .i64 6, .str true (ByteArray.mk #[99, 99, 99, 99, 48, 48, 48, 80, 85, 49, 87, 48, 110, 110, 110, 110, 100, 100, 100, 100, 73, 73, 73, 73, 49, 48, 49, 49, 73, 73, 73, 73]), .i true .i64 5, .str true (ByteArray.mk #[99, 99, 99, 99, 48, 48, 48, 49, 48, 48, 49, 48, 49, 49, 49, 49, 49, 49, 49, 49, 49, 49, 49, 49, 48, 48, 48, 49, 109, 109, 109, 109]), .i true .i64 11, .str true (ByteArray.mk #[99, 99, 99, 99, 48, 48, 48, 49, 48, 81, 48, 48, 49, 49, 49, 49, 100, 100, 100, 100, 48, 48, 48, 48, 48, 48, 48, 48, 48, 48, 48, 48]), .i true .i64 12, .str true (ByteArray.mk #[99, 99, 99, 99, 48, 48, 48, 49, 48, 81, 49, 48, 108, 108, 108, 108, 49, 49, 49, 49, 48, 48, 48, 48, 48, 48, 48, 48, 109, 109, 109, 109]), .i true .i64 12, .str true (ByteArray.mk #[99, 99, 99, 99, 48, 48, 49, 49, 48, 81, 49, 48, 108, 108, 108, 108, 49, 49, 49, 49, 97, 97, 97, 97, 73, 73, 73, 73, 73, 73, 73, 73]), .i true .i64 1, .str true (ByteArray.mk #[99, 99, 99, 99, 48, 48, 48, 111, 111, 111, 111, 70, 110, 110, 110, 110, 100, 100, 100, 100, 97, 97, 97, 97, 97, 116, 116, 48, 109, 109, 109, 109]), .i true .i64 1, .str true (ByteArray.mk #[99, 99, 99, 99, 48, 48, 48, 111, 111, 111, 111, 70, 110, 110, 110, 110, 100, 100, 100, 100, 115, 115, 115, 115, 48, 116, 116, 49, 109, 109, 109, 109]), .i true .i64 1, .str true (ByteArray.mk #[99, 99, 99, 99, 48, 48, 49, 111, 111, 111, 111, 70, 110, 110, 110, 110, 100, 100, 100, 100, 97, 97, 97, 97, 73, 73, 73, 73, 73, 73, 73, 73]), .i true .i64 7, .str true (ByteArray.mk #[99, 99, 99, 99, 48, 49, 48, 80, 85, 66, 87, 76, 110, 110, 110, 110, 100, 100, 100, 100, 73, 73, 73, 73, 73, 73, 73, 73, 73, 73, 73, 73]), .i true .i64 7, .str true (ByteArray.mk #[99, 99, 99, 99, 48, 49, 49, 80, 85, 66, 87, 76, 110, 110, 110, 110, 100, 100, 100, 100, 97, 97, 97, 97, 97, 116, 116, 48, 109, 109, 109, 109]), .i true .i64 8, .str true (ByteArray.mk #[99, 99, 99, 99, 49, 48, 48, 80, 85, 81, 87, 76, 110, 110, 110, 110, 108, 108, 108, 108, 108, 108, 108, 108, 108, 108, 108, 108, 108, 108, 108, 108]), .i true .i64 9, .str true (ByteArray.mk #[99, 99, 99, 99, 49, 48, 49, 75, 73, 73, 73, 73, 73, 73, 73, 73, 73, 73, 73, 73, 73, 73, 73, 73, 73, 73, 73, 73, 73, 73, 73, 73]), .i true .i64 10, .str true (ByteArray.mk #[99, 99, 99, 99, 49, 49, 49, 49, 73, 73, 73, 73, 73, 73, 73, 73, 46, 46, 46, 46, 46, 46, 46, 46, 46, 46, 46, 46, 46, 46, 46, 46])]
def tabB : Bl := ⟨tabL9, 35⟩
def litC : C → C → Bool
  | .b true a, .b true b => a == b
  | .i true k n, .i true k' n' => decide (k = k') && (n == n')
  | .str true s, .str true s' => decide (s = s')
  | _, _ => false
def litL : List C → List C → Bool
  | [], [] => true
  | x :: xs, y :: ys => litC x y && litL xs ys
  | _, _ => false
theorem litC_eq {x y : C} (h : litC x y = true) : x = y := by
  unfold litC at h
  split at h
  · simp at h; rw [h]
  · simp at h; rw [h.1, h.2]
  · simp at h; rw [h]
  · cases h
theorem litL_eq : ∀ {x y : List C}, litL x y = true → x = y
  | [], [], _ => rfl
  | x :: xs, y :: ys, h => by
    simp only [litL, Bool.and_eq_true] at h
    rw [litC_eq h.1, litL_eq h.2]
  | [], _ :: _, h => by cases h
  | _ :: _, [], h => by cases h
def tabM (X : Bl) : Tree (SV × SW) → Bool
  | .leaf (.c (.slc 1 0 19 19), [Y, ⟨l, 35⟩]) => litL l tabL9
  | _ => false
def tabX : Tree (SV × SW) → Option Bl
  | .leaf (_, [Y, _]) => some Y
  | _ => none
theorem tab_t (E : World) (X : Bl) : (tabM X (fnTree (pe E) (orcS E) (tabL fns) 20000 Try.f11 [] [X]), tabX (fnTree (pe E) (orcS E) (tabL fns) 20000 Try.f11 [] [X])) = (true, some X) := by kernel_rfl
theorem tabM_eq {X : Bl} {t : Tree (SV × SW)} (h : (tabM X t, tabX t) = (true, some X)) : t = .leaf (.c (.slc 1 0 19 19), [X, tabB]) := by
  obtain ⟨h1, h2⟩ := Prod.mk.inj h
  unfold tabM at h1
  split at h1
  · rename_i Y l
    simp [tabX] at h2
    subst h2
    rw [litL_eq h1]; rfl
  · cases h1
theorem tab_c (E : World) (X : Bl) : CallTree (pe E) 11 [] [X] (.leaf (.c (.slc 1 0 19 19), [X, tabB])) := by
  rw [← tabM_eq (tab_t E X)]
  exact fnTree_sound (P := pe E) orcS_ok tab_ok tab_sz mixed 20000 Try.func11 (by decide) [] [X]
def orcT (E : World) : Orc := fun g vs s => match g, vs, s with
  | 11, [], [X] => some (.leaf (.c (.slc 1 0 19 19), [X, tabB]))
  | g, vs, s => orcS E g vs s
theorem orcT_ok {E : World} : OrcOK (pe E) (orcT E) := by
  intro g vs s t h
  unfold orcT at h
  split at h
  · cases h
    exact tab_c E _
  · exact orcS_ok _ _ _ _ h
end Go.Proofs.Ytbnglhfhmhnimaa

