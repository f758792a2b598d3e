import Derived.Test.YtchebhjbcjjhpaaRows
import Derived.Test.YtchebhjbcjjhpaaEw
set_option linter.unusedVariables false
set_option linter.unusedSimpArgs false
namespace Go.Proofs.Ytchebhjbcjjhpaa
open Go Go.Proofs Go.Proofs.Ytchebhjbcjjhpaa.Ev

noncomputable def fns : List (FuncId × Func) := [(3, Try.f3), (4, Try.f4), (5, Try.f5), (6, Try.f6), (7, Try.f7), (8, Try.f8), (9, Try.f9), (10, Try.f10), (11, Try.f11), (12, Try.f12), (13, Try.f13), (14, Try.f14), (15, Try.f15), (16, Try.f16), (17, Try.f17), (18, Try.f18), (19, Try.f19), (20, Try.f20), (21, Try.f21), (22, Try.f22), (23, Try.f23), (24, Try.f24), (25, Try.f25), (26, Try.f26), (27, Try.f27)]
theorem fns_ok : ∀ p, p ∈ fns → FnOK Try.prog p :=
  fn_cons ⟨Try.func3, by decide, rfl, by decide⟩ <|
  fn_cons ⟨Try.func4, by decide, rfl, by decide⟩ <|
  fn_cons ⟨Try.func5, by decide, rfl, by decide⟩ <|
  fn_cons ⟨Try.func6, by decide, rfl, by decide⟩ <|
  fn_cons ⟨Try.func7, by decide, rfl, by decide⟩ <|
  fn_cons ⟨Try.func8, by decide, rfl, by decide⟩ <|
  fn_cons ⟨Try.func9, by decide, rfl, by decide⟩ <|
  fn_cons ⟨Try.func10, by decide, rfl, by decide⟩ <|
  fn_cons ⟨Try.func11, by decide, rfl, by decide⟩ <|
  fn_cons ⟨Try.func12, by decide, rfl, by decide⟩ <|
  fn_cons ⟨Try.func13, by decide, rfl, by decide⟩ <|
  fn_cons ⟨Try.func14, by decide, rfl, by decide⟩ <|
  fn_cons ⟨Try.func15, by decide, rfl, by decide⟩ <|
  fn_cons ⟨Try.func16, by decide, rfl, by decide⟩ <|
  fn_cons ⟨Try.func17, by decide, rfl, by decide⟩ <|
  fn_cons ⟨Try.func18, by decide, rfl, by decide⟩ <|
  fn_cons ⟨Try.func19, by decide, rfl, by decide⟩ <|
  fn_cons ⟨Try.func20, by decide, rfl, by decide⟩ <|
  fn_cons ⟨Try.func21, by decide, rfl, by decide⟩ <|
  fn_cons ⟨Try.func22, by decide, rfl, by decide⟩ <|
  fn_cons ⟨Try.func23, by decide, rfl, by decide⟩ <|
  fn_cons ⟨Try.func24, by decide, rfl, by decide⟩ <|
  fn_cons ⟨Try.func25, by decide, rfl, by decide⟩ <|
  fn_cons ⟨Try.func26, by decide, rfl, by decide⟩ <|
  fn_cons ⟨Try.func27, by decide, rfl, by decide⟩ <| fn_nil
theorem tab_ok : TabOK Try.prog (tabL fns) := tabL_ok fns_ok
theorem tab_sz : ∀ g fn, tabL fns g = some fn → fn.ntmps < 4095 := tabL_sz fns_ok
theorem mixed : Try.prog.follows .mixedOrders = true := by kernel_rfl


def out (i : Int) : Bool := decide (i < 0 ∨ 3 < i)
theorem awake_p  :
    (conP (.c (.b true true)) (fnTree Try.prog orcNone (tabL fns) 20000 Try.f8 [] [])) =
    (true = true) := by kernel_rfl
theorem has_p (a0 a1 a2 a3 a4 a5 a6 a7 a8 a9 a10 a11 a12 a13 a14 a15 : Int) (i : Int) :
    (conH (.c (.b true false)) [⟨[.i false .u16 a0, .i false .u16 a1, .i false .u16 a2, .i false .i64 a3, .i false .u16 a4, .i false .u16 a5, .i false .u16 a6, .i false .i64 a7, .i false .u16 a8, .i false .u16 a9, .i false .u16 a10, .i false .i64 a11, .i false .u16 a12, .i false .u16 a13, .i false .u16 a14, .i false .i64 a15], 56⟩] (fnTree Try.prog orcNone (tabL fns) 1000 Try.f23 [.c (.p 0 0), .c (.i false .i64 i)] [⟨[.i false .u16 a0, .i false .u16 a1, .i false .u16 a2, .i false .i64 a3, .i false .u16 a4, .i false .u16 a5, .i false .u16 a6, .i false .i64 a7, .i false .u16 a8, .i false .u16 a9, .i false .u16 a10, .i false .i64 a11, .i false .u16 a12, .i false .u16 a13, .i false .u16 a14, .i false .i64 a15], 56⟩])) =
    ((decide (i ≥ (0 : Int)) = true → decide (i < (4 : Int)) = false ∧ ((56 : Nat) = (56 : Nat) ∧ (IntKind.u16 = IntKind.u16 ∧ a0 = a0) ∧ (IntKind.u16 = IntKind.u16 ∧ a1 = a1)
      ∧ (IntKind.u16 = IntKind.u16 ∧ a2 = a2) ∧ (IntKind.i64 = IntKind.i64 ∧ a3 = a3) ∧ (IntKind.u16 = IntKind.u16 ∧ a4 = a4) ∧ (IntKind.u16 = IntKind.u16 ∧ a5 = a5) ∧
      (IntKind.u16 = IntKind.u16 ∧ a6 = a6) ∧ (IntKind.i64 = IntKind.i64 ∧ a7 = a7) ∧ (IntKind.u16 = IntKind.u16 ∧ a8 = a8) ∧ (IntKind.u16 = IntKind.u16 ∧ a9 = a9) ∧
      (IntKind.u16 = IntKind.u16 ∧ a10 = a10) ∧ (IntKind.i64 = IntKind.i64 ∧ a11 = a11) ∧ (IntKind.u16 = IntKind.u16 ∧ a12 = a12) ∧ (IntKind.u16 = IntKind.u16 ∧ a13 = a13) ∧
      (IntKind.u16 = IntKind.u16 ∧ a14 = a14) ∧ IntKind.i64 = IntKind.i64 ∧ a15 = a15) ∧ True) ∧ (decide (i ≥ (0 : Int)) = false → false = false ∧ ((56 : Nat) = (56 : Nat) ∧
      (IntKind.u16 = IntKind.u16 ∧ a0 = a0) ∧ (IntKind.u16 = IntKind.u16 ∧ a1 = a1) ∧ (IntKind.u16 = IntKind.u16 ∧ a2 = a2) ∧ (IntKind.i64 = IntKind.i64 ∧ a3 = a3) ∧
      (IntKind.u16 = IntKind.u16 ∧ a4 = a4) ∧ (IntKind.u16 = IntKind.u16 ∧ a5 = a5) ∧ (IntKind.u16 = IntKind.u16 ∧ a6 = a6) ∧ (IntKind.i64 = IntKind.i64 ∧ a7 = a7) ∧
      (IntKind.u16 = IntKind.u16 ∧ a8 = a8) ∧ (IntKind.u16 = IntKind.u16 ∧ a9 = a9) ∧ (IntKind.u16 = IntKind.u16 ∧ a10 = a10) ∧ (IntKind.i64 = IntKind.i64 ∧ a11 = a11) ∧
      (IntKind.u16 = IntKind.u16 ∧ a12 = a12) ∧ (IntKind.u16 = IntKind.u16 ∧ a13 = a13) ∧ (IntKind.u16 = IntKind.u16 ∧ a14 = a14) ∧ IntKind.i64 = IntKind.i64 ∧ a15 = a15) ∧
      True)) := by kernel_rfl
theorem has_ok (a0 a1 a2 a3 a4 a5 a6 a7 a8 a9 a10 a11 a12 a13 a14 a15 : Int) (i : Int) (hi : out i = true) : conH (.c (.b true false)) [⟨[.i false .u16 a0, .i false .u16 a1, .i false .u16 a2, .i false .i64 a3, .i false .u16 a4, .i false .u16 a5, .i false .u16 a6, .i false .i64 a7, .i false .u16 a8, .i false .u16 a9, .i false .u16 a10, .i false .i64 a11, .i false .u16 a12, .i false .u16 a13, .i false .u16 a14, .i false .i64 a15], 56⟩] (fnTree Try.prog orcNone (tabL fns) 1000 Try.f23 [.c (.p 0 0), .c (.i false .i64 i)] [⟨[.i false .u16 a0, .i false .u16 a1, .i false .u16 a2, .i false .i64 a3, .i false .u16 a4, .i false .u16 a5, .i false .u16 a6, .i false .i64 a7, .i false .u16 a8, .i false .u16 a9, .i false .u16 a10, .i false .i64 a11, .i false .u16 a12, .i false .u16 a13, .i false .u16 a14, .i false .i64 a15], 56⟩]) := by
  rw [has_p]
  rw [out, decide_eq_true_eq] at hi
  simp only [decide_eq_true_eq, decide_eq_false_iff_not, and_true, true_and, and_self]
  first | omega | (intros; omega) | (refine ⟨fun _ => ?_, fun _ => ?_⟩ <;> first | trivial | omega | (simp; done) | (simp; omega))
theorem has_c (l0 l1 l2 l3 l4 l5 l6 l7 l8 l9 l10 l11 l12 l13 l14 l15 : Bool) (a0 a1 a2 a3 a4 a5 a6 a7 a8 a9 a10 a11 a12 a13 a14 a15 : Int) (i : Int) (hi : out i = true) : CallTree Try.prog 23 [.c (.p 0 0), .c (.i false .i64 i)] [⟨[.i l0 .u16 a0, .i l1 .u16 a1, .i l2 .u16 a2, .i l3 .i64 a3, .i l4 .u16 a4, .i l5 .u16 a5, .i l6 .u16 a6, .i l7 .i64 a7, .i l8 .u16 a8, .i l9 .u16 a9, .i l10 .u16 a10, .i l11 .i64 a11, .i l12 .u16 a12, .i l13 .u16 a13, .i l14 .u16 a14, .i l15 .i64 a15], 56⟩] (.leaf (.c (.b true false), [⟨[.i l0 .u16 a0, .i l1 .u16 a1, .i l2 .u16 a2, .i l3 .i64 a3, .i l4 .u16 a4, .i l5 .u16 a5, .i l6 .u16 a6, .i l7 .i64 a7, .i l8 .u16 a8, .i l9 .u16 a9, .i l10 .u16 a10, .i l11 .i64 a11, .i l12 .u16 a12, .i l13 .u16 a13, .i l14 .u16 a14, .i l15 .i64 a15], 56⟩])) := by
  refine CallTree.ref2 (s' := [⟨[.i false .u16 a0, .i false .u16 a1, .i false .u16 a2, .i false .i64 a3, .i false .u16 a4, .i false .u16 a5, .i false .u16 a6, .i false .i64 a7, .i false .u16 a8, .i false .u16 a9, .i false .u16 a10, .i false .i64 a11, .i false .u16 a12, .i false .u16 a13, .i false .u16 a14, .i false .i64 a15], 56⟩]) ⟨⟨rfl, ⟨rfl, rfl⟩, ⟨rfl, rfl⟩, ⟨rfl, rfl⟩, ⟨rfl, rfl⟩, ⟨rfl, rfl⟩, ⟨rfl, rfl⟩, ⟨rfl, rfl⟩, ⟨rfl, rfl⟩, ⟨rfl, rfl⟩, ⟨rfl, rfl⟩, ⟨rfl, rfl⟩, ⟨rfl, rfl⟩, ⟨rfl, rfl⟩, ⟨rfl, rfl⟩, ⟨rfl, rfl⟩, rfl, rfl⟩, trivial⟩ (CallTree.ref (s' := [⟨[.i false .u16 a0, .i false .u16 a1, .i false .u16 a2, .i false .i64 a3, .i false .u16 a4, .i false .u16 a5, .i false .u16 a6, .i false .i64 a7, .i false .u16 a8, .i false .u16 a9, .i false .u16 a10, .i false .i64 a11, .i false .u16 a12, .i false .u16 a13, .i false .u16 a14, .i false .i64 a15], 56⟩]) ⟨⟨rfl, ⟨rfl, rfl⟩, ⟨rfl, rfl⟩, ⟨rfl, rfl⟩, ⟨rfl, rfl⟩, ⟨rfl, rfl⟩, ⟨rfl, rfl⟩, ⟨rfl, rfl⟩, ⟨rfl, rfl⟩, ⟨rfl, rfl⟩, ⟨rfl, rfl⟩, ⟨rfl, rfl⟩, ⟨rfl, rfl⟩, ⟨rfl, rfl⟩, ⟨rfl, rfl⟩, ⟨rfl, rfl⟩, rfl, rfl⟩, trivial⟩ ?_)
  exact heap_contract (fnTree_sound orcNone_ok tab_ok tab_sz mixed 1000 Try.func23 (by decide) [.c (.p 0 0), .c (.i false .i64 i)] [⟨[.i false .u16 a0, .i false .u16 a1, .i false .u16 a2, .i false .i64 a3, .i false .u16 a4, .i false .u16 a5, .i false .u16 a6, .i false .i64 a7, .i false .u16 a8, .i false .u16 a9, .i false .u16 a10, .i false .i64 a11, .i false .u16 a12, .i false .u16 a13, .i false .u16 a14, .i false .i64 a15], 56⟩]) (has_ok a0 a1 a2 a3 a4 a5 a6 a7 a8 a9 a10 a11 a12 a13 a14 a15 i hi)
def orcW : Orc := fun g vs s => match g, vs, s with
  | 23, [.c (.p 0 0), .c (.i false .i64 i)], [⟨[.i l0 .u16 a0, .i l1 .u16 a1, .i l2 .u16 a2, .i l3 .i64 a3, .i l4 .u16 a4, .i l5 .u16 a5, .i l6 .u16 a6, .i l7 .i64 a7, .i l8 .u16 a8, .i l9 .u16 a9, .i l10 .u16 a10, .i l11 .i64 a11, .i l12 .u16 a12, .i l13 .u16 a13, .i l14 .u16 a14, .i l15 .i64 a15], 56⟩] => some (.need (out i) (.leaf (.c (.b true false), [⟨[.i l0 .u16 a0, .i l1 .u16 a1, .i l2 .u16 a2, .i l3 .i64 a3, .i l4 .u16 a4, .i l5 .u16 a5, .i l6 .u16 a6, .i l7 .i64 a7, .i l8 .u16 a8, .i l9 .u16 a9, .i l10 .u16 a10, .i l11 .i64 a11, .i l12 .u16 a12, .i l13 .u16 a13, .i l14 .u16 a14, .i l15 .i64 a15], 56⟩])))
  | _, _, _ => none
theorem orcW_ok : OrcOK Try.prog orcW := by
  intro g vs s t h
  unfold orcW at h
  split at h
  · cases h
    exact CallTree.need fun hi => has_c _ _ _ _ _ _ _ _ _ _ _ _ _ _ _ _ _ _ _ _ _ _ _ _ _ _ _ _ _ _ _ _ _ hi
  · cases h
set_option maxRecDepth 100000 in
theorem awake_c (s : SW) : CallTree Try.prog 8 [] s (.leaf (.c (.b true true), s)) := by
  exact pure_contract (fnTree_sound orcNone_ok tab_ok tab_sz mixed 20000 Try.func8 (by decide) [] []) (by simp [SV.ok, C.ok, okL]) (v := .c (.b true true)) rfl (conP_OK _ (by rw [awake_p])) s
def orc2 : Orc := fun g vs s => match g, vs with
  | 8, [] => some (.leaf (.c (.b true true), s))
  | g, vs => orcW g vs s
theorem orc2_ok : OrcOK Try.prog orc2 := by
  intro g vs s t h
  unfold orc2 at h
  split at h
  · cases h
    exact awake_c s
  · exact orcW_ok _ _ _ _ h

theorem none_p (i x : Int) :
    (lawP (fnTree Try.prog orc2 (tabL fns) 20000 Try.f6 [.c (.i false .i64 i), .c (.i false .u16 x)] [])) =
    ((decide (i < (0 : Int)) = true → out i = true ∧ out i = true ∧ out i = true ∧ out i = true ∧ out i = true ∧ true = true) ∧ (decide (i < (0 : Int)) = false → (decide (i >
      (3 : Int)) = true → out i = true ∧ out i = true ∧ out i = true ∧ out i = true ∧ out i = true ∧ true = true) ∧ (decide (i > (3 : Int)) = false → true = true))) := by kernel_rfl
theorem none_l (i x : Int) : lawP (fnTree Try.prog orc2 (tabL fns) 20000 Try.f6 [.c (.i false .i64 i), .c (.i false .u16 x)] []) := by
  rw [none_p]
  refine ⟨fun h => ?_, fun h => ⟨fun h' => ?_, fun _ => rfl⟩⟩
  · have e : out i = true := by rw [decide_eq_true_eq] at h; rw [out, decide_eq_true_eq]; omega
    simp [e]
  · have e : out i = true := by rw [decide_eq_true_eq] at h'; rw [out, decide_eq_true_eq]; omega
    simp [e]
end Go.Proofs.Ytchebhjbcjjhpaa

