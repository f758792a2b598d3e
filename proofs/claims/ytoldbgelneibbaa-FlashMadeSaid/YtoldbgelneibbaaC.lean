import Derived.Test.YtoldbgelneibbaaA
set_option linter.unusedVariables false
set_option linter.unusedSimpArgs false
namespace Go.Proofs.Ytoldbgelneibbaa
open Go Go.Proofs Go.Proofs.Ytoldbgelneibbaa.Ev
theorem newbad_p (E : World) (x : ByteArray) :
    (conP (.t [.c (.x (.pointer none)), .c (.i false .i64 1)]) (fnTree (pe E) orcNone (tabL fns) 40 Try.f18 [.c (.str false x)] [])) =
    ((((↑x.size : Int) != (65536 : Int)) = true → (((↑x.size : Int) != (131072 : Int)) = true → ofCell (Value.pointer none) = C.x (Value.pointer none) ∧ IntKind.i64 =
      IntKind.i64 ∧ (1 : Int) = (1 : Int)) ∧ (((↑x.size : Int) != (131072 : Int)) = false → (decide ((0 : Int) < (↑x.size : Int)) = true → decide ((4096 : Int) ≤ (↑x.size :
      Int)) = true ∧ (decide ((4096 : Int) < (↑x.size : Int)) = true → decide ((8192 : Int) ≤ (↑x.size : Int)) = true ∧ (decide ((8192 : Int) < (↑x.size : Int)) = true → False)
      ∧ (decide ((8192 : Int) < (↑x.size : Int)) = false → False)) ∧ (decide ((4096 : Int) < (↑x.size : Int)) = false → C.p (0 : Nat) (0 : Nat) = C.x (Value.pointer none) ∧
      IntKind.i64 = IntKind.i64 ∧ (0 : Int) = (1 : Int))) ∧ (decide ((0 : Int) < (↑x.size : Int)) = false → C.p (0 : Nat) (0 : Nat) = C.x (Value.pointer none) ∧ IntKind.i64 =
      IntKind.i64 ∧ (0 : Int) = (1 : Int)))) ∧ (((↑x.size : Int) != (65536 : Int)) = false → (decide ((0 : Int) < (↑x.size : Int)) = true → decide ((4096 : Int) ≤ (↑x.size :
      Int)) = true ∧ (decide ((4096 : Int) < (↑x.size : Int)) = true → decide ((8192 : Int) ≤ (↑x.size : Int)) = true ∧ (decide ((8192 : Int) < (↑x.size : Int)) = true → False)
      ∧ (decide ((8192 : Int) < (↑x.size : Int)) = false → False)) ∧ (decide ((4096 : Int) < (↑x.size : Int)) = false → C.p (0 : Nat) (0 : Nat) = C.x (Value.pointer none) ∧
      IntKind.i64 = IntKind.i64 ∧ (0 : Int) = (1 : Int))) ∧ (decide ((0 : Int) < (↑x.size : Int)) = false → C.p (0 : Nat) (0 : Nat) = C.x (Value.pointer none) ∧ IntKind.i64 =
      IntKind.i64 ∧ (0 : Int) = (1 : Int)))) := by kernel_rfl
theorem newbad_c (E : World) (l : Bool) (x : ByteArray) (h1 : x.size ≠ 65536) (h2 : x.size ≠ 131072) (s : SW) : CallTree (pe E) 18 [.c (.str l x)] s (.leaf (.t [.c (.x (.pointer none)), .c (.i false .i64 1)], s)) := by
  refine CallTree.args (vs' := [.c (.str false x)]) rfl ?_
  refine pure_contractH (fnTree_sound (P := pe E) orcNone_ok tab_ok tab_sz mixed 40 Try.func18 (by decide) [.c (.str false x)] []) (by simp [SV.ok, C.ok, okL]) (v := .t [.c (.x (.pointer none)), .c (.i false .i64 1)]) rfl ⟨?_⟩ s
  rw [newbad_p]
  have e1 : (((x.size : Int) != (65536 : Int)) = true) := by rw [bne_iff_ne]; omega
  have e2 : (((x.size : Int) != (131072 : Int)) = true) := by rw [bne_iff_ne]; omega
  rw [e1, e2]
  exact ⟨fun _ => ⟨fun _ => ⟨rfl, rfl, rfl⟩, fun h => by cases h⟩, fun h => by cases h⟩
noncomputable def orcN (E : World) : Orc := fun g vs s => match g, vs with
  | 18, [.c (.str false x)] => some (.node (decide (x.size = 65536)) (fnTree (pe E) (orcA E) (tabL fns) 2000 Try.f18 [.c (.strn 65536 x)] s) (.node (decide (x.size = 131072)) (fnTree (pe E) (orcA E) (tabL fns) 2000 Try.f18 [.c (.strn 131072 x)] s) (.leaf (.t [.c (.x (.pointer none)), .c (.i false .i64 1)], s))))
  | g, vs => orcA E g vs s
theorem orcN_ok {E : World} : OrcOK (pe E) (orcN E) := by
  intro g vs s t h
  unfold orcN at h
  split at h
  · rename_i x
    cases h
    have a : ∀ n, CallTree (pe E) 18 [.c (.str false x)] s (fnTree (pe E) (orcA E) (tabL fns) 2000 Try.f18 [.c (.strn n x)] s) := fun n =>
      CallTree.args (vs' := [.c (.strn n x)]) rfl (fnTree_sound (P := pe E) orcA_ok tab_ok tab_sz mixed 2000 Try.func18 (by decide) [.c (.strn n x)] s)
    refine CallTree.node (fun _ => a _) fun h1 => CallTree.node (fun _ => a _) fun h2 => newbad_c E _ x (of_decide_eq_false h1) (of_decide_eq_false h2) s
  · exact orcA_ok _ _ _ _ h
end Go.Proofs.Ytoldbgelneibbaa

