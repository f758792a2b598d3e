import Derived.Test.YtkeinfmfkcgkhaaA
import Derived.Test.Ytkeinfmfkcgkhaasnone
/- The laws: each called with whatever input answers true, and each argument reads behind the call as it read before. -/
set_option linter.unusedVariables false
set_option linter.unusedSimpArgs false
namespace Go.Proofs.Ytkeinfmfkcgkhaa
open Go Go.Proofs Go.Proofs.Ytkeinfmfkcgkhaa.Ev Go.ChangeShapes Go.WideShapes Go.ChangeAt Go.RowKit

theorem own : ownKnob Try.prog.godebug = none := by kernel_rfl
theorem types_ok : TypesOK Try.prog := ⟨by kernel_rfl, by kernel_rfl, slices_full_of Try.prog (by kernel_rfl)⟩
set_option maxRecDepth 100000 in
theorem soundNone_lifted (os : Os) (started : os.Started) (H : Type) (enc : TypeId × Value → H) :
    ReturnsInHanded {} Try.checked os 5 .any (Rows.soundNoneSpec.pre6 enc Try.prog Try.f5 Rows.soundNoneRow.domain false) (Rows.soundNoneSpec.post enc Try.prog Try.f5 false true false false) := by
  refine returnsInHanded_of_change (C := Try.checked) own started (by kernel_rfl) Try.func5
    (ChangeSpec.witness6 (enc := enc) (C := Try.checked) false ⟨#[], #[.agg #[.int .i64 0, .int .i64 0, .int .i64 0, .int .u32 0]], []⟩ 8 (by kernel_rfl) (by kernel_rfl) (by kernel_rfl) (by kernel_rfl)) ?_
  intro W base args ds gs before hval0 hW hcnd _
  have hval : ∀ (j : Nat) t v, Try.f5.params[j]? = some t → args[j]? = some v → Value.okWide Try.prog W .any base t v := hval0
  have hW' := hW
  obtain ⟨p, q, hA0, hV, rfl, hfz, hnd⟩ := hW
  have hA : DataW.TrodAll enc Try.prog W 0 (fun _ => true) true Try.f5.params.toList args.toList ds p := hA0
  rw [Try.params5] at hA hval
  obtain ⟨v0, vs0, d0, ds0, p0, q0, hargs, rfl, rfl, h0, r0⟩ := trodAll_cons hA
  obtain ⟨rfl, rfl, rfl⟩ := trodAll_nil r0
  obtain rfl : args = #[v0] := by cases args; simp_all
  obtain ⟨rfl, rfl⟩ := trodVars_none hV
  obtain ⟨cs0, rfl, hf0⟩ := flat_open (ks := [.i .i64, .i .i64, .i .i64, .i .u32]) Try.underlying30 (by kernel_rfl) (by kernel_rfl) (hval 0 30 v0 rfl rfl) h0
  obtain ⟨x0_0, cs0_1, rfl, w0_0, hf0_1⟩ := hf0.cons_i
  obtain ⟨x0_1, cs0_2, rfl, w0_1, hf0_2⟩ := hf0_1.cons_i
  obtain ⟨x0_2, cs0_3, rfl, w0_2, hf0_3⟩ := hf0_2.cons_i
  obtain ⟨x0_3, cs0_4, rfl, w0_3, hf0_4⟩ := hf0_3.cons_i
  obtain rfl := hf0_4.nil
  refine (law_of_treeH (P := pe W) (fnTree_sound (P := pe W) orcA_ok tab_ok tab_sz mixed 20000 Try.func5 (by decide) [.a [.i false .i64 x0_0, .i false .i64 x0_1, .i false .i64 x0_2, .i false .u32 x0_3]] []) (by simp [SV.ok, C.ok, okL]) _ rfl (snone_l W x0_0 x0_1 x0_2 x0_3) W rfl).mono fun e W' ⟨he, hg⟩ => ?_
  subst he
  exact ⟨_, rfl, law_post hW' rfl types_ok (by decide) rfl Try.underlying4 rfl rfl rfl hg⟩
theorem soundNone_holds : Rows.SoundNoneSaid :=
  OpenClaim.holds_of_wide 5 Try.f5 rfl rfl rfl rfl rfl rfl rfl ⟨rfl, rfl, rfl, rfl, rfl⟩ rfl rfl rfl rfl rfl (by kernel_rfl) Try.func5 (by kernel_rfl)
    (of_decide_eq_true (by kernel_rfl)) (by unfold Func.isWrapper; first | (rw [if_pos (by decide +kernel)]; kernel_rfl) | (rw [if_neg (by decide +kernel)]; exact ⟨rfl, rfl⟩))
    (fun os started H enc _ => soundNone_lifted os started H enc)
end Go.Proofs.Ytkeinfmfkcgkhaa

