import Derived.Test.YtkgpcdnlbgmglaaC
/- The laws: each called with whatever input answers true, and each argument reads behind the call as it read before. -/
set_option linter.unusedVariables false
set_option linter.unusedSimpArgs false
namespace Go.Proofs.Ytkgpcdnlbgmglaa
open Go Go.Proofs Go.Proofs.Ytkgpcdnlbgmglaa.Ev Go.ChangeShapes Go.WideShapes Go.ChangeAt Go.RowKit

theorem own : ownKnob Try.prog.godebug = none := by kernel_rfl
theorem types_ok : TypesOK Try.prog := ⟨by kernel_rfl, by kernel_rfl, slices_full_of Try.prog (by kernel_rfl)⟩
theorem u32_of {n : Int} (h : (Lit.int .u32 n).wf = true) : u32 n = true := by
  have := bounds_u32 h
  rw [u32, decide_eq_true_eq]; omega
set_option maxRecDepth 100000 in
theorem bankFlags_lifted (os : Os) (started : os.Started) (H : Type) (enc : TypeId × Value → H) :
    ReturnsInHanded {} Try.checked os 6 .any (Rows.bankFlagsSpec.pre6 enc Try.prog Try.f6 Rows.bankFlagsRow.domain false) (Rows.bankFlagsSpec.post enc Try.prog Try.f6 false true false false) := by
  refine returnsInHanded_of_change (C := Try.checked) own started (by kernel_rfl) Try.func6
    (ChangeSpec.witness6 (enc := enc) (C := Try.checked) false ⟨#[], #[.int .u32 0, .agg #[.bool false, .bool false, .bool false, .bool false]], []⟩ 8 (by kernel_rfl) (by kernel_rfl) (by kernel_rfl) (by kernel_rfl)) ?_
  intro W base args ds gs before hval0 hW hcnd _
  have hval : ∀ (j : Nat) t v, Try.f6.params[j]? = some t → args[j]? = some v → Value.okWide Try.prog W .any base t v := hval0
  have hW' := hW
  obtain ⟨p, q, hA0, hV, rfl, hfz, hnd⟩ := hW
  have hA : DataW.TrodAll enc Try.prog W 0 (fun _ => true) true Try.f6.params.toList args.toList ds p := hA0
  rw [Try.params6] at hA hval
  obtain ⟨v0, vs0, d0, ds0, p0, q0, hargs, rfl, rfl, h0, r0⟩ := trodAll_cons hA
  obtain ⟨v1, vs1, d1, ds1, p1, q1, rfl, rfl, rfl, h1, r1⟩ := trodAll_cons r0
  obtain ⟨rfl, rfl, rfl⟩ := trodAll_nil r1
  obtain rfl : args = #[v0, v1] := by cases args; simp_all
  obtain ⟨rfl, rfl⟩ := trodVars_none hV
  obtain ⟨a0, rfl, rfl, rfl, w0⟩ := open_int Try.underlying28 (hval 0 28 v0 rfl rfl) h0
  obtain ⟨cs1, rfl, hf1⟩ := flat_open (ks := [.b, .b, .b, .b]) Try.underlying47 (by kernel_rfl) (by kernel_rfl) (hval 1 47 v1 rfl rfl) h1
  obtain ⟨x1_0, cs1_1, rfl, hf1_1⟩ := hf1.cons_b
  obtain ⟨x1_1, cs1_2, rfl, hf1_2⟩ := hf1_1.cons_b
  obtain ⟨x1_2, cs1_3, rfl, hf1_3⟩ := hf1_2.cons_b
  obtain ⟨x1_3, cs1_4, rfl, hf1_4⟩ := hf1_3.cons_b
  obtain rfl := hf1_4.nil
  refine (law_of_tree (fnTree_sound orc1_ok tab_ok tab_sz mixed 1000 Try.func6 (by decide) [.c (.i false .u32 a0), .a [.b false x1_0, .b false x1_1, .b false x1_2, .b false x1_3]] []) (by simp [SV.ok, C.ok, okL]) _ rfl (lawP_OK _ (flags_l a0 x1_0 x1_1 x1_2 x1_3 (u32_of w0))) W).mono fun e W' ⟨he, hg⟩ => ?_
  subst he
  exact ⟨_, rfl, law_post hW' rfl types_ok (by decide) rfl Try.underlying4 rfl rfl rfl hg⟩
theorem bankFlags_holds : Rows.BankFlagsSaid :=
  OpenClaim.holds_of_wide 6 Try.f6 rfl rfl rfl rfl rfl rfl rfl ⟨rfl, rfl, rfl, rfl, rfl⟩ rfl rfl rfl rfl rfl (by kernel_rfl) Try.func6 (by kernel_rfl)
    (of_decide_eq_true (by kernel_rfl)) (by unfold Func.isWrapper; first | (rw [if_pos (by decide +kernel)]; kernel_rfl) | (rw [if_neg (by decide +kernel)]; exact ⟨rfl, rfl⟩))
    (fun os started H enc _ => bankFlags_lifted os started H enc)
end Go.Proofs.Ytkgpcdnlbgmglaa

