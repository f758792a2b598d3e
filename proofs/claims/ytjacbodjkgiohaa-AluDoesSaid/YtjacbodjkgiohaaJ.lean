import Derived.Test.YtjacbodjkgiohaaI
import Derived.Test.YtjacbodjkgiohaaL
import Derived.Test.YtjacbodjkgiohaaEv
/- The laws of the operations and of the products: each called with whatever input answers true, and each argument reads behind the call as it read before. -/
set_option linter.unusedVariables false
set_option linter.unusedSimpArgs false
namespace Go.Proofs.Ytjacbodjkgiohaa
open Go Go.Proofs Go.Proofs.Ytjacbodjkgiohaa.Ev Go.ChangeShapes Go.WideShapes Go.ChangeAt Go.RowKit

theorem aluDoes_lifted (os : Os) (started : os.Started) (H : Type) (enc : TypeId × Value → H) :
    ReturnsInHanded {} Try.checked os 3 .any (Rows.aluDoesSpec.pre6 enc Try.prog Try.f3 Rows.aluDoesRow.domain false) (Rows.aluDoesSpec.post enc Try.prog Try.f3 false true false false) := by
  refine returnsInHanded_of_change (C := Try.checked) own started (by kernel_rfl) Try.func3
    (ChangeSpec.witness6 (enc := enc) (C := Try.checked) false ⟨#[], #[.agg #[.int .i64 0, .int .u32 0, .int .u32 0, .bool false, .bool false, .bool false, .bool false, .bool false]], []⟩ 8 (by kernel_rfl) (by kernel_rfl) (by kernel_rfl) (by kernel_rfl)) ?_
  intro W base args ds gs before hval0 hW hcnd _
  have hval : ∀ (j : Nat) t v, Try.f3.params[j]? = some t → args[j]? = some v → Value.okWide Try.prog W .any base t v := hval0
  have hW' := hW
  obtain ⟨p, q, hA0, hV, rfl, hfz, hnd⟩ := hW
  have hA : DataW.TrodAll enc Try.prog W 0 (fun _ => true) true Try.f3.params.toList args.toList ds p := hA0
  rw [Try.params3] at hA hval
  obtain ⟨v0, vs0, d0, ds0, p0, q0, hargs, rfl, rfl, h0, r0⟩ := trodAll_cons hA
  obtain ⟨rfl, rfl, rfl⟩ := trodAll_nil r0
  obtain rfl : args = #[v0] := by cases args; simp_all
  obtain ⟨rfl, rfl⟩ := trodVars_none hV
  obtain ⟨cs0, rfl, hf0⟩ := deep_open (ks := [.i .i64, .i .u32, .i .u32, .b, .b, .b, .b, .b]) Try.underlying26 (by kernel_rfl) (hval 0 26 v0 rfl rfl) h0
  obtain ⟨x0_0, cs0_1, rfl, w0_0, hf0_1⟩ := hf0.cons_i
  obtain ⟨x0_1, cs0_2, rfl, w0_1, hf0_2⟩ := hf0_1.cons_i
  obtain ⟨x0_2, cs0_3, rfl, w0_2, hf0_3⟩ := hf0_2.cons_i
  obtain ⟨x0_3, cs0_4, rfl, hf0_4⟩ := hf0_3.cons_b
  obtain ⟨x0_4, cs0_5, rfl, hf0_5⟩ := hf0_4.cons_b
  obtain ⟨x0_5, cs0_6, rfl, hf0_6⟩ := hf0_5.cons_b
  obtain ⟨x0_6, cs0_7, rfl, hf0_7⟩ := hf0_6.cons_b
  obtain ⟨x0_7, cs0_8, rfl, hf0_8⟩ := hf0_7.cons_b
  obtain rfl := hf0_8.nil
  refine (law_of_tree (fnTree_sound orc2_ok tab_ok tab_sz mixed 1000 Try.func3 (by decide) [.a [.i false .i64 x0_0, .i false .u32 x0_1, .i false .u32 x0_2, .b false x0_3, .b false x0_4, .b false x0_5, .b false x0_6, .b false x0_7]] []) (by simp [SV.ok, C.ok, okL]) _ rfl (lawP_OK _ (does_l x0_0 x0_1 x0_2 x0_3 x0_4 x0_5 x0_6 x0_7 (u32_of w0_1) (u32_of w0_2))) W).mono fun e W' ⟨he, hg⟩ => ?_
  subst he
  exact ⟨_, rfl, law_post hW' rfl types_ok (by decide) rfl Try.underlying4 rfl rfl rfl hg⟩
theorem aluDoes_holds : Rows.AluDoesSaid :=
  OpenClaim.holds_of_wide 3 Try.f3 rfl rfl rfl rfl rfl rfl rfl ⟨rfl, rfl, rfl, rfl, rfl⟩ rfl rfl rfl rfl rfl (by kernel_rfl) Try.func3 (by kernel_rfl)
    (of_decide_eq_true (by kernel_rfl)) (by unfold Func.isWrapper; first | (rw [if_pos (by decide +kernel)]; kernel_rfl) | (rw [if_neg (by decide +kernel)]; exact ⟨rfl, rfl⟩))
    (fun os started H enc _ => aluDoes_lifted os started H enc)
theorem aluMuls_lifted (os : Os) (started : os.Started) (H : Type) (enc : TypeId × Value → H) :
    ReturnsInHanded {} Try.checked os 5 .any (Rows.aluMulsSpec.pre6 enc Try.prog Try.f5 Rows.aluMulsRow.domain false) (Rows.aluMulsSpec.post enc Try.prog Try.f5 false true false false) := by
  refine returnsInHanded_of_change (C := Try.checked) own started (by kernel_rfl) Try.func5
    (ChangeSpec.witness6 (enc := enc) (C := Try.checked) false ⟨#[], #[.agg #[.int .i64 0, .int .u32 0, .int .u32 0, .bool false, .bool false, .bool false, .bool false, .bool false], .int .u64 0], []⟩ 8 (by kernel_rfl) (by kernel_rfl) (by kernel_rfl) (by kernel_rfl)) ?_
  intro W base args ds gs before hval0 hW hcnd _
  have hval : ∀ (j : Nat) t v, Try.f5.params[j]? = some t → args[j]? = some v → Value.okWide Try.prog W .any base t v := hval0
  have hW' := hW
  obtain ⟨p, q, hA0, hV, rfl, hfz, hnd⟩ := hW
  have hA : DataW.TrodAll enc Try.prog W 0 (fun _ => true) true Try.f5.params.toList args.toList ds p := hA0
  rw [Try.params5] at hA hval
  obtain ⟨v0, vs0, d0, ds0, p0, q0, hargs, rfl, rfl, h0, r0⟩ := trodAll_cons hA
  obtain ⟨v1, vs1, d1, ds1, p1, q1, rfl, rfl, rfl, h1, r1⟩ := trodAll_cons r0
  obtain ⟨rfl, rfl, rfl⟩ := trodAll_nil r1
  obtain rfl : args = #[v0, v1] := by cases args; simp_all
  obtain ⟨rfl, rfl⟩ := trodVars_none hV
  obtain ⟨cs0, rfl, hf0⟩ := deep_open (ks := [.i .i64, .i .u32, .i .u32, .b, .b, .b, .b, .b]) Try.underlying26 (by kernel_rfl) (hval 0 26 v0 rfl rfl) h0
  obtain ⟨x0_0, cs0_1, rfl, w0_0, hf0_1⟩ := hf0.cons_i
  obtain ⟨x0_1, cs0_2, rfl, w0_1, hf0_2⟩ := hf0_1.cons_i
  obtain ⟨x0_2, cs0_3, rfl, w0_2, hf0_3⟩ := hf0_2.cons_i
  obtain ⟨x0_3, cs0_4, rfl, hf0_4⟩ := hf0_3.cons_b
  obtain ⟨x0_4, cs0_5, rfl, hf0_5⟩ := hf0_4.cons_b
  obtain ⟨x0_5, cs0_6, rfl, hf0_6⟩ := hf0_5.cons_b
  obtain ⟨x0_6, cs0_7, rfl, hf0_7⟩ := hf0_6.cons_b
  obtain ⟨x0_7, cs0_8, rfl, hf0_8⟩ := hf0_7.cons_b
  obtain rfl := hf0_8.nil
  obtain ⟨a1, rfl, rfl, rfl, w1⟩ := open_int Try.underlying33 (hval 1 33 v1 rfl rfl) h1
  refine (law_of_tree (fnTree_sound orc3_ok tab_ok tab_sz mixed 1000 Try.func5 (by decide) [.a [.i false .i64 x0_0, .i false .u32 x0_1, .i false .u32 x0_2, .b false x0_3, .b false x0_4, .b false x0_5, .b false x0_6, .b false x0_7], .c (.i false .u64 a1)] []) (by simp [SV.ok, C.ok, okL]) _ rfl (lawP_OK _ (muls_l x0_0 x0_1 x0_2 x0_3 x0_4 x0_5 x0_6 x0_7 a1 (u32_of w0_1) (u32_of w0_2))) W).mono fun e W' ⟨he, hg⟩ => ?_
  subst he
  exact ⟨_, rfl, law_post hW' rfl types_ok (by decide) rfl Try.underlying4 rfl rfl rfl hg⟩
theorem aluMuls_holds : Rows.AluMulsSaid :=
  OpenClaim.holds_of_wide 5 Try.f5 rfl rfl rfl rfl rfl rfl rfl ⟨rfl, rfl, rfl, rfl, rfl⟩ rfl rfl rfl rfl rfl (by kernel_rfl) Try.func5 (by kernel_rfl)
    (of_decide_eq_true (by kernel_rfl)) (by unfold Func.isWrapper; first | (rw [if_pos (by decide +kernel)]; kernel_rfl) | (rw [if_neg (by decide +kernel)]; exact ⟨rfl, rfl⟩))
    (fun os started H enc _ => aluMuls_lifted os started H enc)
theorem aluSigns_lifted (os : Os) (started : os.Started) (H : Type) (enc : TypeId × Value → H) :
    ReturnsInHanded {} Try.checked os 8 .any (Rows.aluSignsSpec.pre6 enc Try.prog Try.f8 Rows.aluSignsRow.domain false) (Rows.aluSignsSpec.post enc Try.prog Try.f8 false true false false) := by
  refine returnsInHanded_of_change (C := Try.checked) own started (by kernel_rfl) Try.func8
    (ChangeSpec.witness6 (enc := enc) (C := Try.checked) false ⟨#[], #[.int .u32 0, .int .u32 0, .int .u64 0], []⟩ 8 (by kernel_rfl) (by kernel_rfl) (by kernel_rfl) (by kernel_rfl)) ?_
  intro W base args ds gs before hval0 hW hcnd _
  have hval : ∀ (j : Nat) t v, Try.f8.params[j]? = some t → args[j]? = some v → Value.okWide Try.prog W .any base t v := hval0
  have hW' := hW
  obtain ⟨p, q, hA0, hV, rfl, hfz, hnd⟩ := hW
  have hA : DataW.TrodAll enc Try.prog W 0 (fun _ => true) true Try.f8.params.toList args.toList ds p := hA0
  rw [Try.params8] at hA hval
  obtain ⟨v0, vs0, d0, ds0, p0, q0, hargs, rfl, rfl, h0, r0⟩ := trodAll_cons hA
  obtain ⟨v1, vs1, d1, ds1, p1, q1, rfl, rfl, rfl, h1, r1⟩ := trodAll_cons r0
  obtain ⟨v2, vs2, d2, ds2, p2, q2, rfl, rfl, rfl, h2, r2⟩ := trodAll_cons r1
  obtain ⟨rfl, rfl, rfl⟩ := trodAll_nil r2
  obtain rfl : args = #[v0, v1, v2] := by cases args; simp_all
  obtain ⟨rfl, rfl⟩ := trodVars_none hV
  obtain ⟨a0, rfl, rfl, rfl, w0⟩ := open_int Try.underlying22 (hval 0 22 v0 rfl rfl) h0
  obtain ⟨a1, rfl, rfl, rfl, w1⟩ := open_int Try.underlying22 (hval 1 22 v1 rfl rfl) h1
  obtain ⟨a2, rfl, rfl, rfl, w2⟩ := open_int Try.underlying33 (hval 2 33 v2 rfl rfl) h2
  refine (law_of_tree (fnTree_sound orc3_ok tab_ok tab_sz mixed 1000 Try.func8 (by decide) [.c (.i false .u32 a0), .c (.i false .u32 a1), .c (.i false .u64 a2)] []) (by simp [SV.ok, C.ok, okL]) _ rfl (lawP_OK _ (signs_l a0 a1 a2 (u32_of w0) (u32_of w1))) W).mono fun e W' ⟨he, hg⟩ => ?_
  subst he
  exact ⟨_, rfl, law_post hW' rfl types_ok (by decide) rfl Try.underlying4 rfl rfl rfl hg⟩
theorem aluSigns_holds : Rows.AluSignsSaid :=
  OpenClaim.holds_of_wide 8 Try.f8 rfl rfl rfl rfl rfl rfl rfl ⟨rfl, rfl, rfl, rfl, rfl⟩ rfl rfl rfl rfl rfl (by kernel_rfl) Try.func8 (by kernel_rfl)
    (of_decide_eq_true (by kernel_rfl)) (by unfold Func.isWrapper; first | (rw [if_pos (by decide +kernel)]; kernel_rfl) | (rw [if_neg (by decide +kernel)]; exact ⟨rfl, rfl⟩))
    (fun os started H enc _ => aluSigns_lifted os started H enc)
end Go.Proofs.Ytjacbodjkgiohaa

