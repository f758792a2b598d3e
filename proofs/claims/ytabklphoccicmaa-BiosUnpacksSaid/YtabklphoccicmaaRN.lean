import Derived.Test.YtabklphoccicmaaRM
import Derived.Test.YtabklphoccicmaaEx
/- The laws: each called with whatever input answers true, and each argument reads behind the call as it read before. -/
set_option linter.unusedVariables false
set_option linter.unusedSimpArgs false
namespace Go.Proofs.Ytabklphoccicmaa
open Go Go.Proofs Go.Proofs.Ytabklphoccicmaa.Ev Go.Proofs.Ytabklphoccicmaa.Ev.Ho Go.ChangeShapes Go.WideShapes Go.ChangeAt Go.RowKit Go.IntKind
theorem own : ownKnob Try.prog.godebug = none := by kernel_rfl
theorem types_ok : TypesOK Try.prog := ⟨by kernel_rfl, by kernel_rfl, slices_full_of Try.prog (by kernel_rfl)⟩
set_option maxRecDepth 100000 in
theorem biosUnpacks_lifted (os : Os) (started : os.Started) (H : Type) (enc : TypeId × Value → H) :
    ReturnsInHanded {} Try.checked os 6 .any (Rows.biosUnpacksSpec.pre6 enc Try.prog Try.f6 Rows.biosUnpacksRow.domain false) (Rows.biosUnpacksSpec.post enc Try.prog Try.f6 false true false false) := by
  refine returnsInHanded_of_change (C := Try.checked) own started (by kernel_rfl) Try.func6
    (ChangeSpec.witness6 (enc := enc) (C := Try.checked) false ⟨#[], #[.agg #[.slice none 0 0, .int .u32 0, .int .u32 0, .int .u32 0, .bool false, .int .i64 0, .int .u32 0]], []⟩ 8 (by kernel_rfl) (by kernel_rfl) (by kernel_rfl) (by kernel_rfl)) ?_
  intro W base args ds gs before hval0 hW hcnd _
  have hval : ∀ (j : Nat) t v, Try.f6.params[j]? = some t → args[j]? = some v → Value.okWide Try.prog W .any base t v := hval0
  have hW' := hW
  obtain ⟨p, q, hA0, hV, rfl, hfz, hnd⟩ := hW
  have hA : DataW.TrodAll enc Try.prog W 0 (fun _ => true) true Try.f6.params.toList args.toList ds p := hA0
  rw [Try.params6] at hA hval
  obtain ⟨v0, vs0, d0, ds0, p0, q0, hargs, rfl, rfl, h0, r0⟩ := trodAll_cons hA
  obtain ⟨rfl, rfl, rfl⟩ := trodAll_nil r0
  obtain rfl : args = #[v0] := by cases args; simp_all
  obtain ⟨rfl, rfl⟩ := trodVars_none hV
  obtain ⟨a, n, m, cr, rfl, hf0, le0, mx0, z0, e0⟩ := open_slS (ks := [.i .u8]) (K := [.i .u32, .i .u32, .i .u32, .b, .i .i64, .i .u32]) Try.underlying35 rfl rfl (by kernel_rfl) Try.underlying33 (by kernel_rfl) (by kernel_rfl) (by kernel_rfl) (by kernel_rfl) (hval 0 35 v0 rfl rfl) h0
  obtain ⟨x1, cr1, rfl, w1, hf1⟩ := hf0.cons_i
  obtain ⟨x2, cr2, rfl, w2, hf2⟩ := hf1.cons_i
  obtain ⟨x3, cr3, rfl, w3, hf3⟩ := hf2.cons_i
  obtain ⟨x4, cr4, rfl, hf4⟩ := hf3.cons_b
  obtain ⟨x5, cr5, rfl, w5, hf5⟩ := hf4.cons_i
  obtain ⟨x6, cr6, rfl, w6, hf6⟩ := hf5.cons_i
  obtain rfl := hf6.nil
  have b1 := bounds_u32 w1
  have b2 := bounds_u32 w2
  have b3 := bounds_u32 w3
  have b6 := bounds_u32 w6
  have b5 := bounds_i64 w5
  have hr : eRows W a n 1 [.i .u8] = true := List.all_eq_true.2 fun j hj => e0 j (List.mem_range.1 hj)
  refine (HD.law (P := pe W) (unp_c W a n m x1 x2 x3 x5 x6 x4 default trivial ⟨hr, ⟨by omega, by omega⟩, ⟨by omega, by omega⟩, by omega, by omega⟩) (by simp [SV.ok, C.ok, okL]) _ rfl W rfl).mono fun e W' ⟨he, hg⟩ => ?_
  subst he
  exact ⟨_, rfl, law_post hW' rfl types_ok (by decide) rfl Try.underlying4 rfl rfl rfl hg⟩
theorem biosUnpacks_holds : Rows.BiosUnpacksSaid :=
  OpenClaim.holds_of_wide 6 Try.f6 rfl rfl rfl rfl rfl rfl rfl ⟨rfl, rfl, rfl, rfl, rfl⟩ rfl rfl rfl rfl rfl (by kernel_rfl) Try.func6 (by kernel_rfl)
    (of_decide_eq_true (by kernel_rfl)) (by unfold Func.isWrapper; first | (rw [if_pos (by decide +kernel)]; kernel_rfl) | (rw [if_neg (by decide +kernel)]; exact ⟨rfl, rfl⟩))
    (fun os started H enc _ => biosUnpacks_lifted os started H enc)
end Go.Proofs.Ytabklphoccicmaa

