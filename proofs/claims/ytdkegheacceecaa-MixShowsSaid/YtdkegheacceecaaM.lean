import Derived.Test.YtdkegheacceecaaT
/- The laws: each called with whatever input answers true, and each argument reads behind the call as it read before. -/
set_option linter.unusedVariables false
set_option linter.unusedSimpArgs false
namespace Go.Proofs.Ytdkegheacceecaa
open Go Go.Proofs Go.Proofs.Ytdkegheacceecaa.Ev Go.ChangeShapes Go.WideShapes Go.ChangeAt Go.RowKit

section
variable {H : Type} {P : Program} {enc : TypeId × Value → H}
theorem deepA_open {w : World} {base : Nat} {sp : Nat → Bool} {held : Bool} {r : Reach} {b0 : Nat} {t e : TypeId} {m : Nat} {v : Value} {d : DataW H} {p : List MemPlace} {ks : List FK}
    (hu : P.underlying t = some (.array m e)) (hb : flatC P 9 t = some ks) (hv : Value.okWide P w r b0 t v)
    (h : DataW.Trod enc P w base sp held t v d p) : ∃ cs : List Value, v = .agg cs.toArray ∧ FlatV ks cs := by
  have hx : ∃ cs, v = .agg cs := by
    simp only [Value.okWide, hu] at hv
    obtain ⟨cs, h1, _⟩ := hv
    exact ⟨cs, h1⟩
  obtain ⟨cs, rfl⟩ := hx
  obtain ⟨n, hn⟩ := h
  exact ⟨cs.toList, by simp, flatC_sound 9 t ks n _ hb ⟨_, hn⟩⟩
end
theorem b16 {x : Int} (h : 0 ≤ x ∧ x ≤ 65535) : 0 ≤ x ∧ x < 65536 := ⟨h.1, by omega⟩
theorem own : ownKnob Try.prog.godebug = none := by kernel_rfl
theorem types_ok : TypesOK Try.prog := ⟨by kernel_rfl, by kernel_rfl, slices_full_of Try.prog (by kernel_rfl)⟩
set_option maxRecDepth 100000 in
theorem mixShows_lifted (os : Os) (started : os.Started) (H : Type) (enc : TypeId × Value → H) :
    ReturnsInHanded {} Try.checked os 4 .any (Rows.mixShowsSpec.pre6 enc Try.prog Try.f4 Rows.mixShowsRow.domain false) (Rows.mixShowsSpec.post enc Try.prog Try.f4 false true false false) := by
  refine returnsInHanded_of_change (C := Try.checked) own started (by kernel_rfl) Try.func4
    (ChangeSpec.witness6 (enc := enc) (C := Try.checked) false ⟨#[], #[.agg #[.int .u16 0, .int .u16 0, .int .u16 0, .int .u16 0, .int .u16 0, .int .u16 0, .int .u16 0, .int .u16 0, .int .u16 0], .int .u16 0, .agg #[.int .i64 0, .int .i64 0]], []⟩ 8 (by kernel_rfl) (by kernel_rfl) (by kernel_rfl) (by kernel_rfl)) ?_
  intro W base args ds gs before hval0 hW hcnd _
  have hval : ∀ (j : Nat) t v, Try.f4.params[j]? = some t → args[j]? = some v → Value.okWide Try.prog W .any base t v := hval0
  have hW' := hW
  obtain ⟨p, q, hA0, hV, rfl, hfz, hnd⟩ := hW
  have hA : DataW.TrodAll enc Try.prog W 0 (fun _ => true) true Try.f4.params.toList args.toList ds p := hA0
  rw [Try.params4] at hA hval
  obtain ⟨v0, vs0, d0, ds0, p0, q0, hargs, rfl, rfl, h0, r0⟩ := trodAll_cons hA
  obtain ⟨v1, vs1, d1, ds1, p1, q1, rfl, rfl, rfl, h1, r1⟩ := trodAll_cons r0
  obtain ⟨v2, vs2, d2, ds2, p2, q2, rfl, rfl, rfl, h2, r2⟩ := trodAll_cons r1
  obtain ⟨rfl, rfl, rfl⟩ := trodAll_nil r2
  obtain rfl : args = #[v0, v1, v2] := by cases args; simp_all
  obtain ⟨rfl, rfl⟩ := trodVars_none hV
  obtain ⟨cs0, rfl, hf0⟩ := deep_open (ks := [.i .u16, .i .u16, .i .u16, .i .u16, .i .u16, .i .u16, .i .u16, .i .u16, .i .u16]) Try.underlying34 (by kernel_rfl) (hval 0 34 v0 rfl rfl) h0
  obtain ⟨x0_0, cs0_1, rfl, w0_0, hf0_1⟩ := hf0.cons_i
  obtain ⟨x0_1, cs0_2, rfl, w0_1, hf0_2⟩ := hf0_1.cons_i
  obtain ⟨x0_2, cs0_3, rfl, w0_2, hf0_3⟩ := hf0_2.cons_i
  obtain ⟨x0_3, cs0_4, rfl, w0_3, hf0_4⟩ := hf0_3.cons_i
  obtain ⟨x0_4, cs0_5, rfl, w0_4, hf0_5⟩ := hf0_4.cons_i
  obtain ⟨x0_5, cs0_6, rfl, w0_5, hf0_6⟩ := hf0_5.cons_i
  obtain ⟨x0_6, cs0_7, rfl, w0_6, hf0_7⟩ := hf0_6.cons_i
  obtain ⟨x0_7, cs0_8, rfl, w0_7, hf0_8⟩ := hf0_7.cons_i
  obtain ⟨x0_8, cs0_9, rfl, w0_8, hf0_9⟩ := hf0_8.cons_i
  obtain rfl := hf0_9.nil
  obtain ⟨a1, rfl, rfl, rfl, w1⟩ := open_int Try.underlying22 (hval 1 22 v1 rfl rfl) h1
  obtain ⟨cs2, rfl, hf2⟩ := deepA_open (ks := [.i .i64, .i .i64]) Try.underlying48 (by kernel_rfl) (hval 2 48 v2 rfl rfl) h2
  obtain ⟨x2_0, cs2_1, rfl, w2_0, hf2_1⟩ := hf2.cons_i
  obtain ⟨x2_1, cs2_2, rfl, w2_1, hf2_2⟩ := hf2_1.cons_i
  obtain rfl := hf2_2.nil
  refine (law_of_treeH (P := pe W) (fnTree_sound (P := pe W) orcT_ok tab_ok tab_sz mixed 20000 Try.func4 (by decide) [.a [.i false .u16 x0_0, .i false .u16 x0_1, .i false .u16 x0_2, .i false .u16 x0_3, .i false .u16 x0_4, .i false .u16 x0_5, .i false .u16 x0_6, .i false .u16 x0_7, .i false .u16 x0_8], .c (.i false .u16 a1), .a [.i false .i64 x2_0, .i false .i64 x2_1]] []) (by simp [SV.ok, C.ok, okL]) _ rfl (shows_l W x0_0 x0_1 x0_2 x0_3 x0_4 x0_5 x0_6 x0_7 x0_8 a1 x2_0 x2_1 (b16 <| bounds_u16 w0_0) (b16 <| bounds_u16 w0_1) (b16 <| bounds_u16 w0_2) (b16 <| bounds_u16 w0_3) (b16 <| bounds_u16 w0_4) (b16 <| bounds_u16 w0_5) (b16 <| bounds_u16 w0_6) (b16 <| bounds_u16 w0_7) (b16 <| bounds_u16 w0_8) (b16 <| bounds_u16 w1)) W rfl).mono fun e W' ⟨he, hg⟩ => ?_
  subst he
  exact ⟨_, rfl, law_post hW' rfl types_ok (by decide) rfl Try.underlying4 rfl rfl rfl hg⟩
theorem mixShows_holds : Rows.MixShowsSaid :=
  OpenClaim.holds_of_wide 4 Try.f4 rfl rfl rfl rfl rfl rfl rfl ⟨rfl, rfl, rfl, rfl, rfl⟩ rfl rfl rfl rfl rfl (by kernel_rfl) Try.func4 (by kernel_rfl)
    (of_decide_eq_true (by kernel_rfl)) (by unfold Func.isWrapper; first | (rw [if_pos (by decide +kernel)]; kernel_rfl) | (rw [if_neg (by decide +kernel)]; exact ⟨rfl, rfl⟩))
    (fun os started H enc _ => mixShows_lifted os started H enc)
end Go.Proofs.Ytdkegheacceecaa

