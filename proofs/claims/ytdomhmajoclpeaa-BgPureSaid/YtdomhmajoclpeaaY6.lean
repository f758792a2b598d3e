import Derived.Test.YtdomhmajoclpeaaX6f
import Derived.Test.YtdomhmajoclpeaaEx
/- The law BgPure: called with whatever look and numbers it answers true, and each argument reads behind the call as it read before. -/
set_option linter.unusedVariables false
set_option linter.unusedSimpArgs false
namespace Go.Proofs.Ytdomhmajoclpeaa
open Go Go.Proofs Go.Proofs.Ytdomhmajoclpeaa.Ev Go.Proofs.Ytdomhmajoclpeaa.Ev.Ho Go.ChangeShapes Go.WideShapes Go.ChangeAt Go.RowKit Go.IntKind
theorem own : ownKnob Try.prog.godebug = none := by kernel_rfl
theorem types_ok : TypesOK Try.prog := ⟨by kernel_rfl, by kernel_rfl, slices_full_of Try.prog (by kernel_rfl)⟩
theorem okEs_i {k : IntKind} {ks : List EK} {cs : List Value} (h : okEs (.i k :: ks) cs = true) : ∃ x cs', cs = .int k x :: cs' ∧ (Lit.int k x).wf = true ∧ okEs ks cs' = true := by
  cases cs with
  | nil => simp [okEs] at h
  | cons v vs =>
    simp only [okEs, Bool.and_eq_true] at h
    cases v with
    | int k' n =>
      simp only [Go.Proofs.Ytdomhmajoclpeaa.Ev.okE, Bool.and_eq_true, beq_iff_eq] at h
      obtain ⟨⟨rfl, h1⟩, h2⟩ := h
      exact ⟨n, vs, rfl, h1, h2⟩
    | _ => simp [Go.Proofs.Ytdomhmajoclpeaa.Ev.okE] at h
theorem okEs_l {ks : List EK} {cs : List Value} (h : okEs (.l :: ks) cs = true) : ∃ a n c cs', cs = .slice a n c :: cs' ∧ ((a = none → n = 0) ∧ n ≤ maxLen) ∧ okEs ks cs' = true := by
  cases cs with
  | nil => simp [okEs] at h
  | cons v vs =>
    simp only [okEs, Bool.and_eq_true] at h
    cases v with
    | slice a n c =>
      refine ⟨a, n, c, vs, rfl, ?_, h.2⟩
      have h1 := h.1
      cases a with
      | none =>
        cases n with
        | zero => exact ⟨fun _ => rfl, Nat.zero_le _⟩
        | succ n => simp [Go.Proofs.Ytdomhmajoclpeaa.Ev.okE] at h1
      | some a =>
        simp only [Go.Proofs.Ytdomhmajoclpeaa.Ev.okE, Bool.and_eq_true, decide_eq_true_eq] at h1
        exact ⟨(fun hh => nomatch hh), by omega⟩
    | _ => simp [Go.Proofs.Ytdomhmajoclpeaa.Ev.okE] at h
theorem okEs_n {cs : List Value} (h : okEs [] cs = true) : cs = [] := by
  cases cs with
  | nil => rfl
  | cons v vs => simp [okEs] at h
set_option maxRecDepth 100000 in
theorem bgPure_lifted (os : Os) (started : os.Started) (H : Type) (enc : TypeId × Value → H) :
    ReturnsInHanded {} Try.checked os 6 .any (Rows.bgPureSpec.pre6 enc Try.prog Try.f6 Rows.bgPureRow.domain false) (Rows.bgPureSpec.post enc Try.prog Try.f6 false true false false) := by
  refine returnsInHanded_of_change (C := Try.checked) own started (by kernel_rfl) Try.func6
    (ChangeSpec.witness6 (enc := enc) (C := Try.checked) false ⟨#[], #[.agg #[.int .u16 0, .int .u16 0, .int .u16 0, .int .u16 0, .int .u16 0, .int .u16 0, .int .u16 0, .int .u16 0, .int .u16 0, .int .u16 0, .int .u16 0, .int .u16 0, .int .u16 0, .int .i16 0, .int .i16 0, .int .i16 0, .int .i16 0, .int .i16 0, .int .i16 0, .int .i16 0, .int .i16 0, .int .i32 0, .int .i32 0, .int .i32 0, .int .i32 0, .int .u16 0, .slice none 0 0, .slice none 0 0, .slice none 0 0, .int .u32 0, .slice none 0 0], .int .i64 0, .int .i64 0], []⟩ 8 (by kernel_rfl) (by kernel_rfl) (by kernel_rfl) (by kernel_rfl)) ?_
  intro W base args ds gs before hval0 hW hcnd _
  have hval : ∀ (j : Nat) t v, Try.f6.params[j]? = some t → args[j]? = some v → Value.okWide Try.prog W .any base t v := hval0
  have hW' := hW
  obtain ⟨p, q, hA0, hV, rfl, hfz, hnd⟩ := hW
  have hA : DataW.TrodAll enc Try.prog W 0 (fun _ => true) true Try.f6.params.toList args.toList ds p := hA0
  rw [Try.params6] at hA hval
  obtain ⟨v0, vs0, d0, ds0, p0, q0, hargs, rfl, rfl, h0, r0⟩ := trodAll_cons hA
  obtain ⟨v1, vs1, d1, ds1, p1, q1, rfl, rfl, rfl, h1, r1⟩ := trodAll_cons r0
  obtain ⟨v2, vs2, d2, ds2, p2, q2, rfl, rfl, rfl, h2, r2⟩ := trodAll_cons r1
  obtain ⟨rfl, rfl, rfl⟩ := trodAll_nil r2
  obtain rfl : args = #[v0, v1, v2] := by cases args; simp_all
  obtain ⟨rfl, rfl⟩ := trodVars_none hV
  obtain ⟨i, rfl, rfl, rfl, w_i⟩ := open_int Try.underlying3 (hval 1 3 v1 rfl rfl) h1
  obtain ⟨line, rfl, rfl, rfl, w_line⟩ := open_int Try.underlying3 (hval 2 3 v2 rfl rfl) h2
  obtain ⟨cs, rfl, _⟩ := okWide_struct Try.underlying35 (hval 0 35 v0 rfl rfl)
  obtain ⟨n, hn⟩ := h0
  have hn : DataW.trod enc Try.prog W 0 (fun _ => true) true n 35 cs.toList = some (d0, p0) := hn
  have hd := deepE_of (P := Try.prog) 6 35 n cs.toList ⟨_, hn⟩
  have hk := hd.1 [.i .u16, .i .u16, .i .u16, .i .u16, .i .u16, .i .u16, .i .u16, .i .u16, .i .u16, .i .u16, .i .u16, .i .u16, .i .u16, .i .i16, .i .i16, .i .i16, .i .i16, .i .i16, .i .i16, .i .i16, .i .i16, .i .i32, .i .i32, .i .i32, .i .i32, .i .u16, .l, .l, .l, .i .u32, .l] (by kernel_rfl)
  have hv : Value.agg cs = .agg cs.toList.toArray := by simp
  generalize cs.toList = L at hd hk hv
  clear hn
  obtain ⟨x0, L0, rfl, w0, k0⟩ := okEs_i hk
  obtain ⟨x1, L1, rfl, w1, k1⟩ := okEs_i k0
  obtain ⟨x2, L2, rfl, w2, k2⟩ := okEs_i k1
  obtain ⟨x3, L3, rfl, w3, k3⟩ := okEs_i k2
  obtain ⟨x4, L4, rfl, w4, k4⟩ := okEs_i k3
  obtain ⟨x5, L5, rfl, w5, k5⟩ := okEs_i k4
  obtain ⟨x6, L6, rfl, w6, k6⟩ := okEs_i k5
  obtain ⟨x7, L7, rfl, w7, k7⟩ := okEs_i k6
  obtain ⟨x8, L8, rfl, w8, k8⟩ := okEs_i k7
  obtain ⟨x9, L9, rfl, w9, k9⟩ := okEs_i k8
  obtain ⟨x10, L10, rfl, w10, k10⟩ := okEs_i k9
  obtain ⟨x11, L11, rfl, w11, k11⟩ := okEs_i k10
  obtain ⟨x12, L12, rfl, w12, k12⟩ := okEs_i k11
  obtain ⟨x13, L13, rfl, w13, k13⟩ := okEs_i k12
  obtain ⟨x14, L14, rfl, w14, k14⟩ := okEs_i k13
  obtain ⟨x15, L15, rfl, w15, k15⟩ := okEs_i k14
  obtain ⟨x16, L16, rfl, w16, k16⟩ := okEs_i k15
  obtain ⟨x17, L17, rfl, w17, k17⟩ := okEs_i k16
  obtain ⟨x18, L18, rfl, w18, k18⟩ := okEs_i k17
  obtain ⟨x19, L19, rfl, w19, k19⟩ := okEs_i k18
  obtain ⟨x20, L20, rfl, w20, k20⟩ := okEs_i k19
  obtain ⟨x21, L21, rfl, w21, k21⟩ := okEs_i k20
  obtain ⟨x22, L22, rfl, w22, k22⟩ := okEs_i k21
  obtain ⟨x23, L23, rfl, w23, k23⟩ := okEs_i k22
  obtain ⟨x24, L24, rfl, w24, k24⟩ := okEs_i k23
  obtain ⟨x25, L25, rfl, w25, k25⟩ := okEs_i k24
  obtain ⟨a1, n1, m1, M1, rfl, z1, e1⟩ := okEs_l k25
  obtain ⟨a2, n2, m2, M2, rfl, z2, e2⟩ := okEs_l e1
  obtain ⟨a3, n3, m3, M3, rfl, z3, e3⟩ := okEs_l e2
  obtain ⟨x26, L26, rfl, w26, k26⟩ := okEs_i e3
  obtain ⟨a4, n4, m4, M4, rfl, z4, e4⟩ := okEs_l k26
  obtain rfl := okEs_n e4
  rw [hv] at hW' ⊢
  have g4 := hd.2.2 _ Try.underlying35 2 _ rfl
  have hr4 : eRows W a4 n4 3 [.i .i64, .i .i64, .l] = true := deepE_rows (P := Try.prog) (d := 3) (t := 33) (e := 52) (ks := [.i .i64, .i .i64, .l]) (c := m4) Try.underlying33 (by kernel_rfl) (by kernel_rfl) z4.1 g4
  have hi4 := deepE_in (P := Try.prog) (w := W) (d := 1) (t := 33) (e := 52) (e2 := 5) (ks := [.i .i64, .i .i64, .l]) (ks2 := [.i .u8]) (i := 2) (o := 2) (x := a4) (l := n4) (c := m4) Try.underlying33 (by kernel_rfl) (by kernel_rfl) Try.underlying52 rfl rfl (by kernel_rfl) rfl Try.underlying29 (by kernel_rfl) (by kernel_rfl) z4.1 g4
  refine (HD.law (P := pe W) (lawP_c W a1 a2 a3 a4 n1 m1 n2 m2 n3 m3 n4 m4 (fun j => [x0, x1, x2, x3, x4, x5, x6, x7, x8, x9, x10, x11, x12, x13, x14, x15, x16, x17, x18, x19, x20, x21, x22, x23, x24, x25, x26].getD j 0) i line default trivial ⟨⟨bounds_u16 w0, bounds_u16 w1, bounds_u16 w2, bounds_u16 w3, bounds_u16 w4, bounds_u16 w5, bounds_u16 w6, bounds_u16 w7, bounds_u16 w8, bounds_u16 w9, bounds_u16 w10, bounds_u16 w11, bounds_u16 w12, bounds_i16 w13, bounds_i16 w14, bounds_i16 w15, bounds_i16 w16, bounds_i16 w17, bounds_i16 w18, bounds_i16 w19, bounds_i16 w20, bounds_i32 w21, bounds_i32 w22, bounds_i32 w23, bounds_i32 w24, bounds_u16 w25⟩, ⟨hr4, z4.1, z4.2, hi4⟩⟩) (by simp [SV.ok, C.ok, okL]) _ rfl W rfl).mono fun e W' ⟨he, hg⟩ => ?_
  subst he
  exact ⟨_, rfl, law_post hW' rfl types_ok (by decide) rfl Try.underlying4 rfl rfl rfl hg⟩
theorem bgPure_holds : Rows.BgPureSaid :=
  OpenClaim.holds_of_wide 6 Try.f6 rfl rfl rfl rfl rfl rfl rfl ⟨rfl, rfl, rfl, rfl, rfl⟩ rfl rfl rfl rfl rfl (by kernel_rfl) Try.func6 (by kernel_rfl)
    (of_decide_eq_true (by kernel_rfl)) (by unfold Func.isWrapper; first | (rw [if_pos (by decide +kernel)]; kernel_rfl) | (rw [if_neg (by decide +kernel)]; exact ⟨rfl, rfl⟩))
    (fun os started H enc _ => bgPure_lifted os started H enc)
end Go.Proofs.Ytdomhmajoclpeaa

