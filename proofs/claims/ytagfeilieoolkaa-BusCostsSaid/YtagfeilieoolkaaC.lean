import Derived.Test.YtagfeilieoolkaaB
set_option linter.unusedVariables false
set_option linter.unusedSimpArgs false
namespace Go.Proofs.Ytagfeilieoolkaa
open Go Go.Proofs Go.Proofs.Ytagfeilieoolkaa.Ev
theorem cost_ok (f0 f1 f2 s0 s1 s2 sv : Int) (ah : Bool) (a w c : Int) (ha : u32 a = true) (h0 : sm f0 = true) (h1 : sm f1 = true) (h2 : sm f2 = true) (h3 : sm s0 = true) (h4 : sm s1 = true) (h5 : sm s2 = true) (h6 : sm sv = true) :
    conP (.c (.i false .i64 (costV f0 f1 f2 s0 s1 s2 sv a w c))) (fnTree Try.prog orc1 (tabL fns) 1000 Try.f12 [.a [.i false .i64 f0, .i false .i64 f1, .i false .i64 f2, .i false .i64 s0, .i false .i64 s1, .i false .i64 s2, .i false .i64 sv, .b false ah], .c (.i false .u32 a), .c (.i false .i64 w), .c (.i false .i64 c)] []) := by
  rw [cost_p]
  refine ⟨ha, ?_⟩
  rw [u32_iff] at ha
  rw [sm_iff] at h0 h1 h2 h3 h4 h5 h6
  unfold costV
  by_cases h7 : mR a = 7
  · have hb := mR_7 a h7
    have hs := sel3_bd s0 s1 s2 ((a / 16777216 - 8) / 2) h3 h4 h5
    have hf := sel3_bd f0 f1 f2 ((a / 16777216 - 8) / 2) h0 h1 h2
    have e1 : IntKind.u32.wrap ((IntKind.u32.wrap (a.fdiv 16777216 - 8)).tdiv 2) = (a / 16777216 - 8) / 2 := by
      rw [fdiv_lit _ _ (by decide), wu32_in (a / 16777216 - 8) (by omega) (by omega), tdiv_n _ _ (by omega), wu32_in _ (by omega) (by omega)]
    have e2 : IntKind.i64.wrap ((IntKind.i64.wrap (IntKind.i64.wrap (IntKind.u32.wrap (a.tdiv 16777216)) - 8)).tdiv 2) = (a / 16777216 - 8) / 2 := by
      rw [tdiv_n _ _ ha.1, wu32_in (a / 16777216) (by omega) (by omega), wi64_in (a / 16777216) (by omega) (by omega), wi64_in (a / 16777216 - 8) (by omega) (by omega), tdiv_n _ _ (by omega), wi64_in _ (by omega) (by omega)]
    have e3 : a.tmod 131072 = a % 131072 := tmod_n _ _ ha.1
    have hin : inB ((a / 16777216 - 8) / 2) 3 = true := inBl _ _ (by omega) (by omega)
    simp only [h7, e1, e2, e3, hin]
    generalize selI [s0, s1, s2] ((a / 16777216 - 8) / 2) = S at *
    generalize selI [f0, f1, f2] ((a / 16777216 - 8) / 2) = F at *
    simp (disch := omega) only [wi64_in, beqd, bne0, ne_eq, decide_eq_true_eq, decide_eq_false_iff_not, Int.reduceEq, if_false, if_true, false_implies, true_implies, true_and, and_true, not_true_eq_false, not_false_eq_true, forall_const, or_false, or_self, Int.add_zero]
    generalize a % 131072 = z at *
    (repeat' first | apply And.intro | intro _) <;> simp [*] <;> omega
  · simp (disch := omega) only [h7, wi64_in, beqd, bne0, ne_eq, decide_eq_true_eq, decide_eq_false_iff_not, if_false, false_implies, true_implies, true_and, and_true, not_true_eq_false, not_false_eq_true, forall_const]
    (repeat' first | apply And.intro | intro _) <;> simp [*]
theorem rcost_ok (f0 f1 f2 s0 s1 s2 sv : Int) (ah : Bool) (a w c : Int) (ha : u32 a = true) (h0 : sm f0 = true) (h1 : sm f1 = true) (h2 : sm f2 = true) (h3 : sm s0 = true) (h4 : sm s1 = true) (h5 : sm s2 = true) (h6 : sm sv = true) :
    conP (.c (.i false .i64 (costV f0 f1 f2 s0 s1 s2 sv a w c))) (fnTree Try.prog orc1 (tabL fns) 1000 Try.f13 [.a [.i false .i64 f0, .i false .i64 f1, .i false .i64 f2, .i false .i64 s0, .i false .i64 s1, .i false .i64 s2, .i false .i64 sv, .b false ah], .c (.i false .u32 a), .c (.i false .i64 w), .c (.i false .i64 c)] []) := by
  rw [rcost_p]
  refine ⟨ha, ?_⟩
  rw [u32_iff] at ha
  rw [sm_iff] at h0 h1 h2 h3 h4 h5 h6
  unfold costV
  by_cases h7 : mR a = 7
  · have hb := mR_7 a h7
    have hs := sel3_bd s0 s1 s2 ((a / 16777216 - 8) / 2) h3 h4 h5
    have hf := sel3_bd f0 f1 f2 ((a / 16777216 - 8) / 2) h0 h1 h2
    have e1 : IntKind.u32.wrap ((IntKind.u32.wrap (a.fdiv 16777216 - 8)).tdiv 2) = (a / 16777216 - 8) / 2 := by
      rw [fdiv_lit _ _ (by decide), wu32_in (a / 16777216 - 8) (by omega) (by omega), tdiv_n _ _ (by omega), wu32_in _ (by omega) (by omega)]
    have e2 : IntKind.i64.wrap ((IntKind.i64.wrap (IntKind.i64.wrap (IntKind.u32.wrap (a.tdiv 16777216)) - 8)).tdiv 2) = (a / 16777216 - 8) / 2 := by
      rw [tdiv_n _ _ ha.1, wu32_in (a / 16777216) (by omega) (by omega), wi64_in (a / 16777216) (by omega) (by omega), wi64_in (a / 16777216 - 8) (by omega) (by omega), tdiv_n _ _ (by omega), wi64_in _ (by omega) (by omega)]
    have e3 : a.tmod 131072 = a % 131072 := tmod_n _ _ ha.1
    have hin : inB ((a / 16777216 - 8) / 2) 3 = true := inBl _ _ (by omega) (by omega)
    simp only [h7, e1, e2, e3, hin]
    generalize selI [s0, s1, s2] ((a / 16777216 - 8) / 2) = S at *
    generalize selI [f0, f1, f2] ((a / 16777216 - 8) / 2) = F at *
    simp (disch := omega) only [wi64_in, beqd, bne0, ne_eq, decide_eq_true_eq, decide_eq_false_iff_not, Int.reduceEq, if_false, if_true, false_implies, true_implies, true_and, and_true, not_true_eq_false, not_false_eq_true, forall_const, or_false, or_self, Int.add_zero]
    generalize a % 131072 = z at *
    (repeat' first | apply And.intro | intro _) <;> simp [*] <;> omega
  · simp (disch := omega) only [h7, wi64_in, beqd, bne0, ne_eq, decide_eq_true_eq, decide_eq_false_iff_not, if_false, false_implies, true_implies, true_and, and_true, not_true_eq_false, not_false_eq_true, forall_const]
    (repeat' first | apply And.intro | intro _) <;> simp [*]
end Go.Proofs.Ytagfeilieoolkaa

