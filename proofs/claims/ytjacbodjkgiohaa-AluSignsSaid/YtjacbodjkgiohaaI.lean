import Derived.Test.YtjacbodjkgiohaaF
import Derived.Test.YtjacbodjkgiohaaH
set_option linter.unusedVariables false
set_option linter.unusedSimpArgs false
namespace Go.Proofs.Ytjacbodjkgiohaa
open Go Go.Proofs Go.Proofs.Ytjacbodjkgiohaa.Ev
theorem u32_w (x : Int) : u32 (IntKind.u32.wrap x) = true := by rw [u32_iff, wu32]; exact ⟨Int.emod_nonneg _ (by decide), Int.emod_lt_of_pos _ (by decide)⟩
theorem muls_l (m a b : Int) (n z c v sh : Bool) (k : Int) (ha : u32 a = true) (hb : u32 b = true) :
    lawP (fnTree Try.prog orc3 (tabL fns) 1000 Try.f5 [.a [.i false .i64 m, .i false .u32 a, .i false .u32 b, .b false n, .b false z, .b false c, .b false v, .b false sh], .c (.i false .u64 k)] []) := by
  rw [muls_p]
  refine ⟨ha, hb, u32_w k, ha, hb, u32_w k, ha, hb, ha, hb, by simp, by simp, by simp, by simp, hb, hb, by simp⟩
theorem signs_l (a b c : Int) (ha : u32 a = true) (hb : u32 b = true) :
    lawP (fnTree Try.prog orc3 (tabL fns) 1000 Try.f8 [.c (.i false .u32 a), .c (.i false .u32 b), .c (.i false .u64 c)] []) := by
  rw [signs_p]
  have ha' := ha; have hb' := hb
  rw [u32_iff] at ha hb
  have h1 := sg_bd a ha
  have h2 := sg_bd b hb
  have hp := smul_bd _ _ h1 h2
  have hq := mul_bd a b ha hb
  have sa : sg a % 4294967296 = a := by unfold sg; split <;> omega
  have sb : sg b % 4294967296 = b := by unfold sg; split <;> omega
  have hpq : (sg a * sg b) % 4294967296 = (a * b) % 4294967296 := by rw [Int.mul_emod, sa, sb]
  rw [i32_sg a ha, i32_sg b hb, i64_in (sg a) (by omega), i64_in (sg b) (by omega), w64_in a (by omega), w64_in b (by omega)]
  unfold lX mX lP
  simp only [if_true, Bool.false_eq_true, if_false, Int.add_zero]
  generalize sg a * sg b = p at *
  generalize a * b = q at *
  rw [i64_in p (by omega)]
  have e1 : IntKind.i64.wrap (p % 18446744073709551616) = p := by rw [wi64]; omega
  rw [e1, w64_in q (by omega), wu32, wu32, wu64]
  refine ⟨ha', hb', ha', hb', ha', hb', by decide, ha', hb', by simp, ?_, ?_, ?_, ?_, ?_, ?_⟩
  · simp only [beq_iff_eq]; omega
  · simp only [beq_iff_eq]; omega
  · simp only [beq_iff_eq]; omega
  · simp only [Bool.false_xor, beq_iff_eq, decide_eq_decide]; omega
  · rw [beq0]; simp
  · simp only [beq_iff_eq]; omega
end Go.Proofs.Ytjacbodjkgiohaa

