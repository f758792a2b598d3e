import Derived.Test.YtbnglhfhmhnimaaC
set_option linter.unusedVariables false
set_option linter.unusedSimpArgs false
namespace Go.Proofs.Ytbnglhfhmhnimaa
open Go Go.Proofs Go.Proofs.Ytbnglhfhmhnimaa.Ev
def u32 (x : Int) : Bool := decide (0 ≤ x ∧ x < 4294967296)
theorem u32_iff (x : Int) : u32 x = true ↔ 0 ≤ x ∧ x < 4294967296 := by simp [u32]
theorem nib (x : Int) : decide (x % 16 < 0) = false ∧ decide (x % 16 > 15) = false := by
  rw [decide_eq_false_iff_not, decide_eq_false_iff_not]; omega
theorem top4 (w : Int) (hw : 0 ≤ w ∧ w < 4294967296) : decide (w / 268435456 < 0) = false ∧ decide (w / 268435456 > 15) = false := by
  rw [decide_eq_false_iff_not, decide_eq_false_iff_not]; omega
set_option maxHeartbeats 4000000 in
theorem fields_l (w : Int) (hw : u32 w = true) : lawP (fnTree Try.prog orc1 (tabL fns) 20000 Try.f5 [.c (.i false .u32 w)] []) := by
  rw [ArmFields_p]
  rw [u32_iff] at hw
  have t4 := top4 w hw
  simp (disch := first | decide | omega) only [and_m1, and_m2, and_m3, and_m4, and_m5, and_m8, and_m12, and_m16, fdiv_lit, wi64_in, nib, t4, Int.ediv_one, true_and, and_true, and_self, beq_self_eq_true, Bool.and_self, Bool.and_true, Bool.false_xor, Bool.xor_false, implies_true]
  (repeat' first | apply And.intro | intro _) <;> first | rfl | trivial | (simp only [decide_eq_false_iff_not, decide_eq_true_eq]; omega) | (simp; done)
end Go.Proofs.Ytbnglhfhmhnimaa

