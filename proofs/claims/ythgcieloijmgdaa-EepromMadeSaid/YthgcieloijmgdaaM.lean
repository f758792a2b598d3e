import Derived.Test.YthgcieloijmgdaaA
set_option linter.unusedVariables false
set_option linter.unusedSimpArgs false
namespace Go.Proofs.Ythgcieloijmgdaa
open Go Go.Proofs Go.Proofs.Ythgcieloijmgdaa.Ev
theorem made_p (E : World) (n : Int) (b : Int) :
    (lawP (fnTree (pe E) (orcA E) (tabL fns) 20000 Try.f5 [.c (.i false .i64 n), .c (.i false .u8 b)] [])) =
    ((decide (n < (0 : Int)) = true → true = true) ∧ (decide (n < (0 : Int)) = false → (decide (n > (200000 : Int)) = true → true = true) ∧ (decide (n > (200000 : Int)) = false
      → repOK (ByteArray.mk #[(120 : UInt8)]) n = true ∧ (((↑(repB (ByteArray.mk #[(120 : UInt8)]) n).size : Int) == (512 : Int)) = true → ((n == (512 : Int)) = true → ((false
      ^^ repB (ByteArray.mk #[(120 : UInt8)]) n == ByteArray.mk #[]) = true → true = true) ∧ ((false ^^ repB (ByteArray.mk #[(120 : UInt8)]) n == ByteArray.mk #[]) = false →
      true = true)) ∧ ((n == (512 : Int)) = false → (true ^^ true == (n == (8192 : Int))) = false ∧ ((false ^^ repB (ByteArray.mk #[(120 : UInt8)]) n == ByteArray.mk #[]) = true
      → true = true) ∧ ((false ^^ repB (ByteArray.mk #[(120 : UInt8)]) n == ByteArray.mk #[]) = false → true = true))) ∧ (((↑(repB (ByteArray.mk #[(120 : UInt8)]) n).size : Int)
      == (512 : Int)) = false → (((↑(repB (ByteArray.mk #[(120 : UInt8)]) n).size : Int) == (8192 : Int)) = true → ((n == (512 : Int)) = true → ((false ^^ repB (ByteArray.mk
      #[(120 : UInt8)]) n == ByteArray.mk #[]) = true → true = true) ∧ ((false ^^ repB (ByteArray.mk #[(120 : UInt8)]) n == ByteArray.mk #[]) = false → true = true)) ∧ ((n ==
      (512 : Int)) = false → (true ^^ true == (n == (8192 : Int))) = false ∧ ((false ^^ repB (ByteArray.mk #[(120 : UInt8)]) n == ByteArray.mk #[]) = true → true = true) ∧
      ((false ^^ repB (ByteArray.mk #[(120 : UInt8)]) n == ByteArray.mk #[]) = false → true = true))) ∧ (((↑(repB (ByteArray.mk #[(120 : UInt8)]) n).size : Int) == (8192 : Int))
      = false → (n == (512 : Int)) = false ∧ (true ^^ false == (n == (8192 : Int))) = false ∧ true = true))))) := by kernel_rfl
theorem made_l (E : World) (n : Int) (b : Int) : Holds (lawP (fnTree (pe E) (orcA E) (tabL fns) 20000 Try.f5 [.c (.i false .i64 n), .c (.i false .u8 b)] [])) := ⟨by
  rw [made_p]
  refine ⟨fun _ => rfl, fun h0 => ⟨fun _ => rfl, fun h1 => ?_⟩⟩
  have h0 : ¬ n < 0 := of_decide_eq_false h0
  have h1 : ¬ n > 200000 := of_decide_eq_false h1
  have e1 : (ByteArray.mk #[(120 : UInt8)]).size = 1 := rfl
  have hs : ((repB (ByteArray.mk #[(120 : UInt8)]) n).size : Int) = n := by rw [repB_size, e1]; omega
  refine ⟨?_, ?_⟩
  · have : Nat.ble (1 * n.toNat) 140737488355328 = true := Nat.ble_eq_true_of_le (by omega)
    simp only [repOK, e1, this, Bool.and_eq_true, decide_eq_true_eq, and_true]; omega
  · rw [hs]
    cases h5 : (n == 512) <;> cases h8 : (n == 8192) <;> simp⟩
end Go.Proofs.Ythgcieloijmgdaa

