import Derived.Test.YtbenllakkajkmaaA
set_option linter.unusedVariables false
set_option linter.unusedSimpArgs false
namespace Go.Proofs.Ytbenllakkajkmaa
open Go Go.Proofs Go.Proofs.Ytbenllakkajkmaa.Ev
theorem sbound_p (E : World) (a : Int) (b : Int) (n : Int) :
    (lawP (fnTree (pe E) (orcA E) (tabL fns) 20000 Try.f5 [.c (.i false .i64 a), .c (.i false .i64 b), .c (.i false .i64 n)] [])) =
    (((bif bif decide (a < (0 : Int)) then true else decide (a > (2199023255552 : Int)) then true else decide (b < (0 : Int))) = true → ((1 : Int) != bif bif bif decide (a < (0
      : Int)) then true else decide (a > (2199023255552 : Int)) then true else decide (b < (0 : Int)) then (1 : Int) else (70 : Int)) = false ∧ ((bif decide (n < (0 : Int)) then
      true else decide (n > (1099511627776 : Int))) = true → (decide (n ≥ (0 : Int)) = true → (false ^^ false == decide (n ≤ (1099511627776 : Int))) = true ∧ true = true) ∧
      (decide (n ≥ (0 : Int)) = false → true = true)) ∧ ((bif decide (n < (0 : Int)) then true else decide (n > (1099511627776 : Int))) = false → decide (n ≥ (0 : Int)) = true ∧
      (false ^^ true == decide (n ≤ (1099511627776 : Int))) = true ∧ (IntKind.i64.wrap ((0 : Int) + n) == n) = true ∧ true = true)) ∧ ((bif bif decide (a < (0 : Int)) then true
      else decide (a > (2199023255552 : Int)) then true else decide (b < (0 : Int))) = false → ((70 : Int) != bif bif bif decide (a < (0 : Int)) then true else decide (a >
      (2199023255552 : Int)) then true else decide (b < (0 : Int)) then (1 : Int) else (70 : Int)) = false ∧ ((bif decide (n < (0 : Int)) then true else decide (n >
      (1099511627776 : Int))) = true → (decide (n ≥ (0 : Int)) = true → (false ^^ false == decide (n ≤ (1099511627776 : Int))) = true ∧ true = true) ∧ (decide (n ≥ (0 : Int)) =
      false → true = true)) ∧ ((bif decide (n < (0 : Int)) then true else decide (n > (1099511627776 : Int))) = false → decide (n ≥ (0 : Int)) = true ∧ (false ^^ true == decide
      (n ≤ (1099511627776 : Int))) = true ∧ (IntKind.i64.wrap ((0 : Int) + n) == n) = true ∧ true = true))) := by kernel_rfl
theorem sbound_l (E : World) (a : Int) (b : Int) (n : Int) : Holds (lawP (fnTree (pe E) (orcA E) (tabL fns) 20000 Try.f5 [.c (.i false .i64 a), .c (.i false .i64 b), .c (.i false .i64 n)] [])) := ⟨by
  rw [sbound_p]
  have hw : 0 ≤ n → n ≤ 1099511627776 → IntKind.i64.wrap (0 + n) = n := fun h1 h2 => by rw [Int.zero_add, wi64]; omega
  refine ⟨fun h => ?_, fun h => ?_⟩ <;> rw [h] <;> refine ⟨by rfl, fun hn => ?_, fun hn => ?_⟩ <;>
    simp only [Bool.cond_eq_ite, Bool.if_true_left, Bool.decide_eq_true, Bool.or_eq_true, Bool.or_eq_false_iff, decide_eq_true_eq, decide_eq_false_iff_not] at hn
  · exact ⟨fun h0 => ⟨by simp at h0 ⊢; omega, rfl⟩, fun _ => rfl⟩
  · exact ⟨by simp; omega, by simp; omega, by rw [hw (by omega) (by omega)]; simp, rfl⟩
  · exact ⟨fun h0 => ⟨by simp at h0 ⊢; omega, rfl⟩, fun _ => rfl⟩
  · exact ⟨by simp; omega, by simp; omega, by rw [hw (by omega) (by omega)]; simp, rfl⟩⟩
end Go.Proofs.Ytbenllakkajkmaa

