import Derived.Test.YtagfeilieoolkaaD
set_option linter.unusedVariables false
set_option linter.unusedSimpArgs false
namespace Go.Proofs.Ytagfeilieoolkaa
open Go Go.Proofs Go.Proofs.Ytagfeilieoolkaa.Ev
theorem costs_p (a w d c : Int) :
    (lawP (fnTree Try.prog orc2 (tabL fns) 1000 Try.f5 [.a [.i false .u32 a, .i false .u16 w, .i false .i64 d, .i false .i64 c]] [])) =
    (u16 w = true ∧ u32 a = true ∧ sm (fst (w / (4 : Int) % (4 : Int))) = true ∧ sm (fst (w / (32 : Int) % (4 : Int))) = true ∧ sm (fst (w / (256 : Int) % (4 : Int))) = true ∧
      sm (if w / (16 : Int) % (2 : Int) = (1 : Int) then (1 : Int) else (2 : Int)) = true ∧ sm (if w / (128 : Int) % (2 : Int) = (1 : Int) then (1 : Int) else (4 : Int)) = true
      ∧ sm (if w / (1024 : Int) % (2 : Int) = (1 : Int) then (1 : Int) else (8 : Int)) = true ∧ sm (fst (w % (4 : Int))) = true ∧ u32 a = true ∧ sm (fst (w / (4 : Int) % (4 :
      Int))) = true ∧ sm (fst (w / (32 : Int) % (4 : Int))) = true ∧ sm (fst (w / (256 : Int) % (4 : Int))) = true ∧ sm (if w / (16 : Int) % (2 : Int) = (1 : Int) then (1 : Int)
      else (2 : Int)) = true ∧ sm (if w / (128 : Int) % (2 : Int) = (1 : Int) then (1 : Int) else (4 : Int)) = true ∧ sm (if w / (1024 : Int) % (2 : Int) = (1 : Int) then (1 :
      Int) else (8 : Int)) = true ∧ sm (fst (w % (4 : Int))) = true ∧ decide (costV (fst (w / (4 : Int) % (4 : Int))) (fst (w / (32 : Int) % (4 : Int))) (fst (w / (256 : Int) %
      (4 : Int))) (if w / (16 : Int) % (2 : Int) = (1 : Int) then (1 : Int) else (2 : Int)) (if w / (128 : Int) % (2 : Int) = (1 : Int) then (1 : Int) else (4 : Int)) (if w /
      (1024 : Int) % (2 : Int) = (1 : Int) then (1 : Int) else (8 : Int)) (fst (w % (4 : Int))) a (1 : Int) (0 : Int) < (1 : Int)) = false ∧ decide (costV (fst (w / (4 : Int) %
      (4 : Int))) (fst (w / (32 : Int) % (4 : Int))) (fst (w / (256 : Int) % (4 : Int))) (if w / (16 : Int) % (2 : Int) = (1 : Int) then (1 : Int) else (2 : Int)) (if w / (128 :
      Int) % (2 : Int) = (1 : Int) then (1 : Int) else (4 : Int)) (if w / (1024 : Int) % (2 : Int) = (1 : Int) then (1 : Int) else (8 : Int)) (fst (w % (4 : Int))) a (1 : Int)
      (1 : Int) < (1 : Int)) = false ∧ u32 a = true ∧ sm (fst (w / (4 : Int) % (4 : Int))) = true ∧ sm (fst (w / (32 : Int) % (4 : Int))) = true ∧ sm (fst (w / (256 : Int) % (4
      : Int))) = true ∧ sm (if w / (16 : Int) % (2 : Int) = (1 : Int) then (1 : Int) else (2 : Int)) = true ∧ sm (if w / (128 : Int) % (2 : Int) = (1 : Int) then (1 : Int) else
      (4 : Int)) = true ∧ sm (if w / (1024 : Int) % (2 : Int) = (1 : Int) then (1 : Int) else (8 : Int)) = true ∧ sm (fst (w % (4 : Int))) = true ∧ u32 a = true ∧ sm (fst (w /
      (4 : Int) % (4 : Int))) = true ∧ sm (fst (w / (32 : Int) % (4 : Int))) = true ∧ sm (fst (w / (256 : Int) % (4 : Int))) = true ∧ sm (if w / (16 : Int) % (2 : Int) = (1 :
      Int) then (1 : Int) else (2 : Int)) = true ∧ sm (if w / (128 : Int) % (2 : Int) = (1 : Int) then (1 : Int) else (4 : Int)) = true ∧ sm (if w / (1024 : Int) % (2 : Int) =
      (1 : Int) then (1 : Int) else (8 : Int)) = true ∧ sm (fst (w % (4 : Int))) = true ∧ decide (costV (fst (w / (4 : Int) % (4 : Int))) (fst (w / (32 : Int) % (4 : Int))) (fst
      (w / (256 : Int) % (4 : Int))) (if w / (16 : Int) % (2 : Int) = (1 : Int) then (1 : Int) else (2 : Int)) (if w / (128 : Int) % (2 : Int) = (1 : Int) then (1 : Int) else (4
      : Int)) (if w / (1024 : Int) % (2 : Int) = (1 : Int) then (1 : Int) else (8 : Int)) (fst (w % (4 : Int))) a (4 : Int) c < costV (fst (w / (4 : Int) % (4 : Int))) (fst (w /
      (32 : Int) % (4 : Int))) (fst (w / (256 : Int) % (4 : Int))) (if w / (16 : Int) % (2 : Int) = (1 : Int) then (1 : Int) else (2 : Int)) (if w / (128 : Int) % (2 : Int) = (1
      : Int) then (1 : Int) else (4 : Int)) (if w / (1024 : Int) % (2 : Int) = (1 : Int) then (1 : Int) else (8 : Int)) (fst (w % (4 : Int))) a (2 : Int) c) = false ∧ u32 a =
      true ∧ sm (fst (w / (4 : Int) % (4 : Int))) = true ∧ sm (fst (w / (32 : Int) % (4 : Int))) = true ∧ sm (fst (w / (256 : Int) % (4 : Int))) = true ∧ sm (if w / (16 : Int) %
      (2 : Int) = (1 : Int) then (1 : Int) else (2 : Int)) = true ∧ sm (if w / (128 : Int) % (2 : Int) = (1 : Int) then (1 : Int) else (4 : Int)) = true ∧ sm (if w / (1024 :
      Int) % (2 : Int) = (1 : Int) then (1 : Int) else (8 : Int)) = true ∧ sm (fst (w % (4 : Int))) = true ∧ u32 a = true ∧ sm (fst (w / (4 : Int) % (4 : Int))) = true ∧ sm (fst
      (w / (32 : Int) % (4 : Int))) = true ∧ sm (fst (w / (256 : Int) % (4 : Int))) = true ∧ sm (if w / (16 : Int) % (2 : Int) = (1 : Int) then (1 : Int) else (2 : Int)) = true
      ∧ sm (if w / (128 : Int) % (2 : Int) = (1 : Int) then (1 : Int) else (4 : Int)) = true ∧ sm (if w / (1024 : Int) % (2 : Int) = (1 : Int) then (1 : Int) else (8 : Int)) =
      true ∧ sm (fst (w % (4 : Int))) = true ∧ (costV (fst (w / (4 : Int) % (4 : Int))) (fst (w / (32 : Int) % (4 : Int))) (fst (w / (256 : Int) % (4 : Int))) (if w / (16 : Int)
      % (2 : Int) = (1 : Int) then (1 : Int) else (2 : Int)) (if w / (128 : Int) % (2 : Int) = (1 : Int) then (1 : Int) else (4 : Int)) (if w / (1024 : Int) % (2 : Int) = (1 :
      Int) then (1 : Int) else (8 : Int)) (fst (w % (4 : Int))) a (1 : Int) c != costV (fst (w / (4 : Int) % (4 : Int))) (fst (w / (32 : Int) % (4 : Int))) (fst (w / (256 : Int)
      % (4 : Int))) (if w / (16 : Int) % (2 : Int) = (1 : Int) then (1 : Int) else (2 : Int)) (if w / (128 : Int) % (2 : Int) = (1 : Int) then (1 : Int) else (4 : Int)) (if w /
      (1024 : Int) % (2 : Int) = (1 : Int) then (1 : Int) else (8 : Int)) (fst (w % (4 : Int))) a (2 : Int) c) = false ∧ u32 a = true ∧ ((mR a != (7 : Int)) = true → (costV (fst
      (w / (4 : Int) % (4 : Int))) (fst (w / (32 : Int) % (4 : Int))) (fst (w / (256 : Int) % (4 : Int))) (if w / (16 : Int) % (2 : Int) = (1 : Int) then (1 : Int) else (2 :
      Int)) (if w / (128 : Int) % (2 : Int) = (1 : Int) then (1 : Int) else (4 : Int)) (if w / (1024 : Int) % (2 : Int) = (1 : Int) then (1 : Int) else (8 : Int)) (fst (w % (4 :
      Int))) a (1 : Int) (0 : Int) != costV (fst (w / (4 : Int) % (4 : Int))) (fst (w / (32 : Int) % (4 : Int))) (fst (w / (256 : Int) % (4 : Int))) (if w / (16 : Int) % (2 :
      Int) = (1 : Int) then (1 : Int) else (2 : Int)) (if w / (128 : Int) % (2 : Int) = (1 : Int) then (1 : Int) else (4 : Int)) (if w / (1024 : Int) % (2 : Int) = (1 : Int)
      then (1 : Int) else (8 : Int)) (fst (w % (4 : Int))) a (1 : Int) (1 : Int)) = false ∧ u32 a = true ∧ sm (fst (w / (4 : Int) % (4 : Int))) = true ∧ sm (fst (w / (32 : Int)
      % (4 : Int))) = true ∧ sm (fst (w / (256 : Int) % (4 : Int))) = true ∧ sm (if w / (16 : Int) % (2 : Int) = (1 : Int) then (1 : Int) else (2 : Int)) = true ∧ sm (if w /
      (128 : Int) % (2 : Int) = (1 : Int) then (1 : Int) else (4 : Int)) = true ∧ sm (if w / (1024 : Int) % (2 : Int) = (1 : Int) then (1 : Int) else (8 : Int)) = true ∧ sm (fst
      (w % (4 : Int))) = true ∧ u32 a = true ∧ sm (fst (w / (4 : Int) % (4 : Int))) = true ∧ sm (fst (w / (32 : Int) % (4 : Int))) = true ∧ sm (fst (w / (256 : Int) % (4 :
      Int))) = true ∧ sm (if w / (16 : Int) % (2 : Int) = (1 : Int) then (1 : Int) else (2 : Int)) = true ∧ sm (if w / (128 : Int) % (2 : Int) = (1 : Int) then (1 : Int) else (4
      : Int)) = true ∧ sm (if w / (1024 : Int) % (2 : Int) = (1 : Int) then (1 : Int) else (8 : Int)) = true ∧ sm (fst (w % (4 : Int))) = true ∧ decide (costV (fst (w / (4 :
      Int) % (4 : Int))) (fst (w / (32 : Int) % (4 : Int))) (fst (w / (256 : Int) % (4 : Int))) (if w / (16 : Int) % (2 : Int) = (1 : Int) then (1 : Int) else (2 : Int)) (if w /
      (128 : Int) % (2 : Int) = (1 : Int) then (1 : Int) else (4 : Int)) (if w / (1024 : Int) % (2 : Int) = (1 : Int) then (1 : Int) else (8 : Int)) (fst (w % (4 : Int))) a (2 :
      Int) (0 : Int) < (1 : Int)) = false ∧ decide (costV (fst (w / (4 : Int) % (4 : Int))) (fst (w / (32 : Int) % (4 : Int))) (fst (w / (256 : Int) % (4 : Int))) (if w / (16 :
      Int) % (2 : Int) = (1 : Int) then (1 : Int) else (2 : Int)) (if w / (128 : Int) % (2 : Int) = (1 : Int) then (1 : Int) else (4 : Int)) (if w / (1024 : Int) % (2 : Int) =
      (1 : Int) then (1 : Int) else (8 : Int)) (fst (w % (4 : Int))) a (2 : Int) (1 : Int) < (1 : Int)) = false ∧ u32 a = true ∧ sm (fst (w / (4 : Int) % (4 : Int))) = true ∧ sm
      (fst (w / (32 : Int) % (4 : Int))) = true ∧ sm (fst (w / (256 : Int) % (4 : Int))) = true ∧ sm (if w / (16 : Int) % (2 : Int) = (1 : Int) then (1 : Int) else (2 : Int)) =
      true ∧ sm (if w / (128 : Int) % (2 : Int) = (1 : Int) then (1 : Int) else (4 : Int)) = true ∧ sm (if w / (1024 : Int) % (2 : Int) = (1 : Int) then (1 : Int) else (8 :
      Int)) = true ∧ sm (fst (w % (4 : Int))) = true ∧ u32 a = true ∧ sm (fst (w / (4 : Int) % (4 : Int))) = true ∧ sm (fst (w / (32 : Int) % (4 : Int))) = true ∧ sm (fst (w /
      (256 : Int) % (4 : Int))) = true ∧ sm (if w / (16 : Int) % (2 : Int) = (1 : Int) then (1 : Int) else (2 : Int)) = true ∧ sm (if w / (128 : Int) % (2 : Int) = (1 : Int)
      then (1 : Int) else (4 : Int)) = true ∧ sm (if w / (1024 : Int) % (2 : Int) = (1 : Int) then (1 : Int) else (8 : Int)) = true ∧ sm (fst (w % (4 : Int))) = true ∧ decide
      (costV (fst (w / (4 : Int) % (4 : Int))) (fst (w / (32 : Int) % (4 : Int))) (fst (w / (256 : Int) % (4 : Int))) (if w / (16 : Int) % (2 : Int) = (1 : Int) then (1 : Int)
      else (2 : Int)) (if w / (128 : Int) % (2 : Int) = (1 : Int) then (1 : Int) else (4 : Int)) (if w / (1024 : Int) % (2 : Int) = (1 : Int) then (1 : Int) else (8 : Int)) (fst
      (w % (4 : Int))) a (4 : Int) c < costV (fst (w / (4 : Int) % (4 : Int))) (fst (w / (32 : Int) % (4 : Int))) (fst (w / (256 : Int) % (4 : Int))) (if w / (16 : Int) % (2 :
      Int) = (1 : Int) then (1 : Int) else (2 : Int)) (if w / (128 : Int) % (2 : Int) = (1 : Int) then (1 : Int) else (4 : Int)) (if w / (1024 : Int) % (2 : Int) = (1 : Int)
      then (1 : Int) else (8 : Int)) (fst (w % (4 : Int))) a (2 : Int) c) = false ∧ u32 a = true ∧ sm (fst (w / (4 : Int) % (4 : Int))) = true ∧ sm (fst (w / (32 : Int) % (4 :
      Int))) = true ∧ sm (fst (w / (256 : Int) % (4 : Int))) = true ∧ sm (if w / (16 : Int) % (2 : Int) = (1 : Int) then (1 : Int) else (2 : Int)) = true ∧ sm (if w / (128 :
      Int) % (2 : Int) = (1 : Int) then (1 : Int) else (4 : Int)) = true ∧ sm (if w / (1024 : Int) % (2 : Int) = (1 : Int) then (1 : Int) else (8 : Int)) = true ∧ sm (fst (w %
      (4 : Int))) = true ∧ u32 a = true ∧ sm (fst (w / (4 : Int) % (4 : Int))) = true ∧ sm (fst (w / (32 : Int) % (4 : Int))) = true ∧ sm (fst (w / (256 : Int) % (4 : Int))) =
      true ∧ sm (if w / (16 : Int) % (2 : Int) = (1 : Int) then (1 : Int) else (2 : Int)) = true ∧ sm (if w / (128 : Int) % (2 : Int) = (1 : Int) then (1 : Int) else (4 : Int))
      = true ∧ sm (if w / (1024 : Int) % (2 : Int) = (1 : Int) then (1 : Int) else (8 : Int)) = true ∧ sm (fst (w % (4 : Int))) = true ∧ (costV (fst (w / (4 : Int) % (4 : Int)))
      (fst (w / (32 : Int) % (4 : Int))) (fst (w / (256 : Int) % (4 : Int))) (if w / (16 : Int) % (2 : Int) = (1 : Int) then (1 : Int) else (2 : Int)) (if w / (128 : Int) % (2 :
      Int) = (1 : Int) then (1 : Int) else (4 : Int)) (if w / (1024 : Int) % (2 : Int) = (1 : Int) then (1 : Int) else (8 : Int)) (fst (w % (4 : Int))) a (1 : Int) c != costV
      (fst (w / (4 : Int) % (4 : Int))) (fst (w / (32 : Int) % (4 : Int))) (fst (w / (256 : Int) % (4 : Int))) (if w / (16 : Int) % (2 : Int) = (1 : Int) then (1 : Int) else (2
      : Int)) (if w / (128 : Int) % (2 : Int) = (1 : Int) then (1 : Int) else (4 : Int)) (if w / (1024 : Int) % (2 : Int) = (1 : Int) then (1 : Int) else (8 : Int)) (fst (w % (4
      : Int))) a (2 : Int) c) = false ∧ u32 a = true ∧ ((mR a != (7 : Int)) = true → (costV (fst (w / (4 : Int) % (4 : Int))) (fst (w / (32 : Int) % (4 : Int))) (fst (w / (256 :
      Int) % (4 : Int))) (if w / (16 : Int) % (2 : Int) = (1 : Int) then (1 : Int) else (2 : Int)) (if w / (128 : Int) % (2 : Int) = (1 : Int) then (1 : Int) else (4 : Int)) (if
      w / (1024 : Int) % (2 : Int) = (1 : Int) then (1 : Int) else (8 : Int)) (fst (w % (4 : Int))) a (2 : Int) (0 : Int) != costV (fst (w / (4 : Int) % (4 : Int))) (fst (w /
      (32 : Int) % (4 : Int))) (fst (w / (256 : Int) % (4 : Int))) (if w / (16 : Int) % (2 : Int) = (1 : Int) then (1 : Int) else (2 : Int)) (if w / (128 : Int) % (2 : Int) = (1
      : Int) then (1 : Int) else (4 : Int)) (if w / (1024 : Int) % (2 : Int) = (1 : Int) then (1 : Int) else (8 : Int)) (fst (w % (4 : Int))) a (2 : Int) (1 : Int)) = false ∧
      u32 a = true ∧ sm (fst (w / (4 : Int) % (4 : Int))) = true ∧ sm (fst (w / (32 : Int) % (4 : Int))) = true ∧ sm (fst (w / (256 : Int) % (4 : Int))) = true ∧ sm (if w / (16
      : Int) % (2 : Int) = (1 : Int) then (1 : Int) else (2 : Int)) = true ∧ sm (if w / (128 : Int) % (2 : Int) = (1 : Int) then (1 : Int) else (4 : Int)) = true ∧ sm (if w /
      (1024 : Int) % (2 : Int) = (1 : Int) then (1 : Int) else (8 : Int)) = true ∧ sm (fst (w % (4 : Int))) = true ∧ u32 a = true ∧ sm (fst (w / (4 : Int) % (4 : Int))) = true ∧
      sm (fst (w / (32 : Int) % (4 : Int))) = true ∧ sm (fst (w / (256 : Int) % (4 : Int))) = true ∧ sm (if w / (16 : Int) % (2 : Int) = (1 : Int) then (1 : Int) else (2 : Int))
      = true ∧ sm (if w / (128 : Int) % (2 : Int) = (1 : Int) then (1 : Int) else (4 : Int)) = true ∧ sm (if w / (1024 : Int) % (2 : Int) = (1 : Int) then (1 : Int) else (8 :
      Int)) = true ∧ sm (fst (w % (4 : Int))) = true ∧ decide (costV (fst (w / (4 : Int) % (4 : Int))) (fst (w / (32 : Int) % (4 : Int))) (fst (w / (256 : Int) % (4 : Int))) (if
      w / (16 : Int) % (2 : Int) = (1 : Int) then (1 : Int) else (2 : Int)) (if w / (128 : Int) % (2 : Int) = (1 : Int) then (1 : Int) else (4 : Int)) (if w / (1024 : Int) % (2
      : Int) = (1 : Int) then (1 : Int) else (8 : Int)) (fst (w % (4 : Int))) a (4 : Int) (0 : Int) < (1 : Int)) = false ∧ decide (costV (fst (w / (4 : Int) % (4 : Int))) (fst
      (w / (32 : Int) % (4 : Int))) (fst (w / (256 : Int) % (4 : Int))) (if w / (16 : Int) % (2 : Int) = (1 : Int) then (1 : Int) else (2 : Int)) (if w / (128 : Int) % (2 : Int)
      = (1 : Int) then (1 : Int) else (4 : Int)) (if w / (1024 : Int) % (2 : Int) = (1 : Int) then (1 : Int) else (8 : Int)) (fst (w % (4 : Int))) a (4 : Int) (1 : Int) < (1 :
      Int)) = false ∧ u32 a = true ∧ sm (fst (w / (4 : Int) % (4 : Int))) = true ∧ sm (fst (w / (32 : Int) % (4 : Int))) = true ∧ sm (fst (w / (256 : Int) % (4 : Int))) = true ∧
      sm (if w / (16 : Int) % (2 : Int) = (1 : Int) then (1 : Int) else (2 : Int)) = true ∧ sm (if w / (128 : Int) % (2 : Int) = (1 : Int) then (1 : Int) else (4 : Int)) = true
      ∧ sm (if w / (1024 : Int) % (2 : Int) = (1 : Int) then (1 : Int) else (8 : Int)) = true ∧ sm (fst (w % (4 : Int))) = true ∧ u32 a = true ∧ sm (fst (w / (4 : Int) % (4 :
      Int))) = true ∧ sm (fst (w / (32 : Int) % (4 : Int))) = true ∧ sm (fst (w / (256 : Int) % (4 : Int))) = true ∧ sm (if w / (16 : Int) % (2 : Int) = (1 : Int) then (1 : Int)
      else (2 : Int)) = true ∧ sm (if w / (128 : Int) % (2 : Int) = (1 : Int) then (1 : Int) else (4 : Int)) = true ∧ sm (if w / (1024 : Int) % (2 : Int) = (1 : Int) then (1 :
      Int) else (8 : Int)) = true ∧ sm (fst (w % (4 : Int))) = true ∧ decide (costV (fst (w / (4 : Int) % (4 : Int))) (fst (w / (32 : Int) % (4 : Int))) (fst (w / (256 : Int) %
      (4 : Int))) (if w / (16 : Int) % (2 : Int) = (1 : Int) then (1 : Int) else (2 : Int)) (if w / (128 : Int) % (2 : Int) = (1 : Int) then (1 : Int) else (4 : Int)) (if w /
      (1024 : Int) % (2 : Int) = (1 : Int) then (1 : Int) else (8 : Int)) (fst (w % (4 : Int))) a (4 : Int) c < costV (fst (w / (4 : Int) % (4 : Int))) (fst (w / (32 : Int) % (4
      : Int))) (fst (w / (256 : Int) % (4 : Int))) (if w / (16 : Int) % (2 : Int) = (1 : Int) then (1 : Int) else (2 : Int)) (if w / (128 : Int) % (2 : Int) = (1 : Int) then (1
      : Int) else (4 : Int)) (if w / (1024 : Int) % (2 : Int) = (1 : Int) then (1 : Int) else (8 : Int)) (fst (w % (4 : Int))) a (2 : Int) c) = false ∧ u32 a = true ∧ sm (fst (w
      / (4 : Int) % (4 : Int))) = true ∧ sm (fst (w / (32 : Int) % (4 : Int))) = true ∧ sm (fst (w / (256 : Int) % (4 : Int))) = true ∧ sm (if w / (16 : Int) % (2 : Int) = (1 :
      Int) then (1 : Int) else (2 : Int)) = true ∧ sm (if w / (128 : Int) % (2 : Int) = (1 : Int) then (1 : Int) else (4 : Int)) = true ∧ sm (if w / (1024 : Int) % (2 : Int) =
      (1 : Int) then (1 : Int) else (8 : Int)) = true ∧ sm (fst (w % (4 : Int))) = true ∧ u32 a = true ∧ sm (fst (w / (4 : Int) % (4 : Int))) = true ∧ sm (fst (w / (32 : Int) %
      (4 : Int))) = true ∧ sm (fst (w / (256 : Int) % (4 : Int))) = true ∧ sm (if w / (16 : Int) % (2 : Int) = (1 : Int) then (1 : Int) else (2 : Int)) = true ∧ sm (if w / (128
      : Int) % (2 : Int) = (1 : Int) then (1 : Int) else (4 : Int)) = true ∧ sm (if w / (1024 : Int) % (2 : Int) = (1 : Int) then (1 : Int) else (8 : Int)) = true ∧ sm (fst (w %
      (4 : Int))) = true ∧ (costV (fst (w / (4 : Int) % (4 : Int))) (fst (w / (32 : Int) % (4 : Int))) (fst (w / (256 : Int) % (4 : Int))) (if w / (16 : Int) % (2 : Int) = (1 :
      Int) then (1 : Int) else (2 : Int)) (if w / (128 : Int) % (2 : Int) = (1 : Int) then (1 : Int) else (4 : Int)) (if w / (1024 : Int) % (2 : Int) = (1 : Int) then (1 : Int)
      else (8 : Int)) (fst (w % (4 : Int))) a (1 : Int) c != costV (fst (w / (4 : Int) % (4 : Int))) (fst (w / (32 : Int) % (4 : Int))) (fst (w / (256 : Int) % (4 : Int))) (if w
      / (16 : Int) % (2 : Int) = (1 : Int) then (1 : Int) else (2 : Int)) (if w / (128 : Int) % (2 : Int) = (1 : Int) then (1 : Int) else (4 : Int)) (if w / (1024 : Int) % (2 :
      Int) = (1 : Int) then (1 : Int) else (8 : Int)) (fst (w % (4 : Int))) a (2 : Int) c) = false ∧ u32 a = true ∧ ((mR a != (7 : Int)) = true → (costV (fst (w / (4 : Int) % (4
      : Int))) (fst (w / (32 : Int) % (4 : Int))) (fst (w / (256 : Int) % (4 : Int))) (if w / (16 : Int) % (2 : Int) = (1 : Int) then (1 : Int) else (2 : Int)) (if w / (128 :
      Int) % (2 : Int) = (1 : Int) then (1 : Int) else (4 : Int)) (if w / (1024 : Int) % (2 : Int) = (1 : Int) then (1 : Int) else (8 : Int)) (fst (w % (4 : Int))) a (4 : Int)
      (0 : Int) != costV (fst (w / (4 : Int) % (4 : Int))) (fst (w / (32 : Int) % (4 : Int))) (fst (w / (256 : Int) % (4 : Int))) (if w / (16 : Int) % (2 : Int) = (1 : Int) then
      (1 : Int) else (2 : Int)) (if w / (128 : Int) % (2 : Int) = (1 : Int) then (1 : Int) else (4 : Int)) (if w / (1024 : Int) % (2 : Int) = (1 : Int) then (1 : Int) else (8 :
      Int)) (fst (w % (4 : Int))) a (4 : Int) (1 : Int)) = false ∧ (bits BinOp.or IntKind.u32 (IntKind.u32.wrap (bits BinOp.or IntKind.u32 (IntKind.u32.wrap (a * (16777216 :
      Int))) (a.fdiv (256 : Int)) * (256 : Int))) ((bits BinOp.or IntKind.u32 (IntKind.u32.wrap (a * (16777216 : Int))) (a.fdiv (256 : Int))).fdiv (16777216 : Int)) == a) = true
      ∧ decide ((0 : Int) ≤ bits BinOp.and IntKind.u64 (IntKind.u64.wrap (IntKind.i64.wrap ((-8 : Int) * IntKind.i64.wrap (bits BinOp.and IntKind.u32 (bits BinOp.andNot
      IntKind.u32 a (3 : Int)) (3 : Int))))) (31 : Int)) = true ∧ decide ((0 : Int) ≤ IntKind.u64.wrap ((32 : Int) - bits BinOp.and IntKind.u64 (IntKind.u64.wrap
      (IntKind.i64.wrap ((-8 : Int) * IntKind.i64.wrap (bits BinOp.and IntKind.u32 (bits BinOp.andNot IntKind.u32 a (3 : Int)) (3 : Int))))) (31 : Int))) = true ∧ (bits BinOp.or
      IntKind.u32 (IntKind.u32.wrap (a * (2 : Int) ^ min (bits BinOp.and IntKind.u64 (IntKind.u64.wrap (IntKind.i64.wrap ((-8 : Int) * IntKind.i64.wrap (bits BinOp.and
      IntKind.u32 (bits BinOp.andNot IntKind.u32 a (3 : Int)) (3 : Int))))) (31 : Int)).toNat (32 : Nat))) (a.fdiv ((2 : Int) ^ min (IntKind.u64.wrap ((32 : Int) - bits
      BinOp.and IntKind.u64 (IntKind.u64.wrap (IntKind.i64.wrap ((-8 : Int) * IntKind.i64.wrap (bits BinOp.and IntKind.u32 (bits BinOp.andNot IntKind.u32 a (3 : Int)) (3 :
      Int))))) (31 : Int))).toNat (32 : Nat))) == a) = true) ∧ ((mR a != (7 : Int)) = false → (bits BinOp.or IntKind.u32 (IntKind.u32.wrap (bits BinOp.or IntKind.u32
      (IntKind.u32.wrap (a * (16777216 : Int))) (a.fdiv (256 : Int)) * (256 : Int))) ((bits BinOp.or IntKind.u32 (IntKind.u32.wrap (a * (16777216 : Int))) (a.fdiv (256 :
      Int))).fdiv (16777216 : Int)) == a) = true ∧ decide ((0 : Int) ≤ bits BinOp.and IntKind.u64 (IntKind.u64.wrap (IntKind.i64.wrap ((-8 : Int) * IntKind.i64.wrap (bits
      BinOp.and IntKind.u32 (bits BinOp.andNot IntKind.u32 a (3 : Int)) (3 : Int))))) (31 : Int)) = true ∧ decide ((0 : Int) ≤ IntKind.u64.wrap ((32 : Int) - bits BinOp.and
      IntKind.u64 (IntKind.u64.wrap (IntKind.i64.wrap ((-8 : Int) * IntKind.i64.wrap (bits BinOp.and IntKind.u32 (bits BinOp.andNot IntKind.u32 a (3 : Int)) (3 : Int))))) (31 :
      Int))) = true ∧ (bits BinOp.or IntKind.u32 (IntKind.u32.wrap (a * (2 : Int) ^ min (bits BinOp.and IntKind.u64 (IntKind.u64.wrap (IntKind.i64.wrap ((-8 : Int) *
      IntKind.i64.wrap (bits BinOp.and IntKind.u32 (bits BinOp.andNot IntKind.u32 a (3 : Int)) (3 : Int))))) (31 : Int)).toNat (32 : Nat))) (a.fdiv ((2 : Int) ^ min
      (IntKind.u64.wrap ((32 : Int) - bits BinOp.and IntKind.u64 (IntKind.u64.wrap (IntKind.i64.wrap ((-8 : Int) * IntKind.i64.wrap (bits BinOp.and IntKind.u32 (bits
      BinOp.andNot IntKind.u32 a (3 : Int)) (3 : Int))))) (31 : Int))).toNat (32 : Nat))) == a) = true)) ∧ ((mR a != (7 : Int)) = false → u32 a = true ∧ sm (fst (w / (4 : Int) %
      (4 : Int))) = true ∧ sm (fst (w / (32 : Int) % (4 : Int))) = true ∧ sm (fst (w / (256 : Int) % (4 : Int))) = true ∧ sm (if w / (16 : Int) % (2 : Int) = (1 : Int) then (1 :
      Int) else (2 : Int)) = true ∧ sm (if w / (128 : Int) % (2 : Int) = (1 : Int) then (1 : Int) else (4 : Int)) = true ∧ sm (if w / (1024 : Int) % (2 : Int) = (1 : Int) then
      (1 : Int) else (8 : Int)) = true ∧ sm (fst (w % (4 : Int))) = true ∧ u32 a = true ∧ sm (fst (w / (4 : Int) % (4 : Int))) = true ∧ sm (fst (w / (32 : Int) % (4 : Int))) =
      true ∧ sm (fst (w / (256 : Int) % (4 : Int))) = true ∧ sm (if w / (16 : Int) % (2 : Int) = (1 : Int) then (1 : Int) else (2 : Int)) = true ∧ sm (if w / (128 : Int) % (2 :
      Int) = (1 : Int) then (1 : Int) else (4 : Int)) = true ∧ sm (if w / (1024 : Int) % (2 : Int) = (1 : Int) then (1 : Int) else (8 : Int)) = true ∧ sm (fst (w % (4 : Int))) =
      true ∧ decide (costV (fst (w / (4 : Int) % (4 : Int))) (fst (w / (32 : Int) % (4 : Int))) (fst (w / (256 : Int) % (4 : Int))) (if w / (16 : Int) % (2 : Int) = (1 : Int)
      then (1 : Int) else (2 : Int)) (if w / (128 : Int) % (2 : Int) = (1 : Int) then (1 : Int) else (4 : Int)) (if w / (1024 : Int) % (2 : Int) = (1 : Int) then (1 : Int) else
      (8 : Int)) (fst (w % (4 : Int))) a (4 : Int) (0 : Int) < (1 : Int)) = false ∧ decide (costV (fst (w / (4 : Int) % (4 : Int))) (fst (w / (32 : Int) % (4 : Int))) (fst (w /
      (256 : Int) % (4 : Int))) (if w / (16 : Int) % (2 : Int) = (1 : Int) then (1 : Int) else (2 : Int)) (if w / (128 : Int) % (2 : Int) = (1 : Int) then (1 : Int) else (4 :
      Int)) (if w / (1024 : Int) % (2 : Int) = (1 : Int) then (1 : Int) else (8 : Int)) (fst (w % (4 : Int))) a (4 : Int) (1 : Int) < (1 : Int)) = false ∧ u32 a = true ∧ sm (fst
      (w / (4 : Int) % (4 : Int))) = true ∧ sm (fst (w / (32 : Int) % (4 : Int))) = true ∧ sm (fst (w / (256 : Int) % (4 : Int))) = true ∧ sm (if w / (16 : Int) % (2 : Int) = (1
      : Int) then (1 : Int) else (2 : Int)) = true ∧ sm (if w / (128 : Int) % (2 : Int) = (1 : Int) then (1 : Int) else (4 : Int)) = true ∧ sm (if w / (1024 : Int) % (2 : Int) =
      (1 : Int) then (1 : Int) else (8 : Int)) = true ∧ sm (fst (w % (4 : Int))) = true ∧ u32 a = true ∧ sm (fst (w / (4 : Int) % (4 : Int))) = true ∧ sm (fst (w / (32 : Int) %
      (4 : Int))) = true ∧ sm (fst (w / (256 : Int) % (4 : Int))) = true ∧ sm (if w / (16 : Int) % (2 : Int) = (1 : Int) then (1 : Int) else (2 : Int)) = true ∧ sm (if w / (128
      : Int) % (2 : Int) = (1 : Int) then (1 : Int) else (4 : Int)) = true ∧ sm (if w / (1024 : Int) % (2 : Int) = (1 : Int) then (1 : Int) else (8 : Int)) = true ∧ sm (fst (w %
      (4 : Int))) = true ∧ decide (costV (fst (w / (4 : Int) % (4 : Int))) (fst (w / (32 : Int) % (4 : Int))) (fst (w / (256 : Int) % (4 : Int))) (if w / (16 : Int) % (2 : Int)
      = (1 : Int) then (1 : Int) else (2 : Int)) (if w / (128 : Int) % (2 : Int) = (1 : Int) then (1 : Int) else (4 : Int)) (if w / (1024 : Int) % (2 : Int) = (1 : Int) then (1
      : Int) else (8 : Int)) (fst (w % (4 : Int))) a (4 : Int) c < costV (fst (w / (4 : Int) % (4 : Int))) (fst (w / (32 : Int) % (4 : Int))) (fst (w / (256 : Int) % (4 : Int)))
      (if w / (16 : Int) % (2 : Int) = (1 : Int) then (1 : Int) else (2 : Int)) (if w / (128 : Int) % (2 : Int) = (1 : Int) then (1 : Int) else (4 : Int)) (if w / (1024 : Int) %
      (2 : Int) = (1 : Int) then (1 : Int) else (8 : Int)) (fst (w % (4 : Int))) a (2 : Int) c) = false ∧ u32 a = true ∧ sm (fst (w / (4 : Int) % (4 : Int))) = true ∧ sm (fst (w
      / (32 : Int) % (4 : Int))) = true ∧ sm (fst (w / (256 : Int) % (4 : Int))) = true ∧ sm (if w / (16 : Int) % (2 : Int) = (1 : Int) then (1 : Int) else (2 : Int)) = true ∧
      sm (if w / (128 : Int) % (2 : Int) = (1 : Int) then (1 : Int) else (4 : Int)) = true ∧ sm (if w / (1024 : Int) % (2 : Int) = (1 : Int) then (1 : Int) else (8 : Int)) =
      true ∧ sm (fst (w % (4 : Int))) = true ∧ u32 a = true ∧ sm (fst (w / (4 : Int) % (4 : Int))) = true ∧ sm (fst (w / (32 : Int) % (4 : Int))) = true ∧ sm (fst (w / (256 :
      Int) % (4 : Int))) = true ∧ sm (if w / (16 : Int) % (2 : Int) = (1 : Int) then (1 : Int) else (2 : Int)) = true ∧ sm (if w / (128 : Int) % (2 : Int) = (1 : Int) then (1 :
      Int) else (4 : Int)) = true ∧ sm (if w / (1024 : Int) % (2 : Int) = (1 : Int) then (1 : Int) else (8 : Int)) = true ∧ sm (fst (w % (4 : Int))) = true ∧ (costV (fst (w / (4
      : Int) % (4 : Int))) (fst (w / (32 : Int) % (4 : Int))) (fst (w / (256 : Int) % (4 : Int))) (if w / (16 : Int) % (2 : Int) = (1 : Int) then (1 : Int) else (2 : Int)) (if w
      / (128 : Int) % (2 : Int) = (1 : Int) then (1 : Int) else (4 : Int)) (if w / (1024 : Int) % (2 : Int) = (1 : Int) then (1 : Int) else (8 : Int)) (fst (w % (4 : Int))) a (1
      : Int) c != costV (fst (w / (4 : Int) % (4 : Int))) (fst (w / (32 : Int) % (4 : Int))) (fst (w / (256 : Int) % (4 : Int))) (if w / (16 : Int) % (2 : Int) = (1 : Int) then
      (1 : Int) else (2 : Int)) (if w / (128 : Int) % (2 : Int) = (1 : Int) then (1 : Int) else (4 : Int)) (if w / (1024 : Int) % (2 : Int) = (1 : Int) then (1 : Int) else (8 :
      Int)) (fst (w % (4 : Int))) a (2 : Int) c) = false ∧ u32 a = true ∧ ((mR a != (7 : Int)) = true → (costV (fst (w / (4 : Int) % (4 : Int))) (fst (w / (32 : Int) % (4 :
      Int))) (fst (w / (256 : Int) % (4 : Int))) (if w / (16 : Int) % (2 : Int) = (1 : Int) then (1 : Int) else (2 : Int)) (if w / (128 : Int) % (2 : Int) = (1 : Int) then (1 :
      Int) else (4 : Int)) (if w / (1024 : Int) % (2 : Int) = (1 : Int) then (1 : Int) else (8 : Int)) (fst (w % (4 : Int))) a (4 : Int) (0 : Int) != costV (fst (w / (4 : Int) %
      (4 : Int))) (fst (w / (32 : Int) % (4 : Int))) (fst (w / (256 : Int) % (4 : Int))) (if w / (16 : Int) % (2 : Int) = (1 : Int) then (1 : Int) else (2 : Int)) (if w / (128 :
      Int) % (2 : Int) = (1 : Int) then (1 : Int) else (4 : Int)) (if w / (1024 : Int) % (2 : Int) = (1 : Int) then (1 : Int) else (8 : Int)) (fst (w % (4 : Int))) a (4 : Int)
      (1 : Int)) = false ∧ (bits BinOp.or IntKind.u32 (IntKind.u32.wrap (bits BinOp.or IntKind.u32 (IntKind.u32.wrap (a * (16777216 : Int))) (a.fdiv (256 : Int)) * (256 : Int)))
      ((bits BinOp.or IntKind.u32 (IntKind.u32.wrap (a * (16777216 : Int))) (a.fdiv (256 : Int))).fdiv (16777216 : Int)) == a) = true ∧ decide ((0 : Int) ≤ bits BinOp.and
      IntKind.u64 (IntKind.u64.wrap (IntKind.i64.wrap ((-8 : Int) * IntKind.i64.wrap (bits BinOp.and IntKind.u32 (bits BinOp.andNot IntKind.u32 a (3 : Int)) (3 : Int))))) (31 :
      Int)) = true ∧ decide ((0 : Int) ≤ IntKind.u64.wrap ((32 : Int) - bits BinOp.and IntKind.u64 (IntKind.u64.wrap (IntKind.i64.wrap ((-8 : Int) * IntKind.i64.wrap (bits
      BinOp.and IntKind.u32 (bits BinOp.andNot IntKind.u32 a (3 : Int)) (3 : Int))))) (31 : Int))) = true ∧ (bits BinOp.or IntKind.u32 (IntKind.u32.wrap (a * (2 : Int) ^ min
      (bits BinOp.and IntKind.u64 (IntKind.u64.wrap (IntKind.i64.wrap ((-8 : Int) * IntKind.i64.wrap (bits BinOp.and IntKind.u32 (bits BinOp.andNot IntKind.u32 a (3 : Int)) (3 :
      Int))))) (31 : Int)).toNat (32 : Nat))) (a.fdiv ((2 : Int) ^ min (IntKind.u64.wrap ((32 : Int) - bits BinOp.and IntKind.u64 (IntKind.u64.wrap (IntKind.i64.wrap ((-8 : Int)
      * IntKind.i64.wrap (bits BinOp.and IntKind.u32 (bits BinOp.andNot IntKind.u32 a (3 : Int)) (3 : Int))))) (31 : Int))).toNat (32 : Nat))) == a) = true) ∧ ((mR a != (7 :
      Int)) = false → (bits BinOp.or IntKind.u32 (IntKind.u32.wrap (bits BinOp.or IntKind.u32 (IntKind.u32.wrap (a * (16777216 : Int))) (a.fdiv (256 : Int)) * (256 : Int)))
      ((bits BinOp.or IntKind.u32 (IntKind.u32.wrap (a * (16777216 : Int))) (a.fdiv (256 : Int))).fdiv (16777216 : Int)) == a) = true ∧ decide ((0 : Int) ≤ bits BinOp.and
      IntKind.u64 (IntKind.u64.wrap (IntKind.i64.wrap ((-8 : Int) * IntKind.i64.wrap (bits BinOp.and IntKind.u32 (bits BinOp.andNot IntKind.u32 a (3 : Int)) (3 : Int))))) (31 :
      Int)) = true ∧ decide ((0 : Int) ≤ IntKind.u64.wrap ((32 : Int) - bits BinOp.and IntKind.u64 (IntKind.u64.wrap (IntKind.i64.wrap ((-8 : Int) * IntKind.i64.wrap (bits
      BinOp.and IntKind.u32 (bits BinOp.andNot IntKind.u32 a (3 : Int)) (3 : Int))))) (31 : Int))) = true ∧ (bits BinOp.or IntKind.u32 (IntKind.u32.wrap (a * (2 : Int) ^ min
      (bits BinOp.and IntKind.u64 (IntKind.u64.wrap (IntKind.i64.wrap ((-8 : Int) * IntKind.i64.wrap (bits BinOp.and IntKind.u32 (bits BinOp.andNot IntKind.u32 a (3 : Int)) (3 :
      Int))))) (31 : Int)).toNat (32 : Nat))) (a.fdiv ((2 : Int) ^ min (IntKind.u64.wrap ((32 : Int) - bits BinOp.and IntKind.u64 (IntKind.u64.wrap (IntKind.i64.wrap ((-8 : Int)
      * IntKind.i64.wrap (bits BinOp.and IntKind.u32 (bits BinOp.andNot IntKind.u32 a (3 : Int)) (3 : Int))))) (31 : Int))).toNat (32 : Nat))) == a) = true))) ∧ ((mR a != (7 :
      Int)) = false → u32 a = true ∧ sm (fst (w / (4 : Int) % (4 : Int))) = true ∧ sm (fst (w / (32 : Int) % (4 : Int))) = true ∧ sm (fst (w / (256 : Int) % (4 : Int))) = true ∧
      sm (if w / (16 : Int) % (2 : Int) = (1 : Int) then (1 : Int) else (2 : Int)) = true ∧ sm (if w / (128 : Int) % (2 : Int) = (1 : Int) then (1 : Int) else (4 : Int)) = true
      ∧ sm (if w / (1024 : Int) % (2 : Int) = (1 : Int) then (1 : Int) else (8 : Int)) = true ∧ sm (fst (w % (4 : Int))) = true ∧ u32 a = true ∧ sm (fst (w / (4 : Int) % (4 :
      Int))) = true ∧ sm (fst (w / (32 : Int) % (4 : Int))) = true ∧ sm (fst (w / (256 : Int) % (4 : Int))) = true ∧ sm (if w / (16 : Int) % (2 : Int) = (1 : Int) then (1 : Int)
      else (2 : Int)) = true ∧ sm (if w / (128 : Int) % (2 : Int) = (1 : Int) then (1 : Int) else (4 : Int)) = true ∧ sm (if w / (1024 : Int) % (2 : Int) = (1 : Int) then (1 :
      Int) else (8 : Int)) = true ∧ sm (fst (w % (4 : Int))) = true ∧ decide (costV (fst (w / (4 : Int) % (4 : Int))) (fst (w / (32 : Int) % (4 : Int))) (fst (w / (256 : Int) %
      (4 : Int))) (if w / (16 : Int) % (2 : Int) = (1 : Int) then (1 : Int) else (2 : Int)) (if w / (128 : Int) % (2 : Int) = (1 : Int) then (1 : Int) else (4 : Int)) (if w /
      (1024 : Int) % (2 : Int) = (1 : Int) then (1 : Int) else (8 : Int)) (fst (w % (4 : Int))) a (2 : Int) (0 : Int) < (1 : Int)) = false ∧ decide (costV (fst (w / (4 : Int) %
      (4 : Int))) (fst (w / (32 : Int) % (4 : Int))) (fst (w / (256 : Int) % (4 : Int))) (if w / (16 : Int) % (2 : Int) = (1 : Int) then (1 : Int) else (2 : Int)) (if w / (128 :
      Int) % (2 : Int) = (1 : Int) then (1 : Int) else (4 : Int)) (if w / (1024 : Int) % (2 : Int) = (1 : Int) then (1 : Int) else (8 : Int)) (fst (w % (4 : Int))) a (2 : Int)
      (1 : Int) < (1 : Int)) = false ∧ u32 a = true ∧ sm (fst (w / (4 : Int) % (4 : Int))) = true ∧ sm (fst (w / (32 : Int) % (4 : Int))) = true ∧ sm (fst (w / (256 : Int) % (4
      : Int))) = true ∧ sm (if w / (16 : Int) % (2 : Int) = (1 : Int) then (1 : Int) else (2 : Int)) = true ∧ sm (if w / (128 : Int) % (2 : Int) = (1 : Int) then (1 : Int) else
      (4 : Int)) = true ∧ sm (if w / (1024 : Int) % (2 : Int) = (1 : Int) then (1 : Int) else (8 : Int)) = true ∧ sm (fst (w % (4 : Int))) = true ∧ u32 a = true ∧ sm (fst (w /
      (4 : Int) % (4 : Int))) = true ∧ sm (fst (w / (32 : Int) % (4 : Int))) = true ∧ sm (fst (w / (256 : Int) % (4 : Int))) = true ∧ sm (if w / (16 : Int) % (2 : Int) = (1 :
      Int) then (1 : Int) else (2 : Int)) = true ∧ sm (if w / (128 : Int) % (2 : Int) = (1 : Int) then (1 : Int) else (4 : Int)) = true ∧ sm (if w / (1024 : Int) % (2 : Int) =
      (1 : Int) then (1 : Int) else (8 : Int)) = true ∧ sm (fst (w % (4 : Int))) = true ∧ decide (costV (fst (w / (4 : Int) % (4 : Int))) (fst (w / (32 : Int) % (4 : Int))) (fst
      (w / (256 : Int) % (4 : Int))) (if w / (16 : Int) % (2 : Int) = (1 : Int) then (1 : Int) else (2 : Int)) (if w / (128 : Int) % (2 : Int) = (1 : Int) then (1 : Int) else (4
      : Int)) (if w / (1024 : Int) % (2 : Int) = (1 : Int) then (1 : Int) else (8 : Int)) (fst (w % (4 : Int))) a (4 : Int) c < costV (fst (w / (4 : Int) % (4 : Int))) (fst (w /
      (32 : Int) % (4 : Int))) (fst (w / (256 : Int) % (4 : Int))) (if w / (16 : Int) % (2 : Int) = (1 : Int) then (1 : Int) else (2 : Int)) (if w / (128 : Int) % (2 : Int) = (1
      : Int) then (1 : Int) else (4 : Int)) (if w / (1024 : Int) % (2 : Int) = (1 : Int) then (1 : Int) else (8 : Int)) (fst (w % (4 : Int))) a (2 : Int) c) = false ∧ u32 a =
      true ∧ sm (fst (w / (4 : Int) % (4 : Int))) = true ∧ sm (fst (w / (32 : Int) % (4 : Int))) = true ∧ sm (fst (w / (256 : Int) % (4 : Int))) = true ∧ sm (if w / (16 : Int) %
      (2 : Int) = (1 : Int) then (1 : Int) else (2 : Int)) = true ∧ sm (if w / (128 : Int) % (2 : Int) = (1 : Int) then (1 : Int) else (4 : Int)) = true ∧ sm (if w / (1024 :
      Int) % (2 : Int) = (1 : Int) then (1 : Int) else (8 : Int)) = true ∧ sm (fst (w % (4 : Int))) = true ∧ u32 a = true ∧ sm (fst (w / (4 : Int) % (4 : Int))) = true ∧ sm (fst
      (w / (32 : Int) % (4 : Int))) = true ∧ sm (fst (w / (256 : Int) % (4 : Int))) = true ∧ sm (if w / (16 : Int) % (2 : Int) = (1 : Int) then (1 : Int) else (2 : Int)) = true
      ∧ sm (if w / (128 : Int) % (2 : Int) = (1 : Int) then (1 : Int) else (4 : Int)) = true ∧ sm (if w / (1024 : Int) % (2 : Int) = (1 : Int) then (1 : Int) else (8 : Int)) =
      true ∧ sm (fst (w % (4 : Int))) = true ∧ (costV (fst (w / (4 : Int) % (4 : Int))) (fst (w / (32 : Int) % (4 : Int))) (fst (w / (256 : Int) % (4 : Int))) (if w / (16 : Int)
      % (2 : Int) = (1 : Int) then (1 : Int) else (2 : Int)) (if w / (128 : Int) % (2 : Int) = (1 : Int) then (1 : Int) else (4 : Int)) (if w / (1024 : Int) % (2 : Int) = (1 :
      Int) then (1 : Int) else (8 : Int)) (fst (w % (4 : Int))) a (1 : Int) c != costV (fst (w / (4 : Int) % (4 : Int))) (fst (w / (32 : Int) % (4 : Int))) (fst (w / (256 : Int)
      % (4 : Int))) (if w / (16 : Int) % (2 : Int) = (1 : Int) then (1 : Int) else (2 : Int)) (if w / (128 : Int) % (2 : Int) = (1 : Int) then (1 : Int) else (4 : Int)) (if w /
      (1024 : Int) % (2 : Int) = (1 : Int) then (1 : Int) else (8 : Int)) (fst (w % (4 : Int))) a (2 : Int) c) = false ∧ u32 a = true ∧ ((mR a != (7 : Int)) = true → (costV (fst
      (w / (4 : Int) % (4 : Int))) (fst (w / (32 : Int) % (4 : Int))) (fst (w / (256 : Int) % (4 : Int))) (if w / (16 : Int) % (2 : Int) = (1 : Int) then (1 : Int) else (2 :
      Int)) (if w / (128 : Int) % (2 : Int) = (1 : Int) then (1 : Int) else (4 : Int)) (if w / (1024 : Int) % (2 : Int) = (1 : Int) then (1 : Int) else (8 : Int)) (fst (w % (4 :
      Int))) a (2 : Int) (0 : Int) != costV (fst (w / (4 : Int) % (4 : Int))) (fst (w / (32 : Int) % (4 : Int))) (fst (w / (256 : Int) % (4 : Int))) (if w / (16 : Int) % (2 :
      Int) = (1 : Int) then (1 : Int) else (2 : Int)) (if w / (128 : Int) % (2 : Int) = (1 : Int) then (1 : Int) else (4 : Int)) (if w / (1024 : Int) % (2 : Int) = (1 : Int)
      then (1 : Int) else (8 : Int)) (fst (w % (4 : Int))) a (2 : Int) (1 : Int)) = false ∧ u32 a = true ∧ sm (fst (w / (4 : Int) % (4 : Int))) = true ∧ sm (fst (w / (32 : Int)
      % (4 : Int))) = true ∧ sm (fst (w / (256 : Int) % (4 : Int))) = true ∧ sm (if w / (16 : Int) % (2 : Int) = (1 : Int) then (1 : Int) else (2 : Int)) = true ∧ sm (if w /
      (128 : Int) % (2 : Int) = (1 : Int) then (1 : Int) else (4 : Int)) = true ∧ sm (if w / (1024 : Int) % (2 : Int) = (1 : Int) then (1 : Int) else (8 : Int)) = true ∧ sm (fst
      (w % (4 : Int))) = true ∧ u32 a = true ∧ sm (fst (w / (4 : Int) % (4 : Int))) = true ∧ sm (fst (w / (32 : Int) % (4 : Int))) = true ∧ sm (fst (w / (256 : Int) % (4 :
      Int))) = true ∧ sm (if w / (16 : Int) % (2 : Int) = (1 : Int) then (1 : Int) else (2 : Int)) = true ∧ sm (if w / (128 : Int) % (2 : Int) = (1 : Int) then (1 : Int) else (4
      : Int)) = true ∧ sm (if w / (1024 : Int) % (2 : Int) = (1 : Int) then (1 : Int) else (8 : Int)) = true ∧ sm (fst (w % (4 : Int))) = true ∧ decide (costV (fst (w / (4 :
      Int) % (4 : Int))) (fst (w / (32 : Int) % (4 : Int))) (fst (w / (256 : Int) % (4 : Int))) (if w / (16 : Int) % (2 : Int) = (1 : Int) then (1 : Int) else (2 : Int)) (if w /
      (128 : Int) % (2 : Int) = (1 : Int) then (1 : Int) else (4 : Int)) (if w / (1024 : Int) % (2 : Int) = (1 : Int) then (1 : Int) else (8 : Int)) (fst (w % (4 : Int))) a (4 :
      Int) (0 : Int) < (1 : Int)) = false ∧ decide (costV (fst (w / (4 : Int) % (4 : Int))) (fst (w / (32 : Int) % (4 : Int))) (fst (w / (256 : Int) % (4 : Int))) (if w / (16 :
      Int) % (2 : Int) = (1 : Int) then (1 : Int) else (2 : Int)) (if w / (128 : Int) % (2 : Int) = (1 : Int) then (1 : Int) else (4 : Int)) (if w / (1024 : Int) % (2 : Int) =
      (1 : Int) then (1 : Int) else (8 : Int)) (fst (w % (4 : Int))) a (4 : Int) (1 : Int) < (1 : Int)) = false ∧ u32 a = true ∧ sm (fst (w / (4 : Int) % (4 : Int))) = true ∧ sm
      (fst (w / (32 : Int) % (4 : Int))) = true ∧ sm (fst (w / (256 : Int) % (4 : Int))) = true ∧ sm (if w / (16 : Int) % (2 : Int) = (1 : Int) then (1 : Int) else (2 : Int)) =
      true ∧ sm (if w / (128 : Int) % (2 : Int) = (1 : Int) then (1 : Int) else (4 : Int)) = true ∧ sm (if w / (1024 : Int) % (2 : Int) = (1 : Int) then (1 : Int) else (8 :
      Int)) = true ∧ sm (fst (w % (4 : Int))) = true ∧ u32 a = true ∧ sm (fst (w / (4 : Int) % (4 : Int))) = true ∧ sm (fst (w / (32 : Int) % (4 : Int))) = true ∧ sm (fst (w /
      (256 : Int) % (4 : Int))) = true ∧ sm (if w / (16 : Int) % (2 : Int) = (1 : Int) then (1 : Int) else (2 : Int)) = true ∧ sm (if w / (128 : Int) % (2 : Int) = (1 : Int)
      then (1 : Int) else (4 : Int)) = true ∧ sm (if w / (1024 : Int) % (2 : Int) = (1 : Int) then (1 : Int) else (8 : Int)) = true ∧ sm (fst (w % (4 : Int))) = true ∧ decide
      (costV (fst (w / (4 : Int) % (4 : Int))) (fst (w / (32 : Int) % (4 : Int))) (fst (w / (256 : Int) % (4 : Int))) (if w / (16 : Int) % (2 : Int) = (1 : Int) then (1 : Int)
      else (2 : Int)) (if w / (128 : Int) % (2 : Int) = (1 : Int) then (1 : Int) else (4 : Int)) (if w / (1024 : Int) % (2 : Int) = (1 : Int) then (1 : Int) else (8 : Int)) (fst
      (w % (4 : Int))) a (4 : Int) c < costV (fst (w / (4 : Int) % (4 : Int))) (fst (w / (32 : Int) % (4 : Int))) (fst (w / (256 : Int) % (4 : Int))) (if w / (16 : Int) % (2 :
      Int) = (1 : Int) then (1 : Int) else (2 : Int)) (if w / (128 : Int) % (2 : Int) = (1 : Int) then (1 : Int) else (4 : Int)) (if w / (1024 : Int) % (2 : Int) = (1 : Int)
      then (1 : Int) else (8 : Int)) (fst (w % (4 : Int))) a (2 : Int) c) = false ∧ u32 a = true ∧ sm (fst (w / (4 : Int) % (4 : Int))) = true ∧ sm (fst (w / (32 : Int) % (4 :
      Int))) = true ∧ sm (fst (w / (256 : Int) % (4 : Int))) = true ∧ sm (if w / (16 : Int) % (2 : Int) = (1 : Int) then (1 : Int) else (2 : Int)) = true ∧ sm (if w / (128 :
      Int) % (2 : Int) = (1 : Int) then (1 : Int) else (4 : Int)) = true ∧ sm (if w / (1024 : Int) % (2 : Int) = (1 : Int) then (1 : Int) else (8 : Int)) = true ∧ sm (fst (w %
      (4 : Int))) = true ∧ u32 a = true ∧ sm (fst (w / (4 : Int) % (4 : Int))) = true ∧ sm (fst (w / (32 : Int) % (4 : Int))) = true ∧ sm (fst (w / (256 : Int) % (4 : Int))) =
      true ∧ sm (if w / (16 : Int) % (2 : Int) = (1 : Int) then (1 : Int) else (2 : Int)) = true ∧ sm (if w / (128 : Int) % (2 : Int) = (1 : Int) then (1 : Int) else (4 : Int))
      = true ∧ sm (if w / (1024 : Int) % (2 : Int) = (1 : Int) then (1 : Int) else (8 : Int)) = true ∧ sm (fst (w % (4 : Int))) = true ∧ (costV (fst (w / (4 : Int) % (4 : Int)))
      (fst (w / (32 : Int) % (4 : Int))) (fst (w / (256 : Int) % (4 : Int))) (if w / (16 : Int) % (2 : Int) = (1 : Int) then (1 : Int) else (2 : Int)) (if w / (128 : Int) % (2 :
      Int) = (1 : Int) then (1 : Int) else (4 : Int)) (if w / (1024 : Int) % (2 : Int) = (1 : Int) then (1 : Int) else (8 : Int)) (fst (w % (4 : Int))) a (1 : Int) c != costV
      (fst (w / (4 : Int) % (4 : Int))) (fst (w / (32 : Int) % (4 : Int))) (fst (w / (256 : Int) % (4 : Int))) (if w / (16 : Int) % (2 : Int) = (1 : Int) then (1 : Int) else (2
      : Int)) (if w / (128 : Int) % (2 : Int) = (1 : Int) then (1 : Int) else (4 : Int)) (if w / (1024 : Int) % (2 : Int) = (1 : Int) then (1 : Int) else (8 : Int)) (fst (w % (4
      : Int))) a (2 : Int) c) = false ∧ u32 a = true ∧ ((mR a != (7 : Int)) = true → (costV (fst (w / (4 : Int) % (4 : Int))) (fst (w / (32 : Int) % (4 : Int))) (fst (w / (256 :
      Int) % (4 : Int))) (if w / (16 : Int) % (2 : Int) = (1 : Int) then (1 : Int) else (2 : Int)) (if w / (128 : Int) % (2 : Int) = (1 : Int) then (1 : Int) else (4 : Int)) (if
      w / (1024 : Int) % (2 : Int) = (1 : Int) then (1 : Int) else (8 : Int)) (fst (w % (4 : Int))) a (4 : Int) (0 : Int) != costV (fst (w / (4 : Int) % (4 : Int))) (fst (w /
      (32 : Int) % (4 : Int))) (fst (w / (256 : Int) % (4 : Int))) (if w / (16 : Int) % (2 : Int) = (1 : Int) then (1 : Int) else (2 : Int)) (if w / (128 : Int) % (2 : Int) = (1
      : Int) then (1 : Int) else (4 : Int)) (if w / (1024 : Int) % (2 : Int) = (1 : Int) then (1 : Int) else (8 : Int)) (fst (w % (4 : Int))) a (4 : Int) (1 : Int)) = false ∧
      (bits BinOp.or IntKind.u32 (IntKind.u32.wrap (bits BinOp.or IntKind.u32 (IntKind.u32.wrap (a * (16777216 : Int))) (a.fdiv (256 : Int)) * (256 : Int))) ((bits BinOp.or
      IntKind.u32 (IntKind.u32.wrap (a * (16777216 : Int))) (a.fdiv (256 : Int))).fdiv (16777216 : Int)) == a) = true ∧ decide ((0 : Int) ≤ bits BinOp.and IntKind.u64
      (IntKind.u64.wrap (IntKind.i64.wrap ((-8 : Int) * IntKind.i64.wrap (bits BinOp.and IntKind.u32 (bits BinOp.andNot IntKind.u32 a (3 : Int)) (3 : Int))))) (31 : Int)) = true
      ∧ decide ((0 : Int) ≤ IntKind.u64.wrap ((32 : Int) - bits BinOp.and IntKind.u64 (IntKind.u64.wrap (IntKind.i64.wrap ((-8 : Int) * IntKind.i64.wrap (bits BinOp.and
      IntKind.u32 (bits BinOp.andNot IntKind.u32 a (3 : Int)) (3 : Int))))) (31 : Int))) = true ∧ (bits BinOp.or IntKind.u32 (IntKind.u32.wrap (a * (2 : Int) ^ min (bits
      BinOp.and IntKind.u64 (IntKind.u64.wrap (IntKind.i64.wrap ((-8 : Int) * IntKind.i64.wrap (bits BinOp.and IntKind.u32 (bits BinOp.andNot IntKind.u32 a (3 : Int)) (3 :
      Int))))) (31 : Int)).toNat (32 : Nat))) (a.fdiv ((2 : Int) ^ min (IntKind.u64.wrap ((32 : Int) - bits BinOp.and IntKind.u64 (IntKind.u64.wrap (IntKind.i64.wrap ((-8 : Int)
      * IntKind.i64.wrap (bits BinOp.and IntKind.u32 (bits BinOp.andNot IntKind.u32 a (3 : Int)) (3 : Int))))) (31 : Int))).toNat (32 : Nat))) == a) = true) ∧ ((mR a != (7 :
      Int)) = false → (bits BinOp.or IntKind.u32 (IntKind.u32.wrap (bits BinOp.or IntKind.u32 (IntKind.u32.wrap (a * (16777216 : Int))) (a.fdiv (256 : Int)) * (256 : Int)))
      ((bits BinOp.or IntKind.u32 (IntKind.u32.wrap (a * (16777216 : Int))) (a.fdiv (256 : Int))).fdiv (16777216 : Int)) == a) = true ∧ decide ((0 : Int) ≤ bits BinOp.and
      IntKind.u64 (IntKind.u64.wrap (IntKind.i64.wrap ((-8 : Int) * IntKind.i64.wrap (bits BinOp.and IntKind.u32 (bits BinOp.andNot IntKind.u32 a (3 : Int)) (3 : Int))))) (31 :
      Int)) = true ∧ decide ((0 : Int) ≤ IntKind.u64.wrap ((32 : Int) - bits BinOp.and IntKind.u64 (IntKind.u64.wrap (IntKind.i64.wrap ((-8 : Int) * IntKind.i64.wrap (bits
      BinOp.and IntKind.u32 (bits BinOp.andNot IntKind.u32 a (3 : Int)) (3 : Int))))) (31 : Int))) = true ∧ (bits BinOp.or IntKind.u32 (IntKind.u32.wrap (a * (2 : Int) ^ min
      (bits BinOp.and IntKind.u64 (IntKind.u64.wrap (IntKind.i64.wrap ((-8 : Int) * IntKind.i64.wrap (bits BinOp.and IntKind.u32 (bits BinOp.andNot IntKind.u32 a (3 : Int)) (3 :
      Int))))) (31 : Int)).toNat (32 : Nat))) (a.fdiv ((2 : Int) ^ min (IntKind.u64.wrap ((32 : Int) - bits BinOp.and IntKind.u64 (IntKind.u64.wrap (IntKind.i64.wrap ((-8 : Int)
      * IntKind.i64.wrap (bits BinOp.and IntKind.u32 (bits BinOp.andNot IntKind.u32 a (3 : Int)) (3 : Int))))) (31 : Int))).toNat (32 : Nat))) == a) = true)) ∧ ((mR a != (7 :
      Int)) = false → u32 a = true ∧ sm (fst (w / (4 : Int) % (4 : Int))) = true ∧ sm (fst (w / (32 : Int) % (4 : Int))) = true ∧ sm (fst (w / (256 : Int) % (4 : Int))) = true ∧
      sm (if w / (16 : Int) % (2 : Int) = (1 : Int) then (1 : Int) else (2 : Int)) = true ∧ sm (if w / (128 : Int) % (2 : Int) = (1 : Int) then (1 : Int) else (4 : Int)) = true
      ∧ sm (if w / (1024 : Int) % (2 : Int) = (1 : Int) then (1 : Int) else (8 : Int)) = true ∧ sm (fst (w % (4 : Int))) = true ∧ u32 a = true ∧ sm (fst (w / (4 : Int) % (4 :
      Int))) = true ∧ sm (fst (w / (32 : Int) % (4 : Int))) = true ∧ sm (fst (w / (256 : Int) % (4 : Int))) = true ∧ sm (if w / (16 : Int) % (2 : Int) = (1 : Int) then (1 : Int)
      else (2 : Int)) = true ∧ sm (if w / (128 : Int) % (2 : Int) = (1 : Int) then (1 : Int) else (4 : Int)) = true ∧ sm (if w / (1024 : Int) % (2 : Int) = (1 : Int) then (1 :
      Int) else (8 : Int)) = true ∧ sm (fst (w % (4 : Int))) = true ∧ decide (costV (fst (w / (4 : Int) % (4 : Int))) (fst (w / (32 : Int) % (4 : Int))) (fst (w / (256 : Int) %
      (4 : Int))) (if w / (16 : Int) % (2 : Int) = (1 : Int) then (1 : Int) else (2 : Int)) (if w / (128 : Int) % (2 : Int) = (1 : Int) then (1 : Int) else (4 : Int)) (if w /
      (1024 : Int) % (2 : Int) = (1 : Int) then (1 : Int) else (8 : Int)) (fst (w % (4 : Int))) a (4 : Int) (0 : Int) < (1 : Int)) = false ∧ decide (costV (fst (w / (4 : Int) %
      (4 : Int))) (fst (w / (32 : Int) % (4 : Int))) (fst (w / (256 : Int) % (4 : Int))) (if w / (16 : Int) % (2 : Int) = (1 : Int) then (1 : Int) else (2 : Int)) (if w / (128 :
      Int) % (2 : Int) = (1 : Int) then (1 : Int) else (4 : Int)) (if w / (1024 : Int) % (2 : Int) = (1 : Int) then (1 : Int) else (8 : Int)) (fst (w % (4 : Int))) a (4 : Int)
      (1 : Int) < (1 : Int)) = false ∧ u32 a = true ∧ sm (fst (w / (4 : Int) % (4 : Int))) = true ∧ sm (fst (w / (32 : Int) % (4 : Int))) = true ∧ sm (fst (w / (256 : Int) % (4
      : Int))) = true ∧ sm (if w / (16 : Int) % (2 : Int) = (1 : Int) then (1 : Int) else (2 : Int)) = true ∧ sm (if w / (128 : Int) % (2 : Int) = (1 : Int) then (1 : Int) else
      (4 : Int)) = true ∧ sm (if w / (1024 : Int) % (2 : Int) = (1 : Int) then (1 : Int) else (8 : Int)) = true ∧ sm (fst (w % (4 : Int))) = true ∧ u32 a = true ∧ sm (fst (w /
      (4 : Int) % (4 : Int))) = true ∧ sm (fst (w / (32 : Int) % (4 : Int))) = true ∧ sm (fst (w / (256 : Int) % (4 : Int))) = true ∧ sm (if w / (16 : Int) % (2 : Int) = (1 :
      Int) then (1 : Int) else (2 : Int)) = true ∧ sm (if w / (128 : Int) % (2 : Int) = (1 : Int) then (1 : Int) else (4 : Int)) = true ∧ sm (if w / (1024 : Int) % (2 : Int) =
      (1 : Int) then (1 : Int) else (8 : Int)) = true ∧ sm (fst (w % (4 : Int))) = true ∧ decide (costV (fst (w / (4 : Int) % (4 : Int))) (fst (w / (32 : Int) % (4 : Int))) (fst
      (w / (256 : Int) % (4 : Int))) (if w / (16 : Int) % (2 : Int) = (1 : Int) then (1 : Int) else (2 : Int)) (if w / (128 : Int) % (2 : Int) = (1 : Int) then (1 : Int) else (4
      : Int)) (if w / (1024 : Int) % (2 : Int) = (1 : Int) then (1 : Int) else (8 : Int)) (fst (w % (4 : Int))) a (4 : Int) c < costV (fst (w / (4 : Int) % (4 : Int))) (fst (w /
      (32 : Int) % (4 : Int))) (fst (w / (256 : Int) % (4 : Int))) (if w / (16 : Int) % (2 : Int) = (1 : Int) then (1 : Int) else (2 : Int)) (if w / (128 : Int) % (2 : Int) = (1
      : Int) then (1 : Int) else (4 : Int)) (if w / (1024 : Int) % (2 : Int) = (1 : Int) then (1 : Int) else (8 : Int)) (fst (w % (4 : Int))) a (2 : Int) c) = false ∧ u32 a =
      true ∧ sm (fst (w / (4 : Int) % (4 : Int))) = true ∧ sm (fst (w / (32 : Int) % (4 : Int))) = true ∧ sm (fst (w / (256 : Int) % (4 : Int))) = true ∧ sm (if w / (16 : Int) %
      (2 : Int) = (1 : Int) then (1 : Int) else (2 : Int)) = true ∧ sm (if w / (128 : Int) % (2 : Int) = (1 : Int) then (1 : Int) else (4 : Int)) = true ∧ sm (if w / (1024 :
      Int) % (2 : Int) = (1 : Int) then (1 : Int) else (8 : Int)) = true ∧ sm (fst (w % (4 : Int))) = true ∧ u32 a = true ∧ sm (fst (w / (4 : Int) % (4 : Int))) = true ∧ sm (fst
      (w / (32 : Int) % (4 : Int))) = true ∧ sm (fst (w / (256 : Int) % (4 : Int))) = true ∧ sm (if w / (16 : Int) % (2 : Int) = (1 : Int) then (1 : Int) else (2 : Int)) = true
      ∧ sm (if w / (128 : Int) % (2 : Int) = (1 : Int) then (1 : Int) else (4 : Int)) = true ∧ sm (if w / (1024 : Int) % (2 : Int) = (1 : Int) then (1 : Int) else (8 : Int)) =
      true ∧ sm (fst (w % (4 : Int))) = true ∧ (costV (fst (w / (4 : Int) % (4 : Int))) (fst (w / (32 : Int) % (4 : Int))) (fst (w / (256 : Int) % (4 : Int))) (if w / (16 : Int)
      % (2 : Int) = (1 : Int) then (1 : Int) else (2 : Int)) (if w / (128 : Int) % (2 : Int) = (1 : Int) then (1 : Int) else (4 : Int)) (if w / (1024 : Int) % (2 : Int) = (1 :
      Int) then (1 : Int) else (8 : Int)) (fst (w % (4 : Int))) a (1 : Int) c != costV (fst (w / (4 : Int) % (4 : Int))) (fst (w / (32 : Int) % (4 : Int))) (fst (w / (256 : Int)
      % (4 : Int))) (if w / (16 : Int) % (2 : Int) = (1 : Int) then (1 : Int) else (2 : Int)) (if w / (128 : Int) % (2 : Int) = (1 : Int) then (1 : Int) else (4 : Int)) (if w /
      (1024 : Int) % (2 : Int) = (1 : Int) then (1 : Int) else (8 : Int)) (fst (w % (4 : Int))) a (2 : Int) c) = false ∧ u32 a = true ∧ ((mR a != (7 : Int)) = true → (costV (fst
      (w / (4 : Int) % (4 : Int))) (fst (w / (32 : Int) % (4 : Int))) (fst (w / (256 : Int) % (4 : Int))) (if w / (16 : Int) % (2 : Int) = (1 : Int) then (1 : Int) else (2 :
      Int)) (if w / (128 : Int) % (2 : Int) = (1 : Int) then (1 : Int) else (4 : Int)) (if w / (1024 : Int) % (2 : Int) = (1 : Int) then (1 : Int) else (8 : Int)) (fst (w % (4 :
      Int))) a (4 : Int) (0 : Int) != costV (fst (w / (4 : Int) % (4 : Int))) (fst (w / (32 : Int) % (4 : Int))) (fst (w / (256 : Int) % (4 : Int))) (if w / (16 : Int) % (2 :
      Int) = (1 : Int) then (1 : Int) else (2 : Int)) (if w / (128 : Int) % (2 : Int) = (1 : Int) then (1 : Int) else (4 : Int)) (if w / (1024 : Int) % (2 : Int) = (1 : Int)
      then (1 : Int) else (8 : Int)) (fst (w % (4 : Int))) a (4 : Int) (1 : Int)) = false ∧ (bits BinOp.or IntKind.u32 (IntKind.u32.wrap (bits BinOp.or IntKind.u32
      (IntKind.u32.wrap (a * (16777216 : Int))) (a.fdiv (256 : Int)) * (256 : Int))) ((bits BinOp.or IntKind.u32 (IntKind.u32.wrap (a * (16777216 : Int))) (a.fdiv (256 :
      Int))).fdiv (16777216 : Int)) == a) = true ∧ decide ((0 : Int) ≤ bits BinOp.and IntKind.u64 (IntKind.u64.wrap (IntKind.i64.wrap ((-8 : Int) * IntKind.i64.wrap (bits
      BinOp.and IntKind.u32 (bits BinOp.andNot IntKind.u32 a (3 : Int)) (3 : Int))))) (31 : Int)) = true ∧ decide ((0 : Int) ≤ IntKind.u64.wrap ((32 : Int) - bits BinOp.and
      IntKind.u64 (IntKind.u64.wrap (IntKind.i64.wrap ((-8 : Int) * IntKind.i64.wrap (bits BinOp.and IntKind.u32 (bits BinOp.andNot IntKind.u32 a (3 : Int)) (3 : Int))))) (31 :
      Int))) = true ∧ (bits BinOp.or IntKind.u32 (IntKind.u32.wrap (a * (2 : Int) ^ min (bits BinOp.and IntKind.u64 (IntKind.u64.wrap (IntKind.i64.wrap ((-8 : Int) *
      IntKind.i64.wrap (bits BinOp.and IntKind.u32 (bits BinOp.andNot IntKind.u32 a (3 : Int)) (3 : Int))))) (31 : Int)).toNat (32 : Nat))) (a.fdiv ((2 : Int) ^ min
      (IntKind.u64.wrap ((32 : Int) - bits BinOp.and IntKind.u64 (IntKind.u64.wrap (IntKind.i64.wrap ((-8 : Int) * IntKind.i64.wrap (bits BinOp.and IntKind.u32 (bits
      BinOp.andNot IntKind.u32 a (3 : Int)) (3 : Int))))) (31 : Int))).toNat (32 : Nat))) == a) = true) ∧ ((mR a != (7 : Int)) = false → (bits BinOp.or IntKind.u32
      (IntKind.u32.wrap (bits BinOp.or IntKind.u32 (IntKind.u32.wrap (a * (16777216 : Int))) (a.fdiv (256 : Int)) * (256 : Int))) ((bits BinOp.or IntKind.u32 (IntKind.u32.wrap
      (a * (16777216 : Int))) (a.fdiv (256 : Int))).fdiv (16777216 : Int)) == a) = true ∧ decide ((0 : Int) ≤ bits BinOp.and IntKind.u64 (IntKind.u64.wrap (IntKind.i64.wrap ((-8
      : Int) * IntKind.i64.wrap (bits BinOp.and IntKind.u32 (bits BinOp.andNot IntKind.u32 a (3 : Int)) (3 : Int))))) (31 : Int)) = true ∧ decide ((0 : Int) ≤ IntKind.u64.wrap
      ((32 : Int) - bits BinOp.and IntKind.u64 (IntKind.u64.wrap (IntKind.i64.wrap ((-8 : Int) * IntKind.i64.wrap (bits BinOp.and IntKind.u32 (bits BinOp.andNot IntKind.u32 a (3
      : Int)) (3 : Int))))) (31 : Int))) = true ∧ (bits BinOp.or IntKind.u32 (IntKind.u32.wrap (a * (2 : Int) ^ min (bits BinOp.and IntKind.u64 (IntKind.u64.wrap
      (IntKind.i64.wrap ((-8 : Int) * IntKind.i64.wrap (bits BinOp.and IntKind.u32 (bits BinOp.andNot IntKind.u32 a (3 : Int)) (3 : Int))))) (31 : Int)).toNat (32 : Nat)))
      (a.fdiv ((2 : Int) ^ min (IntKind.u64.wrap ((32 : Int) - bits BinOp.and IntKind.u64 (IntKind.u64.wrap (IntKind.i64.wrap ((-8 : Int) * IntKind.i64.wrap (bits BinOp.and
      IntKind.u32 (bits BinOp.andNot IntKind.u32 a (3 : Int)) (3 : Int))))) (31 : Int))).toNat (32 : Nat))) == a) = true)))) := by kernel_rfl
end Go.Proofs.Ytagfeilieoolkaa

