import Derived.Test.YtpfdemmoapjjpaaA
set_option linter.unusedVariables false
set_option linter.unusedSimpArgs false
namespace Go.Proofs.Ytpfdemmoapjjpaa
open Go Go.Proofs Go.Proofs.Ytpfdemmoapjjpaa.Ev
set_option maxRecDepth 100000 in
theorem awake_c (s : SW) : CallTree Try.prog 6 [] s (.leaf (.c (.b true true), s)) := by
  exact pure_contract (fnTree_sound orcNone_ok tab_ok tab_sz mixed 1000 Try.func6 (by decide) [] []) (by simp [SV.ok, C.ok, okL]) (v := .c (.b true true)) rfl (conP_OK _ (by rw [awake_p]; decide)) s
def orc1 : Orc := fun g vs s => match g, vs with
  | 6, [] => some (.leaf (.c (.b true true), s))
  | g, vs => none
theorem orc1_ok : OrcOK Try.prog orc1 := by
  intro g vs s t h
  unfold orc1 at h
  split at h
  · cases h
    exact awake_c s
  · cases h

theorem fields_p (h : Int) :
    (lawP (fnTree Try.prog orc1 (tabL fns) 20000 Try.f5 [.c (.i false .u16 h)] [])) =
    (((h.fdiv (4096 : Int) == (0 : Int)) = true → ((IntKind.i64.wrap (bits BinOp.and IntKind.u16 (h.fdiv (2048 : Int)) (3 : Int)) != (3 : Int)) = true → ((h.fdiv (4096 : Int)
      == (13 : Int)) = true → ((!decide (IntKind.i64.wrap (bits BinOp.and IntKind.u16 (h.fdiv (256 : Int)) (15 : Int)) < (14 : Int))) = true → decide (IntKind.i64.wrap (bits
      BinOp.and IntKind.u16 (h.fdiv (1 : Int)) (7 : Int)) < (0 : Int)) = false ∧ decide (IntKind.i64.wrap (bits BinOp.and IntKind.u16 (h.fdiv (1 : Int)) (7 : Int)) > (15 : Int))
      = false ∧ decide (IntKind.i64.wrap (bits BinOp.and IntKind.u16 (h.fdiv (8 : Int)) (7 : Int)) < (0 : Int)) = false ∧ decide (IntKind.i64.wrap (bits BinOp.and IntKind.u16
      (h.fdiv (8 : Int)) (7 : Int)) > (15 : Int)) = false ∧ decide (IntKind.i64.wrap (bits BinOp.and IntKind.u16 (h.fdiv (64 : Int)) (31 : Int)) ≥ (0 : Int)) = true ∧ decide
      (IntKind.i64.wrap (bits BinOp.and IntKind.u16 (h.fdiv (64 : Int)) (31 : Int)) < (32 : Int)) = true ∧ true = true) ∧ ((!decide (IntKind.i64.wrap (bits BinOp.and IntKind.u16
      (h.fdiv (256 : Int)) (15 : Int)) < (14 : Int))) = false → decide (IntKind.i64.wrap (bits BinOp.and IntKind.u16 (h.fdiv (1 : Int)) (7 : Int)) < (0 : Int)) = false ∧ decide
      (IntKind.i64.wrap (bits BinOp.and IntKind.u16 (h.fdiv (1 : Int)) (7 : Int)) > (15 : Int)) = false ∧ decide (IntKind.i64.wrap (bits BinOp.and IntKind.u16 (h.fdiv (8 : Int))
      (7 : Int)) < (0 : Int)) = false ∧ decide (IntKind.i64.wrap (bits BinOp.and IntKind.u16 (h.fdiv (8 : Int)) (7 : Int)) > (15 : Int)) = true ∧ false = true)) ∧ ((h.fdiv (4096
      : Int) == (13 : Int)) = false → decide (IntKind.i64.wrap (bits BinOp.and IntKind.u16 (h.fdiv (1 : Int)) (7 : Int)) < (0 : Int)) = false ∧ decide (IntKind.i64.wrap (bits
      BinOp.and IntKind.u16 (h.fdiv (1 : Int)) (7 : Int)) > (15 : Int)) = false ∧ decide (IntKind.i64.wrap (bits BinOp.and IntKind.u16 (h.fdiv (8 : Int)) (7 : Int)) < (0 : Int))
      = false ∧ decide (IntKind.i64.wrap (bits BinOp.and IntKind.u16 (h.fdiv (8 : Int)) (7 : Int)) > (15 : Int)) = false ∧ decide (IntKind.i64.wrap (bits BinOp.and IntKind.u16
      (h.fdiv (64 : Int)) (31 : Int)) ≥ (0 : Int)) = true ∧ decide (IntKind.i64.wrap (bits BinOp.and IntKind.u16 (h.fdiv (64 : Int)) (31 : Int)) < (32 : Int)) = true ∧ true =
      true)) ∧ ((IntKind.i64.wrap (bits BinOp.and IntKind.u16 (h.fdiv (2048 : Int)) (3 : Int)) != (3 : Int)) = false → ((bits BinOp.and IntKind.u16 (h.fdiv (512 : Int)) (1 :
      Int) != (0 : Int)) = true → ((bits BinOp.and IntKind.u16 (h.fdiv (1024 : Int)) (1 : Int) != (0 : Int)) = true → ((h.fdiv (4096 : Int) == (13 : Int)) = true → ((!decide
      (IntKind.i64.wrap (bits BinOp.and IntKind.u16 (h.fdiv (256 : Int)) (15 : Int)) < (14 : Int))) = true → decide (IntKind.i64.wrap (bits BinOp.and IntKind.u16 (h.fdiv (1 :
      Int)) (7 : Int)) < (0 : Int)) = false ∧ decide (IntKind.i64.wrap (bits BinOp.and IntKind.u16 (h.fdiv (1 : Int)) (7 : Int)) > (15 : Int)) = false ∧ decide (IntKind.i64.wrap
      (bits BinOp.and IntKind.u16 (h.fdiv (8 : Int)) (7 : Int)) < (0 : Int)) = false ∧ decide (IntKind.i64.wrap (bits BinOp.and IntKind.u16 (h.fdiv (8 : Int)) (7 : Int)) > (15 :
      Int)) = false ∧ true = true) ∧ ((!decide (IntKind.i64.wrap (bits BinOp.and IntKind.u16 (h.fdiv (256 : Int)) (15 : Int)) < (14 : Int))) = false → decide (IntKind.i64.wrap
      (bits BinOp.and IntKind.u16 (h.fdiv (1 : Int)) (7 : Int)) < (0 : Int)) = false ∧ decide (IntKind.i64.wrap (bits BinOp.and IntKind.u16 (h.fdiv (1 : Int)) (7 : Int)) > (15 :
      Int)) = false ∧ decide (IntKind.i64.wrap (bits BinOp.and IntKind.u16 (h.fdiv (8 : Int)) (7 : Int)) < (0 : Int)) = false ∧ decide (IntKind.i64.wrap (bits BinOp.and
      IntKind.u16 (h.fdiv (8 : Int)) (7 : Int)) > (15 : Int)) = true ∧ false = true)) ∧ ((h.fdiv (4096 : Int) == (13 : Int)) = false → decide (IntKind.i64.wrap (bits BinOp.and
      IntKind.u16 (h.fdiv (1 : Int)) (7 : Int)) < (0 : Int)) = false ∧ decide (IntKind.i64.wrap (bits BinOp.and IntKind.u16 (h.fdiv (1 : Int)) (7 : Int)) > (15 : Int)) = false ∧
      decide (IntKind.i64.wrap (bits BinOp.and IntKind.u16 (h.fdiv (8 : Int)) (7 : Int)) < (0 : Int)) = false ∧ decide (IntKind.i64.wrap (bits BinOp.and IntKind.u16 (h.fdiv (8 :
      Int)) (7 : Int)) > (15 : Int)) = false ∧ true = true)) ∧ ((bits BinOp.and IntKind.u16 (h.fdiv (1024 : Int)) (1 : Int) != (0 : Int)) = false → ((h.fdiv (4096 : Int) == (13
      : Int)) = true → ((!decide (IntKind.i64.wrap (bits BinOp.and IntKind.u16 (h.fdiv (256 : Int)) (15 : Int)) < (14 : Int))) = true → decide (IntKind.i64.wrap (bits BinOp.and
      IntKind.u16 (h.fdiv (1 : Int)) (7 : Int)) < (0 : Int)) = false ∧ decide (IntKind.i64.wrap (bits BinOp.and IntKind.u16 (h.fdiv (1 : Int)) (7 : Int)) > (15 : Int)) = false ∧
      decide (IntKind.i64.wrap (bits BinOp.and IntKind.u16 (h.fdiv (8 : Int)) (7 : Int)) < (0 : Int)) = false ∧ decide (IntKind.i64.wrap (bits BinOp.and IntKind.u16 (h.fdiv (8 :
      Int)) (7 : Int)) > (15 : Int)) = false ∧ decide (IntKind.i64.wrap (bits BinOp.and IntKind.u16 (h.fdiv (64 : Int)) (7 : Int)) < (0 : Int)) = false ∧ decide
      (IntKind.i64.wrap (bits BinOp.and IntKind.u16 (h.fdiv (64 : Int)) (7 : Int)) > (15 : Int)) = false ∧ true = true) ∧ ((!decide (IntKind.i64.wrap (bits BinOp.and IntKind.u16
      (h.fdiv (256 : Int)) (15 : Int)) < (14 : Int))) = false → decide (IntKind.i64.wrap (bits BinOp.and IntKind.u16 (h.fdiv (1 : Int)) (7 : Int)) < (0 : Int)) = false ∧ decide
      (IntKind.i64.wrap (bits BinOp.and IntKind.u16 (h.fdiv (1 : Int)) (7 : Int)) > (15 : Int)) = false ∧ decide (IntKind.i64.wrap (bits BinOp.and IntKind.u16 (h.fdiv (8 : Int))
      (7 : Int)) < (0 : Int)) = false ∧ decide (IntKind.i64.wrap (bits BinOp.and IntKind.u16 (h.fdiv (8 : Int)) (7 : Int)) > (15 : Int)) = false ∧ decide (IntKind.i64.wrap (bits
      BinOp.and IntKind.u16 (h.fdiv (64 : Int)) (7 : Int)) < (0 : Int)) = false ∧ decide (IntKind.i64.wrap (bits BinOp.and IntKind.u16 (h.fdiv (64 : Int)) (7 : Int)) > (15 :
      Int)) = true ∧ false = true)) ∧ ((h.fdiv (4096 : Int) == (13 : Int)) = false → decide (IntKind.i64.wrap (bits BinOp.and IntKind.u16 (h.fdiv (1 : Int)) (7 : Int)) < (0 :
      Int)) = false ∧ decide (IntKind.i64.wrap (bits BinOp.and IntKind.u16 (h.fdiv (1 : Int)) (7 : Int)) > (15 : Int)) = false ∧ decide (IntKind.i64.wrap (bits BinOp.and
      IntKind.u16 (h.fdiv (8 : Int)) (7 : Int)) < (0 : Int)) = false ∧ decide (IntKind.i64.wrap (bits BinOp.and IntKind.u16 (h.fdiv (8 : Int)) (7 : Int)) > (15 : Int)) = false ∧
      decide (IntKind.i64.wrap (bits BinOp.and IntKind.u16 (h.fdiv (64 : Int)) (7 : Int)) < (0 : Int)) = false ∧ decide (IntKind.i64.wrap (bits BinOp.and IntKind.u16 (h.fdiv (64
      : Int)) (7 : Int)) > (15 : Int)) = false ∧ true = true))) ∧ ((bits BinOp.and IntKind.u16 (h.fdiv (512 : Int)) (1 : Int) != (0 : Int)) = false → ((bits BinOp.and
      IntKind.u16 (h.fdiv (1024 : Int)) (1 : Int) != (0 : Int)) = true → ((h.fdiv (4096 : Int) == (13 : Int)) = true → ((!decide (IntKind.i64.wrap (bits BinOp.and IntKind.u16
      (h.fdiv (256 : Int)) (15 : Int)) < (14 : Int))) = true → decide (IntKind.i64.wrap (bits BinOp.and IntKind.u16 (h.fdiv (1 : Int)) (7 : Int)) < (0 : Int)) = false ∧ decide
      (IntKind.i64.wrap (bits BinOp.and IntKind.u16 (h.fdiv (1 : Int)) (7 : Int)) > (15 : Int)) = false ∧ decide (IntKind.i64.wrap (bits BinOp.and IntKind.u16 (h.fdiv (8 : Int))
      (7 : Int)) < (0 : Int)) = false ∧ decide (IntKind.i64.wrap (bits BinOp.and IntKind.u16 (h.fdiv (8 : Int)) (7 : Int)) > (15 : Int)) = false ∧ true = true) ∧ ((!decide
      (IntKind.i64.wrap (bits BinOp.and IntKind.u16 (h.fdiv (256 : Int)) (15 : Int)) < (14 : Int))) = false → decide (IntKind.i64.wrap (bits BinOp.and IntKind.u16 (h.fdiv (1 :
      Int)) (7 : Int)) < (0 : Int)) = false ∧ decide (IntKind.i64.wrap (bits BinOp.and IntKind.u16 (h.fdiv (1 : Int)) (7 : Int)) > (15 : Int)) = false ∧ decide (IntKind.i64.wrap
      (bits BinOp.and IntKind.u16 (h.fdiv (8 : Int)) (7 : Int)) < (0 : Int)) = false ∧ decide (IntKind.i64.wrap (bits BinOp.and IntKind.u16 (h.fdiv (8 : Int)) (7 : Int)) > (15 :
      Int)) = true ∧ false = true)) ∧ ((h.fdiv (4096 : Int) == (13 : Int)) = false → decide (IntKind.i64.wrap (bits BinOp.and IntKind.u16 (h.fdiv (1 : Int)) (7 : Int)) < (0 :
      Int)) = false ∧ decide (IntKind.i64.wrap (bits BinOp.and IntKind.u16 (h.fdiv (1 : Int)) (7 : Int)) > (15 : Int)) = false ∧ decide (IntKind.i64.wrap (bits BinOp.and
      IntKind.u16 (h.fdiv (8 : Int)) (7 : Int)) < (0 : Int)) = false ∧ decide (IntKind.i64.wrap (bits BinOp.and IntKind.u16 (h.fdiv (8 : Int)) (7 : Int)) > (15 : Int)) = false ∧
      true = true)) ∧ ((bits BinOp.and IntKind.u16 (h.fdiv (1024 : Int)) (1 : Int) != (0 : Int)) = false → ((h.fdiv (4096 : Int) == (13 : Int)) = true → ((!decide
      (IntKind.i64.wrap (bits BinOp.and IntKind.u16 (h.fdiv (256 : Int)) (15 : Int)) < (14 : Int))) = true → decide (IntKind.i64.wrap (bits BinOp.and IntKind.u16 (h.fdiv (1 :
      Int)) (7 : Int)) < (0 : Int)) = false ∧ decide (IntKind.i64.wrap (bits BinOp.and IntKind.u16 (h.fdiv (1 : Int)) (7 : Int)) > (15 : Int)) = false ∧ decide (IntKind.i64.wrap
      (bits BinOp.and IntKind.u16 (h.fdiv (8 : Int)) (7 : Int)) < (0 : Int)) = false ∧ decide (IntKind.i64.wrap (bits BinOp.and IntKind.u16 (h.fdiv (8 : Int)) (7 : Int)) > (15 :
      Int)) = false ∧ decide (IntKind.i64.wrap (bits BinOp.and IntKind.u16 (h.fdiv (64 : Int)) (7 : Int)) < (0 : Int)) = false ∧ decide (IntKind.i64.wrap (bits BinOp.and
      IntKind.u16 (h.fdiv (64 : Int)) (7 : Int)) > (15 : Int)) = false ∧ true = true) ∧ ((!decide (IntKind.i64.wrap (bits BinOp.and IntKind.u16 (h.fdiv (256 : Int)) (15 : Int))
      < (14 : Int))) = false → decide (IntKind.i64.wrap (bits BinOp.and IntKind.u16 (h.fdiv (1 : Int)) (7 : Int)) < (0 : Int)) = false ∧ decide (IntKind.i64.wrap (bits BinOp.and
      IntKind.u16 (h.fdiv (1 : Int)) (7 : Int)) > (15 : Int)) = false ∧ decide (IntKind.i64.wrap (bits BinOp.and IntKind.u16 (h.fdiv (8 : Int)) (7 : Int)) < (0 : Int)) = false ∧
      decide (IntKind.i64.wrap (bits BinOp.and IntKind.u16 (h.fdiv (8 : Int)) (7 : Int)) > (15 : Int)) = false ∧ decide (IntKind.i64.wrap (bits BinOp.and IntKind.u16 (h.fdiv (64
      : Int)) (7 : Int)) < (0 : Int)) = false ∧ decide (IntKind.i64.wrap (bits BinOp.and IntKind.u16 (h.fdiv (64 : Int)) (7 : Int)) > (15 : Int)) = true ∧ false = true)) ∧
      ((h.fdiv (4096 : Int) == (13 : Int)) = false → decide (IntKind.i64.wrap (bits BinOp.and IntKind.u16 (h.fdiv (1 : Int)) (7 : Int)) < (0 : Int)) = false ∧ decide
      (IntKind.i64.wrap (bits BinOp.and IntKind.u16 (h.fdiv (1 : Int)) (7 : Int)) > (15 : Int)) = false ∧ decide (IntKind.i64.wrap (bits BinOp.and IntKind.u16 (h.fdiv (8 : Int))
      (7 : Int)) < (0 : Int)) = false ∧ decide (IntKind.i64.wrap (bits BinOp.and IntKind.u16 (h.fdiv (8 : Int)) (7 : Int)) > (15 : Int)) = false ∧ decide (IntKind.i64.wrap (bits
      BinOp.and IntKind.u16 (h.fdiv (64 : Int)) (7 : Int)) < (0 : Int)) = false ∧ decide (IntKind.i64.wrap (bits BinOp.and IntKind.u16 (h.fdiv (64 : Int)) (7 : Int)) > (15 :
      Int)) = false ∧ true = true))))) ∧ ((h.fdiv (4096 : Int) == (0 : Int)) = false → ((h.fdiv (4096 : Int) == (1 : Int)) = true → ((IntKind.i64.wrap (bits BinOp.and
      IntKind.u16 (h.fdiv (2048 : Int)) (3 : Int)) != (3 : Int)) = true → ((h.fdiv (4096 : Int) == (13 : Int)) = true → ((!decide (IntKind.i64.wrap (bits BinOp.and IntKind.u16
      (h.fdiv (256 : Int)) (15 : Int)) < (14 : Int))) = true → decide (IntKind.i64.wrap (bits BinOp.and IntKind.u16 (h.fdiv (1 : Int)) (7 : Int)) < (0 : Int)) = false ∧ decide
      (IntKind.i64.wrap (bits BinOp.and IntKind.u16 (h.fdiv (1 : Int)) (7 : Int)) > (15 : Int)) = false ∧ decide (IntKind.i64.wrap (bits BinOp.and IntKind.u16 (h.fdiv (8 : Int))
      (7 : Int)) < (0 : Int)) = false ∧ decide (IntKind.i64.wrap (bits BinOp.and IntKind.u16 (h.fdiv (8 : Int)) (7 : Int)) > (15 : Int)) = false ∧ decide (IntKind.i64.wrap (bits
      BinOp.and IntKind.u16 (h.fdiv (64 : Int)) (31 : Int)) ≥ (0 : Int)) = true ∧ decide (IntKind.i64.wrap (bits BinOp.and IntKind.u16 (h.fdiv (64 : Int)) (31 : Int)) < (32 :
      Int)) = true ∧ true = true) ∧ ((!decide (IntKind.i64.wrap (bits BinOp.and IntKind.u16 (h.fdiv (256 : Int)) (15 : Int)) < (14 : Int))) = false → decide (IntKind.i64.wrap
      (bits BinOp.and IntKind.u16 (h.fdiv (1 : Int)) (7 : Int)) < (0 : Int)) = false ∧ decide (IntKind.i64.wrap (bits BinOp.and IntKind.u16 (h.fdiv (1 : Int)) (7 : Int)) > (15 :
      Int)) = false ∧ decide (IntKind.i64.wrap (bits BinOp.and IntKind.u16 (h.fdiv (8 : Int)) (7 : Int)) < (0 : Int)) = false ∧ decide (IntKind.i64.wrap (bits BinOp.and
      IntKind.u16 (h.fdiv (8 : Int)) (7 : Int)) > (15 : Int)) = true ∧ false = true)) ∧ ((h.fdiv (4096 : Int) == (13 : Int)) = false → decide (IntKind.i64.wrap (bits BinOp.and
      IntKind.u16 (h.fdiv (1 : Int)) (7 : Int)) < (0 : Int)) = false ∧ decide (IntKind.i64.wrap (bits BinOp.and IntKind.u16 (h.fdiv (1 : Int)) (7 : Int)) > (15 : Int)) = false ∧
      decide (IntKind.i64.wrap (bits BinOp.and IntKind.u16 (h.fdiv (8 : Int)) (7 : Int)) < (0 : Int)) = false ∧ decide (IntKind.i64.wrap (bits BinOp.and IntKind.u16 (h.fdiv (8 :
      Int)) (7 : Int)) > (15 : Int)) = false ∧ decide (IntKind.i64.wrap (bits BinOp.and IntKind.u16 (h.fdiv (64 : Int)) (31 : Int)) ≥ (0 : Int)) = true ∧ decide
      (IntKind.i64.wrap (bits BinOp.and IntKind.u16 (h.fdiv (64 : Int)) (31 : Int)) < (32 : Int)) = true ∧ true = true)) ∧ ((IntKind.i64.wrap (bits BinOp.and IntKind.u16 (h.fdiv
      (2048 : Int)) (3 : Int)) != (3 : Int)) = false → ((bits BinOp.and IntKind.u16 (h.fdiv (512 : Int)) (1 : Int) != (0 : Int)) = true → ((bits BinOp.and IntKind.u16 (h.fdiv
      (1024 : Int)) (1 : Int) != (0 : Int)) = true → ((h.fdiv (4096 : Int) == (13 : Int)) = true → ((!decide (IntKind.i64.wrap (bits BinOp.and IntKind.u16 (h.fdiv (256 : Int))
      (15 : Int)) < (14 : Int))) = true → decide (IntKind.i64.wrap (bits BinOp.and IntKind.u16 (h.fdiv (1 : Int)) (7 : Int)) < (0 : Int)) = false ∧ decide (IntKind.i64.wrap
      (bits BinOp.and IntKind.u16 (h.fdiv (1 : Int)) (7 : Int)) > (15 : Int)) = false ∧ decide (IntKind.i64.wrap (bits BinOp.and IntKind.u16 (h.fdiv (8 : Int)) (7 : Int)) < (0 :
      Int)) = false ∧ decide (IntKind.i64.wrap (bits BinOp.and IntKind.u16 (h.fdiv (8 : Int)) (7 : Int)) > (15 : Int)) = false ∧ true = true) ∧ ((!decide (IntKind.i64.wrap (bits
      BinOp.and IntKind.u16 (h.fdiv (256 : Int)) (15 : Int)) < (14 : Int))) = false → decide (IntKind.i64.wrap (bits BinOp.and IntKind.u16 (h.fdiv (1 : Int)) (7 : Int)) < (0 :
      Int)) = false ∧ decide (IntKind.i64.wrap (bits BinOp.and IntKind.u16 (h.fdiv (1 : Int)) (7 : Int)) > (15 : Int)) = false ∧ decide (IntKind.i64.wrap (bits BinOp.and
      IntKind.u16 (h.fdiv (8 : Int)) (7 : Int)) < (0 : Int)) = false ∧ decide (IntKind.i64.wrap (bits BinOp.and IntKind.u16 (h.fdiv (8 : Int)) (7 : Int)) > (15 : Int)) = true ∧
      false = true)) ∧ ((h.fdiv (4096 : Int) == (13 : Int)) = false → decide (IntKind.i64.wrap (bits BinOp.and IntKind.u16 (h.fdiv (1 : Int)) (7 : Int)) < (0 : Int)) = false ∧
      decide (IntKind.i64.wrap (bits BinOp.and IntKind.u16 (h.fdiv (1 : Int)) (7 : Int)) > (15 : Int)) = false ∧ decide (IntKind.i64.wrap (bits BinOp.and IntKind.u16 (h.fdiv (8
      : Int)) (7 : Int)) < (0 : Int)) = false ∧ decide (IntKind.i64.wrap (bits BinOp.and IntKind.u16 (h.fdiv (8 : Int)) (7 : Int)) > (15 : Int)) = false ∧ true = true)) ∧ ((bits
      BinOp.and IntKind.u16 (h.fdiv (1024 : Int)) (1 : Int) != (0 : Int)) = false → ((h.fdiv (4096 : Int) == (13 : Int)) = true → ((!decide (IntKind.i64.wrap (bits BinOp.and
      IntKind.u16 (h.fdiv (256 : Int)) (15 : Int)) < (14 : Int))) = true → decide (IntKind.i64.wrap (bits BinOp.and IntKind.u16 (h.fdiv (1 : Int)) (7 : Int)) < (0 : Int)) =
      false ∧ decide (IntKind.i64.wrap (bits BinOp.and IntKind.u16 (h.fdiv (1 : Int)) (7 : Int)) > (15 : Int)) = false ∧ decide (IntKind.i64.wrap (bits BinOp.and IntKind.u16
      (h.fdiv (8 : Int)) (7 : Int)) < (0 : Int)) = false ∧ decide (IntKind.i64.wrap (bits BinOp.and IntKind.u16 (h.fdiv (8 : Int)) (7 : Int)) > (15 : Int)) = false ∧ decide
      (IntKind.i64.wrap (bits BinOp.and IntKind.u16 (h.fdiv (64 : Int)) (7 : Int)) < (0 : Int)) = false ∧ decide (IntKind.i64.wrap (bits BinOp.and IntKind.u16 (h.fdiv (64 :
      Int)) (7 : Int)) > (15 : Int)) = false ∧ true = true) ∧ ((!decide (IntKind.i64.wrap (bits BinOp.and IntKind.u16 (h.fdiv (256 : Int)) (15 : Int)) < (14 : Int))) = false →
      decide (IntKind.i64.wrap (bits BinOp.and IntKind.u16 (h.fdiv (1 : Int)) (7 : Int)) < (0 : Int)) = false ∧ decide (IntKind.i64.wrap (bits BinOp.and IntKind.u16 (h.fdiv (1 :
      Int)) (7 : Int)) > (15 : Int)) = false ∧ decide (IntKind.i64.wrap (bits BinOp.and IntKind.u16 (h.fdiv (8 : Int)) (7 : Int)) < (0 : Int)) = false ∧ decide (IntKind.i64.wrap
      (bits BinOp.and IntKind.u16 (h.fdiv (8 : Int)) (7 : Int)) > (15 : Int)) = false ∧ decide (IntKind.i64.wrap (bits BinOp.and IntKind.u16 (h.fdiv (64 : Int)) (7 : Int)) < (0
      : Int)) = false ∧ decide (IntKind.i64.wrap (bits BinOp.and IntKind.u16 (h.fdiv (64 : Int)) (7 : Int)) > (15 : Int)) = true ∧ false = true)) ∧ ((h.fdiv (4096 : Int) == (13
      : Int)) = false → decide (IntKind.i64.wrap (bits BinOp.and IntKind.u16 (h.fdiv (1 : Int)) (7 : Int)) < (0 : Int)) = false ∧ decide (IntKind.i64.wrap (bits BinOp.and
      IntKind.u16 (h.fdiv (1 : Int)) (7 : Int)) > (15 : Int)) = false ∧ decide (IntKind.i64.wrap (bits BinOp.and IntKind.u16 (h.fdiv (8 : Int)) (7 : Int)) < (0 : Int)) = false ∧
      decide (IntKind.i64.wrap (bits BinOp.and IntKind.u16 (h.fdiv (8 : Int)) (7 : Int)) > (15 : Int)) = false ∧ decide (IntKind.i64.wrap (bits BinOp.and IntKind.u16 (h.fdiv (64
      : Int)) (7 : Int)) < (0 : Int)) = false ∧ decide (IntKind.i64.wrap (bits BinOp.and IntKind.u16 (h.fdiv (64 : Int)) (7 : Int)) > (15 : Int)) = false ∧ true = true))) ∧
      ((bits BinOp.and IntKind.u16 (h.fdiv (512 : Int)) (1 : Int) != (0 : Int)) = false → ((bits BinOp.and IntKind.u16 (h.fdiv (1024 : Int)) (1 : Int) != (0 : Int)) = true →
      ((h.fdiv (4096 : Int) == (13 : Int)) = true → ((!decide (IntKind.i64.wrap (bits BinOp.and IntKind.u16 (h.fdiv (256 : Int)) (15 : Int)) < (14 : Int))) = true → decide
      (IntKind.i64.wrap (bits BinOp.and IntKind.u16 (h.fdiv (1 : Int)) (7 : Int)) < (0 : Int)) = false ∧ decide (IntKind.i64.wrap (bits BinOp.and IntKind.u16 (h.fdiv (1 : Int))
      (7 : Int)) > (15 : Int)) = false ∧ decide (IntKind.i64.wrap (bits BinOp.and IntKind.u16 (h.fdiv (8 : Int)) (7 : Int)) < (0 : Int)) = false ∧ decide (IntKind.i64.wrap (bits
      BinOp.and IntKind.u16 (h.fdiv (8 : Int)) (7 : Int)) > (15 : Int)) = false ∧ true = true) ∧ ((!decide (IntKind.i64.wrap (bits BinOp.and IntKind.u16 (h.fdiv (256 : Int)) (15
      : Int)) < (14 : Int))) = false → decide (IntKind.i64.wrap (bits BinOp.and IntKind.u16 (h.fdiv (1 : Int)) (7 : Int)) < (0 : Int)) = false ∧ decide (IntKind.i64.wrap (bits
      BinOp.and IntKind.u16 (h.fdiv (1 : Int)) (7 : Int)) > (15 : Int)) = false ∧ decide (IntKind.i64.wrap (bits BinOp.and IntKind.u16 (h.fdiv (8 : Int)) (7 : Int)) < (0 : Int))
      = false ∧ decide (IntKind.i64.wrap (bits BinOp.and IntKind.u16 (h.fdiv (8 : Int)) (7 : Int)) > (15 : Int)) = true ∧ false = true)) ∧ ((h.fdiv (4096 : Int) == (13 : Int)) =
      false → decide (IntKind.i64.wrap (bits BinOp.and IntKind.u16 (h.fdiv (1 : Int)) (7 : Int)) < (0 : Int)) = false ∧ decide (IntKind.i64.wrap (bits BinOp.and IntKind.u16
      (h.fdiv (1 : Int)) (7 : Int)) > (15 : Int)) = false ∧ decide (IntKind.i64.wrap (bits BinOp.and IntKind.u16 (h.fdiv (8 : Int)) (7 : Int)) < (0 : Int)) = false ∧ decide
      (IntKind.i64.wrap (bits BinOp.and IntKind.u16 (h.fdiv (8 : Int)) (7 : Int)) > (15 : Int)) = false ∧ true = true)) ∧ ((bits BinOp.and IntKind.u16 (h.fdiv (1024 : Int)) (1 :
      Int) != (0 : Int)) = false → ((h.fdiv (4096 : Int) == (13 : Int)) = true → ((!decide (IntKind.i64.wrap (bits BinOp.and IntKind.u16 (h.fdiv (256 : Int)) (15 : Int)) < (14 :
      Int))) = true → decide (IntKind.i64.wrap (bits BinOp.and IntKind.u16 (h.fdiv (1 : Int)) (7 : Int)) < (0 : Int)) = false ∧ decide (IntKind.i64.wrap (bits BinOp.and
      IntKind.u16 (h.fdiv (1 : Int)) (7 : Int)) > (15 : Int)) = false ∧ decide (IntKind.i64.wrap (bits BinOp.and IntKind.u16 (h.fdiv (8 : Int)) (7 : Int)) < (0 : Int)) = false ∧
      decide (IntKind.i64.wrap (bits BinOp.and IntKind.u16 (h.fdiv (8 : Int)) (7 : Int)) > (15 : Int)) = false ∧ decide (IntKind.i64.wrap (bits BinOp.and IntKind.u16 (h.fdiv (64
      : Int)) (7 : Int)) < (0 : Int)) = false ∧ decide (IntKind.i64.wrap (bits BinOp.and IntKind.u16 (h.fdiv (64 : Int)) (7 : Int)) > (15 : Int)) = false ∧ true = true) ∧
      ((!decide (IntKind.i64.wrap (bits BinOp.and IntKind.u16 (h.fdiv (256 : Int)) (15 : Int)) < (14 : Int))) = false → decide (IntKind.i64.wrap (bits BinOp.and IntKind.u16
      (h.fdiv (1 : Int)) (7 : Int)) < (0 : Int)) = false ∧ decide (IntKind.i64.wrap (bits BinOp.and IntKind.u16 (h.fdiv (1 : Int)) (7 : Int)) > (15 : Int)) = false ∧ decide
      (IntKind.i64.wrap (bits BinOp.and IntKind.u16 (h.fdiv (8 : Int)) (7 : Int)) < (0 : Int)) = false ∧ decide (IntKind.i64.wrap (bits BinOp.and IntKind.u16 (h.fdiv (8 : Int))
      (7 : Int)) > (15 : Int)) = false ∧ decide (IntKind.i64.wrap (bits BinOp.and IntKind.u16 (h.fdiv (64 : Int)) (7 : Int)) < (0 : Int)) = false ∧ decide (IntKind.i64.wrap
      (bits BinOp.and IntKind.u16 (h.fdiv (64 : Int)) (7 : Int)) > (15 : Int)) = true ∧ false = true)) ∧ ((h.fdiv (4096 : Int) == (13 : Int)) = false → decide (IntKind.i64.wrap
      (bits BinOp.and IntKind.u16 (h.fdiv (1 : Int)) (7 : Int)) < (0 : Int)) = false ∧ decide (IntKind.i64.wrap (bits BinOp.and IntKind.u16 (h.fdiv (1 : Int)) (7 : Int)) > (15 :
      Int)) = false ∧ decide (IntKind.i64.wrap (bits BinOp.and IntKind.u16 (h.fdiv (8 : Int)) (7 : Int)) < (0 : Int)) = false ∧ decide (IntKind.i64.wrap (bits BinOp.and
      IntKind.u16 (h.fdiv (8 : Int)) (7 : Int)) > (15 : Int)) = false ∧ decide (IntKind.i64.wrap (bits BinOp.and IntKind.u16 (h.fdiv (64 : Int)) (7 : Int)) < (0 : Int)) = false
      ∧ decide (IntKind.i64.wrap (bits BinOp.and IntKind.u16 (h.fdiv (64 : Int)) (7 : Int)) > (15 : Int)) = false ∧ true = true))))) ∧ ((h.fdiv (4096 : Int) == (1 : Int)) =
      false → ((h.fdiv (4096 : Int) == (2 : Int)) = true → ((IntKind.i64.wrap (bits BinOp.and IntKind.u16 (h.fdiv (2048 : Int)) (3 : Int)) == (0 : Int)) = true → ((h.fdiv (4096
      : Int) == (13 : Int)) = true → ((!decide (IntKind.i64.wrap (bits BinOp.and IntKind.u16 (h.fdiv (256 : Int)) (15 : Int)) < (14 : Int))) = true → decide (IntKind.i64.wrap
      (bits BinOp.and IntKind.u16 (h.fdiv (256 : Int)) (7 : Int)) < (0 : Int)) = false ∧ decide (IntKind.i64.wrap (bits BinOp.and IntKind.u16 (h.fdiv (256 : Int)) (7 : Int)) >
      (15 : Int)) = false ∧ true = true) ∧ ((!decide (IntKind.i64.wrap (bits BinOp.and IntKind.u16 (h.fdiv (256 : Int)) (15 : Int)) < (14 : Int))) = false → decide
      (IntKind.i64.wrap (bits BinOp.and IntKind.u16 (h.fdiv (256 : Int)) (7 : Int)) < (0 : Int)) = false ∧ decide (IntKind.i64.wrap (bits BinOp.and IntKind.u16 (h.fdiv (256 :
      Int)) (7 : Int)) > (15 : Int)) = true ∧ false = true)) ∧ ((h.fdiv (4096 : Int) == (13 : Int)) = false → decide (IntKind.i64.wrap (bits BinOp.and IntKind.u16 (h.fdiv (256 :
      Int)) (7 : Int)) < (0 : Int)) = false ∧ decide (IntKind.i64.wrap (bits BinOp.and IntKind.u16 (h.fdiv (256 : Int)) (7 : Int)) > (15 : Int)) = false ∧ true = true)) ∧
      ((IntKind.i64.wrap (bits BinOp.and IntKind.u16 (h.fdiv (2048 : Int)) (3 : Int)) == (0 : Int)) = false → ((IntKind.i64.wrap (bits BinOp.and IntKind.u16 (h.fdiv (2048 :
      Int)) (3 : Int)) == (1 : Int)) = true → ((h.fdiv (4096 : Int) == (13 : Int)) = true → ((!decide (IntKind.i64.wrap (bits BinOp.and IntKind.u16 (h.fdiv (256 : Int)) (15 :
      Int)) < (14 : Int))) = true → decide (IntKind.i64.wrap (bits BinOp.and IntKind.u16 (h.fdiv (256 : Int)) (7 : Int)) < (0 : Int)) = false ∧ decide (IntKind.i64.wrap (bits
      BinOp.and IntKind.u16 (h.fdiv (256 : Int)) (7 : Int)) > (15 : Int)) = false ∧ true = true) ∧ ((!decide (IntKind.i64.wrap (bits BinOp.and IntKind.u16 (h.fdiv (256 : Int))
      (15 : Int)) < (14 : Int))) = false → decide (IntKind.i64.wrap (bits BinOp.and IntKind.u16 (h.fdiv (256 : Int)) (7 : Int)) < (0 : Int)) = false ∧ decide (IntKind.i64.wrap
      (bits BinOp.and IntKind.u16 (h.fdiv (256 : Int)) (7 : Int)) > (15 : Int)) = true ∧ false = true)) ∧ ((h.fdiv (4096 : Int) == (13 : Int)) = false → decide (IntKind.i64.wrap
      (bits BinOp.and IntKind.u16 (h.fdiv (256 : Int)) (7 : Int)) < (0 : Int)) = false ∧ decide (IntKind.i64.wrap (bits BinOp.and IntKind.u16 (h.fdiv (256 : Int)) (7 : Int)) >
      (15 : Int)) = false ∧ true = true)) ∧ ((IntKind.i64.wrap (bits BinOp.and IntKind.u16 (h.fdiv (2048 : Int)) (3 : Int)) == (1 : Int)) = false → ((IntKind.i64.wrap (bits
      BinOp.and IntKind.u16 (h.fdiv (2048 : Int)) (3 : Int)) == (2 : Int)) = true → ((h.fdiv (4096 : Int) == (13 : Int)) = true → ((!decide (IntKind.i64.wrap (bits BinOp.and
      IntKind.u16 (h.fdiv (256 : Int)) (15 : Int)) < (14 : Int))) = true → decide (IntKind.i64.wrap (bits BinOp.and IntKind.u16 (h.fdiv (256 : Int)) (7 : Int)) < (0 : Int)) =
      false ∧ decide (IntKind.i64.wrap (bits BinOp.and IntKind.u16 (h.fdiv (256 : Int)) (7 : Int)) > (15 : Int)) = false ∧ decide (IntKind.i64.wrap (bits BinOp.and IntKind.u16
      (h.fdiv (256 : Int)) (7 : Int)) < (0 : Int)) = false ∧ decide (IntKind.i64.wrap (bits BinOp.and IntKind.u16 (h.fdiv (256 : Int)) (7 : Int)) > (15 : Int)) = false ∧ true =
      true) ∧ ((!decide (IntKind.i64.wrap (bits BinOp.and IntKind.u16 (h.fdiv (256 : Int)) (15 : Int)) < (14 : Int))) = false → decide (IntKind.i64.wrap (bits BinOp.and
      IntKind.u16 (h.fdiv (256 : Int)) (7 : Int)) < (0 : Int)) = false ∧ decide (IntKind.i64.wrap (bits BinOp.and IntKind.u16 (h.fdiv (256 : Int)) (7 : Int)) > (15 : Int)) =
      false ∧ decide (IntKind.i64.wrap (bits BinOp.and IntKind.u16 (h.fdiv (256 : Int)) (7 : Int)) < (0 : Int)) = false ∧ decide (IntKind.i64.wrap (bits BinOp.and IntKind.u16
      (h.fdiv (256 : Int)) (7 : Int)) > (15 : Int)) = true ∧ false = true)) ∧ ((h.fdiv (4096 : Int) == (13 : Int)) = false → decide (IntKind.i64.wrap (bits BinOp.and IntKind.u16
      (h.fdiv (256 : Int)) (7 : Int)) < (0 : Int)) = false ∧ decide (IntKind.i64.wrap (bits BinOp.and IntKind.u16 (h.fdiv (256 : Int)) (7 : Int)) > (15 : Int)) = false ∧ decide
      (IntKind.i64.wrap (bits BinOp.and IntKind.u16 (h.fdiv (256 : Int)) (7 : Int)) < (0 : Int)) = false ∧ decide (IntKind.i64.wrap (bits BinOp.and IntKind.u16 (h.fdiv (256 :
      Int)) (7 : Int)) > (15 : Int)) = false ∧ true = true)) ∧ ((IntKind.i64.wrap (bits BinOp.and IntKind.u16 (h.fdiv (2048 : Int)) (3 : Int)) == (2 : Int)) = false → ((h.fdiv
      (4096 : Int) == (13 : Int)) = true → ((!decide (IntKind.i64.wrap (bits BinOp.and IntKind.u16 (h.fdiv (256 : Int)) (15 : Int)) < (14 : Int))) = true → decide
      (IntKind.i64.wrap (bits BinOp.and IntKind.u16 (h.fdiv (256 : Int)) (7 : Int)) < (0 : Int)) = false ∧ decide (IntKind.i64.wrap (bits BinOp.and IntKind.u16 (h.fdiv (256 :
      Int)) (7 : Int)) > (15 : Int)) = false ∧ decide (IntKind.i64.wrap (bits BinOp.and IntKind.u16 (h.fdiv (256 : Int)) (7 : Int)) < (0 : Int)) = false ∧ decide
      (IntKind.i64.wrap (bits BinOp.and IntKind.u16 (h.fdiv (256 : Int)) (7 : Int)) > (15 : Int)) = false ∧ true = true) ∧ ((!decide (IntKind.i64.wrap (bits BinOp.and
      IntKind.u16 (h.fdiv (256 : Int)) (15 : Int)) < (14 : Int))) = false → decide (IntKind.i64.wrap (bits BinOp.and IntKind.u16 (h.fdiv (256 : Int)) (7 : Int)) < (0 : Int)) =
      false ∧ decide (IntKind.i64.wrap (bits BinOp.and IntKind.u16 (h.fdiv (256 : Int)) (7 : Int)) > (15 : Int)) = false ∧ decide (IntKind.i64.wrap (bits BinOp.and IntKind.u16
      (h.fdiv (256 : Int)) (7 : Int)) < (0 : Int)) = false ∧ decide (IntKind.i64.wrap (bits BinOp.and IntKind.u16 (h.fdiv (256 : Int)) (7 : Int)) > (15 : Int)) = true ∧ false =
      true)) ∧ ((h.fdiv (4096 : Int) == (13 : Int)) = false → decide (IntKind.i64.wrap (bits BinOp.and IntKind.u16 (h.fdiv (256 : Int)) (7 : Int)) < (0 : Int)) = false ∧ decide
      (IntKind.i64.wrap (bits BinOp.and IntKind.u16 (h.fdiv (256 : Int)) (7 : Int)) > (15 : Int)) = false ∧ decide (IntKind.i64.wrap (bits BinOp.and IntKind.u16 (h.fdiv (256 :
      Int)) (7 : Int)) < (0 : Int)) = false ∧ decide (IntKind.i64.wrap (bits BinOp.and IntKind.u16 (h.fdiv (256 : Int)) (7 : Int)) > (15 : Int)) = false ∧ true = true))))) ∧
      ((h.fdiv (4096 : Int) == (2 : Int)) = false → ((h.fdiv (4096 : Int) == (3 : Int)) = true → ((IntKind.i64.wrap (bits BinOp.and IntKind.u16 (h.fdiv (2048 : Int)) (3 : Int))
      == (0 : Int)) = true → ((h.fdiv (4096 : Int) == (13 : Int)) = true → ((!decide (IntKind.i64.wrap (bits BinOp.and IntKind.u16 (h.fdiv (256 : Int)) (15 : Int)) < (14 :
      Int))) = true → decide (IntKind.i64.wrap (bits BinOp.and IntKind.u16 (h.fdiv (256 : Int)) (7 : Int)) < (0 : Int)) = false ∧ decide (IntKind.i64.wrap (bits BinOp.and
      IntKind.u16 (h.fdiv (256 : Int)) (7 : Int)) > (15 : Int)) = false ∧ true = true) ∧ ((!decide (IntKind.i64.wrap (bits BinOp.and IntKind.u16 (h.fdiv (256 : Int)) (15 : Int))
      < (14 : Int))) = false → decide (IntKind.i64.wrap (bits BinOp.and IntKind.u16 (h.fdiv (256 : Int)) (7 : Int)) < (0 : Int)) = false ∧ decide (IntKind.i64.wrap (bits
      BinOp.and IntKind.u16 (h.fdiv (256 : Int)) (7 : Int)) > (15 : Int)) = true ∧ false = true)) ∧ ((h.fdiv (4096 : Int) == (13 : Int)) = false → decide (IntKind.i64.wrap (bits
      BinOp.and IntKind.u16 (h.fdiv (256 : Int)) (7 : Int)) < (0 : Int)) = false ∧ decide (IntKind.i64.wrap (bits BinOp.and IntKind.u16 (h.fdiv (256 : Int)) (7 : Int)) > (15 :
      Int)) = false ∧ true = true)) ∧ ((IntKind.i64.wrap (bits BinOp.and IntKind.u16 (h.fdiv (2048 : Int)) (3 : Int)) == (0 : Int)) = false → ((IntKind.i64.wrap (bits BinOp.and
      IntKind.u16 (h.fdiv (2048 : Int)) (3 : Int)) == (1 : Int)) = true → ((h.fdiv (4096 : Int) == (13 : Int)) = true → ((!decide (IntKind.i64.wrap (bits BinOp.and IntKind.u16
      (h.fdiv (256 : Int)) (15 : Int)) < (14 : Int))) = true → decide (IntKind.i64.wrap (bits BinOp.and IntKind.u16 (h.fdiv (256 : Int)) (7 : Int)) < (0 : Int)) = false ∧ decide
      (IntKind.i64.wrap (bits BinOp.and IntKind.u16 (h.fdiv (256 : Int)) (7 : Int)) > (15 : Int)) = false ∧ true = true) ∧ ((!decide (IntKind.i64.wrap (bits BinOp.and
      IntKind.u16 (h.fdiv (256 : Int)) (15 : Int)) < (14 : Int))) = false → decide (IntKind.i64.wrap (bits BinOp.and IntKind.u16 (h.fdiv (256 : Int)) (7 : Int)) < (0 : Int)) =
      false ∧ decide (IntKind.i64.wrap (bits BinOp.and IntKind.u16 (h.fdiv (256 : Int)) (7 : Int)) > (15 : Int)) = true ∧ false = true)) ∧ ((h.fdiv (4096 : Int) == (13 : Int)) =
      false → decide (IntKind.i64.wrap (bits BinOp.and IntKind.u16 (h.fdiv (256 : Int)) (7 : Int)) < (0 : Int)) = false ∧ decide (IntKind.i64.wrap (bits BinOp.and IntKind.u16
      (h.fdiv (256 : Int)) (7 : Int)) > (15 : Int)) = false ∧ true = true)) ∧ ((IntKind.i64.wrap (bits BinOp.and IntKind.u16 (h.fdiv (2048 : Int)) (3 : Int)) == (1 : Int)) =
      false → ((IntKind.i64.wrap (bits BinOp.and IntKind.u16 (h.fdiv (2048 : Int)) (3 : Int)) == (2 : Int)) = true → ((h.fdiv (4096 : Int) == (13 : Int)) = true → ((!decide
      (IntKind.i64.wrap (bits BinOp.and IntKind.u16 (h.fdiv (256 : Int)) (15 : Int)) < (14 : Int))) = true → decide (IntKind.i64.wrap (bits BinOp.and IntKind.u16 (h.fdiv (256 :
      Int)) (7 : Int)) < (0 : Int)) = false ∧ decide (IntKind.i64.wrap (bits BinOp.and IntKind.u16 (h.fdiv (256 : Int)) (7 : Int)) > (15 : Int)) = false ∧ decide
      (IntKind.i64.wrap (bits BinOp.and IntKind.u16 (h.fdiv (256 : Int)) (7 : Int)) < (0 : Int)) = false ∧ decide (IntKind.i64.wrap (bits BinOp.and IntKind.u16 (h.fdiv (256 :
      Int)) (7 : Int)) > (15 : Int)) = false ∧ true = true) ∧ ((!decide (IntKind.i64.wrap (bits BinOp.and IntKind.u16 (h.fdiv (256 : Int)) (15 : Int)) < (14 : Int))) = false →
      decide (IntKind.i64.wrap (bits BinOp.and IntKind.u16 (h.fdiv (256 : Int)) (7 : Int)) < (0 : Int)) = false ∧ decide (IntKind.i64.wrap (bits BinOp.and IntKind.u16 (h.fdiv
      (256 : Int)) (7 : Int)) > (15 : Int)) = false ∧ decide (IntKind.i64.wrap (bits BinOp.and IntKind.u16 (h.fdiv (256 : Int)) (7 : Int)) < (0 : Int)) = false ∧ decide
      (IntKind.i64.wrap (bits BinOp.and IntKind.u16 (h.fdiv (256 : Int)) (7 : Int)) > (15 : Int)) = true ∧ false = true)) ∧ ((h.fdiv (4096 : Int) == (13 : Int)) = false → decide
      (IntKind.i64.wrap (bits BinOp.and IntKind.u16 (h.fdiv (256 : Int)) (7 : Int)) < (0 : Int)) = false ∧ decide (IntKind.i64.wrap (bits BinOp.and IntKind.u16 (h.fdiv (256 :
      Int)) (7 : Int)) > (15 : Int)) = false ∧ decide (IntKind.i64.wrap (bits BinOp.and IntKind.u16 (h.fdiv (256 : Int)) (7 : Int)) < (0 : Int)) = false ∧ decide
      (IntKind.i64.wrap (bits BinOp.and IntKind.u16 (h.fdiv (256 : Int)) (7 : Int)) > (15 : Int)) = false ∧ true = true)) ∧ ((IntKind.i64.wrap (bits BinOp.and IntKind.u16
      (h.fdiv (2048 : Int)) (3 : Int)) == (2 : Int)) = false → ((h.fdiv (4096 : Int) == (13 : Int)) = true → ((!decide (IntKind.i64.wrap (bits BinOp.and IntKind.u16 (h.fdiv (256
      : Int)) (15 : Int)) < (14 : Int))) = true → decide (IntKind.i64.wrap (bits BinOp.and IntKind.u16 (h.fdiv (256 : Int)) (7 : Int)) < (0 : Int)) = false ∧ decide
      (IntKind.i64.wrap (bits BinOp.and IntKind.u16 (h.fdiv (256 : Int)) (7 : Int)) > (15 : Int)) = false ∧ decide (IntKind.i64.wrap (bits BinOp.and IntKind.u16 (h.fdiv (256 :
      Int)) (7 : Int)) < (0 : Int)) = false ∧ decide (IntKind.i64.wrap (bits BinOp.and IntKind.u16 (h.fdiv (256 : Int)) (7 : Int)) > (15 : Int)) = false ∧ true = true) ∧
      ((!decide (IntKind.i64.wrap (bits BinOp.and IntKind.u16 (h.fdiv (256 : Int)) (15 : Int)) < (14 : Int))) = false → decide (IntKind.i64.wrap (bits BinOp.and IntKind.u16
      (h.fdiv (256 : Int)) (7 : Int)) < (0 : Int)) = false ∧ decide (IntKind.i64.wrap (bits BinOp.and IntKind.u16 (h.fdiv (256 : Int)) (7 : Int)) > (15 : Int)) = false ∧ decide
      (IntKind.i64.wrap (bits BinOp.and IntKind.u16 (h.fdiv (256 : Int)) (7 : Int)) < (0 : Int)) = false ∧ decide (IntKind.i64.wrap (bits BinOp.and IntKind.u16 (h.fdiv (256 :
      Int)) (7 : Int)) > (15 : Int)) = true ∧ false = true)) ∧ ((h.fdiv (4096 : Int) == (13 : Int)) = false → decide (IntKind.i64.wrap (bits BinOp.and IntKind.u16 (h.fdiv (256 :
      Int)) (7 : Int)) < (0 : Int)) = false ∧ decide (IntKind.i64.wrap (bits BinOp.and IntKind.u16 (h.fdiv (256 : Int)) (7 : Int)) > (15 : Int)) = false ∧ decide
      (IntKind.i64.wrap (bits BinOp.and IntKind.u16 (h.fdiv (256 : Int)) (7 : Int)) < (0 : Int)) = false ∧ decide (IntKind.i64.wrap (bits BinOp.and IntKind.u16 (h.fdiv (256 :
      Int)) (7 : Int)) > (15 : Int)) = false ∧ true = true))))) ∧ ((h.fdiv (4096 : Int) == (3 : Int)) = false → ((h.fdiv (4096 : Int) == (4 : Int)) = true → ((bits BinOp.and
      IntKind.u16 (h.fdiv (2048 : Int)) (1 : Int) != (0 : Int)) = true → ((h.fdiv (4096 : Int) == (13 : Int)) = true → ((!decide (IntKind.i64.wrap (bits BinOp.and IntKind.u16
      (h.fdiv (256 : Int)) (15 : Int)) < (14 : Int))) = true → decide (IntKind.i64.wrap (bits BinOp.and IntKind.u16 (h.fdiv (256 : Int)) (7 : Int)) < (0 : Int)) = false ∧ decide
      (IntKind.i64.wrap (bits BinOp.and IntKind.u16 (h.fdiv (256 : Int)) (7 : Int)) > (15 : Int)) = false ∧ true = true) ∧ ((!decide (IntKind.i64.wrap (bits BinOp.and
      IntKind.u16 (h.fdiv (256 : Int)) (15 : Int)) < (14 : Int))) = false → decide (IntKind.i64.wrap (bits BinOp.and IntKind.u16 (h.fdiv (256 : Int)) (7 : Int)) < (0 : Int)) =
      false ∧ decide (IntKind.i64.wrap (bits BinOp.and IntKind.u16 (h.fdiv (256 : Int)) (7 : Int)) > (15 : Int)) = true ∧ false = true)) ∧ ((h.fdiv (4096 : Int) == (13 : Int)) =
      false → decide (IntKind.i64.wrap (bits BinOp.and IntKind.u16 (h.fdiv (256 : Int)) (7 : Int)) < (0 : Int)) = false ∧ decide (IntKind.i64.wrap (bits BinOp.and IntKind.u16
      (h.fdiv (256 : Int)) (7 : Int)) > (15 : Int)) = false ∧ true = true)) ∧ ((bits BinOp.and IntKind.u16 (h.fdiv (2048 : Int)) (1 : Int) != (0 : Int)) = false → ((bits
      BinOp.and IntKind.u16 (h.fdiv (1024 : Int)) (1 : Int) != (0 : Int)) = true → ((IntKind.i64.wrap (bits BinOp.and IntKind.u16 (h.fdiv (256 : Int)) (3 : Int)) == (0 : Int)) =
      true → ((h.fdiv (4096 : Int) == (13 : Int)) = true → ((!decide (IntKind.i64.wrap (bits BinOp.and IntKind.u16 (h.fdiv (256 : Int)) (15 : Int)) < (14 : Int))) = true →
      decide (bits BinOp.or IntKind.i64 (IntKind.i64.wrap (IntKind.i64.wrap (bits BinOp.and IntKind.u16 (h.fdiv (128 : Int)) (1 : Int)) * (8 : Int))) (IntKind.i64.wrap (bits
      BinOp.and IntKind.u16 (h.fdiv (1 : Int)) (7 : Int))) < (0 : Int)) = false ∧ decide (bits BinOp.or IntKind.i64 (IntKind.i64.wrap (IntKind.i64.wrap (bits BinOp.and
      IntKind.u16 (h.fdiv (128 : Int)) (1 : Int)) * (8 : Int))) (IntKind.i64.wrap (bits BinOp.and IntKind.u16 (h.fdiv (1 : Int)) (7 : Int))) > (15 : Int)) = false ∧ decide (bits
      BinOp.or IntKind.i64 (IntKind.i64.wrap (IntKind.i64.wrap (bits BinOp.and IntKind.u16 (h.fdiv (128 : Int)) (1 : Int)) * (8 : Int))) (IntKind.i64.wrap (bits BinOp.and
      IntKind.u16 (h.fdiv (1 : Int)) (7 : Int))) < (0 : Int)) = false ∧ decide (bits BinOp.or IntKind.i64 (IntKind.i64.wrap (IntKind.i64.wrap (bits BinOp.and IntKind.u16 (h.fdiv
      (128 : Int)) (1 : Int)) * (8 : Int))) (IntKind.i64.wrap (bits BinOp.and IntKind.u16 (h.fdiv (1 : Int)) (7 : Int))) > (15 : Int)) = false ∧ decide (IntKind.i64.wrap (bits
      BinOp.and IntKind.u16 (h.fdiv (8 : Int)) (15 : Int)) < (0 : Int)) = false ∧ decide (IntKind.i64.wrap (bits BinOp.and IntKind.u16 (h.fdiv (8 : Int)) (15 : Int)) > (15 :
      Int)) = false ∧ true = true) ∧ ((!decide (IntKind.i64.wrap (bits BinOp.and IntKind.u16 (h.fdiv (256 : Int)) (15 : Int)) < (14 : Int))) = false → decide (bits BinOp.or
      IntKind.i64 (IntKind.i64.wrap (IntKind.i64.wrap (bits BinOp.and IntKind.u16 (h.fdiv (128 : Int)) (1 : Int)) * (8 : Int))) (IntKind.i64.wrap (bits BinOp.and IntKind.u16
      (h.fdiv (1 : Int)) (7 : Int))) < (0 : Int)) = false ∧ decide (bits BinOp.or IntKind.i64 (IntKind.i64.wrap (IntKind.i64.wrap (bits BinOp.and IntKind.u16 (h.fdiv (128 :
      Int)) (1 : Int)) * (8 : Int))) (IntKind.i64.wrap (bits BinOp.and IntKind.u16 (h.fdiv (1 : Int)) (7 : Int))) > (15 : Int)) = false ∧ decide (bits BinOp.or IntKind.i64
      (IntKind.i64.wrap (IntKind.i64.wrap (bits BinOp.and IntKind.u16 (h.fdiv (128 : Int)) (1 : Int)) * (8 : Int))) (IntKind.i64.wrap (bits BinOp.and IntKind.u16 (h.fdiv (1 :
      Int)) (7 : Int))) < (0 : Int)) = false ∧ decide (bits BinOp.or IntKind.i64 (IntKind.i64.wrap (IntKind.i64.wrap (bits BinOp.and IntKind.u16 (h.fdiv (128 : Int)) (1 : Int))
      * (8 : Int))) (IntKind.i64.wrap (bits BinOp.and IntKind.u16 (h.fdiv (1 : Int)) (7 : Int))) > (15 : Int)) = false ∧ decide (IntKind.i64.wrap (bits BinOp.and IntKind.u16
      (h.fdiv (8 : Int)) (15 : Int)) < (0 : Int)) = false ∧ decide (IntKind.i64.wrap (bits BinOp.and IntKind.u16 (h.fdiv (8 : Int)) (15 : Int)) > (15 : Int)) = true ∧ false =
      true)) ∧ ((h.fdiv (4096 : Int) == (13 : Int)) = false → decide (bits BinOp.or IntKind.i64 (IntKind.i64.wrap (IntKind.i64.wrap (bits BinOp.and IntKind.u16 (h.fdiv (128 :
      Int)) (1 : Int)) * (8 : Int))) (IntKind.i64.wrap (bits BinOp.and IntKind.u16 (h.fdiv (1 : Int)) (7 : Int))) < (0 : Int)) = false ∧ decide (bits BinOp.or IntKind.i64
      (IntKind.i64.wrap (IntKind.i64.wrap (bits BinOp.and IntKind.u16 (h.fdiv (128 : Int)) (1 : Int)) * (8 : Int))) (IntKind.i64.wrap (bits BinOp.and IntKind.u16 (h.fdiv (1 :
      Int)) (7 : Int))) > (15 : Int)) = false ∧ decide (bits BinOp.or IntKind.i64 (IntKind.i64.wrap (IntKind.i64.wrap (bits BinOp.and IntKind.u16 (h.fdiv (128 : Int)) (1 : Int))
      * (8 : Int))) (IntKind.i64.wrap (bits BinOp.and IntKind.u16 (h.fdiv (1 : Int)) (7 : Int))) < (0 : Int)) = false ∧ decide (bits BinOp.or IntKind.i64 (IntKind.i64.wrap
      (IntKind.i64.wrap (bits BinOp.and IntKind.u16 (h.fdiv (128 : Int)) (1 : Int)) * (8 : Int))) (IntKind.i64.wrap (bits BinOp.and IntKind.u16 (h.fdiv (1 : Int)) (7 : Int))) >
      (15 : Int)) = false ∧ decide (IntKind.i64.wrap (bits BinOp.and IntKind.u16 (h.fdiv (8 : Int)) (15 : Int)) < (0 : Int)) = false ∧ decide (IntKind.i64.wrap (bits BinOp.and
      IntKind.u16 (h.fdiv (8 : Int)) (15 : Int)) > (15 : Int)) = false ∧ true = true)) ∧ ((IntKind.i64.wrap (bits BinOp.and IntKind.u16 (h.fdiv (256 : Int)) (3 : Int)) == (0 :
      Int)) = false → ((IntKind.i64.wrap (bits BinOp.and IntKind.u16 (h.fdiv (256 : Int)) (3 : Int)) == (1 : Int)) = true → ((h.fdiv (4096 : Int) == (13 : Int)) = true →
      ((!decide (IntKind.i64.wrap (bits BinOp.and IntKind.u16 (h.fdiv (256 : Int)) (15 : Int)) < (14 : Int))) = true → decide (bits BinOp.or IntKind.i64 (IntKind.i64.wrap
      (IntKind.i64.wrap (bits BinOp.and IntKind.u16 (h.fdiv (128 : Int)) (1 : Int)) * (8 : Int))) (IntKind.i64.wrap (bits BinOp.and IntKind.u16 (h.fdiv (1 : Int)) (7 : Int))) <
      (0 : Int)) = false ∧ decide (bits BinOp.or IntKind.i64 (IntKind.i64.wrap (IntKind.i64.wrap (bits BinOp.and IntKind.u16 (h.fdiv (128 : Int)) (1 : Int)) * (8 : Int)))
      (IntKind.i64.wrap (bits BinOp.and IntKind.u16 (h.fdiv (1 : Int)) (7 : Int))) > (15 : Int)) = false ∧ decide (IntKind.i64.wrap (bits BinOp.and IntKind.u16 (h.fdiv (8 :
      Int)) (15 : Int)) < (0 : Int)) = false ∧ decide (IntKind.i64.wrap (bits BinOp.and IntKind.u16 (h.fdiv (8 : Int)) (15 : Int)) > (15 : Int)) = false ∧ true = true) ∧
      ((!decide (IntKind.i64.wrap (bits BinOp.and IntKind.u16 (h.fdiv (256 : Int)) (15 : Int)) < (14 : Int))) = false → decide (bits BinOp.or IntKind.i64 (IntKind.i64.wrap
      (IntKind.i64.wrap (bits BinOp.and IntKind.u16 (h.fdiv (128 : Int)) (1 : Int)) * (8 : Int))) (IntKind.i64.wrap (bits BinOp.and IntKind.u16 (h.fdiv (1 : Int)) (7 : Int))) <
      (0 : Int)) = false ∧ decide (bits BinOp.or IntKind.i64 (IntKind.i64.wrap (IntKind.i64.wrap (bits BinOp.and IntKind.u16 (h.fdiv (128 : Int)) (1 : Int)) * (8 : Int)))
      (IntKind.i64.wrap (bits BinOp.and IntKind.u16 (h.fdiv (1 : Int)) (7 : Int))) > (15 : Int)) = false ∧ decide (IntKind.i64.wrap (bits BinOp.and IntKind.u16 (h.fdiv (8 :
      Int)) (15 : Int)) < (0 : Int)) = false ∧ decide (IntKind.i64.wrap (bits BinOp.and IntKind.u16 (h.fdiv (8 : Int)) (15 : Int)) > (15 : Int)) = true ∧ false = true)) ∧
      ((h.fdiv (4096 : Int) == (13 : Int)) = false → decide (bits BinOp.or IntKind.i64 (IntKind.i64.wrap (IntKind.i64.wrap (bits BinOp.and IntKind.u16 (h.fdiv (128 : Int)) (1 :
      Int)) * (8 : Int))) (IntKind.i64.wrap (bits BinOp.and IntKind.u16 (h.fdiv (1 : Int)) (7 : Int))) < (0 : Int)) = false ∧ decide (bits BinOp.or IntKind.i64 (IntKind.i64.wrap
      (IntKind.i64.wrap (bits BinOp.and IntKind.u16 (h.fdiv (128 : Int)) (1 : Int)) * (8 : Int))) (IntKind.i64.wrap (bits BinOp.and IntKind.u16 (h.fdiv (1 : Int)) (7 : Int))) >
      (15 : Int)) = false ∧ decide (IntKind.i64.wrap (bits BinOp.and IntKind.u16 (h.fdiv (8 : Int)) (15 : Int)) < (0 : Int)) = false ∧ decide (IntKind.i64.wrap (bits BinOp.and
      IntKind.u16 (h.fdiv (8 : Int)) (15 : Int)) > (15 : Int)) = false ∧ true = true)) ∧ ((IntKind.i64.wrap (bits BinOp.and IntKind.u16 (h.fdiv (256 : Int)) (3 : Int)) == (1 :
      Int)) = false → ((IntKind.i64.wrap (bits BinOp.and IntKind.u16 (h.fdiv (256 : Int)) (3 : Int)) == (2 : Int)) = true → ((h.fdiv (4096 : Int) == (13 : Int)) = true →
      ((!decide (IntKind.i64.wrap (bits BinOp.and IntKind.u16 (h.fdiv (256 : Int)) (15 : Int)) < (14 : Int))) = true → decide (bits BinOp.or IntKind.i64 (IntKind.i64.wrap
      (IntKind.i64.wrap (bits BinOp.and IntKind.u16 (h.fdiv (128 : Int)) (1 : Int)) * (8 : Int))) (IntKind.i64.wrap (bits BinOp.and IntKind.u16 (h.fdiv (1 : Int)) (7 : Int))) <
      (0 : Int)) = false ∧ decide (bits BinOp.or IntKind.i64 (IntKind.i64.wrap (IntKind.i64.wrap (bits BinOp.and IntKind.u16 (h.fdiv (128 : Int)) (1 : Int)) * (8 : Int)))
      (IntKind.i64.wrap (bits BinOp.and IntKind.u16 (h.fdiv (1 : Int)) (7 : Int))) > (15 : Int)) = false ∧ decide (IntKind.i64.wrap (bits BinOp.and IntKind.u16 (h.fdiv (8 :
      Int)) (15 : Int)) < (0 : Int)) = false ∧ decide (IntKind.i64.wrap (bits BinOp.and IntKind.u16 (h.fdiv (8 : Int)) (15 : Int)) > (15 : Int)) = false ∧ true = true) ∧
      ((!decide (IntKind.i64.wrap (bits BinOp.and IntKind.u16 (h.fdiv (256 : Int)) (15 : Int)) < (14 : Int))) = false → decide (bits BinOp.or IntKind.i64 (IntKind.i64.wrap
      (IntKind.i64.wrap (bits BinOp.and IntKind.u16 (h.fdiv (128 : Int)) (1 : Int)) * (8 : Int))) (IntKind.i64.wrap (bits BinOp.and IntKind.u16 (h.fdiv (1 : Int)) (7 : Int))) <
      (0 : Int)) = false ∧ decide (bits BinOp.or IntKind.i64 (IntKind.i64.wrap (IntKind.i64.wrap (bits BinOp.and IntKind.u16 (h.fdiv (128 : Int)) (1 : Int)) * (8 : Int)))
      (IntKind.i64.wrap (bits BinOp.and IntKind.u16 (h.fdiv (1 : Int)) (7 : Int))) > (15 : Int)) = false ∧ decide (IntKind.i64.wrap (bits BinOp.and IntKind.u16 (h.fdiv (8 :
      Int)) (15 : Int)) < (0 : Int)) = false ∧ decide (IntKind.i64.wrap (bits BinOp.and IntKind.u16 (h.fdiv (8 : Int)) (15 : Int)) > (15 : Int)) = true ∧ false = true)) ∧
      ((h.fdiv (4096 : Int) == (13 : Int)) = false → decide (bits BinOp.or IntKind.i64 (IntKind.i64.wrap (IntKind.i64.wrap (bits BinOp.and IntKind.u16 (h.fdiv (128 : Int)) (1 :
      Int)) * (8 : Int))) (IntKind.i64.wrap (bits BinOp.and IntKind.u16 (h.fdiv (1 : Int)) (7 : Int))) < (0 : Int)) = false ∧ decide (bits BinOp.or IntKind.i64 (IntKind.i64.wrap
      (IntKind.i64.wrap (bits BinOp.and IntKind.u16 (h.fdiv (128 : Int)) (1 : Int)) * (8 : Int))) (IntKind.i64.wrap (bits BinOp.and IntKind.u16 (h.fdiv (1 : Int)) (7 : Int))) >
      (15 : Int)) = false ∧ decide (IntKind.i64.wrap (bits BinOp.and IntKind.u16 (h.fdiv (8 : Int)) (15 : Int)) < (0 : Int)) = false ∧ decide (IntKind.i64.wrap (bits BinOp.and
      IntKind.u16 (h.fdiv (8 : Int)) (15 : Int)) > (15 : Int)) = false ∧ true = true)) ∧ ((IntKind.i64.wrap (bits BinOp.and IntKind.u16 (h.fdiv (256 : Int)) (3 : Int)) == (2 :
      Int)) = false → ((h.fdiv (4096 : Int) == (13 : Int)) = true → ((!decide (IntKind.i64.wrap (bits BinOp.and IntKind.u16 (h.fdiv (256 : Int)) (15 : Int)) < (14 : Int))) =
      true → decide (IntKind.i64.wrap (bits BinOp.and IntKind.u16 (h.fdiv (8 : Int)) (15 : Int)) < (0 : Int)) = false ∧ decide (IntKind.i64.wrap (bits BinOp.and IntKind.u16
      (h.fdiv (8 : Int)) (15 : Int)) > (15 : Int)) = false ∧ true = true) ∧ ((!decide (IntKind.i64.wrap (bits BinOp.and IntKind.u16 (h.fdiv (256 : Int)) (15 : Int)) < (14 :
      Int))) = false → decide (IntKind.i64.wrap (bits BinOp.and IntKind.u16 (h.fdiv (8 : Int)) (15 : Int)) < (0 : Int)) = false ∧ decide (IntKind.i64.wrap (bits BinOp.and
      IntKind.u16 (h.fdiv (8 : Int)) (15 : Int)) > (15 : Int)) = true ∧ false = true)) ∧ ((h.fdiv (4096 : Int) == (13 : Int)) = false → decide (IntKind.i64.wrap (bits BinOp.and
      IntKind.u16 (h.fdiv (8 : Int)) (15 : Int)) < (0 : Int)) = false ∧ decide (IntKind.i64.wrap (bits BinOp.and IntKind.u16 (h.fdiv (8 : Int)) (15 : Int)) > (15 : Int)) = false
      ∧ true = true))))) ∧ ((bits BinOp.and IntKind.u16 (h.fdiv (1024 : Int)) (1 : Int) != (0 : Int)) = false → ((IntKind.i64.wrap (bits BinOp.and IntKind.u16 (h.fdiv (64 :
      Int)) (15 : Int)) == (2 : Int)) = true → ((IntKind.i64.wrap (bits BinOp.and IntKind.u16 (h.fdiv (64 : Int)) (15 : Int)) == (7 : Int)) = true → ((h.fdiv (4096 : Int) == (13
      : Int)) = true → ((!decide (IntKind.i64.wrap (bits BinOp.and IntKind.u16 (h.fdiv (256 : Int)) (15 : Int)) < (14 : Int))) = true → decide (IntKind.i64.wrap (bits BinOp.and
      IntKind.u16 (h.fdiv (1 : Int)) (7 : Int)) < (0 : Int)) = false ∧ decide (IntKind.i64.wrap (bits BinOp.and IntKind.u16 (h.fdiv (1 : Int)) (7 : Int)) > (15 : Int)) = false ∧
      decide (IntKind.i64.wrap (bits BinOp.and IntKind.u16 (h.fdiv (8 : Int)) (7 : Int)) < (0 : Int)) = false ∧ decide (IntKind.i64.wrap (bits BinOp.and IntKind.u16 (h.fdiv (8 :
      Int)) (7 : Int)) > (15 : Int)) = false ∧ decide (IntKind.i64.wrap (bits BinOp.and IntKind.u16 (h.fdiv (1 : Int)) (7 : Int)) < (0 : Int)) = false ∧ decide (IntKind.i64.wrap
      (bits BinOp.and IntKind.u16 (h.fdiv (1 : Int)) (7 : Int)) > (15 : Int)) = false ∧ true = true) ∧ ((!decide (IntKind.i64.wrap (bits BinOp.and IntKind.u16 (h.fdiv (256 :
      Int)) (15 : Int)) < (14 : Int))) = false → decide (IntKind.i64.wrap (bits BinOp.and IntKind.u16 (h.fdiv (1 : Int)) (7 : Int)) < (0 : Int)) = false ∧ decide
      (IntKind.i64.wrap (bits BinOp.and IntKind.u16 (h.fdiv (1 : Int)) (7 : Int)) > (15 : Int)) = false ∧ decide (IntKind.i64.wrap (bits BinOp.and IntKind.u16 (h.fdiv (8 : Int))
      (7 : Int)) < (0 : Int)) = false ∧ decide (IntKind.i64.wrap (bits BinOp.and IntKind.u16 (h.fdiv (8 : Int)) (7 : Int)) > (15 : Int)) = false ∧ decide (IntKind.i64.wrap (bits
      BinOp.and IntKind.u16 (h.fdiv (1 : Int)) (7 : Int)) < (0 : Int)) = false ∧ decide (IntKind.i64.wrap (bits BinOp.and IntKind.u16 (h.fdiv (1 : Int)) (7 : Int)) > (15 : Int))
      = true ∧ false = true)) ∧ ((h.fdiv (4096 : Int) == (13 : Int)) = false → decide (IntKind.i64.wrap (bits BinOp.and IntKind.u16 (h.fdiv (1 : Int)) (7 : Int)) < (0 : Int)) =
      false ∧ decide (IntKind.i64.wrap (bits BinOp.and IntKind.u16 (h.fdiv (1 : Int)) (7 : Int)) > (15 : Int)) = false ∧ decide (IntKind.i64.wrap (bits BinOp.and IntKind.u16
      (h.fdiv (8 : Int)) (7 : Int)) < (0 : Int)) = false ∧ decide (IntKind.i64.wrap (bits BinOp.and IntKind.u16 (h.fdiv (8 : Int)) (7 : Int)) > (15 : Int)) = false ∧ decide
      (IntKind.i64.wrap (bits BinOp.and IntKind.u16 (h.fdiv (1 : Int)) (7 : Int)) < (0 : Int)) = false ∧ decide (IntKind.i64.wrap (bits BinOp.and IntKind.u16 (h.fdiv (1 : Int))
      (7 : Int)) > (15 : Int)) = false ∧ true = true)) ∧ ((IntKind.i64.wrap (bits BinOp.and IntKind.u16 (h.fdiv (64 : Int)) (15 : Int)) == (7 : Int)) = false → ((h.fdiv (4096 :
      Int) == (13 : Int)) = true → ((!decide (IntKind.i64.wrap (bits BinOp.and IntKind.u16 (h.fdiv (256 : Int)) (15 : Int)) < (14 : Int))) = true → decide (IntKind.i64.wrap
      (bits BinOp.and IntKind.u16 (h.fdiv (1 : Int)) (7 : Int)) < (0 : Int)) = false ∧ decide (IntKind.i64.wrap (bits BinOp.and IntKind.u16 (h.fdiv (1 : Int)) (7 : Int)) > (15 :
      Int)) = false ∧ decide (IntKind.i64.wrap (bits BinOp.and IntKind.u16 (h.fdiv (8 : Int)) (7 : Int)) < (0 : Int)) = false ∧ decide (IntKind.i64.wrap (bits BinOp.and
      IntKind.u16 (h.fdiv (8 : Int)) (7 : Int)) > (15 : Int)) = false ∧ decide (IntKind.i64.wrap (bits BinOp.and IntKind.u16 (h.fdiv (1 : Int)) (7 : Int)) < (0 : Int)) = false ∧
      decide (IntKind.i64.wrap (bits BinOp.and IntKind.u16 (h.fdiv (1 : Int)) (7 : Int)) > (15 : Int)) = false ∧ true = true) ∧ ((!decide (IntKind.i64.wrap (bits BinOp.and
      IntKind.u16 (h.fdiv (256 : Int)) (15 : Int)) < (14 : Int))) = false → decide (IntKind.i64.wrap (bits BinOp.and IntKind.u16 (h.fdiv (1 : Int)) (7 : Int)) < (0 : Int)) =
      false ∧ decide (IntKind.i64.wrap (bits BinOp.and IntKind.u16 (h.fdiv (1 : Int)) (7 : Int)) > (15 : Int)) = false ∧ decide (IntKind.i64.wrap (bits BinOp.and IntKind.u16
      (h.fdiv (8 : Int)) (7 : Int)) < (0 : Int)) = false ∧ decide (IntKind.i64.wrap (bits BinOp.and IntKind.u16 (h.fdiv (8 : Int)) (7 : Int)) > (15 : Int)) = false ∧ decide
      (IntKind.i64.wrap (bits BinOp.and IntKind.u16 (h.fdiv (1 : Int)) (7 : Int)) < (0 : Int)) = false ∧ decide (IntKind.i64.wrap (bits BinOp.and IntKind.u16 (h.fdiv (1 : Int))
      (7 : Int)) > (15 : Int)) = true ∧ false = true)) ∧ ((h.fdiv (4096 : Int) == (13 : Int)) = false → decide (IntKind.i64.wrap (bits BinOp.and IntKind.u16 (h.fdiv (1 : Int))
      (7 : Int)) < (0 : Int)) = false ∧ decide (IntKind.i64.wrap (bits BinOp.and IntKind.u16 (h.fdiv (1 : Int)) (7 : Int)) > (15 : Int)) = false ∧ decide (IntKind.i64.wrap (bits
      BinOp.and IntKind.u16 (h.fdiv (8 : Int)) (7 : Int)) < (0 : Int)) = false ∧ decide (IntKind.i64.wrap (bits BinOp.and IntKind.u16 (h.fdiv (8 : Int)) (7 : Int)) > (15 : Int))
      = false ∧ decide (IntKind.i64.wrap (bits BinOp.and IntKind.u16 (h.fdiv (1 : Int)) (7 : Int)) < (0 : Int)) = false ∧ decide (IntKind.i64.wrap (bits BinOp.and IntKind.u16
      (h.fdiv (1 : Int)) (7 : Int)) > (15 : Int)) = false ∧ true = true))) ∧ ((IntKind.i64.wrap (bits BinOp.and IntKind.u16 (h.fdiv (64 : Int)) (15 : Int)) == (2 : Int)) = false
      → ((IntKind.i64.wrap (bits BinOp.and IntKind.u16 (h.fdiv (64 : Int)) (15 : Int)) == (3 : Int)) = true → ((IntKind.i64.wrap (bits BinOp.and IntKind.u16 (h.fdiv (64 : Int))
      (15 : Int)) == (7 : Int)) = true → ((h.fdiv (4096 : Int) == (13 : Int)) = true → ((!decide (IntKind.i64.wrap (bits BinOp.and IntKind.u16 (h.fdiv (256 : Int)) (15 : Int)) <
      (14 : Int))) = true → decide (IntKind.i64.wrap (bits BinOp.and IntKind.u16 (h.fdiv (1 : Int)) (7 : Int)) < (0 : Int)) = false ∧ decide (IntKind.i64.wrap (bits BinOp.and
      IntKind.u16 (h.fdiv (1 : Int)) (7 : Int)) > (15 : Int)) = false ∧ decide (IntKind.i64.wrap (bits BinOp.and IntKind.u16 (h.fdiv (8 : Int)) (7 : Int)) < (0 : Int)) = false ∧
      decide (IntKind.i64.wrap (bits BinOp.and IntKind.u16 (h.fdiv (8 : Int)) (7 : Int)) > (15 : Int)) = false ∧ decide (IntKind.i64.wrap (bits BinOp.and IntKind.u16 (h.fdiv (1
      : Int)) (7 : Int)) < (0 : Int)) = false ∧ decide (IntKind.i64.wrap (bits BinOp.and IntKind.u16 (h.fdiv (1 : Int)) (7 : Int)) > (15 : Int)) = false ∧ true = true) ∧
      ((!decide (IntKind.i64.wrap (bits BinOp.and IntKind.u16 (h.fdiv (256 : Int)) (15 : Int)) < (14 : Int))) = false → decide (IntKind.i64.wrap (bits BinOp.and IntKind.u16
      (h.fdiv (1 : Int)) (7 : Int)) < (0 : Int)) = false ∧ decide (IntKind.i64.wrap (bits BinOp.and IntKind.u16 (h.fdiv (1 : Int)) (7 : Int)) > (15 : Int)) = false ∧ decide
      (IntKind.i64.wrap (bits BinOp.and IntKind.u16 (h.fdiv (8 : Int)) (7 : Int)) < (0 : Int)) = false ∧ decide (IntKind.i64.wrap (bits BinOp.and IntKind.u16 (h.fdiv (8 : Int))
      (7 : Int)) > (15 : Int)) = false ∧ decide (IntKind.i64.wrap (bits BinOp.and IntKind.u16 (h.fdiv (1 : Int)) (7 : Int)) < (0 : Int)) = false ∧ decide (IntKind.i64.wrap (bits
      BinOp.and IntKind.u16 (h.fdiv (1 : Int)) (7 : Int)) > (15 : Int)) = true ∧ false = true)) ∧ ((h.fdiv (4096 : Int) == (13 : Int)) = false → decide (IntKind.i64.wrap (bits
      BinOp.and IntKind.u16 (h.fdiv (1 : Int)) (7 : Int)) < (0 : Int)) = false ∧ decide (IntKind.i64.wrap (bits BinOp.and IntKind.u16 (h.fdiv (1 : Int)) (7 : Int)) > (15 : Int))
      = false ∧ decide (IntKind.i64.wrap (bits BinOp.and IntKind.u16 (h.fdiv (8 : Int)) (7 : Int)) < (0 : Int)) = false ∧ decide (IntKind.i64.wrap (bits BinOp.and IntKind.u16
      (h.fdiv (8 : Int)) (7 : Int)) > (15 : Int)) = false ∧ decide (IntKind.i64.wrap (bits BinOp.and IntKind.u16 (h.fdiv (1 : Int)) (7 : Int)) < (0 : Int)) = false ∧ decide
      (IntKind.i64.wrap (bits BinOp.and IntKind.u16 (h.fdiv (1 : Int)) (7 : Int)) > (15 : Int)) = false ∧ true = true)) ∧ ((IntKind.i64.wrap (bits BinOp.and IntKind.u16 (h.fdiv
      (64 : Int)) (15 : Int)) == (7 : Int)) = false → ((h.fdiv (4096 : Int) == (13 : Int)) = true → ((!decide (IntKind.i64.wrap (bits BinOp.and IntKind.u16 (h.fdiv (256 : Int))
      (15 : Int)) < (14 : Int))) = true → decide (IntKind.i64.wrap (bits BinOp.and IntKind.u16 (h.fdiv (1 : Int)) (7 : Int)) < (0 : Int)) = false ∧ decide (IntKind.i64.wrap
      (bits BinOp.and IntKind.u16 (h.fdiv (1 : Int)) (7 : Int)) > (15 : Int)) = false ∧ decide (IntKind.i64.wrap (bits BinOp.and IntKind.u16 (h.fdiv (8 : Int)) (7 : Int)) < (0 :
      Int)) = false ∧ decide (IntKind.i64.wrap (bits BinOp.and IntKind.u16 (h.fdiv (8 : Int)) (7 : Int)) > (15 : Int)) = false ∧ decide (IntKind.i64.wrap (bits BinOp.and
      IntKind.u16 (h.fdiv (1 : Int)) (7 : Int)) < (0 : Int)) = false ∧ decide (IntKind.i64.wrap (bits BinOp.and IntKind.u16 (h.fdiv (1 : Int)) (7 : Int)) > (15 : Int)) = false ∧
      true = true) ∧ ((!decide (IntKind.i64.wrap (bits BinOp.and IntKind.u16 (h.fdiv (256 : Int)) (15 : Int)) < (14 : Int))) = false → decide (IntKind.i64.wrap (bits BinOp.and
      IntKind.u16 (h.fdiv (1 : Int)) (7 : Int)) < (0 : Int)) = false ∧ decide (IntKind.i64.wrap (bits BinOp.and IntKind.u16 (h.fdiv (1 : Int)) (7 : Int)) > (15 : Int)) = false ∧
      decide (IntKind.i64.wrap (bits BinOp.and IntKind.u16 (h.fdiv (8 : Int)) (7 : Int)) < (0 : Int)) = false ∧ decide (IntKind.i64.wrap (bits BinOp.and IntKind.u16 (h.fdiv (8 :
      Int)) (7 : Int)) > (15 : Int)) = false ∧ decide (IntKind.i64.wrap (bits BinOp.and IntKind.u16 (h.fdiv (1 : Int)) (7 : Int)) < (0 : Int)) = false ∧ decide (IntKind.i64.wrap
      (bits BinOp.and IntKind.u16 (h.fdiv (1 : Int)) (7 : Int)) > (15 : Int)) = true ∧ false = true)) ∧ ((h.fdiv (4096 : Int) == (13 : Int)) = false → decide (IntKind.i64.wrap
      (bits BinOp.and IntKind.u16 (h.fdiv (1 : Int)) (7 : Int)) < (0 : Int)) = false ∧ decide (IntKind.i64.wrap (bits BinOp.and IntKind.u16 (h.fdiv (1 : Int)) (7 : Int)) > (15 :
      Int)) = false ∧ decide (IntKind.i64.wrap (bits BinOp.and IntKind.u16 (h.fdiv (8 : Int)) (7 : Int)) < (0 : Int)) = false ∧ decide (IntKind.i64.wrap (bits BinOp.and
      IntKind.u16 (h.fdiv (8 : Int)) (7 : Int)) > (15 : Int)) = false ∧ decide (IntKind.i64.wrap (bits BinOp.and IntKind.u16 (h.fdiv (1 : Int)) (7 : Int)) < (0 : Int)) = false ∧
      decide (IntKind.i64.wrap (bits BinOp.and IntKind.u16 (h.fdiv (1 : Int)) (7 : Int)) > (15 : Int)) = false ∧ true = true))) ∧ ((IntKind.i64.wrap (bits BinOp.and IntKind.u16
      (h.fdiv (64 : Int)) (15 : Int)) == (3 : Int)) = false → ((IntKind.i64.wrap (bits BinOp.and IntKind.u16 (h.fdiv (64 : Int)) (15 : Int)) == (4 : Int)) = true →
      ((IntKind.i64.wrap (bits BinOp.and IntKind.u16 (h.fdiv (64 : Int)) (15 : Int)) == (7 : Int)) = true → ((h.fdiv (4096 : Int) == (13 : Int)) = true → ((!decide
      (IntKind.i64.wrap (bits BinOp.and IntKind.u16 (h.fdiv (256 : Int)) (15 : Int)) < (14 : Int))) = true → decide (IntKind.i64.wrap (bits BinOp.and IntKind.u16 (h.fdiv (1 :
      Int)) (7 : Int)) < (0 : Int)) = false ∧ decide (IntKind.i64.wrap (bits BinOp.and IntKind.u16 (h.fdiv (1 : Int)) (7 : Int)) > (15 : Int)) = false ∧ decide (IntKind.i64.wrap
      (bits BinOp.and IntKind.u16 (h.fdiv (8 : Int)) (7 : Int)) < (0 : Int)) = false ∧ decide (IntKind.i64.wrap (bits BinOp.and IntKind.u16 (h.fdiv (8 : Int)) (7 : Int)) > (15 :
      Int)) = false ∧ decide (IntKind.i64.wrap (bits BinOp.and IntKind.u16 (h.fdiv (1 : Int)) (7 : Int)) < (0 : Int)) = false ∧ decide (IntKind.i64.wrap (bits BinOp.and
      IntKind.u16 (h.fdiv (1 : Int)) (7 : Int)) > (15 : Int)) = false ∧ true = true) ∧ ((!decide (IntKind.i64.wrap (bits BinOp.and IntKind.u16 (h.fdiv (256 : Int)) (15 : Int)) <
      (14 : Int))) = false → decide (IntKind.i64.wrap (bits BinOp.and IntKind.u16 (h.fdiv (1 : Int)) (7 : Int)) < (0 : Int)) = false ∧ decide (IntKind.i64.wrap (bits BinOp.and
      IntKind.u16 (h.fdiv (1 : Int)) (7 : Int)) > (15 : Int)) = false ∧ decide (IntKind.i64.wrap (bits BinOp.and IntKind.u16 (h.fdiv (8 : Int)) (7 : Int)) < (0 : Int)) = false ∧
      decide (IntKind.i64.wrap (bits BinOp.and IntKind.u16 (h.fdiv (8 : Int)) (7 : Int)) > (15 : Int)) = false ∧ decide (IntKind.i64.wrap (bits BinOp.and IntKind.u16 (h.fdiv (1
      : Int)) (7 : Int)) < (0 : Int)) = false ∧ decide (IntKind.i64.wrap (bits BinOp.and IntKind.u16 (h.fdiv (1 : Int)) (7 : Int)) > (15 : Int)) = true ∧ false = true)) ∧
      ((h.fdiv (4096 : Int) == (13 : Int)) = false → decide (IntKind.i64.wrap (bits BinOp.and IntKind.u16 (h.fdiv (1 : Int)) (7 : Int)) < (0 : Int)) = false ∧ decide
      (IntKind.i64.wrap (bits BinOp.and IntKind.u16 (h.fdiv (1 : Int)) (7 : Int)) > (15 : Int)) = false ∧ decide (IntKind.i64.wrap (bits BinOp.and IntKind.u16 (h.fdiv (8 : Int))
      (7 : Int)) < (0 : Int)) = false ∧ decide (IntKind.i64.wrap (bits BinOp.and IntKind.u16 (h.fdiv (8 : Int)) (7 : Int)) > (15 : Int)) = false ∧ decide (IntKind.i64.wrap (bits
      BinOp.and IntKind.u16 (h.fdiv (1 : Int)) (7 : Int)) < (0 : Int)) = false ∧ decide (IntKind.i64.wrap (bits BinOp.and IntKind.u16 (h.fdiv (1 : Int)) (7 : Int)) > (15 : Int))
      = false ∧ true = true)) ∧ ((IntKind.i64.wrap (bits BinOp.and IntKind.u16 (h.fdiv (64 : Int)) (15 : Int)) == (7 : Int)) = false → ((h.fdiv (4096 : Int) == (13 : Int)) =
      true → ((!decide (IntKind.i64.wrap (bits BinOp.and IntKind.u16 (h.fdiv (256 : Int)) (15 : Int)) < (14 : Int))) = true → decide (IntKind.i64.wrap (bits BinOp.and
      IntKind.u16 (h.fdiv (1 : Int)) (7 : Int)) < (0 : Int)) = false ∧ decide (IntKind.i64.wrap (bits BinOp.and IntKind.u16 (h.fdiv (1 : Int)) (7 : Int)) > (15 : Int)) = false ∧
      decide (IntKind.i64.wrap (bits BinOp.and IntKind.u16 (h.fdiv (8 : Int)) (7 : Int)) < (0 : Int)) = false ∧ decide (IntKind.i64.wrap (bits BinOp.and IntKind.u16 (h.fdiv (8 :
      Int)) (7 : Int)) > (15 : Int)) = false ∧ decide (IntKind.i64.wrap (bits BinOp.and IntKind.u16 (h.fdiv (1 : Int)) (7 : Int)) < (0 : Int)) = false ∧ decide (IntKind.i64.wrap
      (bits BinOp.and IntKind.u16 (h.fdiv (1 : Int)) (7 : Int)) > (15 : Int)) = false ∧ true = true) ∧ ((!decide (IntKind.i64.wrap (bits BinOp.and IntKind.u16 (h.fdiv (256 :
      Int)) (15 : Int)) < (14 : Int))) = false → decide (IntKind.i64.wrap (bits BinOp.and IntKind.u16 (h.fdiv (1 : Int)) (7 : Int)) < (0 : Int)) = false ∧ decide
      (IntKind.i64.wrap (bits BinOp.and IntKind.u16 (h.fdiv (1 : Int)) (7 : Int)) > (15 : Int)) = false ∧ decide (IntKind.i64.wrap (bits BinOp.and IntKind.u16 (h.fdiv (8 : Int))
      (7 : Int)) < (0 : Int)) = false ∧ decide (IntKind.i64.wrap (bits BinOp.and IntKind.u16 (h.fdiv (8 : Int)) (7 : Int)) > (15 : Int)) = false ∧ decide (IntKind.i64.wrap (bits
      BinOp.and IntKind.u16 (h.fdiv (1 : Int)) (7 : Int)) < (0 : Int)) = false ∧ decide (IntKind.i64.wrap (bits BinOp.and IntKind.u16 (h.fdiv (1 : Int)) (7 : Int)) > (15 : Int))
      = true ∧ false = true)) ∧ ((h.fdiv (4096 : Int) == (13 : Int)) = false → decide (IntKind.i64.wrap (bits BinOp.and IntKind.u16 (h.fdiv (1 : Int)) (7 : Int)) < (0 : Int)) =
      false ∧ decide (IntKind.i64.wrap (bits BinOp.and IntKind.u16 (h.fdiv (1 : Int)) (7 : Int)) > (15 : Int)) = false ∧ decide (IntKind.i64.wrap (bits BinOp.and IntKind.u16
      (h.fdiv (8 : Int)) (7 : Int)) < (0 : Int)) = false ∧ decide (IntKind.i64.wrap (bits BinOp.and IntKind.u16 (h.fdiv (8 : Int)) (7 : Int)) > (15 : Int)) = false ∧ decide
      (IntKind.i64.wrap (bits BinOp.and IntKind.u16 (h.fdiv (1 : Int)) (7 : Int)) < (0 : Int)) = false ∧ decide (IntKind.i64.wrap (bits BinOp.and IntKind.u16 (h.fdiv (1 : Int))
      (7 : Int)) > (15 : Int)) = false ∧ true = true))) ∧ ((IntKind.i64.wrap (bits BinOp.and IntKind.u16 (h.fdiv (64 : Int)) (15 : Int)) == (4 : Int)) = false →
      ((IntKind.i64.wrap (bits BinOp.and IntKind.u16 (h.fdiv (64 : Int)) (15 : Int)) == (7 : Int)) = true → ((IntKind.i64.wrap (bits BinOp.and IntKind.u16 (h.fdiv (64 : Int))
      (15 : Int)) == (7 : Int)) = true → ((h.fdiv (4096 : Int) == (13 : Int)) = true → ((!decide (IntKind.i64.wrap (bits BinOp.and IntKind.u16 (h.fdiv (256 : Int)) (15 : Int)) <
      (14 : Int))) = true → decide (IntKind.i64.wrap (bits BinOp.and IntKind.u16 (h.fdiv (1 : Int)) (7 : Int)) < (0 : Int)) = false ∧ decide (IntKind.i64.wrap (bits BinOp.and
      IntKind.u16 (h.fdiv (1 : Int)) (7 : Int)) > (15 : Int)) = false ∧ decide (IntKind.i64.wrap (bits BinOp.and IntKind.u16 (h.fdiv (8 : Int)) (7 : Int)) < (0 : Int)) = false ∧
      decide (IntKind.i64.wrap (bits BinOp.and IntKind.u16 (h.fdiv (8 : Int)) (7 : Int)) > (15 : Int)) = false ∧ decide (IntKind.i64.wrap (bits BinOp.and IntKind.u16 (h.fdiv (1
      : Int)) (7 : Int)) < (0 : Int)) = false ∧ decide (IntKind.i64.wrap (bits BinOp.and IntKind.u16 (h.fdiv (1 : Int)) (7 : Int)) > (15 : Int)) = false ∧ true = true) ∧
      ((!decide (IntKind.i64.wrap (bits BinOp.and IntKind.u16 (h.fdiv (256 : Int)) (15 : Int)) < (14 : Int))) = false → decide (IntKind.i64.wrap (bits BinOp.and IntKind.u16
      (h.fdiv (1 : Int)) (7 : Int)) < (0 : Int)) = false ∧ decide (IntKind.i64.wrap (bits BinOp.and IntKind.u16 (h.fdiv (1 : Int)) (7 : Int)) > (15 : Int)) = false ∧ decide
      (IntKind.i64.wrap (bits BinOp.and IntKind.u16 (h.fdiv (8 : Int)) (7 : Int)) < (0 : Int)) = false ∧ decide (IntKind.i64.wrap (bits BinOp.and IntKind.u16 (h.fdiv (8 : Int))
      (7 : Int)) > (15 : Int)) = false ∧ decide (IntKind.i64.wrap (bits BinOp.and IntKind.u16 (h.fdiv (1 : Int)) (7 : Int)) < (0 : Int)) = false ∧ decide (IntKind.i64.wrap (bits
      BinOp.and IntKind.u16 (h.fdiv (1 : Int)) (7 : Int)) > (15 : Int)) = true ∧ false = true)) ∧ ((h.fdiv (4096 : Int) == (13 : Int)) = false → decide (IntKind.i64.wrap (bits
      BinOp.and IntKind.u16 (h.fdiv (1 : Int)) (7 : Int)) < (0 : Int)) = false ∧ decide (IntKind.i64.wrap (bits BinOp.and IntKind.u16 (h.fdiv (1 : Int)) (7 : Int)) > (15 : Int))
      = false ∧ decide (IntKind.i64.wrap (bits BinOp.and IntKind.u16 (h.fdiv (8 : Int)) (7 : Int)) < (0 : Int)) = false ∧ decide (IntKind.i64.wrap (bits BinOp.and IntKind.u16
      (h.fdiv (8 : Int)) (7 : Int)) > (15 : Int)) = false ∧ decide (IntKind.i64.wrap (bits BinOp.and IntKind.u16 (h.fdiv (1 : Int)) (7 : Int)) < (0 : Int)) = false ∧ decide
      (IntKind.i64.wrap (bits BinOp.and IntKind.u16 (h.fdiv (1 : Int)) (7 : Int)) > (15 : Int)) = false ∧ true = true)) ∧ ((IntKind.i64.wrap (bits BinOp.and IntKind.u16 (h.fdiv
      (64 : Int)) (15 : Int)) == (7 : Int)) = false → ((h.fdiv (4096 : Int) == (13 : Int)) = true → ((!decide (IntKind.i64.wrap (bits BinOp.and IntKind.u16 (h.fdiv (256 : Int))
      (15 : Int)) < (14 : Int))) = true → decide (IntKind.i64.wrap (bits BinOp.and IntKind.u16 (h.fdiv (1 : Int)) (7 : Int)) < (0 : Int)) = false ∧ decide (IntKind.i64.wrap
      (bits BinOp.and IntKind.u16 (h.fdiv (1 : Int)) (7 : Int)) > (15 : Int)) = false ∧ decide (IntKind.i64.wrap (bits BinOp.and IntKind.u16 (h.fdiv (8 : Int)) (7 : Int)) < (0 :
      Int)) = false ∧ decide (IntKind.i64.wrap (bits BinOp.and IntKind.u16 (h.fdiv (8 : Int)) (7 : Int)) > (15 : Int)) = false ∧ decide (IntKind.i64.wrap (bits BinOp.and
      IntKind.u16 (h.fdiv (1 : Int)) (7 : Int)) < (0 : Int)) = false ∧ decide (IntKind.i64.wrap (bits BinOp.and IntKind.u16 (h.fdiv (1 : Int)) (7 : Int)) > (15 : Int)) = false ∧
      true = true) ∧ ((!decide (IntKind.i64.wrap (bits BinOp.and IntKind.u16 (h.fdiv (256 : Int)) (15 : Int)) < (14 : Int))) = false → decide (IntKind.i64.wrap (bits BinOp.and
      IntKind.u16 (h.fdiv (1 : Int)) (7 : Int)) < (0 : Int)) = false ∧ decide (IntKind.i64.wrap (bits BinOp.and IntKind.u16 (h.fdiv (1 : Int)) (7 : Int)) > (15 : Int)) = false ∧
      decide (IntKind.i64.wrap (bits BinOp.and IntKind.u16 (h.fdiv (8 : Int)) (7 : Int)) < (0 : Int)) = false ∧ decide (IntKind.i64.wrap (bits BinOp.and IntKind.u16 (h.fdiv (8 :
      Int)) (7 : Int)) > (15 : Int)) = false ∧ decide (IntKind.i64.wrap (bits BinOp.and IntKind.u16 (h.fdiv (1 : Int)) (7 : Int)) < (0 : Int)) = false ∧ decide (IntKind.i64.wrap
      (bits BinOp.and IntKind.u16 (h.fdiv (1 : Int)) (7 : Int)) > (15 : Int)) = true ∧ false = true)) ∧ ((h.fdiv (4096 : Int) == (13 : Int)) = false → decide (IntKind.i64.wrap
      (bits BinOp.and IntKind.u16 (h.fdiv (1 : Int)) (7 : Int)) < (0 : Int)) = false ∧ decide (IntKind.i64.wrap (bits BinOp.and IntKind.u16 (h.fdiv (1 : Int)) (7 : Int)) > (15 :
      Int)) = false ∧ decide (IntKind.i64.wrap (bits BinOp.and IntKind.u16 (h.fdiv (8 : Int)) (7 : Int)) < (0 : Int)) = false ∧ decide (IntKind.i64.wrap (bits BinOp.and
      IntKind.u16 (h.fdiv (8 : Int)) (7 : Int)) > (15 : Int)) = false ∧ decide (IntKind.i64.wrap (bits BinOp.and IntKind.u16 (h.fdiv (1 : Int)) (7 : Int)) < (0 : Int)) = false ∧
      decide (IntKind.i64.wrap (bits BinOp.and IntKind.u16 (h.fdiv (1 : Int)) (7 : Int)) > (15 : Int)) = false ∧ true = true))) ∧ ((IntKind.i64.wrap (bits BinOp.and IntKind.u16
      (h.fdiv (64 : Int)) (15 : Int)) == (7 : Int)) = false → ((IntKind.i64.wrap (bits BinOp.and IntKind.u16 (h.fdiv (64 : Int)) (15 : Int)) == (8 : Int)) = true → ((h.fdiv
      (4096 : Int) == (13 : Int)) = true → ((!decide (IntKind.i64.wrap (bits BinOp.and IntKind.u16 (h.fdiv (256 : Int)) (15 : Int)) < (14 : Int))) = true → decide
      (IntKind.i64.wrap (bits BinOp.and IntKind.u16 (h.fdiv (64 : Int)) (15 : Int)) < (0 : Int)) = false ∧ decide (IntKind.i64.wrap (bits BinOp.and IntKind.u16 (h.fdiv (64 :
      Int)) (15 : Int)) > (15 : Int)) = false ∧ decide (IntKind.i64.wrap (bits BinOp.and IntKind.u16 (h.fdiv (1 : Int)) (7 : Int)) < (0 : Int)) = false ∧ decide
      (IntKind.i64.wrap (bits BinOp.and IntKind.u16 (h.fdiv (1 : Int)) (7 : Int)) > (15 : Int)) = false ∧ decide (IntKind.i64.wrap (bits BinOp.and IntKind.u16 (h.fdiv (8 : Int))
      (7 : Int)) < (0 : Int)) = false ∧ decide (IntKind.i64.wrap (bits BinOp.and IntKind.u16 (h.fdiv (8 : Int)) (7 : Int)) > (15 : Int)) = false ∧ true = true) ∧ ((!decide
      (IntKind.i64.wrap (bits BinOp.and IntKind.u16 (h.fdiv (256 : Int)) (15 : Int)) < (14 : Int))) = false → decide (IntKind.i64.wrap (bits BinOp.and IntKind.u16 (h.fdiv (64 :
      Int)) (15 : Int)) < (0 : Int)) = false ∧ decide (IntKind.i64.wrap (bits BinOp.and IntKind.u16 (h.fdiv (64 : Int)) (15 : Int)) > (15 : Int)) = false ∧ decide
      (IntKind.i64.wrap (bits BinOp.and IntKind.u16 (h.fdiv (1 : Int)) (7 : Int)) < (0 : Int)) = false ∧ decide (IntKind.i64.wrap (bits BinOp.and IntKind.u16 (h.fdiv (1 : Int))
      (7 : Int)) > (15 : Int)) = false ∧ decide (IntKind.i64.wrap (bits BinOp.and IntKind.u16 (h.fdiv (8 : Int)) (7 : Int)) < (0 : Int)) = false ∧ decide (IntKind.i64.wrap (bits
      BinOp.and IntKind.u16 (h.fdiv (8 : Int)) (7 : Int)) > (15 : Int)) = true ∧ false = true)) ∧ ((h.fdiv (4096 : Int) == (13 : Int)) = false → decide (IntKind.i64.wrap (bits
      BinOp.and IntKind.u16 (h.fdiv (64 : Int)) (15 : Int)) < (0 : Int)) = false ∧ decide (IntKind.i64.wrap (bits BinOp.and IntKind.u16 (h.fdiv (64 : Int)) (15 : Int)) > (15 :
      Int)) = false ∧ decide (IntKind.i64.wrap (bits BinOp.and IntKind.u16 (h.fdiv (1 : Int)) (7 : Int)) < (0 : Int)) = false ∧ decide (IntKind.i64.wrap (bits BinOp.and
      IntKind.u16 (h.fdiv (1 : Int)) (7 : Int)) > (15 : Int)) = false ∧ decide (IntKind.i64.wrap (bits BinOp.and IntKind.u16 (h.fdiv (8 : Int)) (7 : Int)) < (0 : Int)) = false ∧
      decide (IntKind.i64.wrap (bits BinOp.and IntKind.u16 (h.fdiv (8 : Int)) (7 : Int)) > (15 : Int)) = false ∧ true = true)) ∧ ((IntKind.i64.wrap (bits BinOp.and IntKind.u16
      (h.fdiv (64 : Int)) (15 : Int)) == (8 : Int)) = false → ((IntKind.i64.wrap (bits BinOp.and IntKind.u16 (h.fdiv (64 : Int)) (15 : Int)) == (10 : Int)) = true → ((h.fdiv
      (4096 : Int) == (13 : Int)) = true → ((!decide (IntKind.i64.wrap (bits BinOp.and IntKind.u16 (h.fdiv (256 : Int)) (15 : Int)) < (14 : Int))) = true → decide
      (IntKind.i64.wrap (bits BinOp.and IntKind.u16 (h.fdiv (64 : Int)) (15 : Int)) < (0 : Int)) = false ∧ decide (IntKind.i64.wrap (bits BinOp.and IntKind.u16 (h.fdiv (64 :
      Int)) (15 : Int)) > (15 : Int)) = false ∧ decide (IntKind.i64.wrap (bits BinOp.and IntKind.u16 (h.fdiv (1 : Int)) (7 : Int)) < (0 : Int)) = false ∧ decide
      (IntKind.i64.wrap (bits BinOp.and IntKind.u16 (h.fdiv (1 : Int)) (7 : Int)) > (15 : Int)) = false ∧ decide (IntKind.i64.wrap (bits BinOp.and IntKind.u16 (h.fdiv (8 : Int))
      (7 : Int)) < (0 : Int)) = false ∧ decide (IntKind.i64.wrap (bits BinOp.and IntKind.u16 (h.fdiv (8 : Int)) (7 : Int)) > (15 : Int)) = false ∧ true = true) ∧ ((!decide
      (IntKind.i64.wrap (bits BinOp.and IntKind.u16 (h.fdiv (256 : Int)) (15 : Int)) < (14 : Int))) = false → decide (IntKind.i64.wrap (bits BinOp.and IntKind.u16 (h.fdiv (64 :
      Int)) (15 : Int)) < (0 : Int)) = false ∧ decide (IntKind.i64.wrap (bits BinOp.and IntKind.u16 (h.fdiv (64 : Int)) (15 : Int)) > (15 : Int)) = false ∧ decide
      (IntKind.i64.wrap (bits BinOp.and IntKind.u16 (h.fdiv (1 : Int)) (7 : Int)) < (0 : Int)) = false ∧ decide (IntKind.i64.wrap (bits BinOp.and IntKind.u16 (h.fdiv (1 : Int))
      (7 : Int)) > (15 : Int)) = false ∧ decide (IntKind.i64.wrap (bits BinOp.and IntKind.u16 (h.fdiv (8 : Int)) (7 : Int)) < (0 : Int)) = false ∧ decide (IntKind.i64.wrap (bits
      BinOp.and IntKind.u16 (h.fdiv (8 : Int)) (7 : Int)) > (15 : Int)) = true ∧ false = true)) ∧ ((h.fdiv (4096 : Int) == (13 : Int)) = false → decide (IntKind.i64.wrap (bits
      BinOp.and IntKind.u16 (h.fdiv (64 : Int)) (15 : Int)) < (0 : Int)) = false ∧ decide (IntKind.i64.wrap (bits BinOp.and IntKind.u16 (h.fdiv (64 : Int)) (15 : Int)) > (15 :
      Int)) = false ∧ decide (IntKind.i64.wrap (bits BinOp.and IntKind.u16 (h.fdiv (1 : Int)) (7 : Int)) < (0 : Int)) = false ∧ decide (IntKind.i64.wrap (bits BinOp.and
      IntKind.u16 (h.fdiv (1 : Int)) (7 : Int)) > (15 : Int)) = false ∧ decide (IntKind.i64.wrap (bits BinOp.and IntKind.u16 (h.fdiv (8 : Int)) (7 : Int)) < (0 : Int)) = false ∧
      decide (IntKind.i64.wrap (bits BinOp.and IntKind.u16 (h.fdiv (8 : Int)) (7 : Int)) > (15 : Int)) = false ∧ true = true)) ∧ ((IntKind.i64.wrap (bits BinOp.and IntKind.u16
      (h.fdiv (64 : Int)) (15 : Int)) == (10 : Int)) = false → ((IntKind.i64.wrap (bits BinOp.and IntKind.u16 (h.fdiv (64 : Int)) (15 : Int)) == (11 : Int)) = true → ((h.fdiv
      (4096 : Int) == (13 : Int)) = true → ((!decide (IntKind.i64.wrap (bits BinOp.and IntKind.u16 (h.fdiv (256 : Int)) (15 : Int)) < (14 : Int))) = true → decide
      (IntKind.i64.wrap (bits BinOp.and IntKind.u16 (h.fdiv (64 : Int)) (15 : Int)) < (0 : Int)) = false ∧ decide (IntKind.i64.wrap (bits BinOp.and IntKind.u16 (h.fdiv (64 :
      Int)) (15 : Int)) > (15 : Int)) = false ∧ decide (IntKind.i64.wrap (bits BinOp.and IntKind.u16 (h.fdiv (1 : Int)) (7 : Int)) < (0 : Int)) = false ∧ decide
      (IntKind.i64.wrap (bits BinOp.and IntKind.u16 (h.fdiv (1 : Int)) (7 : Int)) > (15 : Int)) = false ∧ decide (IntKind.i64.wrap (bits BinOp.and IntKind.u16 (h.fdiv (8 : Int))
      (7 : Int)) < (0 : Int)) = false ∧ decide (IntKind.i64.wrap (bits BinOp.and IntKind.u16 (h.fdiv (8 : Int)) (7 : Int)) > (15 : Int)) = false ∧ true = true) ∧ ((!decide
      (IntKind.i64.wrap (bits BinOp.and IntKind.u16 (h.fdiv (256 : Int)) (15 : Int)) < (14 : Int))) = false → decide (IntKind.i64.wrap (bits BinOp.and IntKind.u16 (h.fdiv (64 :
      Int)) (15 : Int)) < (0 : Int)) = false ∧ decide (IntKind.i64.wrap (bits BinOp.and IntKind.u16 (h.fdiv (64 : Int)) (15 : Int)) > (15 : Int)) = false ∧ decide
      (IntKind.i64.wrap (bits BinOp.and IntKind.u16 (h.fdiv (1 : Int)) (7 : Int)) < (0 : Int)) = false ∧ decide (IntKind.i64.wrap (bits BinOp.and IntKind.u16 (h.fdiv (1 : Int))
      (7 : Int)) > (15 : Int)) = false ∧ decide (IntKind.i64.wrap (bits BinOp.and IntKind.u16 (h.fdiv (8 : Int)) (7 : Int)) < (0 : Int)) = false ∧ decide (IntKind.i64.wrap (bits
      BinOp.and IntKind.u16 (h.fdiv (8 : Int)) (7 : Int)) > (15 : Int)) = true ∧ false = true)) ∧ ((h.fdiv (4096 : Int) == (13 : Int)) = false → decide (IntKind.i64.wrap (bits
      BinOp.and IntKind.u16 (h.fdiv (64 : Int)) (15 : Int)) < (0 : Int)) = false ∧ decide (IntKind.i64.wrap (bits BinOp.and IntKind.u16 (h.fdiv (64 : Int)) (15 : Int)) > (15 :
      Int)) = false ∧ decide (IntKind.i64.wrap (bits BinOp.and IntKind.u16 (h.fdiv (1 : Int)) (7 : Int)) < (0 : Int)) = false ∧ decide (IntKind.i64.wrap (bits BinOp.and
      IntKind.u16 (h.fdiv (1 : Int)) (7 : Int)) > (15 : Int)) = false ∧ decide (IntKind.i64.wrap (bits BinOp.and IntKind.u16 (h.fdiv (8 : Int)) (7 : Int)) < (0 : Int)) = false ∧
      decide (IntKind.i64.wrap (bits BinOp.and IntKind.u16 (h.fdiv (8 : Int)) (7 : Int)) > (15 : Int)) = false ∧ true = true)) ∧ ((IntKind.i64.wrap (bits BinOp.and IntKind.u16
      (h.fdiv (64 : Int)) (15 : Int)) == (11 : Int)) = false → ((IntKind.i64.wrap (bits BinOp.and IntKind.u16 (h.fdiv (64 : Int)) (15 : Int)) == (9 : Int)) = true → ((h.fdiv
      (4096 : Int) == (13 : Int)) = true → ((!decide (IntKind.i64.wrap (bits BinOp.and IntKind.u16 (h.fdiv (256 : Int)) (15 : Int)) < (14 : Int))) = true → decide
      (IntKind.i64.wrap (bits BinOp.and IntKind.u16 (h.fdiv (1 : Int)) (7 : Int)) < (0 : Int)) = false ∧ decide (IntKind.i64.wrap (bits BinOp.and IntKind.u16 (h.fdiv (1 : Int))
      (7 : Int)) > (15 : Int)) = false ∧ decide (IntKind.i64.wrap (bits BinOp.and IntKind.u16 (h.fdiv (8 : Int)) (7 : Int)) < (0 : Int)) = false ∧ decide (IntKind.i64.wrap (bits
      BinOp.and IntKind.u16 (h.fdiv (8 : Int)) (7 : Int)) > (15 : Int)) = false ∧ true = true) ∧ ((!decide (IntKind.i64.wrap (bits BinOp.and IntKind.u16 (h.fdiv (256 : Int)) (15
      : Int)) < (14 : Int))) = false → decide (IntKind.i64.wrap (bits BinOp.and IntKind.u16 (h.fdiv (1 : Int)) (7 : Int)) < (0 : Int)) = false ∧ decide (IntKind.i64.wrap (bits
      BinOp.and IntKind.u16 (h.fdiv (1 : Int)) (7 : Int)) > (15 : Int)) = false ∧ decide (IntKind.i64.wrap (bits BinOp.and IntKind.u16 (h.fdiv (8 : Int)) (7 : Int)) < (0 : Int))
      = false ∧ decide (IntKind.i64.wrap (bits BinOp.and IntKind.u16 (h.fdiv (8 : Int)) (7 : Int)) > (15 : Int)) = true ∧ false = true)) ∧ ((h.fdiv (4096 : Int) == (13 : Int)) =
      false → decide (IntKind.i64.wrap (bits BinOp.and IntKind.u16 (h.fdiv (1 : Int)) (7 : Int)) < (0 : Int)) = false ∧ decide (IntKind.i64.wrap (bits BinOp.and IntKind.u16
      (h.fdiv (1 : Int)) (7 : Int)) > (15 : Int)) = false ∧ decide (IntKind.i64.wrap (bits BinOp.and IntKind.u16 (h.fdiv (8 : Int)) (7 : Int)) < (0 : Int)) = false ∧ decide
      (IntKind.i64.wrap (bits BinOp.and IntKind.u16 (h.fdiv (8 : Int)) (7 : Int)) > (15 : Int)) = false ∧ true = true)) ∧ ((IntKind.i64.wrap (bits BinOp.and IntKind.u16 (h.fdiv
      (64 : Int)) (15 : Int)) == (9 : Int)) = false → ((IntKind.i64.wrap (bits BinOp.and IntKind.u16 (h.fdiv (64 : Int)) (15 : Int)) == (13 : Int)) = true → ((h.fdiv (4096 :
      Int) == (13 : Int)) = true → ((!decide (IntKind.i64.wrap (bits BinOp.and IntKind.u16 (h.fdiv (256 : Int)) (15 : Int)) < (14 : Int))) = true → decide (IntKind.i64.wrap
      (bits BinOp.and IntKind.u16 (h.fdiv (1 : Int)) (7 : Int)) < (0 : Int)) = false ∧ decide (IntKind.i64.wrap (bits BinOp.and IntKind.u16 (h.fdiv (1 : Int)) (7 : Int)) > (15 :
      Int)) = false ∧ decide (IntKind.i64.wrap (bits BinOp.and IntKind.u16 (h.fdiv (1 : Int)) (7 : Int)) < (0 : Int)) = false ∧ decide (IntKind.i64.wrap (bits BinOp.and
      IntKind.u16 (h.fdiv (1 : Int)) (7 : Int)) > (15 : Int)) = false ∧ decide (IntKind.i64.wrap (bits BinOp.and IntKind.u16 (h.fdiv (8 : Int)) (7 : Int)) < (0 : Int)) = false ∧
      decide (IntKind.i64.wrap (bits BinOp.and IntKind.u16 (h.fdiv (8 : Int)) (7 : Int)) > (15 : Int)) = false ∧ true = true) ∧ ((!decide (IntKind.i64.wrap (bits BinOp.and
      IntKind.u16 (h.fdiv (256 : Int)) (15 : Int)) < (14 : Int))) = false → decide (IntKind.i64.wrap (bits BinOp.and IntKind.u16 (h.fdiv (1 : Int)) (7 : Int)) < (0 : Int)) =
      false ∧ decide (IntKind.i64.wrap (bits BinOp.and IntKind.u16 (h.fdiv (1 : Int)) (7 : Int)) > (15 : Int)) = false ∧ decide (IntKind.i64.wrap (bits BinOp.and IntKind.u16
      (h.fdiv (1 : Int)) (7 : Int)) < (0 : Int)) = false ∧ decide (IntKind.i64.wrap (bits BinOp.and IntKind.u16 (h.fdiv (1 : Int)) (7 : Int)) > (15 : Int)) = false ∧ decide
      (IntKind.i64.wrap (bits BinOp.and IntKind.u16 (h.fdiv (8 : Int)) (7 : Int)) < (0 : Int)) = false ∧ decide (IntKind.i64.wrap (bits BinOp.and IntKind.u16 (h.fdiv (8 : Int))
      (7 : Int)) > (15 : Int)) = true ∧ false = true)) ∧ ((h.fdiv (4096 : Int) == (13 : Int)) = false → decide (IntKind.i64.wrap (bits BinOp.and IntKind.u16 (h.fdiv (1 : Int))
      (7 : Int)) < (0 : Int)) = false ∧ decide (IntKind.i64.wrap (bits BinOp.and IntKind.u16 (h.fdiv (1 : Int)) (7 : Int)) > (15 : Int)) = false ∧ decide (IntKind.i64.wrap (bits
      BinOp.and IntKind.u16 (h.fdiv (1 : Int)) (7 : Int)) < (0 : Int)) = false ∧ decide (IntKind.i64.wrap (bits BinOp.and IntKind.u16 (h.fdiv (1 : Int)) (7 : Int)) > (15 : Int))
      = false ∧ decide (IntKind.i64.wrap (bits BinOp.and IntKind.u16 (h.fdiv (8 : Int)) (7 : Int)) < (0 : Int)) = false ∧ decide (IntKind.i64.wrap (bits BinOp.and IntKind.u16
      (h.fdiv (8 : Int)) (7 : Int)) > (15 : Int)) = false ∧ true = true)) ∧ ((IntKind.i64.wrap (bits BinOp.and IntKind.u16 (h.fdiv (64 : Int)) (15 : Int)) == (13 : Int)) = false
      → ((IntKind.i64.wrap (bits BinOp.and IntKind.u16 (h.fdiv (64 : Int)) (15 : Int)) == (15 : Int)) = true → ((h.fdiv (4096 : Int) == (13 : Int)) = true → ((!decide
      (IntKind.i64.wrap (bits BinOp.and IntKind.u16 (h.fdiv (256 : Int)) (15 : Int)) < (14 : Int))) = true → decide (IntKind.i64.wrap (bits BinOp.and IntKind.u16 (h.fdiv (64 :
      Int)) (15 : Int)) < (0 : Int)) = false ∧ decide (IntKind.i64.wrap (bits BinOp.and IntKind.u16 (h.fdiv (64 : Int)) (15 : Int)) > (15 : Int)) = false ∧ decide
      (IntKind.i64.wrap (bits BinOp.and IntKind.u16 (h.fdiv (1 : Int)) (7 : Int)) < (0 : Int)) = false ∧ decide (IntKind.i64.wrap (bits BinOp.and IntKind.u16 (h.fdiv (1 : Int))
      (7 : Int)) > (15 : Int)) = false ∧ decide (IntKind.i64.wrap (bits BinOp.and IntKind.u16 (h.fdiv (8 : Int)) (7 : Int)) < (0 : Int)) = false ∧ decide (IntKind.i64.wrap (bits
      BinOp.and IntKind.u16 (h.fdiv (8 : Int)) (7 : Int)) > (15 : Int)) = false ∧ true = true) ∧ ((!decide (IntKind.i64.wrap (bits BinOp.and IntKind.u16 (h.fdiv (256 : Int)) (15
      : Int)) < (14 : Int))) = false → decide (IntKind.i64.wrap (bits BinOp.and IntKind.u16 (h.fdiv (64 : Int)) (15 : Int)) < (0 : Int)) = false ∧ decide (IntKind.i64.wrap (bits
      BinOp.and IntKind.u16 (h.fdiv (64 : Int)) (15 : Int)) > (15 : Int)) = false ∧ decide (IntKind.i64.wrap (bits BinOp.and IntKind.u16 (h.fdiv (1 : Int)) (7 : Int)) < (0 :
      Int)) = false ∧ decide (IntKind.i64.wrap (bits BinOp.and IntKind.u16 (h.fdiv (1 : Int)) (7 : Int)) > (15 : Int)) = false ∧ decide (IntKind.i64.wrap (bits BinOp.and
      IntKind.u16 (h.fdiv (8 : Int)) (7 : Int)) < (0 : Int)) = false ∧ decide (IntKind.i64.wrap (bits BinOp.and IntKind.u16 (h.fdiv (8 : Int)) (7 : Int)) > (15 : Int)) = true ∧
      false = true)) ∧ ((h.fdiv (4096 : Int) == (13 : Int)) = false → decide (IntKind.i64.wrap (bits BinOp.and IntKind.u16 (h.fdiv (64 : Int)) (15 : Int)) < (0 : Int)) = false ∧
      decide (IntKind.i64.wrap (bits BinOp.and IntKind.u16 (h.fdiv (64 : Int)) (15 : Int)) > (15 : Int)) = false ∧ decide (IntKind.i64.wrap (bits BinOp.and IntKind.u16 (h.fdiv
      (1 : Int)) (7 : Int)) < (0 : Int)) = false ∧ decide (IntKind.i64.wrap (bits BinOp.and IntKind.u16 (h.fdiv (1 : Int)) (7 : Int)) > (15 : Int)) = false ∧ decide
      (IntKind.i64.wrap (bits BinOp.and IntKind.u16 (h.fdiv (8 : Int)) (7 : Int)) < (0 : Int)) = false ∧ decide (IntKind.i64.wrap (bits BinOp.and IntKind.u16 (h.fdiv (8 : Int))
      (7 : Int)) > (15 : Int)) = false ∧ true = true)) ∧ ((IntKind.i64.wrap (bits BinOp.and IntKind.u16 (h.fdiv (64 : Int)) (15 : Int)) == (15 : Int)) = false → ((h.fdiv (4096 :
      Int) == (13 : Int)) = true → ((!decide (IntKind.i64.wrap (bits BinOp.and IntKind.u16 (h.fdiv (256 : Int)) (15 : Int)) < (14 : Int))) = true → decide (IntKind.i64.wrap
      (bits BinOp.and IntKind.u16 (h.fdiv (64 : Int)) (15 : Int)) < (0 : Int)) = false ∧ decide (IntKind.i64.wrap (bits BinOp.and IntKind.u16 (h.fdiv (64 : Int)) (15 : Int)) >
      (15 : Int)) = false ∧ decide (IntKind.i64.wrap (bits BinOp.and IntKind.u16 (h.fdiv (1 : Int)) (7 : Int)) < (0 : Int)) = false ∧ decide (IntKind.i64.wrap (bits BinOp.and
      IntKind.u16 (h.fdiv (1 : Int)) (7 : Int)) > (15 : Int)) = false ∧ decide (IntKind.i64.wrap (bits BinOp.and IntKind.u16 (h.fdiv (1 : Int)) (7 : Int)) < (0 : Int)) = false ∧
      decide (IntKind.i64.wrap (bits BinOp.and IntKind.u16 (h.fdiv (1 : Int)) (7 : Int)) > (15 : Int)) = false ∧ decide (IntKind.i64.wrap (bits BinOp.and IntKind.u16 (h.fdiv (8
      : Int)) (7 : Int)) < (0 : Int)) = false ∧ decide (IntKind.i64.wrap (bits BinOp.and IntKind.u16 (h.fdiv (8 : Int)) (7 : Int)) > (15 : Int)) = false ∧ true = true) ∧
      ((!decide (IntKind.i64.wrap (bits BinOp.and IntKind.u16 (h.fdiv (256 : Int)) (15 : Int)) < (14 : Int))) = false → decide (IntKind.i64.wrap (bits BinOp.and IntKind.u16
      (h.fdiv (64 : Int)) (15 : Int)) < (0 : Int)) = false ∧ decide (IntKind.i64.wrap (bits BinOp.and IntKind.u16 (h.fdiv (64 : Int)) (15 : Int)) > (15 : Int)) = false ∧ decide
      (IntKind.i64.wrap (bits BinOp.and IntKind.u16 (h.fdiv (1 : Int)) (7 : Int)) < (0 : Int)) = false ∧ decide (IntKind.i64.wrap (bits BinOp.and IntKind.u16 (h.fdiv (1 : Int))
      (7 : Int)) > (15 : Int)) = false ∧ decide (IntKind.i64.wrap (bits BinOp.and IntKind.u16 (h.fdiv (1 : Int)) (7 : Int)) < (0 : Int)) = false ∧ decide (IntKind.i64.wrap (bits
      BinOp.and IntKind.u16 (h.fdiv (1 : Int)) (7 : Int)) > (15 : Int)) = false ∧ decide (IntKind.i64.wrap (bits BinOp.and IntKind.u16 (h.fdiv (8 : Int)) (7 : Int)) < (0 : Int))
      = false ∧ decide (IntKind.i64.wrap (bits BinOp.and IntKind.u16 (h.fdiv (8 : Int)) (7 : Int)) > (15 : Int)) = true ∧ false = true)) ∧ ((h.fdiv (4096 : Int) == (13 : Int)) =
      false → decide (IntKind.i64.wrap (bits BinOp.and IntKind.u16 (h.fdiv (64 : Int)) (15 : Int)) < (0 : Int)) = false ∧ decide (IntKind.i64.wrap (bits BinOp.and IntKind.u16
      (h.fdiv (64 : Int)) (15 : Int)) > (15 : Int)) = false ∧ decide (IntKind.i64.wrap (bits BinOp.and IntKind.u16 (h.fdiv (1 : Int)) (7 : Int)) < (0 : Int)) = false ∧ decide
      (IntKind.i64.wrap (bits BinOp.and IntKind.u16 (h.fdiv (1 : Int)) (7 : Int)) > (15 : Int)) = false ∧ decide (IntKind.i64.wrap (bits BinOp.and IntKind.u16 (h.fdiv (1 : Int))
      (7 : Int)) < (0 : Int)) = false ∧ decide (IntKind.i64.wrap (bits BinOp.and IntKind.u16 (h.fdiv (1 : Int)) (7 : Int)) > (15 : Int)) = false ∧ decide (IntKind.i64.wrap (bits
      BinOp.and IntKind.u16 (h.fdiv (8 : Int)) (7 : Int)) < (0 : Int)) = false ∧ decide (IntKind.i64.wrap (bits BinOp.and IntKind.u16 (h.fdiv (8 : Int)) (7 : Int)) > (15 : Int))
      = false ∧ true = true)))))))))))))) ∧ ((h.fdiv (4096 : Int) == (4 : Int)) = false → ((h.fdiv (4096 : Int) == (5 : Int)) = true → ((!bits BinOp.and IntKind.u16 (h.fdiv (512
      : Int)) (1 : Int) != (0 : Int)) = true → ((h.fdiv (4096 : Int) == (13 : Int)) = true → ((!decide (IntKind.i64.wrap (bits BinOp.and IntKind.u16 (h.fdiv (256 : Int)) (15 :
      Int)) < (14 : Int))) = true → decide (IntKind.i64.wrap (bits BinOp.and IntKind.u16 (h.fdiv (1 : Int)) (7 : Int)) < (0 : Int)) = false ∧ decide (IntKind.i64.wrap (bits
      BinOp.and IntKind.u16 (h.fdiv (1 : Int)) (7 : Int)) > (15 : Int)) = false ∧ decide (IntKind.i64.wrap (bits BinOp.and IntKind.u16 (h.fdiv (8 : Int)) (7 : Int)) < (0 : Int))
      = false ∧ decide (IntKind.i64.wrap (bits BinOp.and IntKind.u16 (h.fdiv (8 : Int)) (7 : Int)) > (15 : Int)) = false ∧ decide (IntKind.i64.wrap (bits BinOp.and IntKind.u16
      (h.fdiv (64 : Int)) (7 : Int)) < (0 : Int)) = false ∧ decide (IntKind.i64.wrap (bits BinOp.and IntKind.u16 (h.fdiv (64 : Int)) (7 : Int)) > (15 : Int)) = false ∧ true =
      true) ∧ ((!decide (IntKind.i64.wrap (bits BinOp.and IntKind.u16 (h.fdiv (256 : Int)) (15 : Int)) < (14 : Int))) = false → decide (IntKind.i64.wrap (bits BinOp.and
      IntKind.u16 (h.fdiv (1 : Int)) (7 : Int)) < (0 : Int)) = false ∧ decide (IntKind.i64.wrap (bits BinOp.and IntKind.u16 (h.fdiv (1 : Int)) (7 : Int)) > (15 : Int)) = false ∧
      decide (IntKind.i64.wrap (bits BinOp.and IntKind.u16 (h.fdiv (8 : Int)) (7 : Int)) < (0 : Int)) = false ∧ decide (IntKind.i64.wrap (bits BinOp.and IntKind.u16 (h.fdiv (8 :
      Int)) (7 : Int)) > (15 : Int)) = false ∧ decide (IntKind.i64.wrap (bits BinOp.and IntKind.u16 (h.fdiv (64 : Int)) (7 : Int)) < (0 : Int)) = false ∧ decide
      (IntKind.i64.wrap (bits BinOp.and IntKind.u16 (h.fdiv (64 : Int)) (7 : Int)) > (15 : Int)) = true ∧ false = true)) ∧ ((h.fdiv (4096 : Int) == (13 : Int)) = false → decide
      (IntKind.i64.wrap (bits BinOp.and IntKind.u16 (h.fdiv (1 : Int)) (7 : Int)) < (0 : Int)) = false ∧ decide (IntKind.i64.wrap (bits BinOp.and IntKind.u16 (h.fdiv (1 : Int))
      (7 : Int)) > (15 : Int)) = false ∧ decide (IntKind.i64.wrap (bits BinOp.and IntKind.u16 (h.fdiv (8 : Int)) (7 : Int)) < (0 : Int)) = false ∧ decide (IntKind.i64.wrap (bits
      BinOp.and IntKind.u16 (h.fdiv (8 : Int)) (7 : Int)) > (15 : Int)) = false ∧ decide (IntKind.i64.wrap (bits BinOp.and IntKind.u16 (h.fdiv (64 : Int)) (7 : Int)) < (0 :
      Int)) = false ∧ decide (IntKind.i64.wrap (bits BinOp.and IntKind.u16 (h.fdiv (64 : Int)) (7 : Int)) > (15 : Int)) = false ∧ true = true)) ∧ ((!bits BinOp.and IntKind.u16
      (h.fdiv (512 : Int)) (1 : Int) != (0 : Int)) = false → inB (IntKind.i64.wrap (bits BinOp.and IntKind.u16 (h.fdiv (1024 : Int)) (3 : Int))) (4 : Nat) = true ∧ ((h.fdiv
      (4096 : Int) == (13 : Int)) = true → ((!decide (IntKind.i64.wrap (bits BinOp.and IntKind.u16 (h.fdiv (256 : Int)) (15 : Int)) < (14 : Int))) = true → decide (selI [(1 :
      Int), (2 : Int), (1 : Int), (3 : Int)] (IntKind.i64.wrap (bits BinOp.and IntKind.u16 (h.fdiv (1024 : Int)) (3 : Int))) < (0 : Int)) = false ∧ decide (selI [(1 : Int), (2 :
      Int), (1 : Int), (3 : Int)] (IntKind.i64.wrap (bits BinOp.and IntKind.u16 (h.fdiv (1024 : Int)) (3 : Int))) > (15 : Int)) = false ∧ decide (IntKind.i64.wrap (bits
      BinOp.and IntKind.u16 (h.fdiv (1 : Int)) (7 : Int)) < (0 : Int)) = false ∧ decide (IntKind.i64.wrap (bits BinOp.and IntKind.u16 (h.fdiv (1 : Int)) (7 : Int)) > (15 : Int))
      = false ∧ decide (IntKind.i64.wrap (bits BinOp.and IntKind.u16 (h.fdiv (8 : Int)) (7 : Int)) < (0 : Int)) = false ∧ decide (IntKind.i64.wrap (bits BinOp.and IntKind.u16
      (h.fdiv (8 : Int)) (7 : Int)) > (15 : Int)) = false ∧ decide (IntKind.i64.wrap (bits BinOp.and IntKind.u16 (h.fdiv (64 : Int)) (7 : Int)) < (0 : Int)) = false ∧ decide
      (IntKind.i64.wrap (bits BinOp.and IntKind.u16 (h.fdiv (64 : Int)) (7 : Int)) > (15 : Int)) = false ∧ true = true) ∧ ((!decide (IntKind.i64.wrap (bits BinOp.and IntKind.u16
      (h.fdiv (256 : Int)) (15 : Int)) < (14 : Int))) = false → decide (selI [(1 : Int), (2 : Int), (1 : Int), (3 : Int)] (IntKind.i64.wrap (bits BinOp.and IntKind.u16 (h.fdiv
      (1024 : Int)) (3 : Int))) < (0 : Int)) = false ∧ decide (selI [(1 : Int), (2 : Int), (1 : Int), (3 : Int)] (IntKind.i64.wrap (bits BinOp.and IntKind.u16 (h.fdiv (1024 :
      Int)) (3 : Int))) > (15 : Int)) = false ∧ decide (IntKind.i64.wrap (bits BinOp.and IntKind.u16 (h.fdiv (1 : Int)) (7 : Int)) < (0 : Int)) = false ∧ decide
      (IntKind.i64.wrap (bits BinOp.and IntKind.u16 (h.fdiv (1 : Int)) (7 : Int)) > (15 : Int)) = false ∧ decide (IntKind.i64.wrap (bits BinOp.and IntKind.u16 (h.fdiv (8 : Int))
      (7 : Int)) < (0 : Int)) = false ∧ decide (IntKind.i64.wrap (bits BinOp.and IntKind.u16 (h.fdiv (8 : Int)) (7 : Int)) > (15 : Int)) = false ∧ decide (IntKind.i64.wrap (bits
      BinOp.and IntKind.u16 (h.fdiv (64 : Int)) (7 : Int)) < (0 : Int)) = false ∧ decide (IntKind.i64.wrap (bits BinOp.and IntKind.u16 (h.fdiv (64 : Int)) (7 : Int)) > (15 :
      Int)) = true ∧ false = true)) ∧ ((h.fdiv (4096 : Int) == (13 : Int)) = false → decide (selI [(1 : Int), (2 : Int), (1 : Int), (3 : Int)] (IntKind.i64.wrap (bits BinOp.and
      IntKind.u16 (h.fdiv (1024 : Int)) (3 : Int))) < (0 : Int)) = false ∧ decide (selI [(1 : Int), (2 : Int), (1 : Int), (3 : Int)] (IntKind.i64.wrap (bits BinOp.and
      IntKind.u16 (h.fdiv (1024 : Int)) (3 : Int))) > (15 : Int)) = false ∧ decide (IntKind.i64.wrap (bits BinOp.and IntKind.u16 (h.fdiv (1 : Int)) (7 : Int)) < (0 : Int)) =
      false ∧ decide (IntKind.i64.wrap (bits BinOp.and IntKind.u16 (h.fdiv (1 : Int)) (7 : Int)) > (15 : Int)) = false ∧ decide (IntKind.i64.wrap (bits BinOp.and IntKind.u16
      (h.fdiv (8 : Int)) (7 : Int)) < (0 : Int)) = false ∧ decide (IntKind.i64.wrap (bits BinOp.and IntKind.u16 (h.fdiv (8 : Int)) (7 : Int)) > (15 : Int)) = false ∧ decide
      (IntKind.i64.wrap (bits BinOp.and IntKind.u16 (h.fdiv (64 : Int)) (7 : Int)) < (0 : Int)) = false ∧ decide (IntKind.i64.wrap (bits BinOp.and IntKind.u16 (h.fdiv (64 :
      Int)) (7 : Int)) > (15 : Int)) = false ∧ true = true))) ∧ ((h.fdiv (4096 : Int) == (5 : Int)) = false → ((h.fdiv (4096 : Int) == (6 : Int)) = true → ((!bits BinOp.and
      IntKind.u16 (h.fdiv (4096 : Int)) (1 : Int) != (0 : Int)) = true → ((h.fdiv (4096 : Int) == (13 : Int)) = true → ((!decide (IntKind.i64.wrap (bits BinOp.and IntKind.u16
      (h.fdiv (256 : Int)) (15 : Int)) < (14 : Int))) = true → decide (IntKind.i64.wrap (bits BinOp.and IntKind.u16 (h.fdiv (1 : Int)) (7 : Int)) < (0 : Int)) = false ∧ decide
      (IntKind.i64.wrap (bits BinOp.and IntKind.u16 (h.fdiv (1 : Int)) (7 : Int)) > (15 : Int)) = false ∧ decide (IntKind.i64.wrap (bits BinOp.and IntKind.u16 (h.fdiv (8 : Int))
      (7 : Int)) < (0 : Int)) = false ∧ decide (IntKind.i64.wrap (bits BinOp.and IntKind.u16 (h.fdiv (8 : Int)) (7 : Int)) > (15 : Int)) = false ∧ true = true) ∧ ((!decide
      (IntKind.i64.wrap (bits BinOp.and IntKind.u16 (h.fdiv (256 : Int)) (15 : Int)) < (14 : Int))) = false → decide (IntKind.i64.wrap (bits BinOp.and IntKind.u16 (h.fdiv (1 :
      Int)) (7 : Int)) < (0 : Int)) = false ∧ decide (IntKind.i64.wrap (bits BinOp.and IntKind.u16 (h.fdiv (1 : Int)) (7 : Int)) > (15 : Int)) = false ∧ decide (IntKind.i64.wrap
      (bits BinOp.and IntKind.u16 (h.fdiv (8 : Int)) (7 : Int)) < (0 : Int)) = false ∧ decide (IntKind.i64.wrap (bits BinOp.and IntKind.u16 (h.fdiv (8 : Int)) (7 : Int)) > (15 :
      Int)) = true ∧ false = true)) ∧ ((h.fdiv (4096 : Int) == (13 : Int)) = false → decide (IntKind.i64.wrap (bits BinOp.and IntKind.u16 (h.fdiv (1 : Int)) (7 : Int)) < (0 :
      Int)) = false ∧ decide (IntKind.i64.wrap (bits BinOp.and IntKind.u16 (h.fdiv (1 : Int)) (7 : Int)) > (15 : Int)) = false ∧ decide (IntKind.i64.wrap (bits BinOp.and
      IntKind.u16 (h.fdiv (8 : Int)) (7 : Int)) < (0 : Int)) = false ∧ decide (IntKind.i64.wrap (bits BinOp.and IntKind.u16 (h.fdiv (8 : Int)) (7 : Int)) > (15 : Int)) = false ∧
      true = true)) ∧ ((!bits BinOp.and IntKind.u16 (h.fdiv (4096 : Int)) (1 : Int) != (0 : Int)) = false → ((h.fdiv (4096 : Int) == (13 : Int)) = true → ((!decide
      (IntKind.i64.wrap (bits BinOp.and IntKind.u16 (h.fdiv (256 : Int)) (15 : Int)) < (14 : Int))) = true → decide (IntKind.i64.wrap (bits BinOp.and IntKind.u16 (h.fdiv (1 :
      Int)) (7 : Int)) < (0 : Int)) = false ∧ decide (IntKind.i64.wrap (bits BinOp.and IntKind.u16 (h.fdiv (1 : Int)) (7 : Int)) > (15 : Int)) = false ∧ decide (IntKind.i64.wrap
      (bits BinOp.and IntKind.u16 (h.fdiv (8 : Int)) (7 : Int)) < (0 : Int)) = false ∧ decide (IntKind.i64.wrap (bits BinOp.and IntKind.u16 (h.fdiv (8 : Int)) (7 : Int)) > (15 :
      Int)) = false ∧ true = true) ∧ ((!decide (IntKind.i64.wrap (bits BinOp.and IntKind.u16 (h.fdiv (256 : Int)) (15 : Int)) < (14 : Int))) = false → decide (IntKind.i64.wrap
      (bits BinOp.and IntKind.u16 (h.fdiv (1 : Int)) (7 : Int)) < (0 : Int)) = false ∧ decide (IntKind.i64.wrap (bits BinOp.and IntKind.u16 (h.fdiv (1 : Int)) (7 : Int)) > (15 :
      Int)) = false ∧ decide (IntKind.i64.wrap (bits BinOp.and IntKind.u16 (h.fdiv (8 : Int)) (7 : Int)) < (0 : Int)) = false ∧ decide (IntKind.i64.wrap (bits BinOp.and
      IntKind.u16 (h.fdiv (8 : Int)) (7 : Int)) > (15 : Int)) = true ∧ false = true)) ∧ ((h.fdiv (4096 : Int) == (13 : Int)) = false → decide (IntKind.i64.wrap (bits BinOp.and
      IntKind.u16 (h.fdiv (1 : Int)) (7 : Int)) < (0 : Int)) = false ∧ decide (IntKind.i64.wrap (bits BinOp.and IntKind.u16 (h.fdiv (1 : Int)) (7 : Int)) > (15 : Int)) = false ∧
      decide (IntKind.i64.wrap (bits BinOp.and IntKind.u16 (h.fdiv (8 : Int)) (7 : Int)) < (0 : Int)) = false ∧ decide (IntKind.i64.wrap (bits BinOp.and IntKind.u16 (h.fdiv (8 :
      Int)) (7 : Int)) > (15 : Int)) = false ∧ true = true))) ∧ ((h.fdiv (4096 : Int) == (6 : Int)) = false → ((h.fdiv (4096 : Int) == (7 : Int)) = true → ((!bits BinOp.and
      IntKind.u16 (h.fdiv (4096 : Int)) (1 : Int) != (0 : Int)) = true → ((h.fdiv (4096 : Int) == (13 : Int)) = true → ((!decide (IntKind.i64.wrap (bits BinOp.and IntKind.u16
      (h.fdiv (256 : Int)) (15 : Int)) < (14 : Int))) = true → decide (IntKind.i64.wrap (bits BinOp.and IntKind.u16 (h.fdiv (1 : Int)) (7 : Int)) < (0 : Int)) = false ∧ decide
      (IntKind.i64.wrap (bits BinOp.and IntKind.u16 (h.fdiv (1 : Int)) (7 : Int)) > (15 : Int)) = false ∧ decide (IntKind.i64.wrap (bits BinOp.and IntKind.u16 (h.fdiv (8 : Int))
      (7 : Int)) < (0 : Int)) = false ∧ decide (IntKind.i64.wrap (bits BinOp.and IntKind.u16 (h.fdiv (8 : Int)) (7 : Int)) > (15 : Int)) = false ∧ true = true) ∧ ((!decide
      (IntKind.i64.wrap (bits BinOp.and IntKind.u16 (h.fdiv (256 : Int)) (15 : Int)) < (14 : Int))) = false → decide (IntKind.i64.wrap (bits BinOp.and IntKind.u16 (h.fdiv (1 :
      Int)) (7 : Int)) < (0 : Int)) = false ∧ decide (IntKind.i64.wrap (bits BinOp.and IntKind.u16 (h.fdiv (1 : Int)) (7 : Int)) > (15 : Int)) = false ∧ decide (IntKind.i64.wrap
      (bits BinOp.and IntKind.u16 (h.fdiv (8 : Int)) (7 : Int)) < (0 : Int)) = false ∧ decide (IntKind.i64.wrap (bits BinOp.and IntKind.u16 (h.fdiv (8 : Int)) (7 : Int)) > (15 :
      Int)) = true ∧ false = true)) ∧ ((h.fdiv (4096 : Int) == (13 : Int)) = false → decide (IntKind.i64.wrap (bits BinOp.and IntKind.u16 (h.fdiv (1 : Int)) (7 : Int)) < (0 :
      Int)) = false ∧ decide (IntKind.i64.wrap (bits BinOp.and IntKind.u16 (h.fdiv (1 : Int)) (7 : Int)) > (15 : Int)) = false ∧ decide (IntKind.i64.wrap (bits BinOp.and
      IntKind.u16 (h.fdiv (8 : Int)) (7 : Int)) < (0 : Int)) = false ∧ decide (IntKind.i64.wrap (bits BinOp.and IntKind.u16 (h.fdiv (8 : Int)) (7 : Int)) > (15 : Int)) = false ∧
      true = true)) ∧ ((!bits BinOp.and IntKind.u16 (h.fdiv (4096 : Int)) (1 : Int) != (0 : Int)) = false → ((h.fdiv (4096 : Int) == (13 : Int)) = true → ((!decide
      (IntKind.i64.wrap (bits BinOp.and IntKind.u16 (h.fdiv (256 : Int)) (15 : Int)) < (14 : Int))) = true → decide (IntKind.i64.wrap (bits BinOp.and IntKind.u16 (h.fdiv (1 :
      Int)) (7 : Int)) < (0 : Int)) = false ∧ decide (IntKind.i64.wrap (bits BinOp.and IntKind.u16 (h.fdiv (1 : Int)) (7 : Int)) > (15 : Int)) = false ∧ decide (IntKind.i64.wrap
      (bits BinOp.and IntKind.u16 (h.fdiv (8 : Int)) (7 : Int)) < (0 : Int)) = false ∧ decide (IntKind.i64.wrap (bits BinOp.and IntKind.u16 (h.fdiv (8 : Int)) (7 : Int)) > (15 :
      Int)) = false ∧ true = true) ∧ ((!decide (IntKind.i64.wrap (bits BinOp.and IntKind.u16 (h.fdiv (256 : Int)) (15 : Int)) < (14 : Int))) = false → decide (IntKind.i64.wrap
      (bits BinOp.and IntKind.u16 (h.fdiv (1 : Int)) (7 : Int)) < (0 : Int)) = false ∧ decide (IntKind.i64.wrap (bits BinOp.and IntKind.u16 (h.fdiv (1 : Int)) (7 : Int)) > (15 :
      Int)) = false ∧ decide (IntKind.i64.wrap (bits BinOp.and IntKind.u16 (h.fdiv (8 : Int)) (7 : Int)) < (0 : Int)) = false ∧ decide (IntKind.i64.wrap (bits BinOp.and
      IntKind.u16 (h.fdiv (8 : Int)) (7 : Int)) > (15 : Int)) = true ∧ false = true)) ∧ ((h.fdiv (4096 : Int) == (13 : Int)) = false → decide (IntKind.i64.wrap (bits BinOp.and
      IntKind.u16 (h.fdiv (1 : Int)) (7 : Int)) < (0 : Int)) = false ∧ decide (IntKind.i64.wrap (bits BinOp.and IntKind.u16 (h.fdiv (1 : Int)) (7 : Int)) > (15 : Int)) = false ∧
      decide (IntKind.i64.wrap (bits BinOp.and IntKind.u16 (h.fdiv (8 : Int)) (7 : Int)) < (0 : Int)) = false ∧ decide (IntKind.i64.wrap (bits BinOp.and IntKind.u16 (h.fdiv (8 :
      Int)) (7 : Int)) > (15 : Int)) = false ∧ true = true))) ∧ ((h.fdiv (4096 : Int) == (7 : Int)) = false → ((h.fdiv (4096 : Int) == (8 : Int)) = true → ((h.fdiv (4096 : Int)
      == (13 : Int)) = true → ((!decide (IntKind.i64.wrap (bits BinOp.and IntKind.u16 (h.fdiv (256 : Int)) (15 : Int)) < (14 : Int))) = true → decide (IntKind.i64.wrap (bits
      BinOp.and IntKind.u16 (h.fdiv (1 : Int)) (7 : Int)) < (0 : Int)) = false ∧ decide (IntKind.i64.wrap (bits BinOp.and IntKind.u16 (h.fdiv (1 : Int)) (7 : Int)) > (15 : Int))
      = false ∧ decide (IntKind.i64.wrap (bits BinOp.and IntKind.u16 (h.fdiv (8 : Int)) (7 : Int)) < (0 : Int)) = false ∧ decide (IntKind.i64.wrap (bits BinOp.and IntKind.u16
      (h.fdiv (8 : Int)) (7 : Int)) > (15 : Int)) = false ∧ true = true) ∧ ((!decide (IntKind.i64.wrap (bits BinOp.and IntKind.u16 (h.fdiv (256 : Int)) (15 : Int)) < (14 :
      Int))) = false → decide (IntKind.i64.wrap (bits BinOp.and IntKind.u16 (h.fdiv (1 : Int)) (7 : Int)) < (0 : Int)) = false ∧ decide (IntKind.i64.wrap (bits BinOp.and
      IntKind.u16 (h.fdiv (1 : Int)) (7 : Int)) > (15 : Int)) = false ∧ decide (IntKind.i64.wrap (bits BinOp.and IntKind.u16 (h.fdiv (8 : Int)) (7 : Int)) < (0 : Int)) = false ∧
      decide (IntKind.i64.wrap (bits BinOp.and IntKind.u16 (h.fdiv (8 : Int)) (7 : Int)) > (15 : Int)) = true ∧ false = true)) ∧ ((h.fdiv (4096 : Int) == (13 : Int)) = false →
      decide (IntKind.i64.wrap (bits BinOp.and IntKind.u16 (h.fdiv (1 : Int)) (7 : Int)) < (0 : Int)) = false ∧ decide (IntKind.i64.wrap (bits BinOp.and IntKind.u16 (h.fdiv (1 :
      Int)) (7 : Int)) > (15 : Int)) = false ∧ decide (IntKind.i64.wrap (bits BinOp.and IntKind.u16 (h.fdiv (8 : Int)) (7 : Int)) < (0 : Int)) = false ∧ decide (IntKind.i64.wrap
      (bits BinOp.and IntKind.u16 (h.fdiv (8 : Int)) (7 : Int)) > (15 : Int)) = false ∧ true = true)) ∧ ((h.fdiv (4096 : Int) == (8 : Int)) = false → ((h.fdiv (4096 : Int) == (9
      : Int)) = true → ((h.fdiv (4096 : Int) == (13 : Int)) = true → ((!decide (IntKind.i64.wrap (bits BinOp.and IntKind.u16 (h.fdiv (256 : Int)) (15 : Int)) < (14 : Int))) =
      true → decide (IntKind.i64.wrap (bits BinOp.and IntKind.u16 (h.fdiv (256 : Int)) (7 : Int)) < (0 : Int)) = false ∧ decide (IntKind.i64.wrap (bits BinOp.and IntKind.u16
      (h.fdiv (256 : Int)) (7 : Int)) > (15 : Int)) = false ∧ true = true) ∧ ((!decide (IntKind.i64.wrap (bits BinOp.and IntKind.u16 (h.fdiv (256 : Int)) (15 : Int)) < (14 :
      Int))) = false → decide (IntKind.i64.wrap (bits BinOp.and IntKind.u16 (h.fdiv (256 : Int)) (7 : Int)) < (0 : Int)) = false ∧ decide (IntKind.i64.wrap (bits BinOp.and
      IntKind.u16 (h.fdiv (256 : Int)) (7 : Int)) > (15 : Int)) = true ∧ false = true)) ∧ ((h.fdiv (4096 : Int) == (13 : Int)) = false → decide (IntKind.i64.wrap (bits BinOp.and
      IntKind.u16 (h.fdiv (256 : Int)) (7 : Int)) < (0 : Int)) = false ∧ decide (IntKind.i64.wrap (bits BinOp.and IntKind.u16 (h.fdiv (256 : Int)) (7 : Int)) > (15 : Int)) =
      false ∧ true = true)) ∧ ((h.fdiv (4096 : Int) == (9 : Int)) = false → ((h.fdiv (4096 : Int) == (10 : Int)) = true → ((bits BinOp.and IntKind.u16 (h.fdiv (2048 : Int)) (1 :
      Int) != (0 : Int)) = true → ((h.fdiv (4096 : Int) == (13 : Int)) = true → ((!decide (IntKind.i64.wrap (bits BinOp.and IntKind.u16 (h.fdiv (256 : Int)) (15 : Int)) < (14 :
      Int))) = true → decide (IntKind.i64.wrap (bits BinOp.and IntKind.u16 (h.fdiv (256 : Int)) (7 : Int)) < (0 : Int)) = false ∧ decide (IntKind.i64.wrap (bits BinOp.and
      IntKind.u16 (h.fdiv (256 : Int)) (7 : Int)) > (15 : Int)) = false ∧ true = true) ∧ ((!decide (IntKind.i64.wrap (bits BinOp.and IntKind.u16 (h.fdiv (256 : Int)) (15 : Int))
      < (14 : Int))) = false → decide (IntKind.i64.wrap (bits BinOp.and IntKind.u16 (h.fdiv (256 : Int)) (7 : Int)) < (0 : Int)) = false ∧ decide (IntKind.i64.wrap (bits
      BinOp.and IntKind.u16 (h.fdiv (256 : Int)) (7 : Int)) > (15 : Int)) = true ∧ false = true)) ∧ ((h.fdiv (4096 : Int) == (13 : Int)) = false → decide (IntKind.i64.wrap (bits
      BinOp.and IntKind.u16 (h.fdiv (256 : Int)) (7 : Int)) < (0 : Int)) = false ∧ decide (IntKind.i64.wrap (bits BinOp.and IntKind.u16 (h.fdiv (256 : Int)) (7 : Int)) > (15 :
      Int)) = false ∧ true = true)) ∧ ((bits BinOp.and IntKind.u16 (h.fdiv (2048 : Int)) (1 : Int) != (0 : Int)) = false → ((h.fdiv (4096 : Int) == (13 : Int)) = true →
      ((!decide (IntKind.i64.wrap (bits BinOp.and IntKind.u16 (h.fdiv (256 : Int)) (15 : Int)) < (14 : Int))) = true → decide (IntKind.i64.wrap (bits BinOp.and IntKind.u16
      (h.fdiv (256 : Int)) (7 : Int)) < (0 : Int)) = false ∧ decide (IntKind.i64.wrap (bits BinOp.and IntKind.u16 (h.fdiv (256 : Int)) (7 : Int)) > (15 : Int)) = false ∧ true =
      true) ∧ ((!decide (IntKind.i64.wrap (bits BinOp.and IntKind.u16 (h.fdiv (256 : Int)) (15 : Int)) < (14 : Int))) = false → decide (IntKind.i64.wrap (bits BinOp.and
      IntKind.u16 (h.fdiv (256 : Int)) (7 : Int)) < (0 : Int)) = false ∧ decide (IntKind.i64.wrap (bits BinOp.and IntKind.u16 (h.fdiv (256 : Int)) (7 : Int)) > (15 : Int)) =
      true ∧ false = true)) ∧ ((h.fdiv (4096 : Int) == (13 : Int)) = false → decide (IntKind.i64.wrap (bits BinOp.and IntKind.u16 (h.fdiv (256 : Int)) (7 : Int)) < (0 : Int)) =
      false ∧ decide (IntKind.i64.wrap (bits BinOp.and IntKind.u16 (h.fdiv (256 : Int)) (7 : Int)) > (15 : Int)) = false ∧ true = true))) ∧ ((h.fdiv (4096 : Int) == (10 : Int))
      = false → ((h.fdiv (4096 : Int) == (11 : Int)) = true → ((IntKind.i64.wrap (bits BinOp.and IntKind.u16 (h.fdiv (256 : Int)) (15 : Int)) == (0 : Int)) = true → ((bits
      BinOp.and IntKind.u16 (h.fdiv (128 : Int)) (1 : Int) != (0 : Int)) = true → ((h.fdiv (4096 : Int) == (13 : Int)) = true → (!decide (IntKind.i64.wrap (bits BinOp.and
      IntKind.u16 (h.fdiv (256 : Int)) (15 : Int)) < (14 : Int))) = true ∧ true = true) ∧ ((h.fdiv (4096 : Int) == (13 : Int)) = false → true = true)) ∧ ((bits BinOp.and
      IntKind.u16 (h.fdiv (128 : Int)) (1 : Int) != (0 : Int)) = false → ((h.fdiv (4096 : Int) == (13 : Int)) = true → (!decide (IntKind.i64.wrap (bits BinOp.and IntKind.u16
      (h.fdiv (256 : Int)) (15 : Int)) < (14 : Int))) = true ∧ true = true) ∧ ((h.fdiv (4096 : Int) == (13 : Int)) = false → true = true))) ∧ ((IntKind.i64.wrap (bits BinOp.and
      IntKind.u16 (h.fdiv (256 : Int)) (15 : Int)) == (0 : Int)) = false → ((IntKind.i64.wrap (bits BinOp.and IntKind.u16 (h.fdiv (256 : Int)) (15 : Int)) == (4 : Int)) = true →
      ((h.fdiv (4096 : Int) == (13 : Int)) = true → (!decide (IntKind.i64.wrap (bits BinOp.and IntKind.u16 (h.fdiv (256 : Int)) (15 : Int)) < (14 : Int))) = true ∧ decide (bits
      BinOp.or IntKind.i64 (IntKind.i64.wrap (bits BinOp.and IntKind.u16 (h.fdiv (1 : Int)) (255 : Int))) (IntKind.i64.wrap (IntKind.i64.wrap (bits BinOp.and IntKind.u16 (h.fdiv
      (256 : Int)) (1 : Int)) * (16384 : Int))) ≥ (0 : Int)) = true ∧ decide (bits BinOp.or IntKind.i64 (IntKind.i64.wrap (bits BinOp.and IntKind.u16 (h.fdiv (1 : Int)) (255 :
      Int))) (IntKind.i64.wrap (IntKind.i64.wrap (bits BinOp.and IntKind.u16 (h.fdiv (256 : Int)) (1 : Int)) * (16384 : Int))) < (65536 : Int)) = true ∧ true = true) ∧ ((h.fdiv
      (4096 : Int) == (13 : Int)) = false → decide (bits BinOp.or IntKind.i64 (IntKind.i64.wrap (bits BinOp.and IntKind.u16 (h.fdiv (1 : Int)) (255 : Int))) (IntKind.i64.wrap
      (IntKind.i64.wrap (bits BinOp.and IntKind.u16 (h.fdiv (256 : Int)) (1 : Int)) * (16384 : Int))) ≥ (0 : Int)) = true ∧ decide (bits BinOp.or IntKind.i64 (IntKind.i64.wrap
      (bits BinOp.and IntKind.u16 (h.fdiv (1 : Int)) (255 : Int))) (IntKind.i64.wrap (IntKind.i64.wrap (bits BinOp.and IntKind.u16 (h.fdiv (256 : Int)) (1 : Int)) * (16384 :
      Int))) < (65536 : Int)) = true ∧ true = true)) ∧ ((IntKind.i64.wrap (bits BinOp.and IntKind.u16 (h.fdiv (256 : Int)) (15 : Int)) == (4 : Int)) = false → ((IntKind.i64.wrap
      (bits BinOp.and IntKind.u16 (h.fdiv (256 : Int)) (15 : Int)) == (5 : Int)) = true → ((h.fdiv (4096 : Int) == (13 : Int)) = true → (!decide (IntKind.i64.wrap (bits
      BinOp.and IntKind.u16 (h.fdiv (256 : Int)) (15 : Int)) < (14 : Int))) = true ∧ decide (bits BinOp.or IntKind.i64 (IntKind.i64.wrap (bits BinOp.and IntKind.u16 (h.fdiv (1 :
      Int)) (255 : Int))) (IntKind.i64.wrap (IntKind.i64.wrap (bits BinOp.and IntKind.u16 (h.fdiv (256 : Int)) (1 : Int)) * (16384 : Int))) ≥ (0 : Int)) = true ∧ decide (bits
      BinOp.or IntKind.i64 (IntKind.i64.wrap (bits BinOp.and IntKind.u16 (h.fdiv (1 : Int)) (255 : Int))) (IntKind.i64.wrap (IntKind.i64.wrap (bits BinOp.and IntKind.u16 (h.fdiv
      (256 : Int)) (1 : Int)) * (16384 : Int))) < (65536 : Int)) = true ∧ true = true) ∧ ((h.fdiv (4096 : Int) == (13 : Int)) = false → decide (bits BinOp.or IntKind.i64
      (IntKind.i64.wrap (bits BinOp.and IntKind.u16 (h.fdiv (1 : Int)) (255 : Int))) (IntKind.i64.wrap (IntKind.i64.wrap (bits BinOp.and IntKind.u16 (h.fdiv (256 : Int)) (1 :
      Int)) * (16384 : Int))) ≥ (0 : Int)) = true ∧ decide (bits BinOp.or IntKind.i64 (IntKind.i64.wrap (bits BinOp.and IntKind.u16 (h.fdiv (1 : Int)) (255 : Int)))
      (IntKind.i64.wrap (IntKind.i64.wrap (bits BinOp.and IntKind.u16 (h.fdiv (256 : Int)) (1 : Int)) * (16384 : Int))) < (65536 : Int)) = true ∧ true = true)) ∧
      ((IntKind.i64.wrap (bits BinOp.and IntKind.u16 (h.fdiv (256 : Int)) (15 : Int)) == (5 : Int)) = false → ((IntKind.i64.wrap (bits BinOp.and IntKind.u16 (h.fdiv (256 : Int))
      (15 : Int)) == (12 : Int)) = true → ((h.fdiv (4096 : Int) == (13 : Int)) = true → (!decide (IntKind.i64.wrap (bits BinOp.and IntKind.u16 (h.fdiv (256 : Int)) (15 : Int)) <
      (14 : Int))) = true ∧ decide (bits BinOp.or IntKind.i64 (IntKind.i64.wrap (bits BinOp.and IntKind.u16 (h.fdiv (1 : Int)) (255 : Int))) (IntKind.i64.wrap (IntKind.i64.wrap
      (bits BinOp.and IntKind.u16 (h.fdiv (256 : Int)) (1 : Int)) * (32768 : Int))) ≥ (0 : Int)) = true ∧ decide (bits BinOp.or IntKind.i64 (IntKind.i64.wrap (bits BinOp.and
      IntKind.u16 (h.fdiv (1 : Int)) (255 : Int))) (IntKind.i64.wrap (IntKind.i64.wrap (bits BinOp.and IntKind.u16 (h.fdiv (256 : Int)) (1 : Int)) * (32768 : Int))) < (65536 :
      Int)) = true ∧ true = true) ∧ ((h.fdiv (4096 : Int) == (13 : Int)) = false → decide (bits BinOp.or IntKind.i64 (IntKind.i64.wrap (bits BinOp.and IntKind.u16 (h.fdiv (1 :
      Int)) (255 : Int))) (IntKind.i64.wrap (IntKind.i64.wrap (bits BinOp.and IntKind.u16 (h.fdiv (256 : Int)) (1 : Int)) * (32768 : Int))) ≥ (0 : Int)) = true ∧ decide (bits
      BinOp.or IntKind.i64 (IntKind.i64.wrap (bits BinOp.and IntKind.u16 (h.fdiv (1 : Int)) (255 : Int))) (IntKind.i64.wrap (IntKind.i64.wrap (bits BinOp.and IntKind.u16 (h.fdiv
      (256 : Int)) (1 : Int)) * (32768 : Int))) < (65536 : Int)) = true ∧ true = true)) ∧ ((IntKind.i64.wrap (bits BinOp.and IntKind.u16 (h.fdiv (256 : Int)) (15 : Int)) == (12
      : Int)) = false → ((IntKind.i64.wrap (bits BinOp.and IntKind.u16 (h.fdiv (256 : Int)) (15 : Int)) == (13 : Int)) = true → ((h.fdiv (4096 : Int) == (13 : Int)) = true →
      (!decide (IntKind.i64.wrap (bits BinOp.and IntKind.u16 (h.fdiv (256 : Int)) (15 : Int)) < (14 : Int))) = true ∧ decide (bits BinOp.or IntKind.i64 (IntKind.i64.wrap (bits
      BinOp.and IntKind.u16 (h.fdiv (1 : Int)) (255 : Int))) (IntKind.i64.wrap (IntKind.i64.wrap (bits BinOp.and IntKind.u16 (h.fdiv (256 : Int)) (1 : Int)) * (32768 : Int))) ≥
      (0 : Int)) = true ∧ decide (bits BinOp.or IntKind.i64 (IntKind.i64.wrap (bits BinOp.and IntKind.u16 (h.fdiv (1 : Int)) (255 : Int))) (IntKind.i64.wrap (IntKind.i64.wrap
      (bits BinOp.and IntKind.u16 (h.fdiv (256 : Int)) (1 : Int)) * (32768 : Int))) < (65536 : Int)) = true ∧ true = true) ∧ ((h.fdiv (4096 : Int) == (13 : Int)) = false →
      decide (bits BinOp.or IntKind.i64 (IntKind.i64.wrap (bits BinOp.and IntKind.u16 (h.fdiv (1 : Int)) (255 : Int))) (IntKind.i64.wrap (IntKind.i64.wrap (bits BinOp.and
      IntKind.u16 (h.fdiv (256 : Int)) (1 : Int)) * (32768 : Int))) ≥ (0 : Int)) = true ∧ decide (bits BinOp.or IntKind.i64 (IntKind.i64.wrap (bits BinOp.and IntKind.u16 (h.fdiv
      (1 : Int)) (255 : Int))) (IntKind.i64.wrap (IntKind.i64.wrap (bits BinOp.and IntKind.u16 (h.fdiv (256 : Int)) (1 : Int)) * (32768 : Int))) < (65536 : Int)) = true ∧ true =
      true)) ∧ ((IntKind.i64.wrap (bits BinOp.and IntKind.u16 (h.fdiv (256 : Int)) (15 : Int)) == (13 : Int)) = false → ((h.fdiv (4096 : Int) == (13 : Int)) = true → (!decide
      (IntKind.i64.wrap (bits BinOp.and IntKind.u16 (h.fdiv (256 : Int)) (15 : Int)) < (14 : Int))) = true ∧ true = true) ∧ ((h.fdiv (4096 : Int) == (13 : Int)) = false → true =
      true))))))) ∧ ((h.fdiv (4096 : Int) == (11 : Int)) = false → ((h.fdiv (4096 : Int) == (12 : Int)) = true → ((h.fdiv (4096 : Int) == (13 : Int)) = true → ((!decide
      (IntKind.i64.wrap (bits BinOp.and IntKind.u16 (h.fdiv (256 : Int)) (15 : Int)) < (14 : Int))) = true → decide (IntKind.i64.wrap (bits BinOp.and IntKind.u16 (h.fdiv (256 :
      Int)) (7 : Int)) < (0 : Int)) = false ∧ decide (IntKind.i64.wrap (bits BinOp.and IntKind.u16 (h.fdiv (256 : Int)) (7 : Int)) > (15 : Int)) = false ∧ decide
      (IntKind.i64.wrap (bits BinOp.and IntKind.u16 (h.fdiv (1 : Int)) (255 : Int)) ≥ (0 : Int)) = true ∧ decide (IntKind.i64.wrap (bits BinOp.and IntKind.u16 (h.fdiv (1 : Int))
      (255 : Int)) < (65536 : Int)) = true ∧ true = true) ∧ ((!decide (IntKind.i64.wrap (bits BinOp.and IntKind.u16 (h.fdiv (256 : Int)) (15 : Int)) < (14 : Int))) = false →
      decide (IntKind.i64.wrap (bits BinOp.and IntKind.u16 (h.fdiv (256 : Int)) (7 : Int)) < (0 : Int)) = false ∧ decide (IntKind.i64.wrap (bits BinOp.and IntKind.u16 (h.fdiv
      (256 : Int)) (7 : Int)) > (15 : Int)) = true ∧ false = true)) ∧ ((h.fdiv (4096 : Int) == (13 : Int)) = false → decide (IntKind.i64.wrap (bits BinOp.and IntKind.u16 (h.fdiv
      (256 : Int)) (7 : Int)) < (0 : Int)) = false ∧ decide (IntKind.i64.wrap (bits BinOp.and IntKind.u16 (h.fdiv (256 : Int)) (7 : Int)) > (15 : Int)) = false ∧ decide
      (IntKind.i64.wrap (bits BinOp.and IntKind.u16 (h.fdiv (1 : Int)) (255 : Int)) ≥ (0 : Int)) = true ∧ decide (IntKind.i64.wrap (bits BinOp.and IntKind.u16 (h.fdiv (1 : Int))
      (255 : Int)) < (65536 : Int)) = true ∧ true = true)) ∧ ((h.fdiv (4096 : Int) == (12 : Int)) = false → ((h.fdiv (4096 : Int) == (13 : Int)) = true → ((h.fdiv (4096 : Int)
      == (13 : Int)) = true → (decide (IntKind.i64.wrap (bits BinOp.and IntKind.u16 (h.fdiv (256 : Int)) (15 : Int)) < (14 : Int)) = true → ((h.fdiv (4096 : Int) == (13 : Int))
      = true → ((!decide (IntKind.i64.wrap (bits BinOp.and IntKind.u16 (h.fdiv (256 : Int)) (15 : Int)) < (14 : Int))) = true → true = true) ∧ ((!decide (IntKind.i64.wrap (bits
      BinOp.and IntKind.u16 (h.fdiv (256 : Int)) (15 : Int)) < (14 : Int))) = false → decide (IntKind.i64.wrap (bits BinOp.and IntKind.u16 (h.fdiv (256 : Int)) (15 : Int)) < (0
      : Int)) = false ∧ decide (IntKind.i64.wrap (bits BinOp.and IntKind.u16 (h.fdiv (256 : Int)) (15 : Int)) > (15 : Int)) = false ∧ ((IntKind.i64.wrap (bits BinOp.and
      IntKind.u16 (h.fdiv (256 : Int)) (15 : Int)) == (14 : Int)) = true → true = true) ∧ ((IntKind.i64.wrap (bits BinOp.and IntKind.u16 (h.fdiv (256 : Int)) (15 : Int)) == (14
      : Int)) = false → decide (IntKind.i64.wrap (bits BinOp.and IntKind.u16 (h.fdiv (256 : Int)) (15 : Int)) < (14 : Int)) = true ∧ true = true))) ∧ ((h.fdiv (4096 : Int) ==
      (13 : Int)) = false → true = true)) ∧ (decide (IntKind.i64.wrap (bits BinOp.and IntKind.u16 (h.fdiv (256 : Int)) (15 : Int)) < (14 : Int)) = false → ((bits BinOp.and
      IntKind.u16 (h.fdiv (256 : Int)) (1 : Int) != (0 : Int)) = true → ((h.fdiv (4096 : Int) == (13 : Int)) = true → (!decide (IntKind.i64.wrap (bits BinOp.and IntKind.u16
      (h.fdiv (256 : Int)) (15 : Int)) < (14 : Int))) = true ∧ true = true) ∧ ((h.fdiv (4096 : Int) == (13 : Int)) = false → true = true)) ∧ ((bits BinOp.and IntKind.u16 (h.fdiv
      (256 : Int)) (1 : Int) != (0 : Int)) = false → ((h.fdiv (4096 : Int) == (13 : Int)) = true → (!decide (IntKind.i64.wrap (bits BinOp.and IntKind.u16 (h.fdiv (256 : Int))
      (15 : Int)) < (14 : Int))) = true ∧ true = true) ∧ ((h.fdiv (4096 : Int) == (13 : Int)) = false → true = true)))) ∧ ((h.fdiv (4096 : Int) == (13 : Int)) = false → ((bits
      BinOp.and IntKind.u16 (h.fdiv (256 : Int)) (1 : Int) != (0 : Int)) = true → ((h.fdiv (4096 : Int) == (13 : Int)) = true → (!decide (IntKind.i64.wrap (bits BinOp.and
      IntKind.u16 (h.fdiv (256 : Int)) (15 : Int)) < (14 : Int))) = true ∧ true = true) ∧ ((h.fdiv (4096 : Int) == (13 : Int)) = false → true = true)) ∧ ((bits BinOp.and
      IntKind.u16 (h.fdiv (256 : Int)) (1 : Int) != (0 : Int)) = false → ((h.fdiv (4096 : Int) == (13 : Int)) = true → (!decide (IntKind.i64.wrap (bits BinOp.and IntKind.u16
      (h.fdiv (256 : Int)) (15 : Int)) < (14 : Int))) = true ∧ true = true) ∧ ((h.fdiv (4096 : Int) == (13 : Int)) = false → true = true)))) ∧ ((h.fdiv (4096 : Int) == (13 :
      Int)) = false → ((IntKind.i64.wrap (bits BinOp.and IntKind.u16 (h.fdiv (2048 : Int)) (3 : Int)) == (0 : Int)) = true → ((h.fdiv (4096 : Int) == (13 : Int)) = true →
      ((!decide (IntKind.i64.wrap (bits BinOp.and IntKind.u16 (h.fdiv (256 : Int)) (15 : Int)) < (14 : Int))) = true → true = true) ∧ ((!decide (IntKind.i64.wrap (bits BinOp.and
      IntKind.u16 (h.fdiv (256 : Int)) (15 : Int)) < (14 : Int))) = false → true = true)) ∧ ((h.fdiv (4096 : Int) == (13 : Int)) = false → true = true)) ∧ ((IntKind.i64.wrap
      (bits BinOp.and IntKind.u16 (h.fdiv (2048 : Int)) (3 : Int)) == (0 : Int)) = false → ((IntKind.i64.wrap (bits BinOp.and IntKind.u16 (h.fdiv (2048 : Int)) (3 : Int)) == (2
      : Int)) = true → ((h.fdiv (4096 : Int) == (13 : Int)) = true → (!decide (IntKind.i64.wrap (bits BinOp.and IntKind.u16 (h.fdiv (256 : Int)) (15 : Int)) < (14 : Int))) =
      true ∧ true = true) ∧ ((h.fdiv (4096 : Int) == (13 : Int)) = false → true = true)) ∧ ((IntKind.i64.wrap (bits BinOp.and IntKind.u16 (h.fdiv (2048 : Int)) (3 : Int)) == (2
      : Int)) = false → ((IntKind.i64.wrap (bits BinOp.and IntKind.u16 (h.fdiv (2048 : Int)) (3 : Int)) == (3 : Int)) = true → ((h.fdiv (4096 : Int) == (13 : Int)) = true →
      (!decide (IntKind.i64.wrap (bits BinOp.and IntKind.u16 (h.fdiv (256 : Int)) (15 : Int)) < (14 : Int))) = true ∧ true = true) ∧ ((h.fdiv (4096 : Int) == (13 : Int)) = false
      → true = true)) ∧ ((IntKind.i64.wrap (bits BinOp.and IntKind.u16 (h.fdiv (2048 : Int)) (3 : Int)) == (3 : Int)) = false → ((h.fdiv (4096 : Int) == (13 : Int)) = true →
      (!decide (IntKind.i64.wrap (bits BinOp.and IntKind.u16 (h.fdiv (256 : Int)) (15 : Int)) < (14 : Int))) = true ∧ true = true) ∧ ((h.fdiv (4096 : Int) == (13 : Int)) = false
      → true = true))))))))))))))))))) := by kernel_rfl
end Go.Proofs.Ytpfdemmoapjjpaa

