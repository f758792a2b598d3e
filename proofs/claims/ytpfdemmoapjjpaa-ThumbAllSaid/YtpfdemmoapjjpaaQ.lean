import Derived.Test.YtpfdemmoapjjpaaF
set_option linter.unusedVariables false
set_option linter.unusedSimpArgs false
namespace Go.Proofs.Ytpfdemmoapjjpaa
open Go Go.Proofs Go.Proofs.Ytpfdemmoapjjpaa.Ev
set_option maxRecDepth 100000
/-- Of each way's answer. -/
def conR (R : SV → Prop) : Tree (SV × SW) → Prop
  | .leaf (v, _) => R v
  | .node b t f => (b = true → conR R t) ∧ (b = false → conR R f)
  | .need b t => b = true ∧ conR R t
  | .fail => False
theorem conR_con {l : SV} : ∀ {t : Tree (SV × SW)}, conR (fun v => SV.sim v l) t → conP l t
  | .leaf (v, _), h => h
  | .node b t f, h => ⟨fun e => conR_con (h.1 e), fun e => conR_con (h.2 e)⟩
  | .need b t, h => ⟨h.1, conR_con h.2⟩
  | .fail, h => h.elim
abbrev z0 : C := C.i true IntKind.i64 (0 : Int)
abbrev zf : C := C.b true false
def ff (h a m : Int) : Int := IntKind.i64.wrap (bits BinOp.and IntKind.u16 (h.fdiv a) m)
theorem nT {b : Bool} {p : Prop} (h : b = true) : b = false → p := fun e => by rw [h] at e; cases e
theorem nF {b : Bool} {p : Prop} (h : b = false) : b = true → p := fun e => by rw [h] at e; cases e
theorem prog_p (E : World) (h : Int) (R : SV → Prop) :
    (conR R (fnTree (pe E) (orcA E) (tabL fns) 20000 Try.f7 [.c (.i false .u16 h)] [])) =
    (((h.fdiv (4096 : Int) == (0 : Int)) = true → ((ff h 2048 3 != (3 : Int)) = true → ((h.fdiv (4096 : Int) == (13 : Int)) = true → ((!decide (ff h 256 15 < (14 : Int))) =
      true → R (SV.a [C.i true IntKind.i64 (1 : Int), C.i true IntKind.i64 (14 : Int), C.i true IntKind.i64 (13 : Int), C.b true true, C.i false IntKind.i64 (ff h 1 7), z0, z0,
      C.i false IntKind.i64 (ff h 8 7), C.i true IntKind.u32 (0 : Int), zf, C.i false IntKind.i64 (ff h 2048 3), C.i false IntKind.i64 (ff h 64 31), zf, zf, zf, zf, zf, zf, zf,
      zf, z0, zf, zf, zf])) ∧ ((!decide (ff h 256 15 < (14 : Int))) = false → R (SV.a [C.i true IntKind.i64 (1 : Int), z0, C.i true IntKind.i64 (13 : Int), C.b true true, C.i
      false IntKind.i64 (ff h 1 7), z0, z0, C.i false IntKind.i64 (ff h 8 7), C.i true IntKind.u32 (0 : Int), zf, C.i false IntKind.i64 (ff h 2048 3), C.i false IntKind.i64 (ff
      h 64 31), zf, zf, zf, zf, zf, zf, zf, zf, z0, zf, zf, zf]))) ∧ ((h.fdiv (4096 : Int) == (13 : Int)) = false → R (SV.a [C.i true IntKind.i64 (1 : Int), C.i true IntKind.i64
      (14 : Int), C.i true IntKind.i64 (13 : Int), C.b true true, C.i false IntKind.i64 (ff h 1 7), z0, z0, C.i false IntKind.i64 (ff h 8 7), C.i true IntKind.u32 (0 : Int), zf,
      C.i false IntKind.i64 (ff h 2048 3), C.i false IntKind.i64 (ff h 64 31), zf, zf, zf, zf, zf, zf, zf, zf, z0, zf, zf, zf]))) ∧ ((ff h 2048 3 != (3 : Int)) = false → ((bits
      BinOp.and IntKind.u16 (h.fdiv (512 : Int)) (1 : Int) != (0 : Int)) = true → ((bits BinOp.and IntKind.u16 (h.fdiv (1024 : Int)) (1 : Int) != (0 : Int)) = true → ((h.fdiv
      (4096 : Int) == (13 : Int)) = true → ((!decide (ff h 256 15 < (14 : Int))) = true → R (SV.a [C.i true IntKind.i64 (1 : Int), C.i true IntKind.i64 (14 : Int), C.i true
      IntKind.i64 (2 : Int), C.b true true, C.i false IntKind.i64 (ff h 1 7), C.i false IntKind.i64 (ff h 8 7), z0, z0, C.i false IntKind.u32 (IntKind.u32.wrap (ff h 64 7)), C.b
      true true, z0, z0, zf, zf, zf, zf, zf, zf, zf, zf, z0, zf, zf, zf])) ∧ ((!decide (ff h 256 15 < (14 : Int))) = false → R (SV.a [C.i true IntKind.i64 (1 : Int), z0, C.i
      true IntKind.i64 (2 : Int), C.b true true, C.i false IntKind.i64 (ff h 1 7), C.i false IntKind.i64 (ff h 8 7), z0, z0, C.i false IntKind.u32 (IntKind.u32.wrap (ff h 64
      7)), C.b true true, z0, z0, zf, zf, zf, zf, zf, zf, zf, zf, z0, zf, zf, zf]))) ∧ ((h.fdiv (4096 : Int) == (13 : Int)) = false → R (SV.a [C.i true IntKind.i64 (1 : Int),
      C.i true IntKind.i64 (14 : Int), C.i true IntKind.i64 (2 : Int), C.b true true, C.i false IntKind.i64 (ff h 1 7), C.i false IntKind.i64 (ff h 8 7), z0, z0, C.i false
      IntKind.u32 (IntKind.u32.wrap (ff h 64 7)), C.b true true, z0, z0, zf, zf, zf, zf, zf, zf, zf, zf, z0, zf, zf, zf]))) ∧ ((bits BinOp.and IntKind.u16 (h.fdiv (1024 : Int))
      (1 : Int) != (0 : Int)) = false → ((h.fdiv (4096 : Int) == (13 : Int)) = true → ((!decide (ff h 256 15 < (14 : Int))) = true → R (SV.a [C.i true IntKind.i64 (1 : Int), C.i
      true IntKind.i64 (14 : Int), C.i true IntKind.i64 (2 : Int), C.b true true, C.i false IntKind.i64 (ff h 1 7), C.i false IntKind.i64 (ff h 8 7), z0, C.i false IntKind.i64
      (ff h 64 7), C.i true IntKind.u32 (0 : Int), zf, z0, z0, zf, zf, zf, zf, zf, zf, zf, zf, z0, zf, zf, zf])) ∧ ((!decide (ff h 256 15 < (14 : Int))) = false → R (SV.a [C.i
      true IntKind.i64 (1 : Int), z0, C.i true IntKind.i64 (2 : Int), C.b true true, C.i false IntKind.i64 (ff h 1 7), C.i false IntKind.i64 (ff h 8 7), z0, C.i false
      IntKind.i64 (ff h 64 7), C.i true IntKind.u32 (0 : Int), zf, z0, z0, zf, zf, zf, zf, zf, zf, zf, zf, z0, zf, zf, zf]))) ∧ ((h.fdiv (4096 : Int) == (13 : Int)) = false → R
      (SV.a [C.i true IntKind.i64 (1 : Int), C.i true IntKind.i64 (14 : Int), C.i true IntKind.i64 (2 : Int), C.b true true, C.i false IntKind.i64 (ff h 1 7), C.i false
      IntKind.i64 (ff h 8 7), z0, C.i false IntKind.i64 (ff h 64 7), C.i true IntKind.u32 (0 : Int), zf, z0, z0, zf, zf, zf, zf, zf, zf, zf, zf, z0, zf, zf, zf])))) ∧ ((bits
      BinOp.and IntKind.u16 (h.fdiv (512 : Int)) (1 : Int) != (0 : Int)) = false → ((bits BinOp.and IntKind.u16 (h.fdiv (1024 : Int)) (1 : Int) != (0 : Int)) = true → ((h.fdiv
      (4096 : Int) == (13 : Int)) = true → ((!decide (ff h 256 15 < (14 : Int))) = true → R (SV.a [C.i true IntKind.i64 (1 : Int), C.i true IntKind.i64 (14 : Int), C.i true
      IntKind.i64 (4 : Int), C.b true true, C.i false IntKind.i64 (ff h 1 7), C.i false IntKind.i64 (ff h 8 7), z0, z0, C.i false IntKind.u32 (IntKind.u32.wrap (ff h 64 7)), C.b
      true true, z0, z0, zf, zf, zf, zf, zf, zf, zf, zf, z0, zf, zf, zf])) ∧ ((!decide (ff h 256 15 < (14 : Int))) = false → R (SV.a [C.i true IntKind.i64 (1 : Int), z0, C.i
      true IntKind.i64 (4 : Int), C.b true true, C.i false IntKind.i64 (ff h 1 7), C.i false IntKind.i64 (ff h 8 7), z0, z0, C.i false IntKind.u32 (IntKind.u32.wrap (ff h 64
      7)), C.b true true, z0, z0, zf, zf, zf, zf, zf, zf, zf, zf, z0, zf, zf, zf]))) ∧ ((h.fdiv (4096 : Int) == (13 : Int)) = false → R (SV.a [C.i true IntKind.i64 (1 : Int),
      C.i true IntKind.i64 (14 : Int), C.i true IntKind.i64 (4 : Int), C.b true true, C.i false IntKind.i64 (ff h 1 7), C.i false IntKind.i64 (ff h 8 7), z0, z0, C.i false
      IntKind.u32 (IntKind.u32.wrap (ff h 64 7)), C.b true true, z0, z0, zf, zf, zf, zf, zf, zf, zf, zf, z0, zf, zf, zf]))) ∧ ((bits BinOp.and IntKind.u16 (h.fdiv (1024 : Int))
      (1 : Int) != (0 : Int)) = false → ((h.fdiv (4096 : Int) == (13 : Int)) = true → ((!decide (ff h 256 15 < (14 : Int))) = true → R (SV.a [C.i true IntKind.i64 (1 : Int), C.i
      true IntKind.i64 (14 : Int), C.i true IntKind.i64 (4 : Int), C.b true true, C.i false IntKind.i64 (ff h 1 7), C.i false IntKind.i64 (ff h 8 7), z0, C.i false IntKind.i64
      (ff h 64 7), C.i true IntKind.u32 (0 : Int), zf, z0, z0, zf, zf, zf, zf, zf, zf, zf, zf, z0, zf, zf, zf])) ∧ ((!decide (ff h 256 15 < (14 : Int))) = false → R (SV.a [C.i
      true IntKind.i64 (1 : Int), z0, C.i true IntKind.i64 (4 : Int), C.b true true, C.i false IntKind.i64 (ff h 1 7), C.i false IntKind.i64 (ff h 8 7), z0, C.i false
      IntKind.i64 (ff h 64 7), C.i true IntKind.u32 (0 : Int), zf, z0, z0, zf, zf, zf, zf, zf, zf, zf, zf, z0, zf, zf, zf]))) ∧ ((h.fdiv (4096 : Int) == (13 : Int)) = false → R
      (SV.a [C.i true IntKind.i64 (1 : Int), C.i true IntKind.i64 (14 : Int), C.i true IntKind.i64 (4 : Int), C.b true true, C.i false IntKind.i64 (ff h 1 7), C.i false
      IntKind.i64 (ff h 8 7), z0, C.i false IntKind.i64 (ff h 64 7), C.i true IntKind.u32 (0 : Int), zf, z0, z0, zf, zf, zf, zf, zf, zf, zf, zf, z0, zf, zf, zf])))))) ∧ ((h.fdiv
      (4096 : Int) == (0 : Int)) = false → ((h.fdiv (4096 : Int) == (1 : Int)) = true → ((ff h 2048 3 != (3 : Int)) = true → ((h.fdiv (4096 : Int) == (13 : Int)) = true →
      ((!decide (ff h 256 15 < (14 : Int))) = true → R (SV.a [C.i true IntKind.i64 (1 : Int), C.i true IntKind.i64 (14 : Int), C.i true IntKind.i64 (13 : Int), C.b true true,
      C.i false IntKind.i64 (ff h 1 7), z0, z0, C.i false IntKind.i64 (ff h 8 7), C.i true IntKind.u32 (0 : Int), zf, C.i false IntKind.i64 (ff h 2048 3), C.i false IntKind.i64
      (ff h 64 31), zf, zf, zf, zf, zf, zf, zf, zf, z0, zf, zf, zf])) ∧ ((!decide (ff h 256 15 < (14 : Int))) = false → R (SV.a [C.i true IntKind.i64 (1 : Int), z0, C.i true
      IntKind.i64 (13 : Int), C.b true true, C.i false IntKind.i64 (ff h 1 7), z0, z0, C.i false IntKind.i64 (ff h 8 7), C.i true IntKind.u32 (0 : Int), zf, C.i false
      IntKind.i64 (ff h 2048 3), C.i false IntKind.i64 (ff h 64 31), zf, zf, zf, zf, zf, zf, zf, zf, z0, zf, zf, zf]))) ∧ ((h.fdiv (4096 : Int) == (13 : Int)) = false → R (SV.a
      [C.i true IntKind.i64 (1 : Int), C.i true IntKind.i64 (14 : Int), C.i true IntKind.i64 (13 : Int), C.b true true, C.i false IntKind.i64 (ff h 1 7), z0, z0, C.i false
      IntKind.i64 (ff h 8 7), C.i true IntKind.u32 (0 : Int), zf, C.i false IntKind.i64 (ff h 2048 3), C.i false IntKind.i64 (ff h 64 31), zf, zf, zf, zf, zf, zf, zf, zf, z0,
      zf, zf, zf]))) ∧ ((ff h 2048 3 != (3 : Int)) = false → ((bits BinOp.and IntKind.u16 (h.fdiv (512 : Int)) (1 : Int) != (0 : Int)) = true → ((bits BinOp.and IntKind.u16
      (h.fdiv (1024 : Int)) (1 : Int) != (0 : Int)) = true → ((h.fdiv (4096 : Int) == (13 : Int)) = true → ((!decide (ff h 256 15 < (14 : Int))) = true → R (SV.a [C.i true
      IntKind.i64 (1 : Int), C.i true IntKind.i64 (14 : Int), C.i true IntKind.i64 (2 : Int), C.b true true, C.i false IntKind.i64 (ff h 1 7), C.i false IntKind.i64 (ff h 8 7),
      z0, z0, C.i false IntKind.u32 (IntKind.u32.wrap (ff h 64 7)), C.b true true, z0, z0, zf, zf, zf, zf, zf, zf, zf, zf, z0, zf, zf, zf])) ∧ ((!decide (ff h 256 15 < (14 :
      Int))) = false → R (SV.a [C.i true IntKind.i64 (1 : Int), z0, C.i true IntKind.i64 (2 : Int), C.b true true, C.i false IntKind.i64 (ff h 1 7), C.i false IntKind.i64 (ff h
      8 7), z0, z0, C.i false IntKind.u32 (IntKind.u32.wrap (ff h 64 7)), C.b true true, z0, z0, zf, zf, zf, zf, zf, zf, zf, zf, z0, zf, zf, zf]))) ∧ ((h.fdiv (4096 : Int) ==
      (13 : Int)) = false → R (SV.a [C.i true IntKind.i64 (1 : Int), C.i true IntKind.i64 (14 : Int), C.i true IntKind.i64 (2 : Int), C.b true true, C.i false IntKind.i64 (ff h
      1 7), C.i false IntKind.i64 (ff h 8 7), z0, z0, C.i false IntKind.u32 (IntKind.u32.wrap (ff h 64 7)), C.b true true, z0, z0, zf, zf, zf, zf, zf, zf, zf, zf, z0, zf, zf,
      zf]))) ∧ ((bits BinOp.and IntKind.u16 (h.fdiv (1024 : Int)) (1 : Int) != (0 : Int)) = false → ((h.fdiv (4096 : Int) == (13 : Int)) = true → ((!decide (ff h 256 15 < (14 :
      Int))) = true → R (SV.a [C.i true IntKind.i64 (1 : Int), C.i true IntKind.i64 (14 : Int), C.i true IntKind.i64 (2 : Int), C.b true true, C.i false IntKind.i64 (ff h 1 7),
      C.i false IntKind.i64 (ff h 8 7), z0, C.i false IntKind.i64 (ff h 64 7), C.i true IntKind.u32 (0 : Int), zf, z0, z0, zf, zf, zf, zf, zf, zf, zf, zf, z0, zf, zf, zf])) ∧
      ((!decide (ff h 256 15 < (14 : Int))) = false → R (SV.a [C.i true IntKind.i64 (1 : Int), z0, C.i true IntKind.i64 (2 : Int), C.b true true, C.i false IntKind.i64 (ff h 1
      7), C.i false IntKind.i64 (ff h 8 7), z0, C.i false IntKind.i64 (ff h 64 7), C.i true IntKind.u32 (0 : Int), zf, z0, z0, zf, zf, zf, zf, zf, zf, zf, zf, z0, zf, zf, zf])))
      ∧ ((h.fdiv (4096 : Int) == (13 : Int)) = false → R (SV.a [C.i true IntKind.i64 (1 : Int), C.i true IntKind.i64 (14 : Int), C.i true IntKind.i64 (2 : Int), C.b true true,
      C.i false IntKind.i64 (ff h 1 7), C.i false IntKind.i64 (ff h 8 7), z0, C.i false IntKind.i64 (ff h 64 7), C.i true IntKind.u32 (0 : Int), zf, z0, z0, zf, zf, zf, zf, zf,
      zf, zf, zf, z0, zf, zf, zf])))) ∧ ((bits BinOp.and IntKind.u16 (h.fdiv (512 : Int)) (1 : Int) != (0 : Int)) = false → ((bits BinOp.and IntKind.u16 (h.fdiv (1024 : Int)) (1
      : Int) != (0 : Int)) = true → ((h.fdiv (4096 : Int) == (13 : Int)) = true → ((!decide (ff h 256 15 < (14 : Int))) = true → R (SV.a [C.i true IntKind.i64 (1 : Int), C.i
      true IntKind.i64 (14 : Int), C.i true IntKind.i64 (4 : Int), C.b true true, C.i false IntKind.i64 (ff h 1 7), C.i false IntKind.i64 (ff h 8 7), z0, z0, C.i false
      IntKind.u32 (IntKind.u32.wrap (ff h 64 7)), C.b true true, z0, z0, zf, zf, zf, zf, zf, zf, zf, zf, z0, zf, zf, zf])) ∧ ((!decide (ff h 256 15 < (14 : Int))) = false → R
      (SV.a [C.i true IntKind.i64 (1 : Int), z0, C.i true IntKind.i64 (4 : Int), C.b true true, C.i false IntKind.i64 (ff h 1 7), C.i false IntKind.i64 (ff h 8 7), z0, z0, C.i
      false IntKind.u32 (IntKind.u32.wrap (ff h 64 7)), C.b true true, z0, z0, zf, zf, zf, zf, zf, zf, zf, zf, z0, zf, zf, zf]))) ∧ ((h.fdiv (4096 : Int) == (13 : Int)) = false
      → R (SV.a [C.i true IntKind.i64 (1 : Int), C.i true IntKind.i64 (14 : Int), C.i true IntKind.i64 (4 : Int), C.b true true, C.i false IntKind.i64 (ff h 1 7), C.i false
      IntKind.i64 (ff h 8 7), z0, z0, C.i false IntKind.u32 (IntKind.u32.wrap (ff h 64 7)), C.b true true, z0, z0, zf, zf, zf, zf, zf, zf, zf, zf, z0, zf, zf, zf]))) ∧ ((bits
      BinOp.and IntKind.u16 (h.fdiv (1024 : Int)) (1 : Int) != (0 : Int)) = false → ((h.fdiv (4096 : Int) == (13 : Int)) = true → ((!decide (ff h 256 15 < (14 : Int))) = true →
      R (SV.a [C.i true IntKind.i64 (1 : Int), C.i true IntKind.i64 (14 : Int), C.i true IntKind.i64 (4 : Int), C.b true true, C.i false IntKind.i64 (ff h 1 7), C.i false
      IntKind.i64 (ff h 8 7), z0, C.i false IntKind.i64 (ff h 64 7), C.i true IntKind.u32 (0 : Int), zf, z0, z0, zf, zf, zf, zf, zf, zf, zf, zf, z0, zf, zf, zf])) ∧ ((!decide
      (ff h 256 15 < (14 : Int))) = false → R (SV.a [C.i true IntKind.i64 (1 : Int), z0, C.i true IntKind.i64 (4 : Int), C.b true true, C.i false IntKind.i64 (ff h 1 7), C.i
      false IntKind.i64 (ff h 8 7), z0, C.i false IntKind.i64 (ff h 64 7), C.i true IntKind.u32 (0 : Int), zf, z0, z0, zf, zf, zf, zf, zf, zf, zf, zf, z0, zf, zf, zf]))) ∧
      ((h.fdiv (4096 : Int) == (13 : Int)) = false → R (SV.a [C.i true IntKind.i64 (1 : Int), C.i true IntKind.i64 (14 : Int), C.i true IntKind.i64 (4 : Int), C.b true true, C.i
      false IntKind.i64 (ff h 1 7), C.i false IntKind.i64 (ff h 8 7), z0, C.i false IntKind.i64 (ff h 64 7), C.i true IntKind.u32 (0 : Int), zf, z0, z0, zf, zf, zf, zf, zf, zf,
      zf, zf, z0, zf, zf, zf])))))) ∧ ((h.fdiv (4096 : Int) == (1 : Int)) = false → ((h.fdiv (4096 : Int) == (2 : Int)) = true → ((ff h 2048 3 == (0 : Int)) = true → ((h.fdiv
      (4096 : Int) == (13 : Int)) = true → ((!decide (ff h 256 15 < (14 : Int))) = true → R (SV.a [C.i true IntKind.i64 (1 : Int), C.i true IntKind.i64 (14 : Int), C.i true
      IntKind.i64 (13 : Int), C.b true true, C.i false IntKind.i64 (ff h 256 7), z0, z0, z0, C.i false IntKind.u32 (IntKind.u32.wrap (bits BinOp.and IntKind.u16 h (255 : Int))),
      C.b true true, z0, z0, zf, zf, zf, zf, zf, zf, zf, zf, z0, zf, zf, zf])) ∧ ((!decide (ff h 256 15 < (14 : Int))) = false → R (SV.a [C.i true IntKind.i64 (1 : Int), z0, C.i
      true IntKind.i64 (13 : Int), C.b true true, C.i false IntKind.i64 (ff h 256 7), z0, z0, z0, C.i false IntKind.u32 (IntKind.u32.wrap (bits BinOp.and IntKind.u16 h (255 :
      Int))), C.b true true, z0, z0, zf, zf, zf, zf, zf, zf, zf, zf, z0, zf, zf, zf]))) ∧ ((h.fdiv (4096 : Int) == (13 : Int)) = false → R (SV.a [C.i true IntKind.i64 (1 : Int),
      C.i true IntKind.i64 (14 : Int), C.i true IntKind.i64 (13 : Int), C.b true true, C.i false IntKind.i64 (ff h 256 7), z0, z0, z0, C.i false IntKind.u32 (IntKind.u32.wrap
      (bits BinOp.and IntKind.u16 h (255 : Int))), C.b true true, z0, z0, zf, zf, zf, zf, zf, zf, zf, zf, z0, zf, zf, zf]))) ∧ ((ff h 2048 3 == (0 : Int)) = false → ((ff h 2048
      3 == (1 : Int)) = true → ((h.fdiv (4096 : Int) == (13 : Int)) = true → ((!decide (ff h 256 15 < (14 : Int))) = true → R (SV.a [C.i true IntKind.i64 (1 : Int), C.i true
      IntKind.i64 (14 : Int), C.i true IntKind.i64 (10 : Int), C.b true true, z0, C.i false IntKind.i64 (ff h 256 7), z0, z0, C.i false IntKind.u32 (IntKind.u32.wrap (bits
      BinOp.and IntKind.u16 h (255 : Int))), C.b true true, z0, z0, zf, zf, zf, zf, zf, zf, zf, zf, z0, zf, zf, zf])) ∧ ((!decide (ff h 256 15 < (14 : Int))) = false → R (SV.a
      [C.i true IntKind.i64 (1 : Int), z0, C.i true IntKind.i64 (10 : Int), C.b true true, z0, C.i false IntKind.i64 (ff h 256 7), z0, z0, C.i false IntKind.u32
      (IntKind.u32.wrap (bits BinOp.and IntKind.u16 h (255 : Int))), C.b true true, z0, z0, zf, zf, zf, zf, zf, zf, zf, zf, z0, zf, zf, zf]))) ∧ ((h.fdiv (4096 : Int) == (13 :
      Int)) = false → R (SV.a [C.i true IntKind.i64 (1 : Int), C.i true IntKind.i64 (14 : Int), C.i true IntKind.i64 (10 : Int), C.b true true, z0, C.i false IntKind.i64 (ff h
      256 7), z0, z0, C.i false IntKind.u32 (IntKind.u32.wrap (bits BinOp.and IntKind.u16 h (255 : Int))), C.b true true, z0, z0, zf, zf, zf, zf, zf, zf, zf, zf, z0, zf, zf,
      zf]))) ∧ ((ff h 2048 3 == (1 : Int)) = false → ((ff h 2048 3 == (2 : Int)) = true → ((h.fdiv (4096 : Int) == (13 : Int)) = true → ((!decide (ff h 256 15 < (14 : Int))) =
      true → R (SV.a [C.i true IntKind.i64 (1 : Int), C.i true IntKind.i64 (14 : Int), C.i true IntKind.i64 (4 : Int), C.b true true, C.i false IntKind.i64 (ff h 256 7), C.i
      false IntKind.i64 (ff h 256 7), z0, z0, C.i false IntKind.u32 (IntKind.u32.wrap (bits BinOp.and IntKind.u16 h (255 : Int))), C.b true true, z0, z0, zf, zf, zf, zf, zf, zf,
      zf, zf, z0, zf, zf, zf])) ∧ ((!decide (ff h 256 15 < (14 : Int))) = false → R (SV.a [C.i true IntKind.i64 (1 : Int), z0, C.i true IntKind.i64 (4 : Int), C.b true true, C.i
      false IntKind.i64 (ff h 256 7), C.i false IntKind.i64 (ff h 256 7), z0, z0, C.i false IntKind.u32 (IntKind.u32.wrap (bits BinOp.and IntKind.u16 h (255 : Int))), C.b true
      true, z0, z0, zf, zf, zf, zf, zf, zf, zf, zf, z0, zf, zf, zf]))) ∧ ((h.fdiv (4096 : Int) == (13 : Int)) = false → R (SV.a [C.i true IntKind.i64 (1 : Int), C.i true
      IntKind.i64 (14 : Int), C.i true IntKind.i64 (4 : Int), C.b true true, C.i false IntKind.i64 (ff h 256 7), C.i false IntKind.i64 (ff h 256 7), z0, z0, C.i false
      IntKind.u32 (IntKind.u32.wrap (bits BinOp.and IntKind.u16 h (255 : Int))), C.b true true, z0, z0, zf, zf, zf, zf, zf, zf, zf, zf, z0, zf, zf, zf]))) ∧ ((ff h 2048 3 == (2
      : Int)) = false → ((h.fdiv (4096 : Int) == (13 : Int)) = true → ((!decide (ff h 256 15 < (14 : Int))) = true → R (SV.a [C.i true IntKind.i64 (1 : Int), C.i true
      IntKind.i64 (14 : Int), C.i true IntKind.i64 (2 : Int), C.b true true, C.i false IntKind.i64 (ff h 256 7), C.i false IntKind.i64 (ff h 256 7), z0, z0, C.i false
      IntKind.u32 (IntKind.u32.wrap (bits BinOp.and IntKind.u16 h (255 : Int))), C.b true true, z0, z0, zf, zf, zf, zf, zf, zf, zf, zf, z0, zf, zf, zf])) ∧ ((!decide (ff h 256
      15 < (14 : Int))) = false → R (SV.a [C.i true IntKind.i64 (1 : Int), z0, C.i true IntKind.i64 (2 : Int), C.b true true, C.i false IntKind.i64 (ff h 256 7), C.i false
      IntKind.i64 (ff h 256 7), z0, z0, C.i false IntKind.u32 (IntKind.u32.wrap (bits BinOp.and IntKind.u16 h (255 : Int))), C.b true true, z0, z0, zf, zf, zf, zf, zf, zf, zf,
      zf, z0, zf, zf, zf]))) ∧ ((h.fdiv (4096 : Int) == (13 : Int)) = false → R (SV.a [C.i true IntKind.i64 (1 : Int), C.i true IntKind.i64 (14 : Int), C.i true IntKind.i64 (2 :
      Int), C.b true true, C.i false IntKind.i64 (ff h 256 7), C.i false IntKind.i64 (ff h 256 7), z0, z0, C.i false IntKind.u32 (IntKind.u32.wrap (bits BinOp.and IntKind.u16 h
      (255 : Int))), C.b true true, z0, z0, zf, zf, zf, zf, zf, zf, zf, zf, z0, zf, zf, zf])))))) ∧ ((h.fdiv (4096 : Int) == (2 : Int)) = false → ((h.fdiv (4096 : Int) == (3 :
      Int)) = true → ((ff h 2048 3 == (0 : Int)) = true → ((h.fdiv (4096 : Int) == (13 : Int)) = true → ((!decide (ff h 256 15 < (14 : Int))) = true → R (SV.a [C.i true
      IntKind.i64 (1 : Int), C.i true IntKind.i64 (14 : Int), C.i true IntKind.i64 (13 : Int), C.b true true, C.i false IntKind.i64 (ff h 256 7), z0, z0, z0, C.i false
      IntKind.u32 (IntKind.u32.wrap (bits BinOp.and IntKind.u16 h (255 : Int))), C.b true true, z0, z0, zf, zf, zf, zf, zf, zf, zf, zf, z0, zf, zf, zf])) ∧ ((!decide (ff h 256
      15 < (14 : Int))) = false → R (SV.a [C.i true IntKind.i64 (1 : Int), z0, C.i true IntKind.i64 (13 : Int), C.b true true, C.i false IntKind.i64 (ff h 256 7), z0, z0, z0,
      C.i false IntKind.u32 (IntKind.u32.wrap (bits BinOp.and IntKind.u16 h (255 : Int))), C.b true true, z0, z0, zf, zf, zf, zf, zf, zf, zf, zf, z0, zf, zf, zf]))) ∧ ((h.fdiv
      (4096 : Int) == (13 : Int)) = false → R (SV.a [C.i true IntKind.i64 (1 : Int), C.i true IntKind.i64 (14 : Int), C.i true IntKind.i64 (13 : Int), C.b true true, C.i false
      IntKind.i64 (ff h 256 7), z0, z0, z0, C.i false IntKind.u32 (IntKind.u32.wrap (bits BinOp.and IntKind.u16 h (255 : Int))), C.b true true, z0, z0, zf, zf, zf, zf, zf, zf,
      zf, zf, z0, zf, zf, zf]))) ∧ ((ff h 2048 3 == (0 : Int)) = false → ((ff h 2048 3 == (1 : Int)) = true → ((h.fdiv (4096 : Int) == (13 : Int)) = true → ((!decide (ff h 256
      15 < (14 : Int))) = true → R (SV.a [C.i true IntKind.i64 (1 : Int), C.i true IntKind.i64 (14 : Int), C.i true IntKind.i64 (10 : Int), C.b true true, z0, C.i false
      IntKind.i64 (ff h 256 7), z0, z0, C.i false IntKind.u32 (IntKind.u32.wrap (bits BinOp.and IntKind.u16 h (255 : Int))), C.b true true, z0, z0, zf, zf, zf, zf, zf, zf, zf,
      zf, z0, zf, zf, zf])) ∧ ((!decide (ff h 256 15 < (14 : Int))) = false → R (SV.a [C.i true IntKind.i64 (1 : Int), z0, C.i true IntKind.i64 (10 : Int), C.b true true, z0,
      C.i false IntKind.i64 (ff h 256 7), z0, z0, C.i false IntKind.u32 (IntKind.u32.wrap (bits BinOp.and IntKind.u16 h (255 : Int))), C.b true true, z0, z0, zf, zf, zf, zf, zf,
      zf, zf, zf, z0, zf, zf, zf]))) ∧ ((h.fdiv (4096 : Int) == (13 : Int)) = false → R (SV.a [C.i true IntKind.i64 (1 : Int), C.i true IntKind.i64 (14 : Int), C.i true
      IntKind.i64 (10 : Int), C.b true true, z0, C.i false IntKind.i64 (ff h 256 7), z0, z0, C.i false IntKind.u32 (IntKind.u32.wrap (bits BinOp.and IntKind.u16 h (255 : Int))),
      C.b true true, z0, z0, zf, zf, zf, zf, zf, zf, zf, zf, z0, zf, zf, zf]))) ∧ ((ff h 2048 3 == (1 : Int)) = false → ((ff h 2048 3 == (2 : Int)) = true → ((h.fdiv (4096 :
      Int) == (13 : Int)) = true → ((!decide (ff h 256 15 < (14 : Int))) = true → R (SV.a [C.i true IntKind.i64 (1 : Int), C.i true IntKind.i64 (14 : Int), C.i true IntKind.i64
      (4 : Int), C.b true true, C.i false IntKind.i64 (ff h 256 7), C.i false IntKind.i64 (ff h 256 7), z0, z0, C.i false IntKind.u32 (IntKind.u32.wrap (bits BinOp.and
      IntKind.u16 h (255 : Int))), C.b true true, z0, z0, zf, zf, zf, zf, zf, zf, zf, zf, z0, zf, zf, zf])) ∧ ((!decide (ff h 256 15 < (14 : Int))) = false → R (SV.a [C.i true
      IntKind.i64 (1 : Int), z0, C.i true IntKind.i64 (4 : Int), C.b true true, C.i false IntKind.i64 (ff h 256 7), C.i false IntKind.i64 (ff h 256 7), z0, z0, C.i false
      IntKind.u32 (IntKind.u32.wrap (bits BinOp.and IntKind.u16 h (255 : Int))), C.b true true, z0, z0, zf, zf, zf, zf, zf, zf, zf, zf, z0, zf, zf, zf]))) ∧ ((h.fdiv (4096 :
      Int) == (13 : Int)) = false → R (SV.a [C.i true IntKind.i64 (1 : Int), C.i true IntKind.i64 (14 : Int), C.i true IntKind.i64 (4 : Int), C.b true true, C.i false
      IntKind.i64 (ff h 256 7), C.i false IntKind.i64 (ff h 256 7), z0, z0, C.i false IntKind.u32 (IntKind.u32.wrap (bits BinOp.and IntKind.u16 h (255 : Int))), C.b true true,
      z0, z0, zf, zf, zf, zf, zf, zf, zf, zf, z0, zf, zf, zf]))) ∧ ((ff h 2048 3 == (2 : Int)) = false → ((h.fdiv (4096 : Int) == (13 : Int)) = true → ((!decide (ff h 256 15 <
      (14 : Int))) = true → R (SV.a [C.i true IntKind.i64 (1 : Int), C.i true IntKind.i64 (14 : Int), C.i true IntKind.i64 (2 : Int), C.b true true, C.i false IntKind.i64 (ff h
      256 7), C.i false IntKind.i64 (ff h 256 7), z0, z0, C.i false IntKind.u32 (IntKind.u32.wrap (bits BinOp.and IntKind.u16 h (255 : Int))), C.b true true, z0, z0, zf, zf, zf,
      zf, zf, zf, zf, zf, z0, zf, zf, zf])) ∧ ((!decide (ff h 256 15 < (14 : Int))) = false → R (SV.a [C.i true IntKind.i64 (1 : Int), z0, C.i true IntKind.i64 (2 : Int), C.b
      true true, C.i false IntKind.i64 (ff h 256 7), C.i false IntKind.i64 (ff h 256 7), z0, z0, C.i false IntKind.u32 (IntKind.u32.wrap (bits BinOp.and IntKind.u16 h (255 :
      Int))), C.b true true, z0, z0, zf, zf, zf, zf, zf, zf, zf, zf, z0, zf, zf, zf]))) ∧ ((h.fdiv (4096 : Int) == (13 : Int)) = false → R (SV.a [C.i true IntKind.i64 (1 : Int),
      C.i true IntKind.i64 (14 : Int), C.i true IntKind.i64 (2 : Int), C.b true true, C.i false IntKind.i64 (ff h 256 7), C.i false IntKind.i64 (ff h 256 7), z0, z0, C.i false
      IntKind.u32 (IntKind.u32.wrap (bits BinOp.and IntKind.u16 h (255 : Int))), C.b true true, z0, z0, zf, zf, zf, zf, zf, zf, zf, zf, z0, zf, zf, zf])))))) ∧ ((h.fdiv (4096 :
      Int) == (3 : Int)) = false → ((h.fdiv (4096 : Int) == (4 : Int)) = true → ((bits BinOp.and IntKind.u16 (h.fdiv (2048 : Int)) (1 : Int) != (0 : Int)) = true → ((h.fdiv
      (4096 : Int) == (13 : Int)) = true → ((!decide (ff h 256 15 < (14 : Int))) = true → R (SV.a [C.i true IntKind.i64 (7 : Int), C.i true IntKind.i64 (14 : Int), z0, zf, C.i
      false IntKind.i64 (ff h 256 7), C.i true IntKind.i64 (15 : Int), z0, z0, C.i false IntKind.u32 (IntKind.u32.wrap ((4 : Int) * IntKind.u32.wrap (bits BinOp.and IntKind.u16
      h (255 : Int)))), C.b true true, z0, z0, zf, C.b true true, zf, zf, C.b true true, C.b true true, zf, zf, z0, zf, zf, C.b true true])) ∧ ((!decide (ff h 256 15 < (14 :
      Int))) = false → R (SV.a [C.i true IntKind.i64 (7 : Int), z0, z0, zf, C.i false IntKind.i64 (ff h 256 7), C.i true IntKind.i64 (15 : Int), z0, z0, C.i false IntKind.u32
      (IntKind.u32.wrap ((4 : Int) * IntKind.u32.wrap (bits BinOp.and IntKind.u16 h (255 : Int)))), C.b true true, z0, z0, zf, C.b true true, zf, zf, C.b true true, C.b true
      true, zf, zf, z0, zf, zf, C.b true true]))) ∧ ((h.fdiv (4096 : Int) == (13 : Int)) = false → R (SV.a [C.i true IntKind.i64 (7 : Int), C.i true IntKind.i64 (14 : Int), z0,
      zf, C.i false IntKind.i64 (ff h 256 7), C.i true IntKind.i64 (15 : Int), z0, z0, C.i false IntKind.u32 (IntKind.u32.wrap ((4 : Int) * IntKind.u32.wrap (bits BinOp.and
      IntKind.u16 h (255 : Int)))), C.b true true, z0, z0, zf, C.b true true, zf, zf, C.b true true, C.b true true, zf, zf, z0, zf, zf, C.b true true]))) ∧ ((bits BinOp.and
      IntKind.u16 (h.fdiv (2048 : Int)) (1 : Int) != (0 : Int)) = false → ((bits BinOp.and IntKind.u16 (h.fdiv (1024 : Int)) (1 : Int) != (0 : Int)) = true → ((ff h 256 3 == (0
      : Int)) = true → ((h.fdiv (4096 : Int) == (13 : Int)) = true → ((!decide (ff h 256 15 < (14 : Int))) = true → R (SV.a [C.i true IntKind.i64 (1 : Int), C.i true IntKind.i64
      (14 : Int), C.i true IntKind.i64 (4 : Int), zf, C.i false IntKind.i64 (bits BinOp.or IntKind.i64 (IntKind.i64.wrap (ff h 128 1 * (8 : Int))) (ff h 1 7)), C.i false
      IntKind.i64 (bits BinOp.or IntKind.i64 (IntKind.i64.wrap (ff h 128 1 * (8 : Int))) (ff h 1 7)), z0, C.i false IntKind.i64 (ff h 8 15), C.i true IntKind.u32 (0 : Int), zf,
      z0, z0, zf, zf, zf, zf, zf, zf, zf, zf, z0, zf, zf, zf])) ∧ ((!decide (ff h 256 15 < (14 : Int))) = false → R (SV.a [C.i true IntKind.i64 (1 : Int), z0, C.i true
      IntKind.i64 (4 : Int), zf, C.i false IntKind.i64 (bits BinOp.or IntKind.i64 (IntKind.i64.wrap (ff h 128 1 * (8 : Int))) (ff h 1 7)), C.i false IntKind.i64 (bits BinOp.or
      IntKind.i64 (IntKind.i64.wrap (ff h 128 1 * (8 : Int))) (ff h 1 7)), z0, C.i false IntKind.i64 (ff h 8 15), C.i true IntKind.u32 (0 : Int), zf, z0, z0, zf, zf, zf, zf, zf,
      zf, zf, zf, z0, zf, zf, zf]))) ∧ ((h.fdiv (4096 : Int) == (13 : Int)) = false → R (SV.a [C.i true IntKind.i64 (1 : Int), C.i true IntKind.i64 (14 : Int), C.i true
      IntKind.i64 (4 : Int), zf, C.i false IntKind.i64 (bits BinOp.or IntKind.i64 (IntKind.i64.wrap (ff h 128 1 * (8 : Int))) (ff h 1 7)), C.i false IntKind.i64 (bits BinOp.or
      IntKind.i64 (IntKind.i64.wrap (ff h 128 1 * (8 : Int))) (ff h 1 7)), z0, C.i false IntKind.i64 (ff h 8 15), C.i true IntKind.u32 (0 : Int), zf, z0, z0, zf, zf, zf, zf, zf,
      zf, zf, zf, z0, zf, zf, zf]))) ∧ ((ff h 256 3 == (0 : Int)) = false → ((ff h 256 3 == (1 : Int)) = true → ((h.fdiv (4096 : Int) == (13 : Int)) = true → ((!decide (ff h 256
      15 < (14 : Int))) = true → R (SV.a [C.i true IntKind.i64 (1 : Int), C.i true IntKind.i64 (14 : Int), C.i true IntKind.i64 (10 : Int), C.b true true, z0, C.i false
      IntKind.i64 (bits BinOp.or IntKind.i64 (IntKind.i64.wrap (ff h 128 1 * (8 : Int))) (ff h 1 7)), z0, C.i false IntKind.i64 (ff h 8 15), C.i true IntKind.u32 (0 : Int), zf,
      z0, z0, zf, zf, zf, zf, zf, zf, zf, zf, z0, zf, zf, zf])) ∧ ((!decide (ff h 256 15 < (14 : Int))) = false → R (SV.a [C.i true IntKind.i64 (1 : Int), z0, C.i true
      IntKind.i64 (10 : Int), C.b true true, z0, C.i false IntKind.i64 (bits BinOp.or IntKind.i64 (IntKind.i64.wrap (ff h 128 1 * (8 : Int))) (ff h 1 7)), z0, C.i false
      IntKind.i64 (ff h 8 15), C.i true IntKind.u32 (0 : Int), zf, z0, z0, zf, zf, zf, zf, zf, zf, zf, zf, z0, zf, zf, zf]))) ∧ ((h.fdiv (4096 : Int) == (13 : Int)) = false → R
      (SV.a [C.i true IntKind.i64 (1 : Int), C.i true IntKind.i64 (14 : Int), C.i true IntKind.i64 (10 : Int), C.b true true, z0, C.i false IntKind.i64 (bits BinOp.or
      IntKind.i64 (IntKind.i64.wrap (ff h 128 1 * (8 : Int))) (ff h 1 7)), z0, C.i false IntKind.i64 (ff h 8 15), C.i true IntKind.u32 (0 : Int), zf, z0, z0, zf, zf, zf, zf, zf,
      zf, zf, zf, z0, zf, zf, zf]))) ∧ ((ff h 256 3 == (1 : Int)) = false → ((ff h 256 3 == (2 : Int)) = true → ((h.fdiv (4096 : Int) == (13 : Int)) = true → ((!decide (ff h 256
      15 < (14 : Int))) = true → R (SV.a [C.i true IntKind.i64 (1 : Int), C.i true IntKind.i64 (14 : Int), C.i true IntKind.i64 (13 : Int), zf, C.i false IntKind.i64 (bits
      BinOp.or IntKind.i64 (IntKind.i64.wrap (ff h 128 1 * (8 : Int))) (ff h 1 7)), z0, z0, C.i false IntKind.i64 (ff h 8 15), C.i true IntKind.u32 (0 : Int), zf, z0, z0, zf,
      zf, zf, zf, zf, zf, zf, zf, z0, zf, zf, zf])) ∧ ((!decide (ff h 256 15 < (14 : Int))) = false → R (SV.a [C.i true IntKind.i64 (1 : Int), z0, C.i true IntKind.i64 (13 :
      Int), zf, C.i false IntKind.i64 (bits BinOp.or IntKind.i64 (IntKind.i64.wrap (ff h 128 1 * (8 : Int))) (ff h 1 7)), z0, z0, C.i false IntKind.i64 (ff h 8 15), C.i true
      IntKind.u32 (0 : Int), zf, z0, z0, zf, zf, zf, zf, zf, zf, zf, zf, z0, zf, zf, zf]))) ∧ ((h.fdiv (4096 : Int) == (13 : Int)) = false → R (SV.a [C.i true IntKind.i64 (1 :
      Int), C.i true IntKind.i64 (14 : Int), C.i true IntKind.i64 (13 : Int), zf, C.i false IntKind.i64 (bits BinOp.or IntKind.i64 (IntKind.i64.wrap (ff h 128 1 * (8 : Int)))
      (ff h 1 7)), z0, z0, C.i false IntKind.i64 (ff h 8 15), C.i true IntKind.u32 (0 : Int), zf, z0, z0, zf, zf, zf, zf, zf, zf, zf, zf, z0, zf, zf, zf]))) ∧ ((ff h 256 3 == (2
      : Int)) = false → ((h.fdiv (4096 : Int) == (13 : Int)) = true → ((!decide (ff h 256 15 < (14 : Int))) = true → R (SV.a [C.i true IntKind.i64 (5 : Int), C.i true
      IntKind.i64 (14 : Int), z0, zf, z0, z0, z0, C.i false IntKind.i64 (ff h 8 15), C.i true IntKind.u32 (0 : Int), zf, z0, z0, zf, zf, zf, zf, zf, zf, zf, zf, z0, zf, zf,
      zf])) ∧ ((!decide (ff h 256 15 < (14 : Int))) = false → R (SV.a [C.i true IntKind.i64 (5 : Int), z0, z0, zf, z0, z0, z0, C.i false IntKind.i64 (ff h 8 15), C.i true
      IntKind.u32 (0 : Int), zf, z0, z0, zf, zf, zf, zf, zf, zf, zf, zf, z0, zf, zf, zf]))) ∧ ((h.fdiv (4096 : Int) == (13 : Int)) = false → R (SV.a [C.i true IntKind.i64 (5 :
      Int), C.i true IntKind.i64 (14 : Int), z0, zf, z0, z0, z0, C.i false IntKind.i64 (ff h 8 15), C.i true IntKind.u32 (0 : Int), zf, z0, z0, zf, zf, zf, zf, zf, zf, zf, zf,
      z0, zf, zf, zf])))))) ∧ ((bits BinOp.and IntKind.u16 (h.fdiv (1024 : Int)) (1 : Int) != (0 : Int)) = false → ((ff h 64 15 == (2 : Int)) = true → ((ff h 64 15 == (7 : Int))
      = true → ((h.fdiv (4096 : Int) == (13 : Int)) = true → ((!decide (ff h 256 15 < (14 : Int))) = true → R (SV.a [C.i true IntKind.i64 (1 : Int), C.i true IntKind.i64 (14 :
      Int), C.i true IntKind.i64 (13 : Int), C.b true true, C.i false IntKind.i64 (ff h 1 7), z0, C.i false IntKind.i64 (ff h 8 7), C.i false IntKind.i64 (ff h 1 7), C.i true
      IntKind.u32 (0 : Int), zf, C.i true IntKind.i64 (3 : Int), z0, C.b true true, zf, zf, zf, zf, zf, zf, zf, z0, zf, zf, zf])) ∧ ((!decide (ff h 256 15 < (14 : Int))) = false
      → R (SV.a [C.i true IntKind.i64 (1 : Int), z0, C.i true IntKind.i64 (13 : Int), C.b true true, C.i false IntKind.i64 (ff h 1 7), z0, C.i false IntKind.i64 (ff h 8 7), C.i
      false IntKind.i64 (ff h 1 7), C.i true IntKind.u32 (0 : Int), zf, C.i true IntKind.i64 (3 : Int), z0, C.b true true, zf, zf, zf, zf, zf, zf, zf, z0, zf, zf, zf]))) ∧
      ((h.fdiv (4096 : Int) == (13 : Int)) = false → R (SV.a [C.i true IntKind.i64 (1 : Int), C.i true IntKind.i64 (14 : Int), C.i true IntKind.i64 (13 : Int), C.b true true,
      C.i false IntKind.i64 (ff h 1 7), z0, C.i false IntKind.i64 (ff h 8 7), C.i false IntKind.i64 (ff h 1 7), C.i true IntKind.u32 (0 : Int), zf, C.i true IntKind.i64 (3 :
      Int), z0, C.b true true, zf, zf, zf, zf, zf, zf, zf, z0, zf, zf, zf]))) ∧ ((ff h 64 15 == (7 : Int)) = false → ((h.fdiv (4096 : Int) == (13 : Int)) = true → ((!decide (ff
      h 256 15 < (14 : Int))) = true → R (SV.a [C.i true IntKind.i64 (1 : Int), C.i true IntKind.i64 (14 : Int), C.i true IntKind.i64 (13 : Int), C.b true true, C.i false
      IntKind.i64 (ff h 1 7), z0, C.i false IntKind.i64 (ff h 8 7), C.i false IntKind.i64 (ff h 1 7), C.i true IntKind.u32 (0 : Int), zf, C.i false IntKind.i64 (IntKind.i64.wrap
      (ff h 64 15 - (2 : Int))), z0, C.b true true, zf, zf, zf, zf, zf, zf, zf, z0, zf, zf, zf])) ∧ ((!decide (ff h 256 15 < (14 : Int))) = false → R (SV.a [C.i true IntKind.i64
      (1 : Int), z0, C.i true IntKind.i64 (13 : Int), C.b true true, C.i false IntKind.i64 (ff h 1 7), z0, C.i false IntKind.i64 (ff h 8 7), C.i false IntKind.i64 (ff h 1 7),
      C.i true IntKind.u32 (0 : Int), zf, C.i false IntKind.i64 (IntKind.i64.wrap (ff h 64 15 - (2 : Int))), z0, C.b true true, zf, zf, zf, zf, zf, zf, zf, z0, zf, zf, zf]))) ∧
      ((h.fdiv (4096 : Int) == (13 : Int)) = false → R (SV.a [C.i true IntKind.i64 (1 : Int), C.i true IntKind.i64 (14 : Int), C.i true IntKind.i64 (13 : Int), C.b true true,
      C.i false IntKind.i64 (ff h 1 7), z0, C.i false IntKind.i64 (ff h 8 7), C.i false IntKind.i64 (ff h 1 7), C.i true IntKind.u32 (0 : Int), zf, C.i false IntKind.i64
      (IntKind.i64.wrap (ff h 64 15 - (2 : Int))), z0, C.b true true, zf, zf, zf, zf, zf, zf, zf, z0, zf, zf, zf])))) ∧ ((ff h 64 15 == (2 : Int)) = false → ((ff h 64 15 == (3 :
      Int)) = true → ((ff h 64 15 == (7 : Int)) = true → ((h.fdiv (4096 : Int) == (13 : Int)) = true → ((!decide (ff h 256 15 < (14 : Int))) = true → R (SV.a [C.i true
      IntKind.i64 (1 : Int), C.i true IntKind.i64 (14 : Int), C.i true IntKind.i64 (13 : Int), C.b true true, C.i false IntKind.i64 (ff h 1 7), z0, C.i false IntKind.i64 (ff h 8
      7), C.i false IntKind.i64 (ff h 1 7), C.i true IntKind.u32 (0 : Int), zf, C.i true IntKind.i64 (3 : Int), z0, C.b true true, zf, zf, zf, zf, zf, zf, zf, z0, zf, zf, zf]))
      ∧ ((!decide (ff h 256 15 < (14 : Int))) = false → R (SV.a [C.i true IntKind.i64 (1 : Int), z0, C.i true IntKind.i64 (13 : Int), C.b true true, C.i false IntKind.i64 (ff h
      1 7), z0, C.i false IntKind.i64 (ff h 8 7), C.i false IntKind.i64 (ff h 1 7), C.i true IntKind.u32 (0 : Int), zf, C.i true IntKind.i64 (3 : Int), z0, C.b true true, zf,
      zf, zf, zf, zf, zf, zf, z0, zf, zf, zf]))) ∧ ((h.fdiv (4096 : Int) == (13 : Int)) = false → R (SV.a [C.i true IntKind.i64 (1 : Int), C.i true IntKind.i64 (14 : Int), C.i
      true IntKind.i64 (13 : Int), C.b true true, C.i false IntKind.i64 (ff h 1 7), z0, C.i false IntKind.i64 (ff h 8 7), C.i false IntKind.i64 (ff h 1 7), C.i true IntKind.u32
      (0 : Int), zf, C.i true IntKind.i64 (3 : Int), z0, C.b true true, zf, zf, zf, zf, zf, zf, zf, z0, zf, zf, zf]))) ∧ ((ff h 64 15 == (7 : Int)) = false → ((h.fdiv (4096 :
      Int) == (13 : Int)) = true → ((!decide (ff h 256 15 < (14 : Int))) = true → R (SV.a [C.i true IntKind.i64 (1 : Int), C.i true IntKind.i64 (14 : Int), C.i true IntKind.i64
      (13 : Int), C.b true true, C.i false IntKind.i64 (ff h 1 7), z0, C.i false IntKind.i64 (ff h 8 7), C.i false IntKind.i64 (ff h 1 7), C.i true IntKind.u32 (0 : Int), zf,
      C.i false IntKind.i64 (IntKind.i64.wrap (ff h 64 15 - (2 : Int))), z0, C.b true true, zf, zf, zf, zf, zf, zf, zf, z0, zf, zf, zf])) ∧ ((!decide (ff h 256 15 < (14 : Int)))
      = false → R (SV.a [C.i true IntKind.i64 (1 : Int), z0, C.i true IntKind.i64 (13 : Int), C.b true true, C.i false IntKind.i64 (ff h 1 7), z0, C.i false IntKind.i64 (ff h 8
      7), C.i false IntKind.i64 (ff h 1 7), C.i true IntKind.u32 (0 : Int), zf, C.i false IntKind.i64 (IntKind.i64.wrap (ff h 64 15 - (2 : Int))), z0, C.b true true, zf, zf, zf,
      zf, zf, zf, zf, z0, zf, zf, zf]))) ∧ ((h.fdiv (4096 : Int) == (13 : Int)) = false → R (SV.a [C.i true IntKind.i64 (1 : Int), C.i true IntKind.i64 (14 : Int), C.i true
      IntKind.i64 (13 : Int), C.b true true, C.i false IntKind.i64 (ff h 1 7), z0, C.i false IntKind.i64 (ff h 8 7), C.i false IntKind.i64 (ff h 1 7), C.i true IntKind.u32 (0 :
      Int), zf, C.i false IntKind.i64 (IntKind.i64.wrap (ff h 64 15 - (2 : Int))), z0, C.b true true, zf, zf, zf, zf, zf, zf, zf, z0, zf, zf, zf])))) ∧ ((ff h 64 15 == (3 :
      Int)) = false → ((ff h 64 15 == (4 : Int)) = true → ((ff h 64 15 == (7 : Int)) = true → ((h.fdiv (4096 : Int) == (13 : Int)) = true → ((!decide (ff h 256 15 < (14 : Int)))
      = true → R (SV.a [C.i true IntKind.i64 (1 : Int), C.i true IntKind.i64 (14 : Int), C.i true IntKind.i64 (13 : Int), C.b true true, C.i false IntKind.i64 (ff h 1 7), z0,
      C.i false IntKind.i64 (ff h 8 7), C.i false IntKind.i64 (ff h 1 7), C.i true IntKind.u32 (0 : Int), zf, C.i true IntKind.i64 (3 : Int), z0, C.b true true, zf, zf, zf, zf,
      zf, zf, zf, z0, zf, zf, zf])) ∧ ((!decide (ff h 256 15 < (14 : Int))) = false → R (SV.a [C.i true IntKind.i64 (1 : Int), z0, C.i true IntKind.i64 (13 : Int), C.b true
      true, C.i false IntKind.i64 (ff h 1 7), z0, C.i false IntKind.i64 (ff h 8 7), C.i false IntKind.i64 (ff h 1 7), C.i true IntKind.u32 (0 : Int), zf, C.i true IntKind.i64 (3
      : Int), z0, C.b true true, zf, zf, zf, zf, zf, zf, zf, z0, zf, zf, zf]))) ∧ ((h.fdiv (4096 : Int) == (13 : Int)) = false → R (SV.a [C.i true IntKind.i64 (1 : Int), C.i
      true IntKind.i64 (14 : Int), C.i true IntKind.i64 (13 : Int), C.b true true, C.i false IntKind.i64 (ff h 1 7), z0, C.i false IntKind.i64 (ff h 8 7), C.i false IntKind.i64
      (ff h 1 7), C.i true IntKind.u32 (0 : Int), zf, C.i true IntKind.i64 (3 : Int), z0, C.b true true, zf, zf, zf, zf, zf, zf, zf, z0, zf, zf, zf]))) ∧ ((ff h 64 15 == (7 :
      Int)) = false → ((h.fdiv (4096 : Int) == (13 : Int)) = true → ((!decide (ff h 256 15 < (14 : Int))) = true → R (SV.a [C.i true IntKind.i64 (1 : Int), C.i true IntKind.i64
      (14 : Int), C.i true IntKind.i64 (13 : Int), C.b true true, C.i false IntKind.i64 (ff h 1 7), z0, C.i false IntKind.i64 (ff h 8 7), C.i false IntKind.i64 (ff h 1 7), C.i
      true IntKind.u32 (0 : Int), zf, C.i false IntKind.i64 (IntKind.i64.wrap (ff h 64 15 - (2 : Int))), z0, C.b true true, zf, zf, zf, zf, zf, zf, zf, z0, zf, zf, zf])) ∧
      ((!decide (ff h 256 15 < (14 : Int))) = false → R (SV.a [C.i true IntKind.i64 (1 : Int), z0, C.i true IntKind.i64 (13 : Int), C.b true true, C.i false IntKind.i64 (ff h 1
      7), z0, C.i false IntKind.i64 (ff h 8 7), C.i false IntKind.i64 (ff h 1 7), C.i true IntKind.u32 (0 : Int), zf, C.i false IntKind.i64 (IntKind.i64.wrap (ff h 64 15 - (2 :
      Int))), z0, C.b true true, zf, zf, zf, zf, zf, zf, zf, z0, zf, zf, zf]))) ∧ ((h.fdiv (4096 : Int) == (13 : Int)) = false → R (SV.a [C.i true IntKind.i64 (1 : Int), C.i
      true IntKind.i64 (14 : Int), C.i true IntKind.i64 (13 : Int), C.b true true, C.i false IntKind.i64 (ff h 1 7), z0, C.i false IntKind.i64 (ff h 8 7), C.i false IntKind.i64
      (ff h 1 7), C.i true IntKind.u32 (0 : Int), zf, C.i false IntKind.i64 (IntKind.i64.wrap (ff h 64 15 - (2 : Int))), z0, C.b true true, zf, zf, zf, zf, zf, zf, zf, z0, zf,
      zf, zf])))) ∧ ((ff h 64 15 == (4 : Int)) = false → ((ff h 64 15 == (7 : Int)) = true → ((ff h 64 15 == (7 : Int)) = true → ((h.fdiv (4096 : Int) == (13 : Int)) = true →
      ((!decide (ff h 256 15 < (14 : Int))) = true → R (SV.a [C.i true IntKind.i64 (1 : Int), C.i true IntKind.i64 (14 : Int), C.i true IntKind.i64 (13 : Int), C.b true true,
      C.i false IntKind.i64 (ff h 1 7), z0, C.i false IntKind.i64 (ff h 8 7), C.i false IntKind.i64 (ff h 1 7), C.i true IntKind.u32 (0 : Int), zf, C.i true IntKind.i64 (3 :
      Int), z0, C.b true true, zf, zf, zf, zf, zf, zf, zf, z0, zf, zf, zf])) ∧ ((!decide (ff h 256 15 < (14 : Int))) = false → R (SV.a [C.i true IntKind.i64 (1 : Int), z0, C.i
      true IntKind.i64 (13 : Int), C.b true true, C.i false IntKind.i64 (ff h 1 7), z0, C.i false IntKind.i64 (ff h 8 7), C.i false IntKind.i64 (ff h 1 7), C.i true IntKind.u32
      (0 : Int), zf, C.i true IntKind.i64 (3 : Int), z0, C.b true true, zf, zf, zf, zf, zf, zf, zf, z0, zf, zf, zf]))) ∧ ((h.fdiv (4096 : Int) == (13 : Int)) = false → R (SV.a
      [C.i true IntKind.i64 (1 : Int), C.i true IntKind.i64 (14 : Int), C.i true IntKind.i64 (13 : Int), C.b true true, C.i false IntKind.i64 (ff h 1 7), z0, C.i false
      IntKind.i64 (ff h 8 7), C.i false IntKind.i64 (ff h 1 7), C.i true IntKind.u32 (0 : Int), zf, C.i true IntKind.i64 (3 : Int), z0, C.b true true, zf, zf, zf, zf, zf, zf,
      zf, z0, zf, zf, zf]))) ∧ ((ff h 64 15 == (7 : Int)) = false → ((h.fdiv (4096 : Int) == (13 : Int)) = true → ((!decide (ff h 256 15 < (14 : Int))) = true → R (SV.a [C.i
      true IntKind.i64 (1 : Int), C.i true IntKind.i64 (14 : Int), C.i true IntKind.i64 (13 : Int), C.b true true, C.i false IntKind.i64 (ff h 1 7), z0, C.i false IntKind.i64
      (ff h 8 7), C.i false IntKind.i64 (ff h 1 7), C.i true IntKind.u32 (0 : Int), zf, C.i false IntKind.i64 (IntKind.i64.wrap (ff h 64 15 - (2 : Int))), z0, C.b true true, zf,
      zf, zf, zf, zf, zf, zf, z0, zf, zf, zf])) ∧ ((!decide (ff h 256 15 < (14 : Int))) = false → R (SV.a [C.i true IntKind.i64 (1 : Int), z0, C.i true IntKind.i64 (13 : Int),
      C.b true true, C.i false IntKind.i64 (ff h 1 7), z0, C.i false IntKind.i64 (ff h 8 7), C.i false IntKind.i64 (ff h 1 7), C.i true IntKind.u32 (0 : Int), zf, C.i false
      IntKind.i64 (IntKind.i64.wrap (ff h 64 15 - (2 : Int))), z0, C.b true true, zf, zf, zf, zf, zf, zf, zf, z0, zf, zf, zf]))) ∧ ((h.fdiv (4096 : Int) == (13 : Int)) = false →
      R (SV.a [C.i true IntKind.i64 (1 : Int), C.i true IntKind.i64 (14 : Int), C.i true IntKind.i64 (13 : Int), C.b true true, C.i false IntKind.i64 (ff h 1 7), z0, C.i false
      IntKind.i64 (ff h 8 7), C.i false IntKind.i64 (ff h 1 7), C.i true IntKind.u32 (0 : Int), zf, C.i false IntKind.i64 (IntKind.i64.wrap (ff h 64 15 - (2 : Int))), z0, C.b
      true true, zf, zf, zf, zf, zf, zf, zf, z0, zf, zf, zf])))) ∧ ((ff h 64 15 == (7 : Int)) = false → ((ff h 64 15 == (8 : Int)) = true → ((h.fdiv (4096 : Int) == (13 : Int))
      = true → ((!decide (ff h 256 15 < (14 : Int))) = true → R (SV.a [C.i true IntKind.i64 (1 : Int), C.i true IntKind.i64 (14 : Int), C.i false IntKind.i64 (ff h 64 15), C.b
      true true, z0, C.i false IntKind.i64 (ff h 1 7), z0, C.i false IntKind.i64 (ff h 8 7), C.i true IntKind.u32 (0 : Int), zf, z0, z0, zf, zf, zf, zf, zf, zf, zf, zf, z0, zf,
      zf, zf])) ∧ ((!decide (ff h 256 15 < (14 : Int))) = false → R (SV.a [C.i true IntKind.i64 (1 : Int), z0, C.i false IntKind.i64 (ff h 64 15), C.b true true, z0, C.i false
      IntKind.i64 (ff h 1 7), z0, C.i false IntKind.i64 (ff h 8 7), C.i true IntKind.u32 (0 : Int), zf, z0, z0, zf, zf, zf, zf, zf, zf, zf, zf, z0, zf, zf, zf]))) ∧ ((h.fdiv
      (4096 : Int) == (13 : Int)) = false → R (SV.a [C.i true IntKind.i64 (1 : Int), C.i true IntKind.i64 (14 : Int), C.i false IntKind.i64 (ff h 64 15), C.b true true, z0, C.i
      false IntKind.i64 (ff h 1 7), z0, C.i false IntKind.i64 (ff h 8 7), C.i true IntKind.u32 (0 : Int), zf, z0, z0, zf, zf, zf, zf, zf, zf, zf, zf, z0, zf, zf, zf]))) ∧ ((ff h
      64 15 == (8 : Int)) = false → ((ff h 64 15 == (10 : Int)) = true → ((h.fdiv (4096 : Int) == (13 : Int)) = true → ((!decide (ff h 256 15 < (14 : Int))) = true → R (SV.a
      [C.i true IntKind.i64 (1 : Int), C.i true IntKind.i64 (14 : Int), C.i false IntKind.i64 (ff h 64 15), C.b true true, z0, C.i false IntKind.i64 (ff h 1 7), z0, C.i false
      IntKind.i64 (ff h 8 7), C.i true IntKind.u32 (0 : Int), zf, z0, z0, zf, zf, zf, zf, zf, zf, zf, zf, z0, zf, zf, zf])) ∧ ((!decide (ff h 256 15 < (14 : Int))) = false → R
      (SV.a [C.i true IntKind.i64 (1 : Int), z0, C.i false IntKind.i64 (ff h 64 15), C.b true true, z0, C.i false IntKind.i64 (ff h 1 7), z0, C.i false IntKind.i64 (ff h 8 7),
      C.i true IntKind.u32 (0 : Int), zf, z0, z0, zf, zf, zf, zf, zf, zf, zf, zf, z0, zf, zf, zf]))) ∧ ((h.fdiv (4096 : Int) == (13 : Int)) = false → R (SV.a [C.i true
      IntKind.i64 (1 : Int), C.i true IntKind.i64 (14 : Int), C.i false IntKind.i64 (ff h 64 15), C.b true true, z0, C.i false IntKind.i64 (ff h 1 7), z0, C.i false IntKind.i64
      (ff h 8 7), C.i true IntKind.u32 (0 : Int), zf, z0, z0, zf, zf, zf, zf, zf, zf, zf, zf, z0, zf, zf, zf]))) ∧ ((ff h 64 15 == (10 : Int)) = false → ((ff h 64 15 == (11 :
      Int)) = true → ((h.fdiv (4096 : Int) == (13 : Int)) = true → ((!decide (ff h 256 15 < (14 : Int))) = true → R (SV.a [C.i true IntKind.i64 (1 : Int), C.i true IntKind.i64
      (14 : Int), C.i false IntKind.i64 (ff h 64 15), C.b true true, z0, C.i false IntKind.i64 (ff h 1 7), z0, C.i false IntKind.i64 (ff h 8 7), C.i true IntKind.u32 (0 : Int),
      zf, z0, z0, zf, zf, zf, zf, zf, zf, zf, zf, z0, zf, zf, zf])) ∧ ((!decide (ff h 256 15 < (14 : Int))) = false → R (SV.a [C.i true IntKind.i64 (1 : Int), z0, C.i false
      IntKind.i64 (ff h 64 15), C.b true true, z0, C.i false IntKind.i64 (ff h 1 7), z0, C.i false IntKind.i64 (ff h 8 7), C.i true IntKind.u32 (0 : Int), zf, z0, z0, zf, zf,
      zf, zf, zf, zf, zf, zf, z0, zf, zf, zf]))) ∧ ((h.fdiv (4096 : Int) == (13 : Int)) = false → R (SV.a [C.i true IntKind.i64 (1 : Int), C.i true IntKind.i64 (14 : Int), C.i
      false IntKind.i64 (ff h 64 15), C.b true true, z0, C.i false IntKind.i64 (ff h 1 7), z0, C.i false IntKind.i64 (ff h 8 7), C.i true IntKind.u32 (0 : Int), zf, z0, z0, zf,
      zf, zf, zf, zf, zf, zf, zf, z0, zf, zf, zf]))) ∧ ((ff h 64 15 == (11 : Int)) = false → ((ff h 64 15 == (9 : Int)) = true → ((h.fdiv (4096 : Int) == (13 : Int)) = true →
      ((!decide (ff h 256 15 < (14 : Int))) = true → R (SV.a [C.i true IntKind.i64 (1 : Int), C.i true IntKind.i64 (14 : Int), C.i true IntKind.i64 (3 : Int), C.b true true, C.i
      false IntKind.i64 (ff h 1 7), C.i false IntKind.i64 (ff h 8 7), z0, z0, C.i true IntKind.u32 (0 : Int), C.b true true, z0, z0, zf, zf, zf, zf, zf, zf, zf, zf, z0, zf, zf,
      zf])) ∧ ((!decide (ff h 256 15 < (14 : Int))) = false → R (SV.a [C.i true IntKind.i64 (1 : Int), z0, C.i true IntKind.i64 (3 : Int), C.b true true, C.i false IntKind.i64
      (ff h 1 7), C.i false IntKind.i64 (ff h 8 7), z0, z0, C.i true IntKind.u32 (0 : Int), C.b true true, z0, z0, zf, zf, zf, zf, zf, zf, zf, zf, z0, zf, zf, zf]))) ∧ ((h.fdiv
      (4096 : Int) == (13 : Int)) = false → R (SV.a [C.i true IntKind.i64 (1 : Int), C.i true IntKind.i64 (14 : Int), C.i true IntKind.i64 (3 : Int), C.b true true, C.i false
      IntKind.i64 (ff h 1 7), C.i false IntKind.i64 (ff h 8 7), z0, z0, C.i true IntKind.u32 (0 : Int), C.b true true, z0, z0, zf, zf, zf, zf, zf, zf, zf, zf, z0, zf, zf, zf])))
      ∧ ((ff h 64 15 == (9 : Int)) = false → ((ff h 64 15 == (13 : Int)) = true → ((h.fdiv (4096 : Int) == (13 : Int)) = true → ((!decide (ff h 256 15 < (14 : Int))) = true → R
      (SV.a [C.i true IntKind.i64 (2 : Int), C.i true IntKind.i64 (14 : Int), z0, C.b true true, C.i false IntKind.i64 (ff h 1 7), z0, C.i false IntKind.i64 (ff h 1 7), C.i
      false IntKind.i64 (ff h 8 7), C.i true IntKind.u32 (0 : Int), zf, z0, z0, zf, zf, zf, zf, zf, zf, zf, zf, z0, zf, zf, zf])) ∧ ((!decide (ff h 256 15 < (14 : Int))) = false
      → R (SV.a [C.i true IntKind.i64 (2 : Int), z0, z0, C.b true true, C.i false IntKind.i64 (ff h 1 7), z0, C.i false IntKind.i64 (ff h 1 7), C.i false IntKind.i64 (ff h 8 7),
      C.i true IntKind.u32 (0 : Int), zf, z0, z0, zf, zf, zf, zf, zf, zf, zf, zf, z0, zf, zf, zf]))) ∧ ((h.fdiv (4096 : Int) == (13 : Int)) = false → R (SV.a [C.i true
      IntKind.i64 (2 : Int), C.i true IntKind.i64 (14 : Int), z0, C.b true true, C.i false IntKind.i64 (ff h 1 7), z0, C.i false IntKind.i64 (ff h 1 7), C.i false IntKind.i64
      (ff h 8 7), C.i true IntKind.u32 (0 : Int), zf, z0, z0, zf, zf, zf, zf, zf, zf, zf, zf, z0, zf, zf, zf]))) ∧ ((ff h 64 15 == (13 : Int)) = false → ((ff h 64 15 == (15 :
      Int)) = true → ((h.fdiv (4096 : Int) == (13 : Int)) = true → ((!decide (ff h 256 15 < (14 : Int))) = true → R (SV.a [C.i true IntKind.i64 (1 : Int), C.i true IntKind.i64
      (14 : Int), C.i false IntKind.i64 (ff h 64 15), C.b true true, C.i false IntKind.i64 (ff h 1 7), z0, z0, C.i false IntKind.i64 (ff h 8 7), C.i true IntKind.u32 (0 : Int),
      zf, z0, z0, zf, zf, zf, zf, zf, zf, zf, zf, z0, zf, zf, zf])) ∧ ((!decide (ff h 256 15 < (14 : Int))) = false → R (SV.a [C.i true IntKind.i64 (1 : Int), z0, C.i false
      IntKind.i64 (ff h 64 15), C.b true true, C.i false IntKind.i64 (ff h 1 7), z0, z0, C.i false IntKind.i64 (ff h 8 7), C.i true IntKind.u32 (0 : Int), zf, z0, z0, zf, zf,
      zf, zf, zf, zf, zf, zf, z0, zf, zf, zf]))) ∧ ((h.fdiv (4096 : Int) == (13 : Int)) = false → R (SV.a [C.i true IntKind.i64 (1 : Int), C.i true IntKind.i64 (14 : Int), C.i
      false IntKind.i64 (ff h 64 15), C.b true true, C.i false IntKind.i64 (ff h 1 7), z0, z0, C.i false IntKind.i64 (ff h 8 7), C.i true IntKind.u32 (0 : Int), zf, z0, z0, zf,
      zf, zf, zf, zf, zf, zf, zf, z0, zf, zf, zf]))) ∧ ((ff h 64 15 == (15 : Int)) = false → ((h.fdiv (4096 : Int) == (13 : Int)) = true → ((!decide (ff h 256 15 < (14 : Int)))
      = true → R (SV.a [C.i true IntKind.i64 (1 : Int), C.i true IntKind.i64 (14 : Int), C.i false IntKind.i64 (ff h 64 15), C.b true true, C.i false IntKind.i64 (ff h 1 7), C.i
      false IntKind.i64 (ff h 1 7), z0, C.i false IntKind.i64 (ff h 8 7), C.i true IntKind.u32 (0 : Int), zf, z0, z0, zf, zf, zf, zf, zf, zf, zf, zf, z0, zf, zf, zf])) ∧
      ((!decide (ff h 256 15 < (14 : Int))) = false → R (SV.a [C.i true IntKind.i64 (1 : Int), z0, C.i false IntKind.i64 (ff h 64 15), C.b true true, C.i false IntKind.i64 (ff h
      1 7), C.i false IntKind.i64 (ff h 1 7), z0, C.i false IntKind.i64 (ff h 8 7), C.i true IntKind.u32 (0 : Int), zf, z0, z0, zf, zf, zf, zf, zf, zf, zf, zf, z0, zf, zf,
      zf]))) ∧ ((h.fdiv (4096 : Int) == (13 : Int)) = false → R (SV.a [C.i true IntKind.i64 (1 : Int), C.i true IntKind.i64 (14 : Int), C.i false IntKind.i64 (ff h 64 15), C.b
      true true, C.i false IntKind.i64 (ff h 1 7), C.i false IntKind.i64 (ff h 1 7), z0, C.i false IntKind.i64 (ff h 8 7), C.i true IntKind.u32 (0 : Int), zf, z0, z0, zf, zf,
      zf, zf, zf, zf, zf, zf, z0, zf, zf, zf]))))))))))))))) ∧ ((h.fdiv (4096 : Int) == (4 : Int)) = false → ((h.fdiv (4096 : Int) == (5 : Int)) = true → ((!bits BinOp.and
      IntKind.u16 (h.fdiv (512 : Int)) (1 : Int) != (0 : Int)) = true → ((h.fdiv (4096 : Int) == (13 : Int)) = true → ((!decide (ff h 256 15 < (14 : Int))) = true → R (SV.a [C.i
      true IntKind.i64 (7 : Int), C.i true IntKind.i64 (14 : Int), z0, zf, C.i false IntKind.i64 (ff h 1 7), C.i false IntKind.i64 (ff h 8 7), z0, C.i false IntKind.i64 (ff h 64
      7), C.i true IntKind.u32 (0 : Int), zf, z0, z0, zf, C.b false (bits BinOp.and IntKind.u16 (h.fdiv (2048 : Int)) (1 : Int) != (0 : Int)), C.b false (bits BinOp.and
      IntKind.u16 (h.fdiv (1024 : Int)) (1 : Int) != (0 : Int)), zf, C.b true true, C.b true true, zf, zf, z0, zf, zf, zf])) ∧ ((!decide (ff h 256 15 < (14 : Int))) = false → R
      (SV.a [C.i true IntKind.i64 (7 : Int), z0, z0, zf, C.i false IntKind.i64 (ff h 1 7), C.i false IntKind.i64 (ff h 8 7), z0, C.i false IntKind.i64 (ff h 64 7), C.i true
      IntKind.u32 (0 : Int), zf, z0, z0, zf, C.b false (bits BinOp.and IntKind.u16 (h.fdiv (2048 : Int)) (1 : Int) != (0 : Int)), C.b false (bits BinOp.and IntKind.u16 (h.fdiv
      (1024 : Int)) (1 : Int) != (0 : Int)), zf, C.b true true, C.b true true, zf, zf, z0, zf, zf, zf]))) ∧ ((h.fdiv (4096 : Int) == (13 : Int)) = false → R (SV.a [C.i true
      IntKind.i64 (7 : Int), C.i true IntKind.i64 (14 : Int), z0, zf, C.i false IntKind.i64 (ff h 1 7), C.i false IntKind.i64 (ff h 8 7), z0, C.i false IntKind.i64 (ff h 64 7),
      C.i true IntKind.u32 (0 : Int), zf, z0, z0, zf, C.b false (bits BinOp.and IntKind.u16 (h.fdiv (2048 : Int)) (1 : Int) != (0 : Int)), C.b false (bits BinOp.and IntKind.u16
      (h.fdiv (1024 : Int)) (1 : Int) != (0 : Int)), zf, C.b true true, C.b true true, zf, zf, z0, zf, zf, zf]))) ∧ ((!bits BinOp.and IntKind.u16 (h.fdiv (512 : Int)) (1 : Int)
      != (0 : Int)) = false → inB (ff h 1024 3) (4 : Nat) = true ∧ ((h.fdiv (4096 : Int) == (13 : Int)) = true → ((!decide (ff h 256 15 < (14 : Int))) = true → R (SV.a [C.i true
      IntKind.i64 (6 : Int), C.i true IntKind.i64 (14 : Int), C.i false IntKind.i64 (selI [(1 : Int), (2 : Int), (1 : Int), (3 : Int)] (ff h 1024 3)), zf, C.i false IntKind.i64
      (ff h 1 7), C.i false IntKind.i64 (ff h 8 7), z0, C.i false IntKind.i64 (ff h 64 7), C.i true IntKind.u32 (0 : Int), zf, z0, z0, zf, C.b false (ff h 1024 3 != (0 : Int)),
      zf, zf, C.b true true, C.b true true, zf, zf, z0, zf, zf, zf])) ∧ ((!decide (ff h 256 15 < (14 : Int))) = false → R (SV.a [C.i true IntKind.i64 (6 : Int), z0, C.i false
      IntKind.i64 (selI [(1 : Int), (2 : Int), (1 : Int), (3 : Int)] (ff h 1024 3)), zf, C.i false IntKind.i64 (ff h 1 7), C.i false IntKind.i64 (ff h 8 7), z0, C.i false
      IntKind.i64 (ff h 64 7), C.i true IntKind.u32 (0 : Int), zf, z0, z0, zf, C.b false (ff h 1024 3 != (0 : Int)), zf, zf, C.b true true, C.b true true, zf, zf, z0, zf, zf,
      zf]))) ∧ ((h.fdiv (4096 : Int) == (13 : Int)) = false → R (SV.a [C.i true IntKind.i64 (6 : Int), C.i true IntKind.i64 (14 : Int), C.i false IntKind.i64 (selI [(1 : Int),
      (2 : Int), (1 : Int), (3 : Int)] (ff h 1024 3)), zf, C.i false IntKind.i64 (ff h 1 7), C.i false IntKind.i64 (ff h 8 7), z0, C.i false IntKind.i64 (ff h 64 7), C.i true
      IntKind.u32 (0 : Int), zf, z0, z0, zf, C.b false (ff h 1024 3 != (0 : Int)), zf, zf, C.b true true, C.b true true, zf, zf, z0, zf, zf, zf])))) ∧ ((h.fdiv (4096 : Int) ==
      (5 : Int)) = false → ((h.fdiv (4096 : Int) == (6 : Int)) = true → ((!bits BinOp.and IntKind.u16 (h.fdiv (4096 : Int)) (1 : Int) != (0 : Int)) = true → ((h.fdiv (4096 :
      Int) == (13 : Int)) = true → ((!decide (ff h 256 15 < (14 : Int))) = true → R (SV.a [C.i true IntKind.i64 (7 : Int), C.i true IntKind.i64 (14 : Int), z0, zf, C.i false
      IntKind.i64 (ff h 1 7), C.i false IntKind.i64 (ff h 8 7), z0, z0, C.i false IntKind.u32 (IntKind.u32.wrap ((4 : Int) * IntKind.u32.wrap (ff h 64 31))), C.b true true, z0,
      z0, zf, C.b false (bits BinOp.and IntKind.u16 (h.fdiv (2048 : Int)) (1 : Int) != (0 : Int)), zf, zf, C.b true true, C.b true true, zf, zf, z0, zf, zf, zf])) ∧ ((!decide
      (ff h 256 15 < (14 : Int))) = false → R (SV.a [C.i true IntKind.i64 (7 : Int), z0, z0, zf, C.i false IntKind.i64 (ff h 1 7), C.i false IntKind.i64 (ff h 8 7), z0, z0, C.i
      false IntKind.u32 (IntKind.u32.wrap ((4 : Int) * IntKind.u32.wrap (ff h 64 31))), C.b true true, z0, z0, zf, C.b false (bits BinOp.and IntKind.u16 (h.fdiv (2048 : Int)) (1
      : Int) != (0 : Int)), zf, zf, C.b true true, C.b true true, zf, zf, z0, zf, zf, zf]))) ∧ ((h.fdiv (4096 : Int) == (13 : Int)) = false → R (SV.a [C.i true IntKind.i64 (7 :
      Int), C.i true IntKind.i64 (14 : Int), z0, zf, C.i false IntKind.i64 (ff h 1 7), C.i false IntKind.i64 (ff h 8 7), z0, z0, C.i false IntKind.u32 (IntKind.u32.wrap ((4 :
      Int) * IntKind.u32.wrap (ff h 64 31))), C.b true true, z0, z0, zf, C.b false (bits BinOp.and IntKind.u16 (h.fdiv (2048 : Int)) (1 : Int) != (0 : Int)), zf, zf, C.b true
      true, C.b true true, zf, zf, z0, zf, zf, zf]))) ∧ ((!bits BinOp.and IntKind.u16 (h.fdiv (4096 : Int)) (1 : Int) != (0 : Int)) = false → ((h.fdiv (4096 : Int) == (13 :
      Int)) = true → ((!decide (ff h 256 15 < (14 : Int))) = true → R (SV.a [C.i true IntKind.i64 (7 : Int), C.i true IntKind.i64 (14 : Int), z0, zf, C.i false IntKind.i64 (ff h
      1 7), C.i false IntKind.i64 (ff h 8 7), z0, z0, C.i false IntKind.u32 (IntKind.u32.wrap (ff h 64 31)), C.b true true, z0, z0, zf, C.b false (bits BinOp.and IntKind.u16
      (h.fdiv (2048 : Int)) (1 : Int) != (0 : Int)), C.b true true, zf, C.b true true, C.b true true, zf, zf, z0, zf, zf, zf])) ∧ ((!decide (ff h 256 15 < (14 : Int))) = false →
      R (SV.a [C.i true IntKind.i64 (7 : Int), z0, z0, zf, C.i false IntKind.i64 (ff h 1 7), C.i false IntKind.i64 (ff h 8 7), z0, z0, C.i false IntKind.u32 (IntKind.u32.wrap
      (ff h 64 31)), C.b true true, z0, z0, zf, C.b false (bits BinOp.and IntKind.u16 (h.fdiv (2048 : Int)) (1 : Int) != (0 : Int)), C.b true true, zf, C.b true true, C.b true
      true, zf, zf, z0, zf, zf, zf]))) ∧ ((h.fdiv (4096 : Int) == (13 : Int)) = false → R (SV.a [C.i true IntKind.i64 (7 : Int), C.i true IntKind.i64 (14 : Int), z0, zf, C.i
      false IntKind.i64 (ff h 1 7), C.i false IntKind.i64 (ff h 8 7), z0, z0, C.i false IntKind.u32 (IntKind.u32.wrap (ff h 64 31)), C.b true true, z0, z0, zf, C.b false (bits
      BinOp.and IntKind.u16 (h.fdiv (2048 : Int)) (1 : Int) != (0 : Int)), C.b true true, zf, C.b true true, C.b true true, zf, zf, z0, zf, zf, zf])))) ∧ ((h.fdiv (4096 : Int)
      == (6 : Int)) = false → ((h.fdiv (4096 : Int) == (7 : Int)) = true → ((!bits BinOp.and IntKind.u16 (h.fdiv (4096 : Int)) (1 : Int) != (0 : Int)) = true → ((h.fdiv (4096 :
      Int) == (13 : Int)) = true → ((!decide (ff h 256 15 < (14 : Int))) = true → R (SV.a [C.i true IntKind.i64 (7 : Int), C.i true IntKind.i64 (14 : Int), z0, zf, C.i false
      IntKind.i64 (ff h 1 7), C.i false IntKind.i64 (ff h 8 7), z0, z0, C.i false IntKind.u32 (IntKind.u32.wrap ((4 : Int) * IntKind.u32.wrap (ff h 64 31))), C.b true true, z0,
      z0, zf, C.b false (bits BinOp.and IntKind.u16 (h.fdiv (2048 : Int)) (1 : Int) != (0 : Int)), zf, zf, C.b true true, C.b true true, zf, zf, z0, zf, zf, zf])) ∧ ((!decide
      (ff h 256 15 < (14 : Int))) = false → R (SV.a [C.i true IntKind.i64 (7 : Int), z0, z0, zf, C.i false IntKind.i64 (ff h 1 7), C.i false IntKind.i64 (ff h 8 7), z0, z0, C.i
      false IntKind.u32 (IntKind.u32.wrap ((4 : Int) * IntKind.u32.wrap (ff h 64 31))), C.b true true, z0, z0, zf, C.b false (bits BinOp.and IntKind.u16 (h.fdiv (2048 : Int)) (1
      : Int) != (0 : Int)), zf, zf, C.b true true, C.b true true, zf, zf, z0, zf, zf, zf]))) ∧ ((h.fdiv (4096 : Int) == (13 : Int)) = false → R (SV.a [C.i true IntKind.i64 (7 :
      Int), C.i true IntKind.i64 (14 : Int), z0, zf, C.i false IntKind.i64 (ff h 1 7), C.i false IntKind.i64 (ff h 8 7), z0, z0, C.i false IntKind.u32 (IntKind.u32.wrap ((4 :
      Int) * IntKind.u32.wrap (ff h 64 31))), C.b true true, z0, z0, zf, C.b false (bits BinOp.and IntKind.u16 (h.fdiv (2048 : Int)) (1 : Int) != (0 : Int)), zf, zf, C.b true
      true, C.b true true, zf, zf, z0, zf, zf, zf]))) ∧ ((!bits BinOp.and IntKind.u16 (h.fdiv (4096 : Int)) (1 : Int) != (0 : Int)) = false → ((h.fdiv (4096 : Int) == (13 :
      Int)) = true → ((!decide (ff h 256 15 < (14 : Int))) = true → R (SV.a [C.i true IntKind.i64 (7 : Int), C.i true IntKind.i64 (14 : Int), z0, zf, C.i false IntKind.i64 (ff h
      1 7), C.i false IntKind.i64 (ff h 8 7), z0, z0, C.i false IntKind.u32 (IntKind.u32.wrap (ff h 64 31)), C.b true true, z0, z0, zf, C.b false (bits BinOp.and IntKind.u16
      (h.fdiv (2048 : Int)) (1 : Int) != (0 : Int)), C.b true true, zf, C.b true true, C.b true true, zf, zf, z0, zf, zf, zf])) ∧ ((!decide (ff h 256 15 < (14 : Int))) = false →
      R (SV.a [C.i true IntKind.i64 (7 : Int), z0, z0, zf, C.i false IntKind.i64 (ff h 1 7), C.i false IntKind.i64 (ff h 8 7), z0, z0, C.i false IntKind.u32 (IntKind.u32.wrap
      (ff h 64 31)), C.b true true, z0, z0, zf, C.b false (bits BinOp.and IntKind.u16 (h.fdiv (2048 : Int)) (1 : Int) != (0 : Int)), C.b true true, zf, C.b true true, C.b true
      true, zf, zf, z0, zf, zf, zf]))) ∧ ((h.fdiv (4096 : Int) == (13 : Int)) = false → R (SV.a [C.i true IntKind.i64 (7 : Int), C.i true IntKind.i64 (14 : Int), z0, zf, C.i
      false IntKind.i64 (ff h 1 7), C.i false IntKind.i64 (ff h 8 7), z0, z0, C.i false IntKind.u32 (IntKind.u32.wrap (ff h 64 31)), C.b true true, z0, z0, zf, C.b false (bits
      BinOp.and IntKind.u16 (h.fdiv (2048 : Int)) (1 : Int) != (0 : Int)), C.b true true, zf, C.b true true, C.b true true, zf, zf, z0, zf, zf, zf])))) ∧ ((h.fdiv (4096 : Int)
      == (7 : Int)) = false → ((h.fdiv (4096 : Int) == (8 : Int)) = true → ((h.fdiv (4096 : Int) == (13 : Int)) = true → ((!decide (ff h 256 15 < (14 : Int))) = true → R (SV.a
      [C.i true IntKind.i64 (6 : Int), C.i true IntKind.i64 (14 : Int), C.i true IntKind.i64 (1 : Int), zf, C.i false IntKind.i64 (ff h 1 7), C.i false IntKind.i64 (ff h 8 7),
      z0, z0, C.i false IntKind.u32 (IntKind.u32.wrap (IntKind.u32.wrap (ff h 64 31) * (2 : Int))), C.b true true, z0, z0, zf, C.b false (bits BinOp.and IntKind.u16 (h.fdiv
      (2048 : Int)) (1 : Int) != (0 : Int)), zf, zf, C.b true true, C.b true true, zf, zf, z0, zf, zf, zf])) ∧ ((!decide (ff h 256 15 < (14 : Int))) = false → R (SV.a [C.i true
      IntKind.i64 (6 : Int), z0, C.i true IntKind.i64 (1 : Int), zf, C.i false IntKind.i64 (ff h 1 7), C.i false IntKind.i64 (ff h 8 7), z0, z0, C.i false IntKind.u32
      (IntKind.u32.wrap (IntKind.u32.wrap (ff h 64 31) * (2 : Int))), C.b true true, z0, z0, zf, C.b false (bits BinOp.and IntKind.u16 (h.fdiv (2048 : Int)) (1 : Int) != (0 :
      Int)), zf, zf, C.b true true, C.b true true, zf, zf, z0, zf, zf, zf]))) ∧ ((h.fdiv (4096 : Int) == (13 : Int)) = false → R (SV.a [C.i true IntKind.i64 (6 : Int), C.i true
      IntKind.i64 (14 : Int), C.i true IntKind.i64 (1 : Int), zf, C.i false IntKind.i64 (ff h 1 7), C.i false IntKind.i64 (ff h 8 7), z0, z0, C.i false IntKind.u32
      (IntKind.u32.wrap (IntKind.u32.wrap (ff h 64 31) * (2 : Int))), C.b true true, z0, z0, zf, C.b false (bits BinOp.and IntKind.u16 (h.fdiv (2048 : Int)) (1 : Int) != (0 :
      Int)), zf, zf, C.b true true, C.b true true, zf, zf, z0, zf, zf, zf]))) ∧ ((h.fdiv (4096 : Int) == (8 : Int)) = false → ((h.fdiv (4096 : Int) == (9 : Int)) = true →
      ((h.fdiv (4096 : Int) == (13 : Int)) = true → ((!decide (ff h 256 15 < (14 : Int))) = true → R (SV.a [C.i true IntKind.i64 (7 : Int), C.i true IntKind.i64 (14 : Int), z0,
      zf, C.i false IntKind.i64 (ff h 256 7), C.i true IntKind.i64 (13 : Int), z0, z0, C.i false IntKind.u32 (IntKind.u32.wrap ((4 : Int) * IntKind.u32.wrap (bits BinOp.and
      IntKind.u16 h (255 : Int)))), C.b true true, z0, z0, zf, C.b false (bits BinOp.and IntKind.u16 (h.fdiv (2048 : Int)) (1 : Int) != (0 : Int)), zf, zf, C.b true true, C.b
      true true, zf, zf, z0, zf, zf, zf])) ∧ ((!decide (ff h 256 15 < (14 : Int))) = false → R (SV.a [C.i true IntKind.i64 (7 : Int), z0, z0, zf, C.i false IntKind.i64 (ff h 256
      7), C.i true IntKind.i64 (13 : Int), z0, z0, C.i false IntKind.u32 (IntKind.u32.wrap ((4 : Int) * IntKind.u32.wrap (bits BinOp.and IntKind.u16 h (255 : Int)))), C.b true
      true, z0, z0, zf, C.b false (bits BinOp.and IntKind.u16 (h.fdiv (2048 : Int)) (1 : Int) != (0 : Int)), zf, zf, C.b true true, C.b true true, zf, zf, z0, zf, zf, zf]))) ∧
      ((h.fdiv (4096 : Int) == (13 : Int)) = false → R (SV.a [C.i true IntKind.i64 (7 : Int), C.i true IntKind.i64 (14 : Int), z0, zf, C.i false IntKind.i64 (ff h 256 7), C.i
      true IntKind.i64 (13 : Int), z0, z0, C.i false IntKind.u32 (IntKind.u32.wrap ((4 : Int) * IntKind.u32.wrap (bits BinOp.and IntKind.u16 h (255 : Int)))), C.b true true, z0,
      z0, zf, C.b false (bits BinOp.and IntKind.u16 (h.fdiv (2048 : Int)) (1 : Int) != (0 : Int)), zf, zf, C.b true true, C.b true true, zf, zf, z0, zf, zf, zf]))) ∧ ((h.fdiv
      (4096 : Int) == (9 : Int)) = false → ((h.fdiv (4096 : Int) == (10 : Int)) = true → ((bits BinOp.and IntKind.u16 (h.fdiv (2048 : Int)) (1 : Int) != (0 : Int)) = true →
      ((h.fdiv (4096 : Int) == (13 : Int)) = true → ((!decide (ff h 256 15 < (14 : Int))) = true → R (SV.a [C.i true IntKind.i64 (1 : Int), C.i true IntKind.i64 (14 : Int), C.i
      true IntKind.i64 (4 : Int), zf, C.i false IntKind.i64 (ff h 256 7), C.i true IntKind.i64 (13 : Int), z0, z0, C.i false IntKind.u32 (IntKind.u32.wrap (bits BinOp.and
      IntKind.u16 h (255 : Int))), C.b true true, z0, C.i true IntKind.i64 (15 : Int), zf, zf, zf, zf, zf, zf, zf, zf, z0, zf, zf, zf])) ∧ ((!decide (ff h 256 15 < (14 : Int)))
      = false → R (SV.a [C.i true IntKind.i64 (1 : Int), z0, C.i true IntKind.i64 (4 : Int), zf, C.i false IntKind.i64 (ff h 256 7), C.i true IntKind.i64 (13 : Int), z0, z0, C.i
      false IntKind.u32 (IntKind.u32.wrap (bits BinOp.and IntKind.u16 h (255 : Int))), C.b true true, z0, C.i true IntKind.i64 (15 : Int), zf, zf, zf, zf, zf, zf, zf, zf, z0,
      zf, zf, zf]))) ∧ ((h.fdiv (4096 : Int) == (13 : Int)) = false → R (SV.a [C.i true IntKind.i64 (1 : Int), C.i true IntKind.i64 (14 : Int), C.i true IntKind.i64 (4 : Int),
      zf, C.i false IntKind.i64 (ff h 256 7), C.i true IntKind.i64 (13 : Int), z0, z0, C.i false IntKind.u32 (IntKind.u32.wrap (bits BinOp.and IntKind.u16 h (255 : Int))), C.b
      true true, z0, C.i true IntKind.i64 (15 : Int), zf, zf, zf, zf, zf, zf, zf, zf, z0, zf, zf, zf]))) ∧ ((bits BinOp.and IntKind.u16 (h.fdiv (2048 : Int)) (1 : Int) != (0 :
      Int)) = false → ((h.fdiv (4096 : Int) == (13 : Int)) = true → ((!decide (ff h 256 15 < (14 : Int))) = true → R (SV.a [C.i true IntKind.i64 (1 : Int), C.i true IntKind.i64
      (14 : Int), C.i true IntKind.i64 (4 : Int), zf, C.i false IntKind.i64 (ff h 256 7), C.i true IntKind.i64 (15 : Int), z0, z0, C.i false IntKind.u32 (IntKind.u32.wrap (bits
      BinOp.and IntKind.u16 h (255 : Int))), C.b true true, z0, C.i true IntKind.i64 (15 : Int), zf, zf, zf, zf, zf, zf, zf, zf, z0, zf, zf, C.b true true])) ∧ ((!decide (ff h
      256 15 < (14 : Int))) = false → R (SV.a [C.i true IntKind.i64 (1 : Int), z0, C.i true IntKind.i64 (4 : Int), zf, C.i false IntKind.i64 (ff h 256 7), C.i true IntKind.i64
      (15 : Int), z0, z0, C.i false IntKind.u32 (IntKind.u32.wrap (bits BinOp.and IntKind.u16 h (255 : Int))), C.b true true, z0, C.i true IntKind.i64 (15 : Int), zf, zf, zf,
      zf, zf, zf, zf, zf, z0, zf, zf, C.b true true]))) ∧ ((h.fdiv (4096 : Int) == (13 : Int)) = false → R (SV.a [C.i true IntKind.i64 (1 : Int), C.i true IntKind.i64 (14 :
      Int), C.i true IntKind.i64 (4 : Int), zf, C.i false IntKind.i64 (ff h 256 7), C.i true IntKind.i64 (15 : Int), z0, z0, C.i false IntKind.u32 (IntKind.u32.wrap (bits
      BinOp.and IntKind.u16 h (255 : Int))), C.b true true, z0, C.i true IntKind.i64 (15 : Int), zf, zf, zf, zf, zf, zf, zf, zf, z0, zf, zf, C.b true true])))) ∧ ((h.fdiv (4096
      : Int) == (10 : Int)) = false → ((h.fdiv (4096 : Int) == (11 : Int)) = true → ((ff h 256 15 == (0 : Int)) = true → ((bits BinOp.and IntKind.u16 (h.fdiv (128 : Int)) (1 :
      Int) != (0 : Int)) = true → ((h.fdiv (4096 : Int) == (13 : Int)) = true → ((!decide (ff h 256 15 < (14 : Int))) = true → R (SV.a [C.i true IntKind.i64 (1 : Int), C.i true
      IntKind.i64 (14 : Int), C.i true IntKind.i64 (2 : Int), zf, C.i true IntKind.i64 (13 : Int), C.i true IntKind.i64 (13 : Int), z0, z0, C.i false IntKind.u32
      (IntKind.u32.wrap (ff h 1 127)), C.b true true, z0, C.i true IntKind.i64 (15 : Int), zf, zf, zf, zf, zf, zf, zf, zf, z0, zf, zf, zf])) ∧ ((!decide (ff h 256 15 < (14 :
      Int))) = false → R (SV.a [C.i true IntKind.i64 (1 : Int), z0, C.i true IntKind.i64 (2 : Int), zf, C.i true IntKind.i64 (13 : Int), C.i true IntKind.i64 (13 : Int), z0, z0,
      C.i false IntKind.u32 (IntKind.u32.wrap (ff h 1 127)), C.b true true, z0, C.i true IntKind.i64 (15 : Int), zf, zf, zf, zf, zf, zf, zf, zf, z0, zf, zf, zf]))) ∧ ((h.fdiv
      (4096 : Int) == (13 : Int)) = false → R (SV.a [C.i true IntKind.i64 (1 : Int), C.i true IntKind.i64 (14 : Int), C.i true IntKind.i64 (2 : Int), zf, C.i true IntKind.i64
      (13 : Int), C.i true IntKind.i64 (13 : Int), z0, z0, C.i false IntKind.u32 (IntKind.u32.wrap (ff h 1 127)), C.b true true, z0, C.i true IntKind.i64 (15 : Int), zf, zf, zf,
      zf, zf, zf, zf, zf, z0, zf, zf, zf]))) ∧ ((bits BinOp.and IntKind.u16 (h.fdiv (128 : Int)) (1 : Int) != (0 : Int)) = false → ((h.fdiv (4096 : Int) == (13 : Int)) = true →
      ((!decide (ff h 256 15 < (14 : Int))) = true → R (SV.a [C.i true IntKind.i64 (1 : Int), C.i true IntKind.i64 (14 : Int), C.i true IntKind.i64 (4 : Int), zf, C.i true
      IntKind.i64 (13 : Int), C.i true IntKind.i64 (13 : Int), z0, z0, C.i false IntKind.u32 (IntKind.u32.wrap (ff h 1 127)), C.b true true, z0, C.i true IntKind.i64 (15 : Int),
      zf, zf, zf, zf, zf, zf, zf, zf, z0, zf, zf, zf])) ∧ ((!decide (ff h 256 15 < (14 : Int))) = false → R (SV.a [C.i true IntKind.i64 (1 : Int), z0, C.i true IntKind.i64 (4 :
      Int), zf, C.i true IntKind.i64 (13 : Int), C.i true IntKind.i64 (13 : Int), z0, z0, C.i false IntKind.u32 (IntKind.u32.wrap (ff h 1 127)), C.b true true, z0, C.i true
      IntKind.i64 (15 : Int), zf, zf, zf, zf, zf, zf, zf, zf, z0, zf, zf, zf]))) ∧ ((h.fdiv (4096 : Int) == (13 : Int)) = false → R (SV.a [C.i true IntKind.i64 (1 : Int), C.i
      true IntKind.i64 (14 : Int), C.i true IntKind.i64 (4 : Int), zf, C.i true IntKind.i64 (13 : Int), C.i true IntKind.i64 (13 : Int), z0, z0, C.i false IntKind.u32
      (IntKind.u32.wrap (ff h 1 127)), C.b true true, z0, C.i true IntKind.i64 (15 : Int), zf, zf, zf, zf, zf, zf, zf, zf, z0, zf, zf, zf])))) ∧ ((ff h 256 15 == (0 : Int)) =
      false → ((ff h 256 15 == (4 : Int)) = true → ((h.fdiv (4096 : Int) == (13 : Int)) = true → ((!decide (ff h 256 15 < (14 : Int))) = true → R (SV.a [C.i true IntKind.i64 (8
      : Int), C.i true IntKind.i64 (14 : Int), z0, zf, z0, C.i true IntKind.i64 (13 : Int), z0, z0, C.i true IntKind.u32 (0 : Int), zf, z0, z0, zf, zf, zf, zf, C.b true true,
      zf, C.b true true, zf, C.i false IntKind.i64 (bits BinOp.or IntKind.i64 (ff h 1 255) (IntKind.i64.wrap (ff h 256 1 * (16384 : Int)))), zf, zf, zf])) ∧ ((!decide (ff h 256
      15 < (14 : Int))) = false → R (SV.a [C.i true IntKind.i64 (8 : Int), z0, z0, zf, z0, C.i true IntKind.i64 (13 : Int), z0, z0, C.i true IntKind.u32 (0 : Int), zf, z0, z0,
      zf, zf, zf, zf, C.b true true, zf, C.b true true, zf, C.i false IntKind.i64 (bits BinOp.or IntKind.i64 (ff h 1 255) (IntKind.i64.wrap (ff h 256 1 * (16384 : Int)))), zf,
      zf, zf]))) ∧ ((h.fdiv (4096 : Int) == (13 : Int)) = false → R (SV.a [C.i true IntKind.i64 (8 : Int), C.i true IntKind.i64 (14 : Int), z0, zf, z0, C.i true IntKind.i64 (13
      : Int), z0, z0, C.i true IntKind.u32 (0 : Int), zf, z0, z0, zf, zf, zf, zf, C.b true true, zf, C.b true true, zf, C.i false IntKind.i64 (bits BinOp.or IntKind.i64 (ff h 1
      255) (IntKind.i64.wrap (ff h 256 1 * (16384 : Int)))), zf, zf, zf]))) ∧ ((ff h 256 15 == (4 : Int)) = false → ((ff h 256 15 == (5 : Int)) = true → ((h.fdiv (4096 : Int) ==
      (13 : Int)) = true → ((!decide (ff h 256 15 < (14 : Int))) = true → R (SV.a [C.i true IntKind.i64 (8 : Int), C.i true IntKind.i64 (14 : Int), z0, zf, z0, C.i true
      IntKind.i64 (13 : Int), z0, z0, C.i true IntKind.u32 (0 : Int), zf, z0, z0, zf, zf, zf, zf, C.b true true, zf, C.b true true, zf, C.i false IntKind.i64 (bits BinOp.or
      IntKind.i64 (ff h 1 255) (IntKind.i64.wrap (ff h 256 1 * (16384 : Int)))), zf, zf, zf])) ∧ ((!decide (ff h 256 15 < (14 : Int))) = false → R (SV.a [C.i true IntKind.i64 (8
      : Int), z0, z0, zf, z0, C.i true IntKind.i64 (13 : Int), z0, z0, C.i true IntKind.u32 (0 : Int), zf, z0, z0, zf, zf, zf, zf, C.b true true, zf, C.b true true, zf, C.i
      false IntKind.i64 (bits BinOp.or IntKind.i64 (ff h 1 255) (IntKind.i64.wrap (ff h 256 1 * (16384 : Int)))), zf, zf, zf]))) ∧ ((h.fdiv (4096 : Int) == (13 : Int)) = false →
      R (SV.a [C.i true IntKind.i64 (8 : Int), C.i true IntKind.i64 (14 : Int), z0, zf, z0, C.i true IntKind.i64 (13 : Int), z0, z0, C.i true IntKind.u32 (0 : Int), zf, z0, z0,
      zf, zf, zf, zf, C.b true true, zf, C.b true true, zf, C.i false IntKind.i64 (bits BinOp.or IntKind.i64 (ff h 1 255) (IntKind.i64.wrap (ff h 256 1 * (16384 : Int)))), zf,
      zf, zf]))) ∧ ((ff h 256 15 == (5 : Int)) = false → ((ff h 256 15 == (12 : Int)) = true → ((h.fdiv (4096 : Int) == (13 : Int)) = true → ((!decide (ff h 256 15 < (14 :
      Int))) = true → R (SV.a [C.i true IntKind.i64 (8 : Int), C.i true IntKind.i64 (14 : Int), z0, zf, z0, C.i true IntKind.i64 (13 : Int), z0, z0, C.i true IntKind.u32 (0 :
      Int), zf, z0, z0, zf, C.b true true, zf, zf, zf, C.b true true, C.b true true, zf, C.i false IntKind.i64 (bits BinOp.or IntKind.i64 (ff h 1 255) (IntKind.i64.wrap (ff h
      256 1 * (32768 : Int)))), zf, zf, zf])) ∧ ((!decide (ff h 256 15 < (14 : Int))) = false → R (SV.a [C.i true IntKind.i64 (8 : Int), z0, z0, zf, z0, C.i true IntKind.i64 (13
      : Int), z0, z0, C.i true IntKind.u32 (0 : Int), zf, z0, z0, zf, C.b true true, zf, zf, zf, C.b true true, C.b true true, zf, C.i false IntKind.i64 (bits BinOp.or
      IntKind.i64 (ff h 1 255) (IntKind.i64.wrap (ff h 256 1 * (32768 : Int)))), zf, zf, zf]))) ∧ ((h.fdiv (4096 : Int) == (13 : Int)) = false → R (SV.a [C.i true IntKind.i64 (8
      : Int), C.i true IntKind.i64 (14 : Int), z0, zf, z0, C.i true IntKind.i64 (13 : Int), z0, z0, C.i true IntKind.u32 (0 : Int), zf, z0, z0, zf, C.b true true, zf, zf, zf,
      C.b true true, C.b true true, zf, C.i false IntKind.i64 (bits BinOp.or IntKind.i64 (ff h 1 255) (IntKind.i64.wrap (ff h 256 1 * (32768 : Int)))), zf, zf, zf]))) ∧ ((ff h
      256 15 == (12 : Int)) = false → ((ff h 256 15 == (13 : Int)) = true → ((h.fdiv (4096 : Int) == (13 : Int)) = true → ((!decide (ff h 256 15 < (14 : Int))) = true → R (SV.a
      [C.i true IntKind.i64 (8 : Int), C.i true IntKind.i64 (14 : Int), z0, zf, z0, C.i true IntKind.i64 (13 : Int), z0, z0, C.i true IntKind.u32 (0 : Int), zf, z0, z0, zf, C.b
      true true, zf, zf, zf, C.b true true, C.b true true, zf, C.i false IntKind.i64 (bits BinOp.or IntKind.i64 (ff h 1 255) (IntKind.i64.wrap (ff h 256 1 * (32768 : Int)))),
      zf, zf, zf])) ∧ ((!decide (ff h 256 15 < (14 : Int))) = false → R (SV.a [C.i true IntKind.i64 (8 : Int), z0, z0, zf, z0, C.i true IntKind.i64 (13 : Int), z0, z0, C.i true
      IntKind.u32 (0 : Int), zf, z0, z0, zf, C.b true true, zf, zf, zf, C.b true true, C.b true true, zf, C.i false IntKind.i64 (bits BinOp.or IntKind.i64 (ff h 1 255)
      (IntKind.i64.wrap (ff h 256 1 * (32768 : Int)))), zf, zf, zf]))) ∧ ((h.fdiv (4096 : Int) == (13 : Int)) = false → R (SV.a [C.i true IntKind.i64 (8 : Int), C.i true
      IntKind.i64 (14 : Int), z0, zf, z0, C.i true IntKind.i64 (13 : Int), z0, z0, C.i true IntKind.u32 (0 : Int), zf, z0, z0, zf, C.b true true, zf, zf, zf, C.b true true, C.b
      true true, zf, C.i false IntKind.i64 (bits BinOp.or IntKind.i64 (ff h 1 255) (IntKind.i64.wrap (ff h 256 1 * (32768 : Int)))), zf, zf, zf]))) ∧ ((ff h 256 15 == (13 :
      Int)) = false → ((h.fdiv (4096 : Int) == (13 : Int)) = true → ((!decide (ff h 256 15 < (14 : Int))) = true → R (SV.a [z0, C.i true IntKind.i64 (14 : Int), z0, zf, z0, z0,
      z0, z0, C.i true IntKind.u32 (0 : Int), zf, z0, z0, zf, zf, zf, zf, zf, zf, zf, zf, z0, zf, zf, zf])) ∧ ((!decide (ff h 256 15 < (14 : Int))) = false → R (SV.a [z0, z0,
      z0, zf, z0, z0, z0, z0, C.i true IntKind.u32 (0 : Int), zf, z0, z0, zf, zf, zf, zf, zf, zf, zf, zf, z0, zf, zf, zf]))) ∧ ((h.fdiv (4096 : Int) == (13 : Int)) = false → R
      (SV.a [z0, C.i true IntKind.i64 (14 : Int), z0, zf, z0, z0, z0, z0, C.i true IntKind.u32 (0 : Int), zf, z0, z0, zf, zf, zf, zf, zf, zf, zf, zf, z0, zf, zf, zf])))))))) ∧
      ((h.fdiv (4096 : Int) == (11 : Int)) = false → ((h.fdiv (4096 : Int) == (12 : Int)) = true → ((h.fdiv (4096 : Int) == (13 : Int)) = true → ((!decide (ff h 256 15 < (14 :
      Int))) = true → R (SV.a [C.i true IntKind.i64 (8 : Int), C.i true IntKind.i64 (14 : Int), z0, zf, z0, C.i false IntKind.i64 (ff h 256 7), z0, z0, C.i true IntKind.u32 (0 :
      Int), zf, z0, z0, zf, C.b false (bits BinOp.and IntKind.u16 (h.fdiv (2048 : Int)) (1 : Int) != (0 : Int)), zf, zf, zf, C.b true true, C.b true true, zf, C.i false
      IntKind.i64 (ff h 1 255), zf, zf, zf])) ∧ ((!decide (ff h 256 15 < (14 : Int))) = false → R (SV.a [C.i true IntKind.i64 (8 : Int), z0, z0, zf, z0, C.i false IntKind.i64
      (ff h 256 7), z0, z0, C.i true IntKind.u32 (0 : Int), zf, z0, z0, zf, C.b false (bits BinOp.and IntKind.u16 (h.fdiv (2048 : Int)) (1 : Int) != (0 : Int)), zf, zf, zf, C.b
      true true, C.b true true, zf, C.i false IntKind.i64 (ff h 1 255), zf, zf, zf]))) ∧ ((h.fdiv (4096 : Int) == (13 : Int)) = false → R (SV.a [C.i true IntKind.i64 (8 : Int),
      C.i true IntKind.i64 (14 : Int), z0, zf, z0, C.i false IntKind.i64 (ff h 256 7), z0, z0, C.i true IntKind.u32 (0 : Int), zf, z0, z0, zf, C.b false (bits BinOp.and
      IntKind.u16 (h.fdiv (2048 : Int)) (1 : Int) != (0 : Int)), zf, zf, zf, C.b true true, C.b true true, zf, C.i false IntKind.i64 (ff h 1 255), zf, zf, zf]))) ∧ ((h.fdiv
      (4096 : Int) == (12 : Int)) = false → ((h.fdiv (4096 : Int) == (13 : Int)) = true → ((h.fdiv (4096 : Int) == (13 : Int)) = true → (decide (ff h 256 15 < (14 : Int)) = true
      → ((h.fdiv (4096 : Int) == (13 : Int)) = true → ((!decide (ff h 256 15 < (14 : Int))) = true → R (SV.a [C.i true IntKind.i64 (9 : Int), C.i true IntKind.i64 (14 : Int),
      z0, zf, z0, z0, z0, z0, C.i false IntKind.u32 (IntKind.u32.wrap (IntKind.u32.wrap ((IntKind.i32.wrap (IntKind.u32.wrap (IntKind.u32.wrap h * (16777216 : Int)))).fdiv
      (16777216 : Int)) * (2 : Int))), zf, z0, z0, zf, zf, zf, zf, zf, zf, zf, zf, z0, zf, zf, zf])) ∧ ((!decide (ff h 256 15 < (14 : Int))) = false → R (SV.a [C.i true
      IntKind.i64 (9 : Int), C.i false IntKind.i64 (ff h 256 15), z0, zf, z0, z0, z0, z0, C.i false IntKind.u32 (IntKind.u32.wrap (IntKind.u32.wrap ((IntKind.i32.wrap
      (IntKind.u32.wrap (IntKind.u32.wrap h * (16777216 : Int)))).fdiv (16777216 : Int)) * (2 : Int))), zf, z0, z0, zf, zf, zf, zf, zf, zf, zf, zf, z0, zf, zf, zf]))) ∧ ((h.fdiv
      (4096 : Int) == (13 : Int)) = false → R (SV.a [C.i true IntKind.i64 (9 : Int), C.i true IntKind.i64 (14 : Int), z0, zf, z0, z0, z0, z0, C.i false IntKind.u32
      (IntKind.u32.wrap (IntKind.u32.wrap ((IntKind.i32.wrap (IntKind.u32.wrap (IntKind.u32.wrap h * (16777216 : Int)))).fdiv (16777216 : Int)) * (2 : Int))), zf, z0, z0, zf,
      zf, zf, zf, zf, zf, zf, zf, z0, zf, zf, zf]))) ∧ (decide (ff h 256 15 < (14 : Int)) = false → ((bits BinOp.and IntKind.u16 (h.fdiv (256 : Int)) (1 : Int) != (0 : Int)) =
      true → ((h.fdiv (4096 : Int) == (13 : Int)) = true → ((!decide (ff h 256 15 < (14 : Int))) = true → R (SV.a [C.i true IntKind.i64 (10 : Int), C.i true IntKind.i64 (14 :
      Int), z0, zf, z0, z0, z0, z0, C.i false IntKind.u32 (IntKind.u32.wrap (bits BinOp.and IntKind.u16 h (255 : Int))), zf, z0, z0, zf, zf, zf, zf, zf, zf, zf, zf, z0, zf, zf,
      zf])) ∧ ((!decide (ff h 256 15 < (14 : Int))) = false → R (SV.a [C.i true IntKind.i64 (10 : Int), z0, z0, zf, z0, z0, z0, z0, C.i false IntKind.u32 (IntKind.u32.wrap (bits
      BinOp.and IntKind.u16 h (255 : Int))), zf, z0, z0, zf, zf, zf, zf, zf, zf, zf, zf, z0, zf, zf, zf]))) ∧ ((h.fdiv (4096 : Int) == (13 : Int)) = false → R (SV.a [C.i true
      IntKind.i64 (10 : Int), C.i true IntKind.i64 (14 : Int), z0, zf, z0, z0, z0, z0, C.i false IntKind.u32 (IntKind.u32.wrap (bits BinOp.and IntKind.u16 h (255 : Int))), zf,
      z0, z0, zf, zf, zf, zf, zf, zf, zf, zf, z0, zf, zf, zf]))) ∧ ((bits BinOp.and IntKind.u16 (h.fdiv (256 : Int)) (1 : Int) != (0 : Int)) = false → ((h.fdiv (4096 : Int) ==
      (13 : Int)) = true → ((!decide (ff h 256 15 < (14 : Int))) = true → R (SV.a [z0, C.i true IntKind.i64 (14 : Int), z0, zf, z0, z0, z0, z0, C.i true IntKind.u32 (0 : Int),
      zf, z0, z0, zf, zf, zf, zf, zf, zf, zf, zf, z0, zf, zf, zf])) ∧ ((!decide (ff h 256 15 < (14 : Int))) = false → R (SV.a [z0, z0, z0, zf, z0, z0, z0, z0, C.i true
      IntKind.u32 (0 : Int), zf, z0, z0, zf, zf, zf, zf, zf, zf, zf, zf, z0, zf, zf, zf]))) ∧ ((h.fdiv (4096 : Int) == (13 : Int)) = false → R (SV.a [z0, C.i true IntKind.i64
      (14 : Int), z0, zf, z0, z0, z0, z0, C.i true IntKind.u32 (0 : Int), zf, z0, z0, zf, zf, zf, zf, zf, zf, zf, zf, z0, zf, zf, zf]))))) ∧ ((h.fdiv (4096 : Int) == (13 : Int))
      = false → ((bits BinOp.and IntKind.u16 (h.fdiv (256 : Int)) (1 : Int) != (0 : Int)) = true → ((h.fdiv (4096 : Int) == (13 : Int)) = true → ((!decide (ff h 256 15 < (14 :
      Int))) = true → R (SV.a [C.i true IntKind.i64 (10 : Int), C.i true IntKind.i64 (14 : Int), z0, zf, z0, z0, z0, z0, C.i false IntKind.u32 (IntKind.u32.wrap (bits BinOp.and
      IntKind.u16 h (255 : Int))), zf, z0, z0, zf, zf, zf, zf, zf, zf, zf, zf, z0, zf, zf, zf])) ∧ ((!decide (ff h 256 15 < (14 : Int))) = false → R (SV.a [C.i true IntKind.i64
      (10 : Int), z0, z0, zf, z0, z0, z0, z0, C.i false IntKind.u32 (IntKind.u32.wrap (bits BinOp.and IntKind.u16 h (255 : Int))), zf, z0, z0, zf, zf, zf, zf, zf, zf, zf, zf,
      z0, zf, zf, zf]))) ∧ ((h.fdiv (4096 : Int) == (13 : Int)) = false → R (SV.a [C.i true IntKind.i64 (10 : Int), C.i true IntKind.i64 (14 : Int), z0, zf, z0, z0, z0, z0, C.i
      false IntKind.u32 (IntKind.u32.wrap (bits BinOp.and IntKind.u16 h (255 : Int))), zf, z0, z0, zf, zf, zf, zf, zf, zf, zf, zf, z0, zf, zf, zf]))) ∧ ((bits BinOp.and
      IntKind.u16 (h.fdiv (256 : Int)) (1 : Int) != (0 : Int)) = false → ((h.fdiv (4096 : Int) == (13 : Int)) = true → ((!decide (ff h 256 15 < (14 : Int))) = true → R (SV.a
      [z0, C.i true IntKind.i64 (14 : Int), z0, zf, z0, z0, z0, z0, C.i true IntKind.u32 (0 : Int), zf, z0, z0, zf, zf, zf, zf, zf, zf, zf, zf, z0, zf, zf, zf])) ∧ ((!decide (ff
      h 256 15 < (14 : Int))) = false → R (SV.a [z0, z0, z0, zf, z0, z0, z0, z0, C.i true IntKind.u32 (0 : Int), zf, z0, z0, zf, zf, zf, zf, zf, zf, zf, zf, z0, zf, zf, zf]))) ∧
      ((h.fdiv (4096 : Int) == (13 : Int)) = false → R (SV.a [z0, C.i true IntKind.i64 (14 : Int), z0, zf, z0, z0, z0, z0, C.i true IntKind.u32 (0 : Int), zf, z0, z0, zf, zf,
      zf, zf, zf, zf, zf, zf, z0, zf, zf, zf]))))) ∧ ((h.fdiv (4096 : Int) == (13 : Int)) = false → ((ff h 2048 3 == (0 : Int)) = true → ((h.fdiv (4096 : Int) == (13 : Int)) =
      true → ((!decide (ff h 256 15 < (14 : Int))) = true → R (SV.a [C.i true IntKind.i64 (9 : Int), C.i true IntKind.i64 (14 : Int), z0, zf, z0, z0, z0, z0, C.i false
      IntKind.u32 (IntKind.u32.wrap (IntKind.u32.wrap ((IntKind.i32.wrap (IntKind.u32.wrap (IntKind.u32.wrap h * (2097152 : Int)))).fdiv (2097152 : Int)) * (2 : Int))), zf, z0,
      z0, zf, zf, zf, zf, zf, zf, zf, zf, z0, zf, zf, zf])) ∧ ((!decide (ff h 256 15 < (14 : Int))) = false → R (SV.a [C.i true IntKind.i64 (9 : Int), z0, z0, zf, z0, z0, z0,
      z0, C.i false IntKind.u32 (IntKind.u32.wrap (IntKind.u32.wrap ((IntKind.i32.wrap (IntKind.u32.wrap (IntKind.u32.wrap h * (2097152 : Int)))).fdiv (2097152 : Int)) * (2 :
      Int))), zf, z0, z0, zf, zf, zf, zf, zf, zf, zf, zf, z0, zf, zf, zf]))) ∧ ((h.fdiv (4096 : Int) == (13 : Int)) = false → R (SV.a [C.i true IntKind.i64 (9 : Int), C.i true
      IntKind.i64 (14 : Int), z0, zf, z0, z0, z0, z0, C.i false IntKind.u32 (IntKind.u32.wrap (IntKind.u32.wrap ((IntKind.i32.wrap (IntKind.u32.wrap (IntKind.u32.wrap h *
      (2097152 : Int)))).fdiv (2097152 : Int)) * (2 : Int))), zf, z0, z0, zf, zf, zf, zf, zf, zf, zf, zf, z0, zf, zf, zf]))) ∧ ((ff h 2048 3 == (0 : Int)) = false → ((ff h 2048
      3 == (2 : Int)) = true → ((h.fdiv (4096 : Int) == (13 : Int)) = true → ((!decide (ff h 256 15 < (14 : Int))) = true → R (SV.a [C.i true IntKind.i64 (13 : Int), C.i true
      IntKind.i64 (14 : Int), z0, zf, z0, z0, z0, z0, C.i false IntKind.u32 (IntKind.u32.wrap (IntKind.u32.wrap ((IntKind.i32.wrap (IntKind.u32.wrap (IntKind.u32.wrap h *
      (2097152 : Int)))).fdiv (2097152 : Int)) * (4096 : Int))), zf, z0, z0, zf, zf, zf, zf, zf, zf, zf, zf, z0, zf, zf, zf])) ∧ ((!decide (ff h 256 15 < (14 : Int))) = false →
      R (SV.a [C.i true IntKind.i64 (13 : Int), z0, z0, zf, z0, z0, z0, z0, C.i false IntKind.u32 (IntKind.u32.wrap (IntKind.u32.wrap ((IntKind.i32.wrap (IntKind.u32.wrap
      (IntKind.u32.wrap h * (2097152 : Int)))).fdiv (2097152 : Int)) * (4096 : Int))), zf, z0, z0, zf, zf, zf, zf, zf, zf, zf, zf, z0, zf, zf, zf]))) ∧ ((h.fdiv (4096 : Int) ==
      (13 : Int)) = false → R (SV.a [C.i true IntKind.i64 (13 : Int), C.i true IntKind.i64 (14 : Int), z0, zf, z0, z0, z0, z0, C.i false IntKind.u32 (IntKind.u32.wrap
      (IntKind.u32.wrap ((IntKind.i32.wrap (IntKind.u32.wrap (IntKind.u32.wrap h * (2097152 : Int)))).fdiv (2097152 : Int)) * (4096 : Int))), zf, z0, z0, zf, zf, zf, zf, zf, zf,
      zf, zf, z0, zf, zf, zf]))) ∧ ((ff h 2048 3 == (2 : Int)) = false → ((ff h 2048 3 == (3 : Int)) = true → ((h.fdiv (4096 : Int) == (13 : Int)) = true → ((!decide (ff h 256
      15 < (14 : Int))) = true → R (SV.a [C.i true IntKind.i64 (13 : Int), C.i true IntKind.i64 (14 : Int), C.i true IntKind.i64 (1 : Int), zf, z0, z0, z0, z0, C.i false
      IntKind.u32 (IntKind.u32.wrap ((2 : Int) * IntKind.u32.wrap (ff h 1 2047))), zf, z0, z0, zf, zf, zf, zf, zf, zf, zf, zf, z0, zf, zf, zf])) ∧ ((!decide (ff h 256 15 < (14 :
      Int))) = false → R (SV.a [C.i true IntKind.i64 (13 : Int), z0, C.i true IntKind.i64 (1 : Int), zf, z0, z0, z0, z0, C.i false IntKind.u32 (IntKind.u32.wrap ((2 : Int) *
      IntKind.u32.wrap (ff h 1 2047))), zf, z0, z0, zf, zf, zf, zf, zf, zf, zf, zf, z0, zf, zf, zf]))) ∧ ((h.fdiv (4096 : Int) == (13 : Int)) = false → R (SV.a [C.i true
      IntKind.i64 (13 : Int), C.i true IntKind.i64 (14 : Int), C.i true IntKind.i64 (1 : Int), zf, z0, z0, z0, z0, C.i false IntKind.u32 (IntKind.u32.wrap ((2 : Int) *
      IntKind.u32.wrap (ff h 1 2047))), zf, z0, z0, zf, zf, zf, zf, zf, zf, zf, zf, z0, zf, zf, zf]))) ∧ ((ff h 2048 3 == (3 : Int)) = false → ((h.fdiv (4096 : Int) == (13 :
      Int)) = true → ((!decide (ff h 256 15 < (14 : Int))) = true → R (SV.a [z0, C.i true IntKind.i64 (14 : Int), z0, zf, z0, z0, z0, z0, C.i true IntKind.u32 (0 : Int), zf, z0,
      z0, zf, zf, zf, zf, zf, zf, zf, zf, z0, zf, zf, zf])) ∧ ((!decide (ff h 256 15 < (14 : Int))) = false → R (SV.a [z0, z0, z0, zf, z0, z0, z0, z0, C.i true IntKind.u32 (0 :
      Int), zf, z0, z0, zf, zf, zf, zf, zf, zf, zf, zf, z0, zf, zf, zf]))) ∧ ((h.fdiv (4096 : Int) == (13 : Int)) = false → R (SV.a [z0, C.i true IntKind.i64 (14 : Int), z0, zf,
      z0, z0, z0, z0, C.i true IntKind.u32 (0 : Int), zf, z0, z0, zf, zf, zf, zf, zf, zf, zf, zf, z0, zf, zf, zf])))))))))))))))))))) := by kernel_rfl
end Go.Proofs.Ytpfdemmoapjjpaa

