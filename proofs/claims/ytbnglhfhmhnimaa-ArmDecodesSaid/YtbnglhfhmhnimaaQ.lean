import Derived.Test.YtbnglhfhmhnimaaF
set_option linter.unusedVariables false
set_option linter.unusedSimpArgs false
namespace Go.Proofs.Ytbnglhfhmhnimaa
open Go Go.Proofs Go.Proofs.Ytbnglhfhmhnimaa.Ev
set_option maxRecDepth 100000
/-- Of each way's answer. -/
def conR (R : SV → Prop) : Tree (SV × SW) → Prop
  | .leaf (v, _) => R v
  | .node b t f => (b = true → conR R t) ∧ (b = false → conR R f)
  | .need b t => b = true ∧ conR R t
  | .fail => False
theorem conR_con {l : SV} : ∀ {t : Tree (SV × SW)}, conR (fun v => SV.sim v l) t → conP l t
  | .leaf (v, _), h => h
  | .node b t f, h => ⟨fun e => conR_con (h.1 e), fun e => conR_con (h.2 e)⟩
  | .need b t, h => ⟨h.1, conR_con h.2⟩
  | .fail, h => h.elim
abbrev z0 : C := C.i true IntKind.i64 (0 : Int)
abbrev zf : C := C.b true false
def ff (h a m : Int) : Int := IntKind.i64.wrap (bits BinOp.and IntKind.u32 (h.fdiv a) m)
theorem nT {b : Bool} {p : Prop} (h : b = true) : b = false → p := fun e => by rw [h] at e; cases e
theorem nF {b : Bool} {p : Prop} (h : b = false) : b = true → p := fun e => by rw [h] at e; cases e
theorem prog_p (E : World) (h : Int) (R : SV → Prop) :
    (conR R (fnTree (pe E) (orcA E) (tabL fns) 20000 Try.f8 [.c (.i false .u32 h)] [])) =
    (((IntKind.i64.wrap (bits BinOp.and IntKind.u32 (h.fdiv (33554432 : Int)) (7 : Int)) == (0 : Int)) = true → ((bits BinOp.and IntKind.u32 h (264241392 : Int) == (144 : Int))
      = true → R (SV.a [C.i true IntKind.i64 (2 : Int), C.i false IntKind.i64 (IntKind.i64.wrap (h.fdiv (268435456 : Int))), z0, C.b false (bits BinOp.and IntKind.u32 (h.fdiv
      (1048576 : Int)) (1 : Int) != (0 : Int)), C.i false IntKind.i64 (IntKind.i64.wrap (bits BinOp.and IntKind.u32 (h.fdiv (65536 : Int)) (15 : Int))), C.i false IntKind.i64
      (IntKind.i64.wrap (bits BinOp.and IntKind.u32 (h.fdiv (4096 : Int)) (15 : Int))), C.i false IntKind.i64 (IntKind.i64.wrap (bits BinOp.and IntKind.u32 (h.fdiv (256 : Int))
      (15 : Int))), C.i false IntKind.i64 (IntKind.i64.wrap (bits BinOp.and IntKind.u32 (h.fdiv (1 : Int)) (15 : Int))), C.i true IntKind.u32 (0 : Int), zf, z0, z0, zf, zf, zf,
      zf, zf, zf, zf, zf, z0, zf, C.b false (bits BinOp.and IntKind.u32 (h.fdiv (2097152 : Int)) (1 : Int) != (0 : Int)), zf])) ∧ ((bits BinOp.and IntKind.u32 h (264241392 :
      Int) == (144 : Int)) = false → ((bits BinOp.and IntKind.u32 h (260047088 : Int) == (8388752 : Int)) = true → R (SV.a [C.i true IntKind.i64 (3 : Int), C.i false IntKind.i64
      (IntKind.i64.wrap (h.fdiv (268435456 : Int))), z0, C.b false (bits BinOp.and IntKind.u32 (h.fdiv (1048576 : Int)) (1 : Int) != (0 : Int)), C.i false IntKind.i64
      (IntKind.i64.wrap (bits BinOp.and IntKind.u32 (h.fdiv (65536 : Int)) (15 : Int))), C.i false IntKind.i64 (IntKind.i64.wrap (bits BinOp.and IntKind.u32 (h.fdiv (4096 :
      Int)) (15 : Int))), C.i false IntKind.i64 (IntKind.i64.wrap (bits BinOp.and IntKind.u32 (h.fdiv (256 : Int)) (15 : Int))), C.i false IntKind.i64 (IntKind.i64.wrap (bits
      BinOp.and IntKind.u32 (h.fdiv (1 : Int)) (15 : Int))), C.i true IntKind.u32 (0 : Int), zf, z0, z0, zf, zf, zf, C.b false (bits BinOp.and IntKind.u32 (h.fdiv (4194304 :
      Int)) (1 : Int) != (0 : Int)), zf, zf, zf, zf, z0, zf, C.b false (bits BinOp.and IntKind.u32 (h.fdiv (2097152 : Int)) (1 : Int) != (0 : Int)), zf])) ∧ ((bits BinOp.and
      IntKind.u32 h (260047088 : Int) == (8388752 : Int)) = false → ((bits BinOp.and IntKind.u32 h (263196656 : Int) == (16777360 : Int)) = true → R (SV.a [C.i true IntKind.i64
      (4 : Int), C.i false IntKind.i64 (IntKind.i64.wrap (h.fdiv (268435456 : Int))), z0, zf, C.i false IntKind.i64 (IntKind.i64.wrap (bits BinOp.and IntKind.u32 (h.fdiv (4096 :
      Int)) (15 : Int))), C.i false IntKind.i64 (IntKind.i64.wrap (bits BinOp.and IntKind.u32 (h.fdiv (65536 : Int)) (15 : Int))), z0, C.i false IntKind.i64 (IntKind.i64.wrap
      (bits BinOp.and IntKind.u32 (h.fdiv (1 : Int)) (15 : Int))), C.i true IntKind.u32 (0 : Int), zf, z0, z0, zf, zf, C.b false (bits BinOp.and IntKind.u32 (h.fdiv (4194304 :
      Int)) (1 : Int) != (0 : Int)), zf, zf, zf, zf, zf, z0, zf, zf, zf])) ∧ ((bits BinOp.and IntKind.u32 h (263196656 : Int) == (16777360 : Int)) = false → ((bits BinOp.and
      IntKind.u32 h (1048720 : Int) == (1048720 : Int)) = true → ((IntKind.i64.wrap (bits BinOp.and IntKind.u32 (h.fdiv (32 : Int)) (3 : Int)) != (0 : Int)) = true → ((bits
      BinOp.and IntKind.u32 (h.fdiv (4194304 : Int)) (1 : Int) != (0 : Int)) = true → ((bits BinOp.and IntKind.u32 (h.fdiv (2097152 : Int)) (1 : Int) != (0 : Int)) = true → R
      (SV.a [C.i true IntKind.i64 (6 : Int), C.i false IntKind.i64 (IntKind.i64.wrap (h.fdiv (268435456 : Int))), C.i false IntKind.i64 (IntKind.i64.wrap (bits BinOp.and
      IntKind.u32 (h.fdiv (32 : Int)) (3 : Int))), zf, C.i false IntKind.i64 (IntKind.i64.wrap (bits BinOp.and IntKind.u32 (h.fdiv (4096 : Int)) (15 : Int))), C.i false
      IntKind.i64 (IntKind.i64.wrap (bits BinOp.and IntKind.u32 (h.fdiv (65536 : Int)) (15 : Int))), z0, z0, C.i false IntKind.u32 (bits BinOp.or IntKind.u32 (bits BinOp.and
      IntKind.u32 (h.fdiv (16 : Int)) (240 : Int)) (bits BinOp.and IntKind.u32 h (15 : Int))), C.b true true, z0, z0, zf, C.b false (bits BinOp.and IntKind.u32 (h.fdiv (1048576
      : Int)) (1 : Int) != (0 : Int)), zf, zf, C.b false (bits BinOp.and IntKind.u32 (h.fdiv (16777216 : Int)) (1 : Int) != (0 : Int)), C.b false (bits BinOp.and IntKind.u32
      (h.fdiv (8388608 : Int)) (1 : Int) != (0 : Int)), C.b true true, zf, z0, zf, zf, zf])) ∧ ((bits BinOp.and IntKind.u32 (h.fdiv (2097152 : Int)) (1 : Int) != (0 : Int)) =
      false → R (SV.a [C.i true IntKind.i64 (6 : Int), C.i false IntKind.i64 (IntKind.i64.wrap (h.fdiv (268435456 : Int))), C.i false IntKind.i64 (IntKind.i64.wrap (bits
      BinOp.and IntKind.u32 (h.fdiv (32 : Int)) (3 : Int))), zf, C.i false IntKind.i64 (IntKind.i64.wrap (bits BinOp.and IntKind.u32 (h.fdiv (4096 : Int)) (15 : Int))), C.i
      false IntKind.i64 (IntKind.i64.wrap (bits BinOp.and IntKind.u32 (h.fdiv (65536 : Int)) (15 : Int))), z0, z0, C.i false IntKind.u32 (bits BinOp.or IntKind.u32 (bits
      BinOp.and IntKind.u32 (h.fdiv (16 : Int)) (240 : Int)) (bits BinOp.and IntKind.u32 h (15 : Int))), C.b true true, z0, z0, zf, C.b false (bits BinOp.and IntKind.u32 (h.fdiv
      (1048576 : Int)) (1 : Int) != (0 : Int)), zf, zf, C.b false (bits BinOp.and IntKind.u32 (h.fdiv (16777216 : Int)) (1 : Int) != (0 : Int)), C.b false (bits BinOp.and
      IntKind.u32 (h.fdiv (8388608 : Int)) (1 : Int) != (0 : Int)), C.b false !bits BinOp.and IntKind.u32 (h.fdiv (16777216 : Int)) (1 : Int) != (0 : Int), zf, z0, zf, zf,
      zf]))) ∧ ((bits BinOp.and IntKind.u32 (h.fdiv (4194304 : Int)) (1 : Int) != (0 : Int)) = false → ((bits BinOp.and IntKind.u32 (h.fdiv (2097152 : Int)) (1 : Int) != (0 :
      Int)) = true → R (SV.a [C.i true IntKind.i64 (6 : Int), C.i false IntKind.i64 (IntKind.i64.wrap (h.fdiv (268435456 : Int))), C.i false IntKind.i64 (IntKind.i64.wrap (bits
      BinOp.and IntKind.u32 (h.fdiv (32 : Int)) (3 : Int))), zf, C.i false IntKind.i64 (IntKind.i64.wrap (bits BinOp.and IntKind.u32 (h.fdiv (4096 : Int)) (15 : Int))), C.i
      false IntKind.i64 (IntKind.i64.wrap (bits BinOp.and IntKind.u32 (h.fdiv (65536 : Int)) (15 : Int))), z0, C.i false IntKind.i64 (IntKind.i64.wrap (bits BinOp.and
      IntKind.u32 (h.fdiv (1 : Int)) (15 : Int))), C.i true IntKind.u32 (0 : Int), zf, z0, z0, zf, C.b false (bits BinOp.and IntKind.u32 (h.fdiv (1048576 : Int)) (1 : Int) != (0
      : Int)), zf, zf, C.b false (bits BinOp.and IntKind.u32 (h.fdiv (16777216 : Int)) (1 : Int) != (0 : Int)), C.b false (bits BinOp.and IntKind.u32 (h.fdiv (8388608 : Int)) (1
      : Int) != (0 : Int)), C.b true true, zf, z0, zf, zf, zf])) ∧ ((bits BinOp.and IntKind.u32 (h.fdiv (2097152 : Int)) (1 : Int) != (0 : Int)) = false → R (SV.a [C.i true
      IntKind.i64 (6 : Int), C.i false IntKind.i64 (IntKind.i64.wrap (h.fdiv (268435456 : Int))), C.i false IntKind.i64 (IntKind.i64.wrap (bits BinOp.and IntKind.u32 (h.fdiv (32
      : Int)) (3 : Int))), zf, C.i false IntKind.i64 (IntKind.i64.wrap (bits BinOp.and IntKind.u32 (h.fdiv (4096 : Int)) (15 : Int))), C.i false IntKind.i64 (IntKind.i64.wrap
      (bits BinOp.and IntKind.u32 (h.fdiv (65536 : Int)) (15 : Int))), z0, C.i false IntKind.i64 (IntKind.i64.wrap (bits BinOp.and IntKind.u32 (h.fdiv (1 : Int)) (15 : Int))),
      C.i true IntKind.u32 (0 : Int), zf, z0, z0, zf, C.b false (bits BinOp.and IntKind.u32 (h.fdiv (1048576 : Int)) (1 : Int) != (0 : Int)), zf, zf, C.b false (bits BinOp.and
      IntKind.u32 (h.fdiv (16777216 : Int)) (1 : Int) != (0 : Int)), C.b false (bits BinOp.and IntKind.u32 (h.fdiv (8388608 : Int)) (1 : Int) != (0 : Int)), C.b false !bits
      BinOp.and IntKind.u32 (h.fdiv (16777216 : Int)) (1 : Int) != (0 : Int), zf, z0, zf, zf, zf])))) ∧ ((IntKind.i64.wrap (bits BinOp.and IntKind.u32 (h.fdiv (32 : Int)) (3 :
      Int)) != (0 : Int)) = false → ((bits BinOp.and IntKind.u32 h (1048816 : Int) == (176 : Int)) = true → ((bits BinOp.and IntKind.u32 (h.fdiv (4194304 : Int)) (1 : Int) != (0
      : Int)) = true → ((bits BinOp.and IntKind.u32 (h.fdiv (2097152 : Int)) (1 : Int) != (0 : Int)) = true → R (SV.a [C.i true IntKind.i64 (6 : Int), C.i false IntKind.i64
      (IntKind.i64.wrap (h.fdiv (268435456 : Int))), C.i false IntKind.i64 (IntKind.i64.wrap (bits BinOp.and IntKind.u32 (h.fdiv (32 : Int)) (3 : Int))), zf, C.i false
      IntKind.i64 (IntKind.i64.wrap (bits BinOp.and IntKind.u32 (h.fdiv (4096 : Int)) (15 : Int))), C.i false IntKind.i64 (IntKind.i64.wrap (bits BinOp.and IntKind.u32 (h.fdiv
      (65536 : Int)) (15 : Int))), z0, z0, C.i false IntKind.u32 (bits BinOp.or IntKind.u32 (bits BinOp.and IntKind.u32 (h.fdiv (16 : Int)) (240 : Int)) (bits BinOp.and
      IntKind.u32 h (15 : Int))), C.b true true, z0, z0, zf, C.b false (bits BinOp.and IntKind.u32 (h.fdiv (1048576 : Int)) (1 : Int) != (0 : Int)), zf, zf, C.b false (bits
      BinOp.and IntKind.u32 (h.fdiv (16777216 : Int)) (1 : Int) != (0 : Int)), C.b false (bits BinOp.and IntKind.u32 (h.fdiv (8388608 : Int)) (1 : Int) != (0 : Int)), C.b true
      true, zf, z0, zf, zf, zf])) ∧ ((bits BinOp.and IntKind.u32 (h.fdiv (2097152 : Int)) (1 : Int) != (0 : Int)) = false → R (SV.a [C.i true IntKind.i64 (6 : Int), C.i false
      IntKind.i64 (IntKind.i64.wrap (h.fdiv (268435456 : Int))), C.i false IntKind.i64 (IntKind.i64.wrap (bits BinOp.and IntKind.u32 (h.fdiv (32 : Int)) (3 : Int))), zf, C.i
      false IntKind.i64 (IntKind.i64.wrap (bits BinOp.and IntKind.u32 (h.fdiv (4096 : Int)) (15 : Int))), C.i false IntKind.i64 (IntKind.i64.wrap (bits BinOp.and IntKind.u32
      (h.fdiv (65536 : Int)) (15 : Int))), z0, z0, C.i false IntKind.u32 (bits BinOp.or IntKind.u32 (bits BinOp.and IntKind.u32 (h.fdiv (16 : Int)) (240 : Int)) (bits BinOp.and
      IntKind.u32 h (15 : Int))), C.b true true, z0, z0, zf, C.b false (bits BinOp.and IntKind.u32 (h.fdiv (1048576 : Int)) (1 : Int) != (0 : Int)), zf, zf, C.b false (bits
      BinOp.and IntKind.u32 (h.fdiv (16777216 : Int)) (1 : Int) != (0 : Int)), C.b false (bits BinOp.and IntKind.u32 (h.fdiv (8388608 : Int)) (1 : Int) != (0 : Int)), C.b false
      !bits BinOp.and IntKind.u32 (h.fdiv (16777216 : Int)) (1 : Int) != (0 : Int), zf, z0, zf, zf, zf]))) ∧ ((bits BinOp.and IntKind.u32 (h.fdiv (4194304 : Int)) (1 : Int) !=
      (0 : Int)) = false → ((bits BinOp.and IntKind.u32 (h.fdiv (2097152 : Int)) (1 : Int) != (0 : Int)) = true → R (SV.a [C.i true IntKind.i64 (6 : Int), C.i false IntKind.i64
      (IntKind.i64.wrap (h.fdiv (268435456 : Int))), C.i false IntKind.i64 (IntKind.i64.wrap (bits BinOp.and IntKind.u32 (h.fdiv (32 : Int)) (3 : Int))), zf, C.i false
      IntKind.i64 (IntKind.i64.wrap (bits BinOp.and IntKind.u32 (h.fdiv (4096 : Int)) (15 : Int))), C.i false IntKind.i64 (IntKind.i64.wrap (bits BinOp.and IntKind.u32 (h.fdiv
      (65536 : Int)) (15 : Int))), z0, C.i false IntKind.i64 (IntKind.i64.wrap (bits BinOp.and IntKind.u32 (h.fdiv (1 : Int)) (15 : Int))), C.i true IntKind.u32 (0 : Int), zf,
      z0, z0, zf, C.b false (bits BinOp.and IntKind.u32 (h.fdiv (1048576 : Int)) (1 : Int) != (0 : Int)), zf, zf, C.b false (bits BinOp.and IntKind.u32 (h.fdiv (16777216 : Int))
      (1 : Int) != (0 : Int)), C.b false (bits BinOp.and IntKind.u32 (h.fdiv (8388608 : Int)) (1 : Int) != (0 : Int)), C.b true true, zf, z0, zf, zf, zf])) ∧ ((bits BinOp.and
      IntKind.u32 (h.fdiv (2097152 : Int)) (1 : Int) != (0 : Int)) = false → R (SV.a [C.i true IntKind.i64 (6 : Int), C.i false IntKind.i64 (IntKind.i64.wrap (h.fdiv (268435456
      : Int))), C.i false IntKind.i64 (IntKind.i64.wrap (bits BinOp.and IntKind.u32 (h.fdiv (32 : Int)) (3 : Int))), zf, C.i false IntKind.i64 (IntKind.i64.wrap (bits BinOp.and
      IntKind.u32 (h.fdiv (4096 : Int)) (15 : Int))), C.i false IntKind.i64 (IntKind.i64.wrap (bits BinOp.and IntKind.u32 (h.fdiv (65536 : Int)) (15 : Int))), z0, C.i false
      IntKind.i64 (IntKind.i64.wrap (bits BinOp.and IntKind.u32 (h.fdiv (1 : Int)) (15 : Int))), C.i true IntKind.u32 (0 : Int), zf, z0, z0, zf, C.b false (bits BinOp.and
      IntKind.u32 (h.fdiv (1048576 : Int)) (1 : Int) != (0 : Int)), zf, zf, C.b false (bits BinOp.and IntKind.u32 (h.fdiv (16777216 : Int)) (1 : Int) != (0 : Int)), C.b false
      (bits BinOp.and IntKind.u32 (h.fdiv (8388608 : Int)) (1 : Int) != (0 : Int)), C.b false !bits BinOp.and IntKind.u32 (h.fdiv (16777216 : Int)) (1 : Int) != (0 : Int), zf,
      z0, zf, zf, zf])))) ∧ ((bits BinOp.and IntKind.u32 h (1048816 : Int) == (176 : Int)) = false → ((bits BinOp.and IntKind.u32 h (268435440 : Int) == (19922704 : Int)) = true
      → R (SV.a [C.i true IntKind.i64 (5 : Int), C.i false IntKind.i64 (IntKind.i64.wrap (h.fdiv (268435456 : Int))), z0, zf, z0, z0, z0, C.i false IntKind.i64 (IntKind.i64.wrap
      (bits BinOp.and IntKind.u32 (h.fdiv (1 : Int)) (15 : Int))), C.i true IntKind.u32 (0 : Int), zf, z0, z0, zf, zf, zf, zf, zf, zf, zf, zf, z0, zf, zf, zf])) ∧ ((bits
      BinOp.and IntKind.u32 h (268435440 : Int) == (19922704 : Int)) = false → ((bits BinOp.and IntKind.u32 h (264179711 : Int) == (17760256 : Int)) = true → R (SV.a [C.i true
      IntKind.i64 (11 : Int), C.i false IntKind.i64 (IntKind.i64.wrap (h.fdiv (268435456 : Int))), z0, zf, C.i false IntKind.i64 (IntKind.i64.wrap (bits BinOp.and IntKind.u32
      (h.fdiv (4096 : Int)) (15 : Int))), z0, z0, z0, C.i true IntKind.u32 (0 : Int), zf, z0, z0, zf, zf, zf, zf, zf, zf, zf, C.b false (bits BinOp.and IntKind.u32 (h.fdiv
      (4194304 : Int)) (1 : Int) != (0 : Int)), z0, zf, zf, zf])) ∧ ((bits BinOp.and IntKind.u32 h (264179711 : Int) == (17760256 : Int)) = false → ((bits BinOp.and IntKind.u32
      h (263258096 : Int) == (18935808 : Int)) = true → R (SV.a [C.i true IntKind.i64 (12 : Int), C.i false IntKind.i64 (IntKind.i64.wrap (h.fdiv (268435456 : Int))), z0, zf,
      z0, z0, z0, C.i false IntKind.i64 (IntKind.i64.wrap (bits BinOp.and IntKind.u32 (h.fdiv (1 : Int)) (15 : Int))), C.i true IntKind.u32 (0 : Int), zf, z0, z0, zf, zf, zf,
      zf, zf, zf, zf, C.b false (bits BinOp.and IntKind.u32 (h.fdiv (4194304 : Int)) (1 : Int) != (0 : Int)), C.i false IntKind.i64 (IntKind.i64.wrap (bits BinOp.and IntKind.u32
      (h.fdiv (65536 : Int)) (15 : Int))), zf, zf, zf])) ∧ ((bits BinOp.and IntKind.u32 h (263258096 : Int) == (18935808 : Int)) = false → ((!bits BinOp.and IntKind.u32 (h.fdiv
      (16 : Int)) (1 : Int) != (0 : Int)) = true → ((bif bif decide (IntKind.i64.wrap (bits BinOp.and IntKind.u32 (h.fdiv (2097152 : Int)) (15 : Int)) ≥ (8 : Int)) then decide
      (IntKind.i64.wrap (bits BinOp.and IntKind.u32 (h.fdiv (2097152 : Int)) (15 : Int)) ≤ (11 : Int)) else false then !bits BinOp.and IntKind.u32 (h.fdiv (1048576 : Int)) (1 :
      Int) != (0 : Int) else false) = true → R (SV.a [z0, C.i false IntKind.i64 (IntKind.i64.wrap (h.fdiv (268435456 : Int))), z0, zf, z0, z0, z0, z0, C.i true IntKind.u32 (0 :
      Int), zf, z0, z0, zf, zf, zf, zf, zf, zf, zf, zf, z0, zf, zf, zf])) ∧ ((bif bif decide (IntKind.i64.wrap (bits BinOp.and IntKind.u32 (h.fdiv (2097152 : Int)) (15 : Int)) ≥
      (8 : Int)) then decide (IntKind.i64.wrap (bits BinOp.and IntKind.u32 (h.fdiv (2097152 : Int)) (15 : Int)) ≤ (11 : Int)) else false then !bits BinOp.and IntKind.u32 (h.fdiv
      (1048576 : Int)) (1 : Int) != (0 : Int) else false) = false → R (SV.a [C.i true IntKind.i64 (1 : Int), C.i false IntKind.i64 (IntKind.i64.wrap (h.fdiv (268435456 : Int))),
      C.i false IntKind.i64 (IntKind.i64.wrap (bits BinOp.and IntKind.u32 (h.fdiv (2097152 : Int)) (15 : Int))), C.b false (bits BinOp.and IntKind.u32 (h.fdiv (1048576 : Int))
      (1 : Int) != (0 : Int)), C.i false IntKind.i64 (IntKind.i64.wrap (bits BinOp.and IntKind.u32 (h.fdiv (4096 : Int)) (15 : Int))), C.i false IntKind.i64 (IntKind.i64.wrap
      (bits BinOp.and IntKind.u32 (h.fdiv (65536 : Int)) (15 : Int))), z0, C.i false IntKind.i64 (IntKind.i64.wrap (bits BinOp.and IntKind.u32 (h.fdiv (1 : Int)) (15 : Int))),
      C.i true IntKind.u32 (0 : Int), zf, C.i false IntKind.i64 (IntKind.i64.wrap (bits BinOp.and IntKind.u32 (h.fdiv (32 : Int)) (3 : Int))), C.i false IntKind.i64
      (IntKind.i64.wrap (bits BinOp.and IntKind.u32 (h.fdiv (128 : Int)) (31 : Int))), zf, zf, zf, zf, zf, zf, zf, zf, z0, zf, zf, zf]))) ∧ ((!bits BinOp.and IntKind.u32 (h.fdiv
      (16 : Int)) (1 : Int) != (0 : Int)) = false → ((!bits BinOp.and IntKind.u32 (h.fdiv (128 : Int)) (1 : Int) != (0 : Int)) = true → ((bif bif decide (IntKind.i64.wrap (bits
      BinOp.and IntKind.u32 (h.fdiv (2097152 : Int)) (15 : Int)) ≥ (8 : Int)) then decide (IntKind.i64.wrap (bits BinOp.and IntKind.u32 (h.fdiv (2097152 : Int)) (15 : Int)) ≤
      (11 : Int)) else false then !bits BinOp.and IntKind.u32 (h.fdiv (1048576 : Int)) (1 : Int) != (0 : Int) else false) = true → R (SV.a [z0, C.i false IntKind.i64
      (IntKind.i64.wrap (h.fdiv (268435456 : Int))), z0, zf, z0, z0, z0, z0, C.i true IntKind.u32 (0 : Int), zf, z0, z0, zf, zf, zf, zf, zf, zf, zf, zf, z0, zf, zf, zf])) ∧
      ((bif bif decide (IntKind.i64.wrap (bits BinOp.and IntKind.u32 (h.fdiv (2097152 : Int)) (15 : Int)) ≥ (8 : Int)) then decide (IntKind.i64.wrap (bits BinOp.and IntKind.u32
      (h.fdiv (2097152 : Int)) (15 : Int)) ≤ (11 : Int)) else false then !bits BinOp.and IntKind.u32 (h.fdiv (1048576 : Int)) (1 : Int) != (0 : Int) else false) = false → R
      (SV.a [C.i true IntKind.i64 (1 : Int), C.i false IntKind.i64 (IntKind.i64.wrap (h.fdiv (268435456 : Int))), C.i false IntKind.i64 (IntKind.i64.wrap (bits BinOp.and
      IntKind.u32 (h.fdiv (2097152 : Int)) (15 : Int))), C.b false (bits BinOp.and IntKind.u32 (h.fdiv (1048576 : Int)) (1 : Int) != (0 : Int)), C.i false IntKind.i64
      (IntKind.i64.wrap (bits BinOp.and IntKind.u32 (h.fdiv (4096 : Int)) (15 : Int))), C.i false IntKind.i64 (IntKind.i64.wrap (bits BinOp.and IntKind.u32 (h.fdiv (65536 :
      Int)) (15 : Int))), C.i false IntKind.i64 (IntKind.i64.wrap (bits BinOp.and IntKind.u32 (h.fdiv (256 : Int)) (15 : Int))), C.i false IntKind.i64 (IntKind.i64.wrap (bits
      BinOp.and IntKind.u32 (h.fdiv (1 : Int)) (15 : Int))), C.i true IntKind.u32 (0 : Int), zf, C.i false IntKind.i64 (IntKind.i64.wrap (bits BinOp.and IntKind.u32 (h.fdiv (32
      : Int)) (3 : Int))), z0, C.b true true, zf, zf, zf, zf, zf, zf, zf, z0, zf, zf, zf]))) ∧ ((!bits BinOp.and IntKind.u32 (h.fdiv (128 : Int)) (1 : Int) != (0 : Int)) = false
      → R (SV.a [z0, C.i false IntKind.i64 (IntKind.i64.wrap (h.fdiv (268435456 : Int))), z0, zf, z0, z0, z0, z0, C.i true IntKind.u32 (0 : Int), zf, z0, z0, zf, zf, zf, zf, zf,
      zf, zf, zf, z0, zf, zf, zf]))))))))) ∧ ((bits BinOp.and IntKind.u32 h (1048720 : Int) == (1048720 : Int)) = false → ((bits BinOp.and IntKind.u32 h (1048816 : Int) == (176
      : Int)) = true → ((bits BinOp.and IntKind.u32 (h.fdiv (4194304 : Int)) (1 : Int) != (0 : Int)) = true → ((bits BinOp.and IntKind.u32 (h.fdiv (2097152 : Int)) (1 : Int) !=
      (0 : Int)) = true → R (SV.a [C.i true IntKind.i64 (6 : Int), C.i false IntKind.i64 (IntKind.i64.wrap (h.fdiv (268435456 : Int))), C.i false IntKind.i64 (IntKind.i64.wrap
      (bits BinOp.and IntKind.u32 (h.fdiv (32 : Int)) (3 : Int))), zf, C.i false IntKind.i64 (IntKind.i64.wrap (bits BinOp.and IntKind.u32 (h.fdiv (4096 : Int)) (15 : Int))),
      C.i false IntKind.i64 (IntKind.i64.wrap (bits BinOp.and IntKind.u32 (h.fdiv (65536 : Int)) (15 : Int))), z0, z0, C.i false IntKind.u32 (bits BinOp.or IntKind.u32 (bits
      BinOp.and IntKind.u32 (h.fdiv (16 : Int)) (240 : Int)) (bits BinOp.and IntKind.u32 h (15 : Int))), C.b true true, z0, z0, zf, C.b false (bits BinOp.and IntKind.u32 (h.fdiv
      (1048576 : Int)) (1 : Int) != (0 : Int)), zf, zf, C.b false (bits BinOp.and IntKind.u32 (h.fdiv (16777216 : Int)) (1 : Int) != (0 : Int)), C.b false (bits BinOp.and
      IntKind.u32 (h.fdiv (8388608 : Int)) (1 : Int) != (0 : Int)), C.b true true, zf, z0, zf, zf, zf])) ∧ ((bits BinOp.and IntKind.u32 (h.fdiv (2097152 : Int)) (1 : Int) != (0
      : Int)) = false → R (SV.a [C.i true IntKind.i64 (6 : Int), C.i false IntKind.i64 (IntKind.i64.wrap (h.fdiv (268435456 : Int))), C.i false IntKind.i64 (IntKind.i64.wrap
      (bits BinOp.and IntKind.u32 (h.fdiv (32 : Int)) (3 : Int))), zf, C.i false IntKind.i64 (IntKind.i64.wrap (bits BinOp.and IntKind.u32 (h.fdiv (4096 : Int)) (15 : Int))),
      C.i false IntKind.i64 (IntKind.i64.wrap (bits BinOp.and IntKind.u32 (h.fdiv (65536 : Int)) (15 : Int))), z0, z0, C.i false IntKind.u32 (bits BinOp.or IntKind.u32 (bits
      BinOp.and IntKind.u32 (h.fdiv (16 : Int)) (240 : Int)) (bits BinOp.and IntKind.u32 h (15 : Int))), C.b true true, z0, z0, zf, C.b false (bits BinOp.and IntKind.u32 (h.fdiv
      (1048576 : Int)) (1 : Int) != (0 : Int)), zf, zf, C.b false (bits BinOp.and IntKind.u32 (h.fdiv (16777216 : Int)) (1 : Int) != (0 : Int)), C.b false (bits BinOp.and
      IntKind.u32 (h.fdiv (8388608 : Int)) (1 : Int) != (0 : Int)), C.b false !bits BinOp.and IntKind.u32 (h.fdiv (16777216 : Int)) (1 : Int) != (0 : Int), zf, z0, zf, zf,
      zf]))) ∧ ((bits BinOp.and IntKind.u32 (h.fdiv (4194304 : Int)) (1 : Int) != (0 : Int)) = false → ((bits BinOp.and IntKind.u32 (h.fdiv (2097152 : Int)) (1 : Int) != (0 :
      Int)) = true → R (SV.a [C.i true IntKind.i64 (6 : Int), C.i false IntKind.i64 (IntKind.i64.wrap (h.fdiv (268435456 : Int))), C.i false IntKind.i64 (IntKind.i64.wrap (bits
      BinOp.and IntKind.u32 (h.fdiv (32 : Int)) (3 : Int))), zf, C.i false IntKind.i64 (IntKind.i64.wrap (bits BinOp.and IntKind.u32 (h.fdiv (4096 : Int)) (15 : Int))), C.i
      false IntKind.i64 (IntKind.i64.wrap (bits BinOp.and IntKind.u32 (h.fdiv (65536 : Int)) (15 : Int))), z0, C.i false IntKind.i64 (IntKind.i64.wrap (bits BinOp.and
      IntKind.u32 (h.fdiv (1 : Int)) (15 : Int))), C.i true IntKind.u32 (0 : Int), zf, z0, z0, zf, C.b false (bits BinOp.and IntKind.u32 (h.fdiv (1048576 : Int)) (1 : Int) != (0
      : Int)), zf, zf, C.b false (bits BinOp.and IntKind.u32 (h.fdiv (16777216 : Int)) (1 : Int) != (0 : Int)), C.b false (bits BinOp.and IntKind.u32 (h.fdiv (8388608 : Int)) (1
      : Int) != (0 : Int)), C.b true true, zf, z0, zf, zf, zf])) ∧ ((bits BinOp.and IntKind.u32 (h.fdiv (2097152 : Int)) (1 : Int) != (0 : Int)) = false → R (SV.a [C.i true
      IntKind.i64 (6 : Int), C.i false IntKind.i64 (IntKind.i64.wrap (h.fdiv (268435456 : Int))), C.i false IntKind.i64 (IntKind.i64.wrap (bits BinOp.and IntKind.u32 (h.fdiv (32
      : Int)) (3 : Int))), zf, C.i false IntKind.i64 (IntKind.i64.wrap (bits BinOp.and IntKind.u32 (h.fdiv (4096 : Int)) (15 : Int))), C.i false IntKind.i64 (IntKind.i64.wrap
      (bits BinOp.and IntKind.u32 (h.fdiv (65536 : Int)) (15 : Int))), z0, C.i false IntKind.i64 (IntKind.i64.wrap (bits BinOp.and IntKind.u32 (h.fdiv (1 : Int)) (15 : Int))),
      C.i true IntKind.u32 (0 : Int), zf, z0, z0, zf, C.b false (bits BinOp.and IntKind.u32 (h.fdiv (1048576 : Int)) (1 : Int) != (0 : Int)), zf, zf, C.b false (bits BinOp.and
      IntKind.u32 (h.fdiv (16777216 : Int)) (1 : Int) != (0 : Int)), C.b false (bits BinOp.and IntKind.u32 (h.fdiv (8388608 : Int)) (1 : Int) != (0 : Int)), C.b false !bits
      BinOp.and IntKind.u32 (h.fdiv (16777216 : Int)) (1 : Int) != (0 : Int), zf, z0, zf, zf, zf])))) ∧ ((bits BinOp.and IntKind.u32 h (1048816 : Int) == (176 : Int)) = false →
      ((bits BinOp.and IntKind.u32 h (268435440 : Int) == (19922704 : Int)) = true → R (SV.a [C.i true IntKind.i64 (5 : Int), C.i false IntKind.i64 (IntKind.i64.wrap (h.fdiv
      (268435456 : Int))), z0, zf, z0, z0, z0, C.i false IntKind.i64 (IntKind.i64.wrap (bits BinOp.and IntKind.u32 (h.fdiv (1 : Int)) (15 : Int))), C.i true IntKind.u32 (0 :
      Int), zf, z0, z0, zf, zf, zf, zf, zf, zf, zf, zf, z0, zf, zf, zf])) ∧ ((bits BinOp.and IntKind.u32 h (268435440 : Int) == (19922704 : Int)) = false → ((bits BinOp.and
      IntKind.u32 h (264179711 : Int) == (17760256 : Int)) = true → R (SV.a [C.i true IntKind.i64 (11 : Int), C.i false IntKind.i64 (IntKind.i64.wrap (h.fdiv (268435456 :
      Int))), z0, zf, C.i false IntKind.i64 (IntKind.i64.wrap (bits BinOp.and IntKind.u32 (h.fdiv (4096 : Int)) (15 : Int))), z0, z0, z0, C.i true IntKind.u32 (0 : Int), zf, z0,
      z0, zf, zf, zf, zf, zf, zf, zf, C.b false (bits BinOp.and IntKind.u32 (h.fdiv (4194304 : Int)) (1 : Int) != (0 : Int)), z0, zf, zf, zf])) ∧ ((bits BinOp.and IntKind.u32 h
      (264179711 : Int) == (17760256 : Int)) = false → ((bits BinOp.and IntKind.u32 h (263258096 : Int) == (18935808 : Int)) = true → R (SV.a [C.i true IntKind.i64 (12 : Int),
      C.i false IntKind.i64 (IntKind.i64.wrap (h.fdiv (268435456 : Int))), z0, zf, z0, z0, z0, C.i false IntKind.i64 (IntKind.i64.wrap (bits BinOp.and IntKind.u32 (h.fdiv (1 :
      Int)) (15 : Int))), C.i true IntKind.u32 (0 : Int), zf, z0, z0, zf, zf, zf, zf, zf, zf, zf, C.b false (bits BinOp.and IntKind.u32 (h.fdiv (4194304 : Int)) (1 : Int) != (0
      : Int)), C.i false IntKind.i64 (IntKind.i64.wrap (bits BinOp.and IntKind.u32 (h.fdiv (65536 : Int)) (15 : Int))), zf, zf, zf])) ∧ ((bits BinOp.and IntKind.u32 h (263258096
      : Int) == (18935808 : Int)) = false → ((!bits BinOp.and IntKind.u32 (h.fdiv (16 : Int)) (1 : Int) != (0 : Int)) = true → ((bif bif decide (IntKind.i64.wrap (bits BinOp.and
      IntKind.u32 (h.fdiv (2097152 : Int)) (15 : Int)) ≥ (8 : Int)) then decide (IntKind.i64.wrap (bits BinOp.and IntKind.u32 (h.fdiv (2097152 : Int)) (15 : Int)) ≤ (11 : Int))
      else false then !bits BinOp.and IntKind.u32 (h.fdiv (1048576 : Int)) (1 : Int) != (0 : Int) else false) = true → R (SV.a [z0, C.i false IntKind.i64 (IntKind.i64.wrap
      (h.fdiv (268435456 : Int))), z0, zf, z0, z0, z0, z0, C.i true IntKind.u32 (0 : Int), zf, z0, z0, zf, zf, zf, zf, zf, zf, zf, zf, z0, zf, zf, zf])) ∧ ((bif bif decide
      (IntKind.i64.wrap (bits BinOp.and IntKind.u32 (h.fdiv (2097152 : Int)) (15 : Int)) ≥ (8 : Int)) then decide (IntKind.i64.wrap (bits BinOp.and IntKind.u32 (h.fdiv (2097152
      : Int)) (15 : Int)) ≤ (11 : Int)) else false then !bits BinOp.and IntKind.u32 (h.fdiv (1048576 : Int)) (1 : Int) != (0 : Int) else false) = false → R (SV.a [C.i true
      IntKind.i64 (1 : Int), C.i false IntKind.i64 (IntKind.i64.wrap (h.fdiv (268435456 : Int))), C.i false IntKind.i64 (IntKind.i64.wrap (bits BinOp.and IntKind.u32 (h.fdiv
      (2097152 : Int)) (15 : Int))), C.b false (bits BinOp.and IntKind.u32 (h.fdiv (1048576 : Int)) (1 : Int) != (0 : Int)), C.i false IntKind.i64 (IntKind.i64.wrap (bits
      BinOp.and IntKind.u32 (h.fdiv (4096 : Int)) (15 : Int))), C.i false IntKind.i64 (IntKind.i64.wrap (bits BinOp.and IntKind.u32 (h.fdiv (65536 : Int)) (15 : Int))), z0, C.i
      false IntKind.i64 (IntKind.i64.wrap (bits BinOp.and IntKind.u32 (h.fdiv (1 : Int)) (15 : Int))), C.i true IntKind.u32 (0 : Int), zf, C.i false IntKind.i64
      (IntKind.i64.wrap (bits BinOp.and IntKind.u32 (h.fdiv (32 : Int)) (3 : Int))), C.i false IntKind.i64 (IntKind.i64.wrap (bits BinOp.and IntKind.u32 (h.fdiv (128 : Int)) (31
      : Int))), zf, zf, zf, zf, zf, zf, zf, zf, z0, zf, zf, zf]))) ∧ ((!bits BinOp.and IntKind.u32 (h.fdiv (16 : Int)) (1 : Int) != (0 : Int)) = false → ((!bits BinOp.and
      IntKind.u32 (h.fdiv (128 : Int)) (1 : Int) != (0 : Int)) = true → ((bif bif decide (IntKind.i64.wrap (bits BinOp.and IntKind.u32 (h.fdiv (2097152 : Int)) (15 : Int)) ≥ (8
      : Int)) then decide (IntKind.i64.wrap (bits BinOp.and IntKind.u32 (h.fdiv (2097152 : Int)) (15 : Int)) ≤ (11 : Int)) else false then !bits BinOp.and IntKind.u32 (h.fdiv
      (1048576 : Int)) (1 : Int) != (0 : Int) else false) = true → R (SV.a [z0, C.i false IntKind.i64 (IntKind.i64.wrap (h.fdiv (268435456 : Int))), z0, zf, z0, z0, z0, z0, C.i
      true IntKind.u32 (0 : Int), zf, z0, z0, zf, zf, zf, zf, zf, zf, zf, zf, z0, zf, zf, zf])) ∧ ((bif bif decide (IntKind.i64.wrap (bits BinOp.and IntKind.u32 (h.fdiv (2097152
      : Int)) (15 : Int)) ≥ (8 : Int)) then decide (IntKind.i64.wrap (bits BinOp.and IntKind.u32 (h.fdiv (2097152 : Int)) (15 : Int)) ≤ (11 : Int)) else false then !bits
      BinOp.and IntKind.u32 (h.fdiv (1048576 : Int)) (1 : Int) != (0 : Int) else false) = false → R (SV.a [C.i true IntKind.i64 (1 : Int), C.i false IntKind.i64
      (IntKind.i64.wrap (h.fdiv (268435456 : Int))), C.i false IntKind.i64 (IntKind.i64.wrap (bits BinOp.and IntKind.u32 (h.fdiv (2097152 : Int)) (15 : Int))), C.b false (bits
      BinOp.and IntKind.u32 (h.fdiv (1048576 : Int)) (1 : Int) != (0 : Int)), C.i false IntKind.i64 (IntKind.i64.wrap (bits BinOp.and IntKind.u32 (h.fdiv (4096 : Int)) (15 :
      Int))), C.i false IntKind.i64 (IntKind.i64.wrap (bits BinOp.and IntKind.u32 (h.fdiv (65536 : Int)) (15 : Int))), C.i false IntKind.i64 (IntKind.i64.wrap (bits BinOp.and
      IntKind.u32 (h.fdiv (256 : Int)) (15 : Int))), C.i false IntKind.i64 (IntKind.i64.wrap (bits BinOp.and IntKind.u32 (h.fdiv (1 : Int)) (15 : Int))), C.i true IntKind.u32 (0
      : Int), zf, C.i false IntKind.i64 (IntKind.i64.wrap (bits BinOp.and IntKind.u32 (h.fdiv (32 : Int)) (3 : Int))), z0, C.b true true, zf, zf, zf, zf, zf, zf, zf, z0, zf, zf,
      zf]))) ∧ ((!bits BinOp.and IntKind.u32 (h.fdiv (128 : Int)) (1 : Int) != (0 : Int)) = false → R (SV.a [z0, C.i false IntKind.i64 (IntKind.i64.wrap (h.fdiv (268435456 :
      Int))), z0, zf, z0, z0, z0, z0, C.i true IntKind.u32 (0 : Int), zf, z0, z0, zf, zf, zf, zf, zf, zf, zf, zf, z0, zf, zf, zf])))))))))))) ∧ ((IntKind.i64.wrap (bits
      BinOp.and IntKind.u32 (h.fdiv (33554432 : Int)) (7 : Int)) == (0 : Int)) = false → ((IntKind.i64.wrap (bits BinOp.and IntKind.u32 (h.fdiv (33554432 : Int)) (7 : Int)) ==
      (1 : Int)) = true → ((bits BinOp.and IntKind.u32 h (263254016 : Int) == (52490240 : Int)) = true → R (SV.a [C.i true IntKind.i64 (12 : Int), C.i false IntKind.i64
      (IntKind.i64.wrap (h.fdiv (268435456 : Int))), z0, zf, z0, z0, z0, z0, C.i false IntKind.u32 (bits BinOp.and IntKind.u32 h (255 : Int)), C.b true true, z0, C.i false
      IntKind.i64 (IntKind.i64.wrap (bits BinOp.and IntKind.u32 (h.fdiv (256 : Int)) (15 : Int))), zf, zf, zf, zf, zf, zf, zf, C.b false (bits BinOp.and IntKind.u32 (h.fdiv
      (4194304 : Int)) (1 : Int) != (0 : Int)), C.i false IntKind.i64 (IntKind.i64.wrap (bits BinOp.and IntKind.u32 (h.fdiv (65536 : Int)) (15 : Int))), zf, zf, zf])) ∧ ((bits
      BinOp.and IntKind.u32 h (263254016 : Int) == (52490240 : Int)) = false → ((bif bif decide (IntKind.i64.wrap (bits BinOp.and IntKind.u32 (h.fdiv (2097152 : Int)) (15 :
      Int)) ≥ (8 : Int)) then decide (IntKind.i64.wrap (bits BinOp.and IntKind.u32 (h.fdiv (2097152 : Int)) (15 : Int)) ≤ (11 : Int)) else false then !bits BinOp.and IntKind.u32
      (h.fdiv (1048576 : Int)) (1 : Int) != (0 : Int) else false) = true → R (SV.a [z0, C.i false IntKind.i64 (IntKind.i64.wrap (h.fdiv (268435456 : Int))), z0, zf, z0, z0, z0,
      z0, C.i true IntKind.u32 (0 : Int), zf, z0, z0, zf, zf, zf, zf, zf, zf, zf, zf, z0, zf, zf, zf])) ∧ ((bif bif decide (IntKind.i64.wrap (bits BinOp.and IntKind.u32 (h.fdiv
      (2097152 : Int)) (15 : Int)) ≥ (8 : Int)) then decide (IntKind.i64.wrap (bits BinOp.and IntKind.u32 (h.fdiv (2097152 : Int)) (15 : Int)) ≤ (11 : Int)) else false then
      !bits BinOp.and IntKind.u32 (h.fdiv (1048576 : Int)) (1 : Int) != (0 : Int) else false) = false → R (SV.a [C.i true IntKind.i64 (1 : Int), C.i false IntKind.i64
      (IntKind.i64.wrap (h.fdiv (268435456 : Int))), C.i false IntKind.i64 (IntKind.i64.wrap (bits BinOp.and IntKind.u32 (h.fdiv (2097152 : Int)) (15 : Int))), C.b false (bits
      BinOp.and IntKind.u32 (h.fdiv (1048576 : Int)) (1 : Int) != (0 : Int)), C.i false IntKind.i64 (IntKind.i64.wrap (bits BinOp.and IntKind.u32 (h.fdiv (4096 : Int)) (15 :
      Int))), C.i false IntKind.i64 (IntKind.i64.wrap (bits BinOp.and IntKind.u32 (h.fdiv (65536 : Int)) (15 : Int))), z0, z0, C.i false IntKind.u32 (bits BinOp.and IntKind.u32
      h (255 : Int)), C.b true true, z0, C.i false IntKind.i64 (IntKind.i64.wrap (bits BinOp.and IntKind.u32 (h.fdiv (256 : Int)) (15 : Int))), zf, zf, zf, zf, zf, zf, zf, zf,
      z0, zf, zf, zf])))) ∧ ((IntKind.i64.wrap (bits BinOp.and IntKind.u32 (h.fdiv (33554432 : Int)) (7 : Int)) == (1 : Int)) = false → ((IntKind.i64.wrap (bits BinOp.and
      IntKind.u32 (h.fdiv (33554432 : Int)) (7 : Int)) == (2 : Int)) = true → ((bits BinOp.and IntKind.u32 (h.fdiv (33554432 : Int)) (1 : Int) != (0 : Int)) = true → ((bits
      BinOp.and IntKind.u32 (h.fdiv (2097152 : Int)) (1 : Int) != (0 : Int)) = true → R (SV.a [C.i true IntKind.i64 (7 : Int), C.i false IntKind.i64 (IntKind.i64.wrap (h.fdiv
      (268435456 : Int))), z0, zf, C.i false IntKind.i64 (IntKind.i64.wrap (bits BinOp.and IntKind.u32 (h.fdiv (4096 : Int)) (15 : Int))), C.i false IntKind.i64
      (IntKind.i64.wrap (bits BinOp.and IntKind.u32 (h.fdiv (65536 : Int)) (15 : Int))), z0, C.i false IntKind.i64 (IntKind.i64.wrap (bits BinOp.and IntKind.u32 (h.fdiv (1 :
      Int)) (15 : Int))), C.i true IntKind.u32 (0 : Int), zf, C.i false IntKind.i64 (IntKind.i64.wrap (bits BinOp.and IntKind.u32 (h.fdiv (32 : Int)) (3 : Int))), C.i false
      IntKind.i64 (IntKind.i64.wrap (bits BinOp.and IntKind.u32 (h.fdiv (128 : Int)) (31 : Int))), zf, C.b false (bits BinOp.and IntKind.u32 (h.fdiv (1048576 : Int)) (1 : Int)
      != (0 : Int)), C.b false (bits BinOp.and IntKind.u32 (h.fdiv (4194304 : Int)) (1 : Int) != (0 : Int)), zf, C.b false (bits BinOp.and IntKind.u32 (h.fdiv (16777216 : Int))
      (1 : Int) != (0 : Int)), C.b false (bits BinOp.and IntKind.u32 (h.fdiv (8388608 : Int)) (1 : Int) != (0 : Int)), C.b true true, zf, z0, zf, zf, zf])) ∧ ((bits BinOp.and
      IntKind.u32 (h.fdiv (2097152 : Int)) (1 : Int) != (0 : Int)) = false → R (SV.a [C.i true IntKind.i64 (7 : Int), C.i false IntKind.i64 (IntKind.i64.wrap (h.fdiv (268435456
      : Int))), z0, zf, C.i false IntKind.i64 (IntKind.i64.wrap (bits BinOp.and IntKind.u32 (h.fdiv (4096 : Int)) (15 : Int))), C.i false IntKind.i64 (IntKind.i64.wrap (bits
      BinOp.and IntKind.u32 (h.fdiv (65536 : Int)) (15 : Int))), z0, C.i false IntKind.i64 (IntKind.i64.wrap (bits BinOp.and IntKind.u32 (h.fdiv (1 : Int)) (15 : Int))), C.i
      true IntKind.u32 (0 : Int), zf, C.i false IntKind.i64 (IntKind.i64.wrap (bits BinOp.and IntKind.u32 (h.fdiv (32 : Int)) (3 : Int))), C.i false IntKind.i64
      (IntKind.i64.wrap (bits BinOp.and IntKind.u32 (h.fdiv (128 : Int)) (31 : Int))), zf, C.b false (bits BinOp.and IntKind.u32 (h.fdiv (1048576 : Int)) (1 : Int) != (0 :
      Int)), C.b false (bits BinOp.and IntKind.u32 (h.fdiv (4194304 : Int)) (1 : Int) != (0 : Int)), zf, C.b false (bits BinOp.and IntKind.u32 (h.fdiv (16777216 : Int)) (1 :
      Int) != (0 : Int)), C.b false (bits BinOp.and IntKind.u32 (h.fdiv (8388608 : Int)) (1 : Int) != (0 : Int)), C.b false !bits BinOp.and IntKind.u32 (h.fdiv (16777216 : Int))
      (1 : Int) != (0 : Int), zf, z0, zf, zf, zf]))) ∧ ((bits BinOp.and IntKind.u32 (h.fdiv (33554432 : Int)) (1 : Int) != (0 : Int)) = false → ((bits BinOp.and IntKind.u32
      (h.fdiv (2097152 : Int)) (1 : Int) != (0 : Int)) = true → R (SV.a [C.i true IntKind.i64 (7 : Int), C.i false IntKind.i64 (IntKind.i64.wrap (h.fdiv (268435456 : Int))), z0,
      zf, C.i false IntKind.i64 (IntKind.i64.wrap (bits BinOp.and IntKind.u32 (h.fdiv (4096 : Int)) (15 : Int))), C.i false IntKind.i64 (IntKind.i64.wrap (bits BinOp.and
      IntKind.u32 (h.fdiv (65536 : Int)) (15 : Int))), z0, z0, C.i false IntKind.u32 (bits BinOp.and IntKind.u32 h (4095 : Int)), C.b true true, z0, z0, zf, C.b false (bits
      BinOp.and IntKind.u32 (h.fdiv (1048576 : Int)) (1 : Int) != (0 : Int)), C.b false (bits BinOp.and IntKind.u32 (h.fdiv (4194304 : Int)) (1 : Int) != (0 : Int)), zf, C.b
      false (bits BinOp.and IntKind.u32 (h.fdiv (16777216 : Int)) (1 : Int) != (0 : Int)), C.b false (bits BinOp.and IntKind.u32 (h.fdiv (8388608 : Int)) (1 : Int) != (0 :
      Int)), C.b true true, zf, z0, zf, zf, zf])) ∧ ((bits BinOp.and IntKind.u32 (h.fdiv (2097152 : Int)) (1 : Int) != (0 : Int)) = false → R (SV.a [C.i true IntKind.i64 (7 :
      Int), C.i false IntKind.i64 (IntKind.i64.wrap (h.fdiv (268435456 : Int))), z0, zf, C.i false IntKind.i64 (IntKind.i64.wrap (bits BinOp.and IntKind.u32 (h.fdiv (4096 :
      Int)) (15 : Int))), C.i false IntKind.i64 (IntKind.i64.wrap (bits BinOp.and IntKind.u32 (h.fdiv (65536 : Int)) (15 : Int))), z0, z0, C.i false IntKind.u32 (bits BinOp.and
      IntKind.u32 h (4095 : Int)), C.b true true, z0, z0, zf, C.b false (bits BinOp.and IntKind.u32 (h.fdiv (1048576 : Int)) (1 : Int) != (0 : Int)), C.b false (bits BinOp.and
      IntKind.u32 (h.fdiv (4194304 : Int)) (1 : Int) != (0 : Int)), zf, C.b false (bits BinOp.and IntKind.u32 (h.fdiv (16777216 : Int)) (1 : Int) != (0 : Int)), C.b false (bits
      BinOp.and IntKind.u32 (h.fdiv (8388608 : Int)) (1 : Int) != (0 : Int)), C.b false !bits BinOp.and IntKind.u32 (h.fdiv (16777216 : Int)) (1 : Int) != (0 : Int), zf, z0, zf,
      zf, zf])))) ∧ ((IntKind.i64.wrap (bits BinOp.and IntKind.u32 (h.fdiv (33554432 : Int)) (7 : Int)) == (2 : Int)) = false → ((IntKind.i64.wrap (bits BinOp.and IntKind.u32
      (h.fdiv (33554432 : Int)) (7 : Int)) == (3 : Int)) = true → ((bits BinOp.and IntKind.u32 (h.fdiv (16 : Int)) (1 : Int) != (0 : Int)) = true → R (SV.a [z0, C.i false
      IntKind.i64 (IntKind.i64.wrap (h.fdiv (268435456 : Int))), z0, zf, z0, z0, z0, z0, C.i true IntKind.u32 (0 : Int), zf, z0, z0, zf, zf, zf, zf, zf, zf, zf, zf, z0, zf, zf,
      zf])) ∧ ((bits BinOp.and IntKind.u32 (h.fdiv (16 : Int)) (1 : Int) != (0 : Int)) = false → ((bits BinOp.and IntKind.u32 (h.fdiv (33554432 : Int)) (1 : Int) != (0 : Int)) =
      true → ((bits BinOp.and IntKind.u32 (h.fdiv (2097152 : Int)) (1 : Int) != (0 : Int)) = true → R (SV.a [C.i true IntKind.i64 (7 : Int), C.i false IntKind.i64
      (IntKind.i64.wrap (h.fdiv (268435456 : Int))), z0, zf, C.i false IntKind.i64 (IntKind.i64.wrap (bits BinOp.and IntKind.u32 (h.fdiv (4096 : Int)) (15 : Int))), C.i false
      IntKind.i64 (IntKind.i64.wrap (bits BinOp.and IntKind.u32 (h.fdiv (65536 : Int)) (15 : Int))), z0, C.i false IntKind.i64 (IntKind.i64.wrap (bits BinOp.and IntKind.u32
      (h.fdiv (1 : Int)) (15 : Int))), C.i true IntKind.u32 (0 : Int), zf, C.i false IntKind.i64 (IntKind.i64.wrap (bits BinOp.and IntKind.u32 (h.fdiv (32 : Int)) (3 : Int))),
      C.i false IntKind.i64 (IntKind.i64.wrap (bits BinOp.and IntKind.u32 (h.fdiv (128 : Int)) (31 : Int))), zf, C.b false (bits BinOp.and IntKind.u32 (h.fdiv (1048576 : Int))
      (1 : Int) != (0 : Int)), C.b false (bits BinOp.and IntKind.u32 (h.fdiv (4194304 : Int)) (1 : Int) != (0 : Int)), zf, C.b false (bits BinOp.and IntKind.u32 (h.fdiv
      (16777216 : Int)) (1 : Int) != (0 : Int)), C.b false (bits BinOp.and IntKind.u32 (h.fdiv (8388608 : Int)) (1 : Int) != (0 : Int)), C.b true true, zf, z0, zf, zf, zf])) ∧
      ((bits BinOp.and IntKind.u32 (h.fdiv (2097152 : Int)) (1 : Int) != (0 : Int)) = false → R (SV.a [C.i true IntKind.i64 (7 : Int), C.i false IntKind.i64 (IntKind.i64.wrap
      (h.fdiv (268435456 : Int))), z0, zf, C.i false IntKind.i64 (IntKind.i64.wrap (bits BinOp.and IntKind.u32 (h.fdiv (4096 : Int)) (15 : Int))), C.i false IntKind.i64
      (IntKind.i64.wrap (bits BinOp.and IntKind.u32 (h.fdiv (65536 : Int)) (15 : Int))), z0, C.i false IntKind.i64 (IntKind.i64.wrap (bits BinOp.and IntKind.u32 (h.fdiv (1 :
      Int)) (15 : Int))), C.i true IntKind.u32 (0 : Int), zf, C.i false IntKind.i64 (IntKind.i64.wrap (bits BinOp.and IntKind.u32 (h.fdiv (32 : Int)) (3 : Int))), C.i false
      IntKind.i64 (IntKind.i64.wrap (bits BinOp.and IntKind.u32 (h.fdiv (128 : Int)) (31 : Int))), zf, C.b false (bits BinOp.and IntKind.u32 (h.fdiv (1048576 : Int)) (1 : Int)
      != (0 : Int)), C.b false (bits BinOp.and IntKind.u32 (h.fdiv (4194304 : Int)) (1 : Int) != (0 : Int)), zf, C.b false (bits BinOp.and IntKind.u32 (h.fdiv (16777216 : Int))
      (1 : Int) != (0 : Int)), C.b false (bits BinOp.and IntKind.u32 (h.fdiv (8388608 : Int)) (1 : Int) != (0 : Int)), C.b false !bits BinOp.and IntKind.u32 (h.fdiv (16777216 :
      Int)) (1 : Int) != (0 : Int), zf, z0, zf, zf, zf]))) ∧ ((bits BinOp.and IntKind.u32 (h.fdiv (33554432 : Int)) (1 : Int) != (0 : Int)) = false → ((bits BinOp.and
      IntKind.u32 (h.fdiv (2097152 : Int)) (1 : Int) != (0 : Int)) = true → R (SV.a [C.i true IntKind.i64 (7 : Int), C.i false IntKind.i64 (IntKind.i64.wrap (h.fdiv (268435456 :
      Int))), z0, zf, C.i false IntKind.i64 (IntKind.i64.wrap (bits BinOp.and IntKind.u32 (h.fdiv (4096 : Int)) (15 : Int))), C.i false IntKind.i64 (IntKind.i64.wrap (bits
      BinOp.and IntKind.u32 (h.fdiv (65536 : Int)) (15 : Int))), z0, z0, C.i false IntKind.u32 (bits BinOp.and IntKind.u32 h (4095 : Int)), C.b true true, z0, z0, zf, C.b false
      (bits BinOp.and IntKind.u32 (h.fdiv (1048576 : Int)) (1 : Int) != (0 : Int)), C.b false (bits BinOp.and IntKind.u32 (h.fdiv (4194304 : Int)) (1 : Int) != (0 : Int)), zf,
      C.b false (bits BinOp.and IntKind.u32 (h.fdiv (16777216 : Int)) (1 : Int) != (0 : Int)), C.b false (bits BinOp.and IntKind.u32 (h.fdiv (8388608 : Int)) (1 : Int) != (0 :
      Int)), C.b true true, zf, z0, zf, zf, zf])) ∧ ((bits BinOp.and IntKind.u32 (h.fdiv (2097152 : Int)) (1 : Int) != (0 : Int)) = false → R (SV.a [C.i true IntKind.i64 (7 :
      Int), C.i false IntKind.i64 (IntKind.i64.wrap (h.fdiv (268435456 : Int))), z0, zf, C.i false IntKind.i64 (IntKind.i64.wrap (bits BinOp.and IntKind.u32 (h.fdiv (4096 :
      Int)) (15 : Int))), C.i false IntKind.i64 (IntKind.i64.wrap (bits BinOp.and IntKind.u32 (h.fdiv (65536 : Int)) (15 : Int))), z0, z0, C.i false IntKind.u32 (bits BinOp.and
      IntKind.u32 h (4095 : Int)), C.b true true, z0, z0, zf, C.b false (bits BinOp.and IntKind.u32 (h.fdiv (1048576 : Int)) (1 : Int) != (0 : Int)), C.b false (bits BinOp.and
      IntKind.u32 (h.fdiv (4194304 : Int)) (1 : Int) != (0 : Int)), zf, C.b false (bits BinOp.and IntKind.u32 (h.fdiv (16777216 : Int)) (1 : Int) != (0 : Int)), C.b false (bits
      BinOp.and IntKind.u32 (h.fdiv (8388608 : Int)) (1 : Int) != (0 : Int)), C.b false !bits BinOp.and IntKind.u32 (h.fdiv (16777216 : Int)) (1 : Int) != (0 : Int), zf, z0, zf,
      zf, zf]))))) ∧ ((IntKind.i64.wrap (bits BinOp.and IntKind.u32 (h.fdiv (33554432 : Int)) (7 : Int)) == (3 : Int)) = false → ((IntKind.i64.wrap (bits BinOp.and IntKind.u32
      (h.fdiv (33554432 : Int)) (7 : Int)) == (4 : Int)) = true → R (SV.a [C.i true IntKind.i64 (8 : Int), C.i false IntKind.i64 (IntKind.i64.wrap (h.fdiv (268435456 : Int))),
      z0, zf, z0, C.i false IntKind.i64 (IntKind.i64.wrap (bits BinOp.and IntKind.u32 (h.fdiv (65536 : Int)) (15 : Int))), z0, z0, C.i true IntKind.u32 (0 : Int), zf, z0, z0,
      zf, C.b false (bits BinOp.and IntKind.u32 (h.fdiv (1048576 : Int)) (1 : Int) != (0 : Int)), zf, zf, C.b false (bits BinOp.and IntKind.u32 (h.fdiv (16777216 : Int)) (1 :
      Int) != (0 : Int)), C.b false (bits BinOp.and IntKind.u32 (h.fdiv (8388608 : Int)) (1 : Int) != (0 : Int)), C.b false (bits BinOp.and IntKind.u32 (h.fdiv (2097152 : Int))
      (1 : Int) != (0 : Int)), C.b false (bits BinOp.and IntKind.u32 (h.fdiv (4194304 : Int)) (1 : Int) != (0 : Int)), C.i false IntKind.i64 (IntKind.i64.wrap (bits BinOp.and
      IntKind.u32 (h.fdiv (1 : Int)) (65535 : Int))), zf, zf, zf])) ∧ ((IntKind.i64.wrap (bits BinOp.and IntKind.u32 (h.fdiv (33554432 : Int)) (7 : Int)) == (4 : Int)) = false →
      ((IntKind.i64.wrap (bits BinOp.and IntKind.u32 (h.fdiv (33554432 : Int)) (7 : Int)) == (5 : Int)) = true → R (SV.a [C.i true IntKind.i64 (9 : Int), C.i false IntKind.i64
      (IntKind.i64.wrap (h.fdiv (268435456 : Int))), z0, zf, z0, z0, z0, z0, C.i false IntKind.u32 (IntKind.u32.wrap ((IntKind.i32.wrap (IntKind.u32.wrap (h * (256 :
      Int)))).fdiv (64 : Int))), zf, z0, z0, zf, zf, zf, zf, zf, zf, zf, zf, z0, C.b false (bits BinOp.and IntKind.u32 (h.fdiv (16777216 : Int)) (1 : Int) != (0 : Int)), zf,
      zf])) ∧ ((IntKind.i64.wrap (bits BinOp.and IntKind.u32 (h.fdiv (33554432 : Int)) (7 : Int)) == (5 : Int)) = false → ((IntKind.i64.wrap (bits BinOp.and IntKind.u32 (h.fdiv
      (16777216 : Int)) (15 : Int)) == (15 : Int)) = true → R (SV.a [C.i true IntKind.i64 (10 : Int), C.i false IntKind.i64 (IntKind.i64.wrap (h.fdiv (268435456 : Int))), z0,
      zf, z0, z0, z0, z0, C.i false IntKind.u32 (bits BinOp.and IntKind.u32 (h.fdiv (65536 : Int)) (255 : Int)), zf, z0, z0, zf, zf, zf, zf, zf, zf, zf, zf, z0, zf, zf, zf])) ∧
      ((IntKind.i64.wrap (bits BinOp.and IntKind.u32 (h.fdiv (16777216 : Int)) (15 : Int)) == (15 : Int)) = false → R (SV.a [z0, C.i false IntKind.i64 (IntKind.i64.wrap (h.fdiv
      (268435456 : Int))), z0, zf, z0, z0, z0, z0, C.i true IntKind.u32 (0 : Int), zf, z0, z0, zf, zf, zf, zf, zf, zf, zf, zf, z0, zf, zf, zf]))))))))) := by kernel_rfl
end Go.Proofs.Ytbnglhfhmhnimaa

