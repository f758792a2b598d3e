import Derived.Test.YtagfeilieoolkaaD
import Derived.Test.YtagfeilieoolkaaEw
set_option linter.unusedVariables false
set_option linter.unusedSimpArgs false
namespace Go.Proofs.Ytagfeilieoolkaa
open Go Go.Proofs Go.Proofs.Ytagfeilieoolkaa.Ev
def vv (w o : Int) : Int := bits .or .u16 (bits .andNot .u16 w 28) (bits .and .u16 o 28)
noncomputable def c6 : Code := Try.f6.body.getD .skip
noncomputable def hd6 : List Item := headOf (run Try.prog orc2 (tabL fns) 1000 100 [.code c6] ⟨Try.f6.ntmps, mkFrGo (Tr.mk 12) 0 [.c (.i true .u16 0), .c (.i true .u16 0)]⟩ [])
def lv6 (w : Int) (o : Int) (x : Int) : List (Nat × SV) := [(0, .c (.i false .u16 w)), (1, .c (.i false .u16 o)), (5, .c (.p 0 0)), (6, .c (.p 1 0)), (20, .c (.i false .i64 x))]
def sv6 (w : Int) (o : Int) (x : Int) : SW := [⟨[.i false .i64 (fst (w / 4 % 4)), .i false .i64 (fst (w / 32 % 4)), .i false .i64 (fst (w / 256 % 4)), .i false .i64 (if w / 16 % 2 = 1 then 1 else 2), .i false .i64 (if w / 128 % 2 = 1 then 1 else 4), .i false .i64 (if w / 1024 % 2 = 1 then 1 else 8), .i false .i64 (fst (w % 4)), .b false (decide (w / 16384 % 2 = 1))], 31⟩, ⟨[.i false .i64 (fst (vv w o / 4 % 4)), .i false .i64 (fst (vv w o / 32 % 4)), .i false .i64 (fst (vv w o / 256 % 4)), .i false .i64 (if vv w o / 16 % 2 = 1 then 1 else 2), .i false .i64 (if vv w o / 128 % 2 = 1 then 1 else 4), .i false .i64 (if vv w o / 1024 % 2 = 1 then 1 else 8), .i false .i64 (fst (vv w o % 4)), .b false (decide (vv w o / 16384 % 2 = 1))], 31⟩]
def hh6 (w : Int) (o : Int) (x : Int) : Prop := 0 ≤ x ∧ x ≤ 3
def mu6 (w : Int) (o : Int) (x : Int) : Nat := (3 - x).toNat
theorem waits_pro (w : Int) (o : Int) :
    (loopP Try.prog Try.f6 (fun v _ => SV.sim v (.c (.b false true))) (fun todo fr s' => ∃ x : Int, hh6 w o x ∧ todo = hd6 ∧ fr.nt = Try.f6.ntmps ∧ refP fr (lv6 w o x) ∧ refS s' (sv6 w o x)) (run Try.prog orc2 (tabL fns) 1000 100 [.code c6] ⟨Try.f6.ntmps, mkFrGo (Tr.mk 12) 0 [.c (.i false .u16 w), .c (.i false .u16 o)]⟩ [])) =
    (u16 w = true ∧ u16 (bits BinOp.or IntKind.u16 (bits BinOp.andNot IntKind.u16 w (28 : Int)) (bits BinOp.and IntKind.u16 o (28 : Int))) = true ∧ ∃ x, ((0 : Int) ≤ x ∧ x ≤ (3
      : Int)) ∧ hd6 = hd6 ∧ (107 : Nat) = (107 : Nat) ∧ ((IntKind.u16 = IntKind.u16 ∧ w = w) ∧ (IntKind.u16 = IntKind.u16 ∧ o = o) ∧ C.p (0 : Nat) (0 : Nat) = C.p (0 : Nat) (0 :
      Nat) ∧ C.p (1 : Nat) (0 : Nat) = C.p (1 : Nat) (0 : Nat) ∧ IntKind.i64 = IntKind.i64 ∧ (0 : Int) = x) ∧ ((31 : Nat) = (31 : Nat) ∧ (IntKind.i64 = IntKind.i64 ∧ fst (w / (4
      : Int) % (4 : Int)) = fst (w / (4 : Int) % (4 : Int))) ∧ (IntKind.i64 = IntKind.i64 ∧ fst (w / (32 : Int) % (4 : Int)) = fst (w / (32 : Int) % (4 : Int))) ∧ (IntKind.i64 =
      IntKind.i64 ∧ fst (w / (256 : Int) % (4 : Int)) = fst (w / (256 : Int) % (4 : Int))) ∧ (IntKind.i64 = IntKind.i64 ∧ (if w / (16 : Int) % (2 : Int) = (1 : Int) then (1 :
      Int) else (2 : Int)) = if w / (16 : Int) % (2 : Int) = (1 : Int) then (1 : Int) else (2 : Int)) ∧ (IntKind.i64 = IntKind.i64 ∧ (if w / (128 : Int) % (2 : Int) = (1 : Int)
      then (1 : Int) else (4 : Int)) = if w / (128 : Int) % (2 : Int) = (1 : Int) then (1 : Int) else (4 : Int)) ∧ (IntKind.i64 = IntKind.i64 ∧ (if w / (1024 : Int) % (2 : Int)
      = (1 : Int) then (1 : Int) else (8 : Int)) = if w / (1024 : Int) % (2 : Int) = (1 : Int) then (1 : Int) else (8 : Int)) ∧ (IntKind.i64 = IntKind.i64 ∧ fst (w % (4 : Int))
      = fst (w % (4 : Int))) ∧ decide (w / (16384 : Int) % (2 : Int) = (1 : Int)) = decide (w / (16384 : Int) % (2 : Int) = (1 : Int))) ∧ ((31 : Nat) = (31 : Nat) ∧ (IntKind.i64
      = IntKind.i64 ∧ fst (bits BinOp.or IntKind.u16 (bits BinOp.andNot IntKind.u16 w (28 : Int)) (bits BinOp.and IntKind.u16 o (28 : Int)) / (4 : Int) % (4 : Int)) = fst (vv w
      o / (4 : Int) % (4 : Int))) ∧ (IntKind.i64 = IntKind.i64 ∧ fst (bits BinOp.or IntKind.u16 (bits BinOp.andNot IntKind.u16 w (28 : Int)) (bits BinOp.and IntKind.u16 o (28 :
      Int)) / (32 : Int) % (4 : Int)) = fst (vv w o / (32 : Int) % (4 : Int))) ∧ (IntKind.i64 = IntKind.i64 ∧ fst (bits BinOp.or IntKind.u16 (bits BinOp.andNot IntKind.u16 w (28
      : Int)) (bits BinOp.and IntKind.u16 o (28 : Int)) / (256 : Int) % (4 : Int)) = fst (vv w o / (256 : Int) % (4 : Int))) ∧ (IntKind.i64 = IntKind.i64 ∧ (if bits BinOp.or
      IntKind.u16 (bits BinOp.andNot IntKind.u16 w (28 : Int)) (bits BinOp.and IntKind.u16 o (28 : Int)) / (16 : Int) % (2 : Int) = (1 : Int) then (1 : Int) else (2 : Int)) = if
      vv w o / (16 : Int) % (2 : Int) = (1 : Int) then (1 : Int) else (2 : Int)) ∧ (IntKind.i64 = IntKind.i64 ∧ (if bits BinOp.or IntKind.u16 (bits BinOp.andNot IntKind.u16 w
      (28 : Int)) (bits BinOp.and IntKind.u16 o (28 : Int)) / (128 : Int) % (2 : Int) = (1 : Int) then (1 : Int) else (4 : Int)) = if vv w o / (128 : Int) % (2 : Int) = (1 :
      Int) then (1 : Int) else (4 : Int)) ∧ (IntKind.i64 = IntKind.i64 ∧ (if bits BinOp.or IntKind.u16 (bits BinOp.andNot IntKind.u16 w (28 : Int)) (bits BinOp.and IntKind.u16 o
      (28 : Int)) / (1024 : Int) % (2 : Int) = (1 : Int) then (1 : Int) else (8 : Int)) = if vv w o / (1024 : Int) % (2 : Int) = (1 : Int) then (1 : Int) else (8 : Int)) ∧
      (IntKind.i64 = IntKind.i64 ∧ fst (bits BinOp.or IntKind.u16 (bits BinOp.andNot IntKind.u16 w (28 : Int)) (bits BinOp.and IntKind.u16 o (28 : Int)) % (4 : Int)) = fst (vv w
      o % (4 : Int))) ∧ decide (bits BinOp.or IntKind.u16 (bits BinOp.andNot IntKind.u16 w (28 : Int)) (bits BinOp.and IntKind.u16 o (28 : Int)) / (16384 : Int) % (2 : Int) = (1
      : Int)) = decide (vv w o / (16384 : Int) % (2 : Int) = (1 : Int))) ∧ True) := by kernel_rfl
theorem waits_round (w : Int) (o : Int) (j : Int) :
    (loopP Try.prog Try.f6 (fun v _ => SV.sim v (.c (.b false true))) (fun todo fr s' => ∃ x : Int, hh6 w o x ∧ mu6 w o x < mu6 w o j ∧ todo = hd6 ∧ fr.nt = Try.f6.ntmps ∧ refP fr (lv6 w o x) ∧ refS s' (sv6 w o x)) (run Try.prog orc2 (tabL fns) 1000 100 hd6 (mkL Try.f6.ntmps (lv6 w o j)) (sv6 w o j))) =
    ((decide (j < (3 : Int)) = true → inB j (3 : Nat) = true ∧ inB j (3 : Nat) = true ∧ ((selI [fst (w / (4 : Int) % (4 : Int)), fst (w / (32 : Int) % (4 : Int)), fst (w / (256
      : Int) % (4 : Int))] j != (2 : Int)) = true → ((selI [fst (w / (4 : Int) % (4 : Int)), fst (w / (32 : Int) % (4 : Int)), fst (w / (256 : Int) % (4 : Int))] j != (3 : Int))
      = true → ((selI [fst (w / (4 : Int) % (4 : Int)), fst (w / (32 : Int) % (4 : Int)), fst (w / (256 : Int) % (4 : Int))] j != (4 : Int)) = true → ((selI [fst (w / (4 : Int)
      % (4 : Int)), fst (w / (32 : Int) % (4 : Int)), fst (w / (256 : Int) % (4 : Int))] j != (8 : Int)) = true → false = true) ∧ ((selI [fst (w / (4 : Int) % (4 : Int)), fst (w
      / (32 : Int) % (4 : Int)), fst (w / (256 : Int) % (4 : Int))] j != (8 : Int)) = false → ((selI [if w / (16 : Int) % (2 : Int) = (1 : Int) then (1 : Int) else (2 : Int), if
      w / (128 : Int) % (2 : Int) = (1 : Int) then (1 : Int) else (4 : Int), if w / (1024 : Int) % (2 : Int) = (1 : Int) then (1 : Int) else (8 : Int)] j != (1 : Int)) = true →
      decide ((0 : Int) ≤ j) = true ∧ ((selI [if w / (16 : Int) % (2 : Int) = (1 : Int) then (1 : Int) else (2 : Int), if w / (128 : Int) % (2 : Int) = (1 : Int) then (1 : Int)
      else (4 : Int), if w / (1024 : Int) % (2 : Int) = (1 : Int) then (1 : Int) else (8 : Int)] j != IntKind.i64.wrap ((2 : Int) * (2 : Int) ^ min j.toNat (64 : Nat))) = true →
      false = true) ∧ ((selI [if w / (16 : Int) % (2 : Int) = (1 : Int) then (1 : Int) else (2 : Int), if w / (128 : Int) % (2 : Int) = (1 : Int) then (1 : Int) else (4 : Int),
      if w / (1024 : Int) % (2 : Int) = (1 : Int) then (1 : Int) else (8 : Int)] j != IntKind.i64.wrap ((2 : Int) * (2 : Int) ^ min j.toNat (64 : Nat))) = false → (decide (j >
      (0 : Int)) = true → inB j (3 : Nat) = true ∧ ((selI [fst (vv w o / (4 : Int) % (4 : Int)), fst (vv w o / (32 : Int) % (4 : Int)), fst (vv w o / (256 : Int) % (4 : Int))] j
      != selI [fst (w / (4 : Int) % (4 : Int)), fst (w / (32 : Int) % (4 : Int)), fst (w / (256 : Int) % (4 : Int))] j) = true → false = true) ∧ ((selI [fst (vv w o / (4 : Int)
      % (4 : Int)), fst (vv w o / (32 : Int) % (4 : Int)), fst (vv w o / (256 : Int) % (4 : Int))] j != selI [fst (w / (4 : Int) % (4 : Int)), fst (w / (32 : Int) % (4 : Int)),
      fst (w / (256 : Int) % (4 : Int))] j) = false → inB j (3 : Nat) = true ∧ ((selI [if vv w o / (16 : Int) % (2 : Int) = (1 : Int) then (1 : Int) else (2 : Int), if vv w o /
      (128 : Int) % (2 : Int) = (1 : Int) then (1 : Int) else (4 : Int), if vv w o / (1024 : Int) % (2 : Int) = (1 : Int) then (1 : Int) else (8 : Int)] j != selI [if w / (16 :
      Int) % (2 : Int) = (1 : Int) then (1 : Int) else (2 : Int), if w / (128 : Int) % (2 : Int) = (1 : Int) then (1 : Int) else (4 : Int), if w / (1024 : Int) % (2 : Int) = (1
      : Int) then (1 : Int) else (8 : Int)] j) = true → false = true) ∧ ((selI [if vv w o / (16 : Int) % (2 : Int) = (1 : Int) then (1 : Int) else (2 : Int), if vv w o / (128 :
      Int) % (2 : Int) = (1 : Int) then (1 : Int) else (4 : Int), if vv w o / (1024 : Int) % (2 : Int) = (1 : Int) then (1 : Int) else (8 : Int)] j != selI [if w / (16 : Int) %
      (2 : Int) = (1 : Int) then (1 : Int) else (2 : Int), if w / (128 : Int) % (2 : Int) = (1 : Int) then (1 : Int) else (4 : Int), if w / (1024 : Int) % (2 : Int) = (1 : Int)
      then (1 : Int) else (8 : Int)] j) = false → ∃ x, ((0 : Int) ≤ x ∧ x ≤ (3 : Int)) ∧ mu6 w o x < mu6 w o j ∧ hd6 = hd6 ∧ (107 : Nat) = (107 : Nat) ∧ ((IntKind.u16 =
      IntKind.u16 ∧ w = w) ∧ (IntKind.u16 = IntKind.u16 ∧ o = o) ∧ C.p (0 : Nat) (0 : Nat) = C.p (0 : Nat) (0 : Nat) ∧ C.p (1 : Nat) (0 : Nat) = C.p (1 : Nat) (0 : Nat) ∧
      IntKind.i64 = IntKind.i64 ∧ IntKind.i64.wrap (j + (1 : Int)) = x) ∧ ((31 : Nat) = (31 : Nat) ∧ (IntKind.i64 = IntKind.i64 ∧ fst (w / (4 : Int) % (4 : Int)) = fst (w / (4 :
      Int) % (4 : Int))) ∧ (IntKind.i64 = IntKind.i64 ∧ fst (w / (32 : Int) % (4 : Int)) = fst (w / (32 : Int) % (4 : Int))) ∧ (IntKind.i64 = IntKind.i64 ∧ fst (w / (256 : Int)
      % (4 : Int)) = fst (w / (256 : Int) % (4 : Int))) ∧ (IntKind.i64 = IntKind.i64 ∧ (if w / (16 : Int) % (2 : Int) = (1 : Int) then (1 : Int) else (2 : Int)) = if w / (16 :
      Int) % (2 : Int) = (1 : Int) then (1 : Int) else (2 : Int)) ∧ (IntKind.i64 = IntKind.i64 ∧ (if w / (128 : Int) % (2 : Int) = (1 : Int) then (1 : Int) else (4 : Int)) = if
      w / (128 : Int) % (2 : Int) = (1 : Int) then (1 : Int) else (4 : Int)) ∧ (IntKind.i64 = IntKind.i64 ∧ (if w / (1024 : Int) % (2 : Int) = (1 : Int) then (1 : Int) else (8 :
      Int)) = if w / (1024 : Int) % (2 : Int) = (1 : Int) then (1 : Int) else (8 : Int)) ∧ (IntKind.i64 = IntKind.i64 ∧ fst (w % (4 : Int)) = fst (w % (4 : Int))) ∧ decide (w /
      (16384 : Int) % (2 : Int) = (1 : Int)) = decide (w / (16384 : Int) % (2 : Int) = (1 : Int))) ∧ ((31 : Nat) = (31 : Nat) ∧ (IntKind.i64 = IntKind.i64 ∧ fst (vv w o / (4 :
      Int) % (4 : Int)) = fst (vv w o / (4 : Int) % (4 : Int))) ∧ (IntKind.i64 = IntKind.i64 ∧ fst (vv w o / (32 : Int) % (4 : Int)) = fst (vv w o / (32 : Int) % (4 : Int))) ∧
      (IntKind.i64 = IntKind.i64 ∧ fst (vv w o / (256 : Int) % (4 : Int)) = fst (vv w o / (256 : Int) % (4 : Int))) ∧ (IntKind.i64 = IntKind.i64 ∧ (if vv w o / (16 : Int) % (2 :
      Int) = (1 : Int) then (1 : Int) else (2 : Int)) = if vv w o / (16 : Int) % (2 : Int) = (1 : Int) then (1 : Int) else (2 : Int)) ∧ (IntKind.i64 = IntKind.i64 ∧ (if vv w o /
      (128 : Int) % (2 : Int) = (1 : Int) then (1 : Int) else (4 : Int)) = if vv w o / (128 : Int) % (2 : Int) = (1 : Int) then (1 : Int) else (4 : Int)) ∧ (IntKind.i64 =
      IntKind.i64 ∧ (if vv w o / (1024 : Int) % (2 : Int) = (1 : Int) then (1 : Int) else (8 : Int)) = if vv w o / (1024 : Int) % (2 : Int) = (1 : Int) then (1 : Int) else (8 :
      Int)) ∧ (IntKind.i64 = IntKind.i64 ∧ fst (vv w o % (4 : Int)) = fst (vv w o % (4 : Int))) ∧ decide (vv w o / (16384 : Int) % (2 : Int) = (1 : Int)) = decide (vv w o /
      (16384 : Int) % (2 : Int) = (1 : Int))) ∧ True))) ∧ (decide (j > (0 : Int)) = false → ∃ x, ((0 : Int) ≤ x ∧ x ≤ (3 : Int)) ∧ mu6 w o x < mu6 w o j ∧ hd6 = hd6 ∧ (107 :
      Nat) = (107 : Nat) ∧ ((IntKind.u16 = IntKind.u16 ∧ w = w) ∧ (IntKind.u16 = IntKind.u16 ∧ o = o) ∧ C.p (0 : Nat) (0 : Nat) = C.p (0 : Nat) (0 : Nat) ∧ C.p (1 : Nat) (0 :
      Nat) = C.p (1 : Nat) (0 : Nat) ∧ IntKind.i64 = IntKind.i64 ∧ IntKind.i64.wrap (j + (1 : Int)) = x) ∧ ((31 : Nat) = (31 : Nat) ∧ (IntKind.i64 = IntKind.i64 ∧ fst (w / (4 :
      Int) % (4 : Int)) = fst (w / (4 : Int) % (4 : Int))) ∧ (IntKind.i64 = IntKind.i64 ∧ fst (w / (32 : Int) % (4 : Int)) = fst (w / (32 : Int) % (4 : Int))) ∧ (IntKind.i64 =
      IntKind.i64 ∧ fst (w / (256 : Int) % (4 : Int)) = fst (w / (256 : Int) % (4 : Int))) ∧ (IntKind.i64 = IntKind.i64 ∧ (if w / (16 : Int) % (2 : Int) = (1 : Int) then (1 :
      Int) else (2 : Int)) = if w / (16 : Int) % (2 : Int) = (1 : Int) then (1 : Int) else (2 : Int)) ∧ (IntKind.i64 = IntKind.i64 ∧ (if w / (128 : Int) % (2 : Int) = (1 : Int)
      then (1 : Int) else (4 : Int)) = if w / (128 : Int) % (2 : Int) = (1 : Int) then (1 : Int) else (4 : Int)) ∧ (IntKind.i64 = IntKind.i64 ∧ (if w / (1024 : Int) % (2 : Int)
      = (1 : Int) then (1 : Int) else (8 : Int)) = if w / (1024 : Int) % (2 : Int) = (1 : Int) then (1 : Int) else (8 : Int)) ∧ (IntKind.i64 = IntKind.i64 ∧ fst (w % (4 : Int))
      = fst (w % (4 : Int))) ∧ decide (w / (16384 : Int) % (2 : Int) = (1 : Int)) = decide (w / (16384 : Int) % (2 : Int) = (1 : Int))) ∧ ((31 : Nat) = (31 : Nat) ∧ (IntKind.i64
      = IntKind.i64 ∧ fst (vv w o / (4 : Int) % (4 : Int)) = fst (vv w o / (4 : Int) % (4 : Int))) ∧ (IntKind.i64 = IntKind.i64 ∧ fst (vv w o / (32 : Int) % (4 : Int)) = fst (vv
      w o / (32 : Int) % (4 : Int))) ∧ (IntKind.i64 = IntKind.i64 ∧ fst (vv w o / (256 : Int) % (4 : Int)) = fst (vv w o / (256 : Int) % (4 : Int))) ∧ (IntKind.i64 = IntKind.i64
      ∧ (if vv w o / (16 : Int) % (2 : Int) = (1 : Int) then (1 : Int) else (2 : Int)) = if vv w o / (16 : Int) % (2 : Int) = (1 : Int) then (1 : Int) else (2 : Int)) ∧
      (IntKind.i64 = IntKind.i64 ∧ (if vv w o / (128 : Int) % (2 : Int) = (1 : Int) then (1 : Int) else (4 : Int)) = if vv w o / (128 : Int) % (2 : Int) = (1 : Int) then (1 :
      Int) else (4 : Int)) ∧ (IntKind.i64 = IntKind.i64 ∧ (if vv w o / (1024 : Int) % (2 : Int) = (1 : Int) then (1 : Int) else (8 : Int)) = if vv w o / (1024 : Int) % (2 : Int)
      = (1 : Int) then (1 : Int) else (8 : Int)) ∧ (IntKind.i64 = IntKind.i64 ∧ fst (vv w o % (4 : Int)) = fst (vv w o % (4 : Int))) ∧ decide (vv w o / (16384 : Int) % (2 : Int)
      = (1 : Int)) = decide (vv w o / (16384 : Int) % (2 : Int) = (1 : Int))) ∧ True))) ∧ ((selI [if w / (16 : Int) % (2 : Int) = (1 : Int) then (1 : Int) else (2 : Int), if w /
      (128 : Int) % (2 : Int) = (1 : Int) then (1 : Int) else (4 : Int), if w / (1024 : Int) % (2 : Int) = (1 : Int) then (1 : Int) else (8 : Int)] j != (1 : Int)) = false →
      (decide (j > (0 : Int)) = true → inB j (3 : Nat) = true ∧ ((selI [fst (vv w o / (4 : Int) % (4 : Int)), fst (vv w o / (32 : Int) % (4 : Int)), fst (vv w o / (256 : Int) %
      (4 : Int))] j != selI [fst (w / (4 : Int) % (4 : Int)), fst (w / (32 : Int) % (4 : Int)), fst (w / (256 : Int) % (4 : Int))] j) = true → false = true) ∧ ((selI [fst (vv w
      o / (4 : Int) % (4 : Int)), fst (vv w o / (32 : Int) % (4 : Int)), fst (vv w o / (256 : Int) % (4 : Int))] j != selI [fst (w / (4 : Int) % (4 : Int)), fst (w / (32 : Int)
      % (4 : Int)), fst (w / (256 : Int) % (4 : Int))] j) = false → inB j (3 : Nat) = true ∧ ((selI [if vv w o / (16 : Int) % (2 : Int) = (1 : Int) then (1 : Int) else (2 :
      Int), if vv w o / (128 : Int) % (2 : Int) = (1 : Int) then (1 : Int) else (4 : Int), if vv w o / (1024 : Int) % (2 : Int) = (1 : Int) then (1 : Int) else (8 : Int)] j !=
      selI [if w / (16 : Int) % (2 : Int) = (1 : Int) then (1 : Int) else (2 : Int), if w / (128 : Int) % (2 : Int) = (1 : Int) then (1 : Int) else (4 : Int), if w / (1024 :
      Int) % (2 : Int) = (1 : Int) then (1 : Int) else (8 : Int)] j) = true → false = true) ∧ ((selI [if vv w o / (16 : Int) % (2 : Int) = (1 : Int) then (1 : Int) else (2 :
      Int), if vv w o / (128 : Int) % (2 : Int) = (1 : Int) then (1 : Int) else (4 : Int), if vv w o / (1024 : Int) % (2 : Int) = (1 : Int) then (1 : Int) else (8 : Int)] j !=
      selI [if w / (16 : Int) % (2 : Int) = (1 : Int) then (1 : Int) else (2 : Int), if w / (128 : Int) % (2 : Int) = (1 : Int) then (1 : Int) else (4 : Int), if w / (1024 :
      Int) % (2 : Int) = (1 : Int) then (1 : Int) else (8 : Int)] j) = false → ∃ x, ((0 : Int) ≤ x ∧ x ≤ (3 : Int)) ∧ mu6 w o x < mu6 w o j ∧ hd6 = hd6 ∧ (107 : Nat) = (107 :
      Nat) ∧ ((IntKind.u16 = IntKind.u16 ∧ w = w) ∧ (IntKind.u16 = IntKind.u16 ∧ o = o) ∧ C.p (0 : Nat) (0 : Nat) = C.p (0 : Nat) (0 : Nat) ∧ C.p (1 : Nat) (0 : Nat) = C.p (1 :
      Nat) (0 : Nat) ∧ IntKind.i64 = IntKind.i64 ∧ IntKind.i64.wrap (j + (1 : Int)) = x) ∧ ((31 : Nat) = (31 : Nat) ∧ (IntKind.i64 = IntKind.i64 ∧ fst (w / (4 : Int) % (4 :
      Int)) = fst (w / (4 : Int) % (4 : Int))) ∧ (IntKind.i64 = IntKind.i64 ∧ fst (w / (32 : Int) % (4 : Int)) = fst (w / (32 : Int) % (4 : Int))) ∧ (IntKind.i64 = IntKind.i64 ∧
      fst (w / (256 : Int) % (4 : Int)) = fst (w / (256 : Int) % (4 : Int))) ∧ (IntKind.i64 = IntKind.i64 ∧ (if w / (16 : Int) % (2 : Int) = (1 : Int) then (1 : Int) else (2 :
      Int)) = if w / (16 : Int) % (2 : Int) = (1 : Int) then (1 : Int) else (2 : Int)) ∧ (IntKind.i64 = IntKind.i64 ∧ (if w / (128 : Int) % (2 : Int) = (1 : Int) then (1 : Int)
      else (4 : Int)) = if w / (128 : Int) % (2 : Int) = (1 : Int) then (1 : Int) else (4 : Int)) ∧ (IntKind.i64 = IntKind.i64 ∧ (if w / (1024 : Int) % (2 : Int) = (1 : Int)
      then (1 : Int) else (8 : Int)) = if w / (1024 : Int) % (2 : Int) = (1 : Int) then (1 : Int) else (8 : Int)) ∧ (IntKind.i64 = IntKind.i64 ∧ fst (w % (4 : Int)) = fst (w %
      (4 : Int))) ∧ decide (w / (16384 : Int) % (2 : Int) = (1 : Int)) = decide (w / (16384 : Int) % (2 : Int) = (1 : Int))) ∧ ((31 : Nat) = (31 : Nat) ∧ (IntKind.i64 =
      IntKind.i64 ∧ fst (vv w o / (4 : Int) % (4 : Int)) = fst (vv w o / (4 : Int) % (4 : Int))) ∧ (IntKind.i64 = IntKind.i64 ∧ fst (vv w o / (32 : Int) % (4 : Int)) = fst (vv w
      o / (32 : Int) % (4 : Int))) ∧ (IntKind.i64 = IntKind.i64 ∧ fst (vv w o / (256 : Int) % (4 : Int)) = fst (vv w o / (256 : Int) % (4 : Int))) ∧ (IntKind.i64 = IntKind.i64 ∧
      (if vv w o / (16 : Int) % (2 : Int) = (1 : Int) then (1 : Int) else (2 : Int)) = if vv w o / (16 : Int) % (2 : Int) = (1 : Int) then (1 : Int) else (2 : Int)) ∧
      (IntKind.i64 = IntKind.i64 ∧ (if vv w o / (128 : Int) % (2 : Int) = (1 : Int) then (1 : Int) else (4 : Int)) = if vv w o / (128 : Int) % (2 : Int) = (1 : Int) then (1 :
      Int) else (4 : Int)) ∧ (IntKind.i64 = IntKind.i64 ∧ (if vv w o / (1024 : Int) % (2 : Int) = (1 : Int) then (1 : Int) else (8 : Int)) = if vv w o / (1024 : Int) % (2 : Int)
      = (1 : Int) then (1 : Int) else (8 : Int)) ∧ (IntKind.i64 = IntKind.i64 ∧ fst (vv w o % (4 : Int)) = fst (vv w o % (4 : Int))) ∧ decide (vv w o / (16384 : Int) % (2 : Int)
      = (1 : Int)) = decide (vv w o / (16384 : Int) % (2 : Int) = (1 : Int))) ∧ True))) ∧ (decide (j > (0 : Int)) = false → ∃ x, ((0 : Int) ≤ x ∧ x ≤ (3 : Int)) ∧ mu6 w o x <
      mu6 w o j ∧ hd6 = hd6 ∧ (107 : Nat) = (107 : Nat) ∧ ((IntKind.u16 = IntKind.u16 ∧ w = w) ∧ (IntKind.u16 = IntKind.u16 ∧ o = o) ∧ C.p (0 : Nat) (0 : Nat) = C.p (0 : Nat) (0
      : Nat) ∧ C.p (1 : Nat) (0 : Nat) = C.p (1 : Nat) (0 : Nat) ∧ IntKind.i64 = IntKind.i64 ∧ IntKind.i64.wrap (j + (1 : Int)) = x) ∧ ((31 : Nat) = (31 : Nat) ∧ (IntKind.i64 =
      IntKind.i64 ∧ fst (w / (4 : Int) % (4 : Int)) = fst (w / (4 : Int) % (4 : Int))) ∧ (IntKind.i64 = IntKind.i64 ∧ fst (w / (32 : Int) % (4 : Int)) = fst (w / (32 : Int) % (4
      : Int))) ∧ (IntKind.i64 = IntKind.i64 ∧ fst (w / (256 : Int) % (4 : Int)) = fst (w / (256 : Int) % (4 : Int))) ∧ (IntKind.i64 = IntKind.i64 ∧ (if w / (16 : Int) % (2 :
      Int) = (1 : Int) then (1 : Int) else (2 : Int)) = if w / (16 : Int) % (2 : Int) = (1 : Int) then (1 : Int) else (2 : Int)) ∧ (IntKind.i64 = IntKind.i64 ∧ (if w / (128 :
      Int) % (2 : Int) = (1 : Int) then (1 : Int) else (4 : Int)) = if w / (128 : Int) % (2 : Int) = (1 : Int) then (1 : Int) else (4 : Int)) ∧ (IntKind.i64 = IntKind.i64 ∧ (if
      w / (1024 : Int) % (2 : Int) = (1 : Int) then (1 : Int) else (8 : Int)) = if w / (1024 : Int) % (2 : Int) = (1 : Int) then (1 : Int) else (8 : Int)) ∧ (IntKind.i64 =
      IntKind.i64 ∧ fst (w % (4 : Int)) = fst (w % (4 : Int))) ∧ decide (w / (16384 : Int) % (2 : Int) = (1 : Int)) = decide (w / (16384 : Int) % (2 : Int) = (1 : Int))) ∧ ((31
      : Nat) = (31 : Nat) ∧ (IntKind.i64 = IntKind.i64 ∧ fst (vv w o / (4 : Int) % (4 : Int)) = fst (vv w o / (4 : Int) % (4 : Int))) ∧ (IntKind.i64 = IntKind.i64 ∧ fst (vv w o
      / (32 : Int) % (4 : Int)) = fst (vv w o / (32 : Int) % (4 : Int))) ∧ (IntKind.i64 = IntKind.i64 ∧ fst (vv w o / (256 : Int) % (4 : Int)) = fst (vv w o / (256 : Int) % (4 :
      Int))) ∧ (IntKind.i64 = IntKind.i64 ∧ (if vv w o / (16 : Int) % (2 : Int) = (1 : Int) then (1 : Int) else (2 : Int)) = if vv w o / (16 : Int) % (2 : Int) = (1 : Int) then
      (1 : Int) else (2 : Int)) ∧ (IntKind.i64 = IntKind.i64 ∧ (if vv w o / (128 : Int) % (2 : Int) = (1 : Int) then (1 : Int) else (4 : Int)) = if vv w o / (128 : Int) % (2 :
      Int) = (1 : Int) then (1 : Int) else (4 : Int)) ∧ (IntKind.i64 = IntKind.i64 ∧ (if vv w o / (1024 : Int) % (2 : Int) = (1 : Int) then (1 : Int) else (8 : Int)) = if vv w o
      / (1024 : Int) % (2 : Int) = (1 : Int) then (1 : Int) else (8 : Int)) ∧ (IntKind.i64 = IntKind.i64 ∧ fst (vv w o % (4 : Int)) = fst (vv w o % (4 : Int))) ∧ decide (vv w o
      / (16384 : Int) % (2 : Int) = (1 : Int)) = decide (vv w o / (16384 : Int) % (2 : Int) = (1 : Int))) ∧ True)))) ∧ ((selI [fst (w / (4 : Int) % (4 : Int)), fst (w / (32 :
      Int) % (4 : Int)), fst (w / (256 : Int) % (4 : Int))] j != (4 : Int)) = false → ((selI [if w / (16 : Int) % (2 : Int) = (1 : Int) then (1 : Int) else (2 : Int), if w /
      (128 : Int) % (2 : Int) = (1 : Int) then (1 : Int) else (4 : Int), if w / (1024 : Int) % (2 : Int) = (1 : Int) then (1 : Int) else (8 : Int)] j != (1 : Int)) = true →
      decide ((0 : Int) ≤ j) = true ∧ ((selI [if w / (16 : Int) % (2 : Int) = (1 : Int) then (1 : Int) else (2 : Int), if w / (128 : Int) % (2 : Int) = (1 : Int) then (1 : Int)
      else (4 : Int), if w / (1024 : Int) % (2 : Int) = (1 : Int) then (1 : Int) else (8 : Int)] j != IntKind.i64.wrap ((2 : Int) * (2 : Int) ^ min j.toNat (64 : Nat))) = true →
      false = true) ∧ ((selI [if w / (16 : Int) % (2 : Int) = (1 : Int) then (1 : Int) else (2 : Int), if w / (128 : Int) % (2 : Int) = (1 : Int) then (1 : Int) else (4 : Int),
      if w / (1024 : Int) % (2 : Int) = (1 : Int) then (1 : Int) else (8 : Int)] j != IntKind.i64.wrap ((2 : Int) * (2 : Int) ^ min j.toNat (64 : Nat))) = false → (decide (j >
      (0 : Int)) = true → inB j (3 : Nat) = true ∧ ((selI [fst (vv w o / (4 : Int) % (4 : Int)), fst (vv w o / (32 : Int) % (4 : Int)), fst (vv w o / (256 : Int) % (4 : Int))] j
      != selI [fst (w / (4 : Int) % (4 : Int)), fst (w / (32 : Int) % (4 : Int)), fst (w / (256 : Int) % (4 : Int))] j) = true → false = true) ∧ ((selI [fst (vv w o / (4 : Int)
      % (4 : Int)), fst (vv w o / (32 : Int) % (4 : Int)), fst (vv w o / (256 : Int) % (4 : Int))] j != selI [fst (w / (4 : Int) % (4 : Int)), fst (w / (32 : Int) % (4 : Int)),
      fst (w / (256 : Int) % (4 : Int))] j) = false → inB j (3 : Nat) = true ∧ ((selI [if vv w o / (16 : Int) % (2 : Int) = (1 : Int) then (1 : Int) else (2 : Int), if vv w o /
      (128 : Int) % (2 : Int) = (1 : Int) then (1 : Int) else (4 : Int), if vv w o / (1024 : Int) % (2 : Int) = (1 : Int) then (1 : Int) else (8 : Int)] j != selI [if w / (16 :
      Int) % (2 : Int) = (1 : Int) then (1 : Int) else (2 : Int), if w / (128 : Int) % (2 : Int) = (1 : Int) then (1 : Int) else (4 : Int), if w / (1024 : Int) % (2 : Int) = (1
      : Int) then (1 : Int) else (8 : Int)] j) = true → false = true) ∧ ((selI [if vv w o / (16 : Int) % (2 : Int) = (1 : Int) then (1 : Int) else (2 : Int), if vv w o / (128 :
      Int) % (2 : Int) = (1 : Int) then (1 : Int) else (4 : Int), if vv w o / (1024 : Int) % (2 : Int) = (1 : Int) then (1 : Int) else (8 : Int)] j != selI [if w / (16 : Int) %
      (2 : Int) = (1 : Int) then (1 : Int) else (2 : Int), if w / (128 : Int) % (2 : Int) = (1 : Int) then (1 : Int) else (4 : Int), if w / (1024 : Int) % (2 : Int) = (1 : Int)
      then (1 : Int) else (8 : Int)] j) = false → ∃ x, ((0 : Int) ≤ x ∧ x ≤ (3 : Int)) ∧ mu6 w o x < mu6 w o j ∧ hd6 = hd6 ∧ (107 : Nat) = (107 : Nat) ∧ ((IntKind.u16 =
      IntKind.u16 ∧ w = w) ∧ (IntKind.u16 = IntKind.u16 ∧ o = o) ∧ C.p (0 : Nat) (0 : Nat) = C.p (0 : Nat) (0 : Nat) ∧ C.p (1 : Nat) (0 : Nat) = C.p (1 : Nat) (0 : Nat) ∧
      IntKind.i64 = IntKind.i64 ∧ IntKind.i64.wrap (j + (1 : Int)) = x) ∧ ((31 : Nat) = (31 : Nat) ∧ (IntKind.i64 = IntKind.i64 ∧ fst (w / (4 : Int) % (4 : Int)) = fst (w / (4 :
      Int) % (4 : Int))) ∧ (IntKind.i64 = IntKind.i64 ∧ fst (w / (32 : Int) % (4 : Int)) = fst (w / (32 : Int) % (4 : Int))) ∧ (IntKind.i64 = IntKind.i64 ∧ fst (w / (256 : Int)
      % (4 : Int)) = fst (w / (256 : Int) % (4 : Int))) ∧ (IntKind.i64 = IntKind.i64 ∧ (if w / (16 : Int) % (2 : Int) = (1 : Int) then (1 : Int) else (2 : Int)) = if w / (16 :
      Int) % (2 : Int) = (1 : Int) then (1 : Int) else (2 : Int)) ∧ (IntKind.i64 = IntKind.i64 ∧ (if w / (128 : Int) % (2 : Int) = (1 : Int) then (1 : Int) else (4 : Int)) = if
      w / (128 : Int) % (2 : Int) = (1 : Int) then (1 : Int) else (4 : Int)) ∧ (IntKind.i64 = IntKind.i64 ∧ (if w / (1024 : Int) % (2 : Int) = (1 : Int) then (1 : Int) else (8 :
      Int)) = if w / (1024 : Int) % (2 : Int) = (1 : Int) then (1 : Int) else (8 : Int)) ∧ (IntKind.i64 = IntKind.i64 ∧ fst (w % (4 : Int)) = fst (w % (4 : Int))) ∧ decide (w /
      (16384 : Int) % (2 : Int) = (1 : Int)) = decide (w / (16384 : Int) % (2 : Int) = (1 : Int))) ∧ ((31 : Nat) = (31 : Nat) ∧ (IntKind.i64 = IntKind.i64 ∧ fst (vv w o / (4 :
      Int) % (4 : Int)) = fst (vv w o / (4 : Int) % (4 : Int))) ∧ (IntKind.i64 = IntKind.i64 ∧ fst (vv w o / (32 : Int) % (4 : Int)) = fst (vv w o / (32 : Int) % (4 : Int))) ∧
      (IntKind.i64 = IntKind.i64 ∧ fst (vv w o / (256 : Int) % (4 : Int)) = fst (vv w o / (256 : Int) % (4 : Int))) ∧ (IntKind.i64 = IntKind.i64 ∧ (if vv w o / (16 : Int) % (2 :
      Int) = (1 : Int) then (1 : Int) else (2 : Int)) = if vv w o / (16 : Int) % (2 : Int) = (1 : Int) then (1 : Int) else (2 : Int)) ∧ (IntKind.i64 = IntKind.i64 ∧ (if vv w o /
      (128 : Int) % (2 : Int) = (1 : Int) then (1 : Int) else (4 : Int)) = if vv w o / (128 : Int) % (2 : Int) = (1 : Int) then (1 : Int) else (4 : Int)) ∧ (IntKind.i64 =
      IntKind.i64 ∧ (if vv w o / (1024 : Int) % (2 : Int) = (1 : Int) then (1 : Int) else (8 : Int)) = if vv w o / (1024 : Int) % (2 : Int) = (1 : Int) then (1 : Int) else (8 :
      Int)) ∧ (IntKind.i64 = IntKind.i64 ∧ fst (vv w o % (4 : Int)) = fst (vv w o % (4 : Int))) ∧ decide (vv w o / (16384 : Int) % (2 : Int) = (1 : Int)) = decide (vv w o /
      (16384 : Int) % (2 : Int) = (1 : Int))) ∧ True))) ∧ (decide (j > (0 : Int)) = false → ∃ x, ((0 : Int) ≤ x ∧ x ≤ (3 : Int)) ∧ mu6 w o x < mu6 w o j ∧ hd6 = hd6 ∧ (107 :
      Nat) = (107 : Nat) ∧ ((IntKind.u16 = IntKind.u16 ∧ w = w) ∧ (IntKind.u16 = IntKind.u16 ∧ o = o) ∧ C.p (0 : Nat) (0 : Nat) = C.p (0 : Nat) (0 : Nat) ∧ C.p (1 : Nat) (0 :
      Nat) = C.p (1 : Nat) (0 : Nat) ∧ IntKind.i64 = IntKind.i64 ∧ IntKind.i64.wrap (j + (1 : Int)) = x) ∧ ((31 : Nat) = (31 : Nat) ∧ (IntKind.i64 = IntKind.i64 ∧ fst (w / (4 :
      Int) % (4 : Int)) = fst (w / (4 : Int) % (4 : Int))) ∧ (IntKind.i64 = IntKind.i64 ∧ fst (w / (32 : Int) % (4 : Int)) = fst (w / (32 : Int) % (4 : Int))) ∧ (IntKind.i64 =
      IntKind.i64 ∧ fst (w / (256 : Int) % (4 : Int)) = fst (w / (256 : Int) % (4 : Int))) ∧ (IntKind.i64 = IntKind.i64 ∧ (if w / (16 : Int) % (2 : Int) = (1 : Int) then (1 :
      Int) else (2 : Int)) = if w / (16 : Int) % (2 : Int) = (1 : Int) then (1 : Int) else (2 : Int)) ∧ (IntKind.i64 = IntKind.i64 ∧ (if w / (128 : Int) % (2 : Int) = (1 : Int)
      then (1 : Int) else (4 : Int)) = if w / (128 : Int) % (2 : Int) = (1 : Int) then (1 : Int) else (4 : Int)) ∧ (IntKind.i64 = IntKind.i64 ∧ (if w / (1024 : Int) % (2 : Int)
      = (1 : Int) then (1 : Int) else (8 : Int)) = if w / (1024 : Int) % (2 : Int) = (1 : Int) then (1 : Int) else (8 : Int)) ∧ (IntKind.i64 = IntKind.i64 ∧ fst (w % (4 : Int))
      = fst (w % (4 : Int))) ∧ decide (w / (16384 : Int) % (2 : Int) = (1 : Int)) = decide (w / (16384 : Int) % (2 : Int) = (1 : Int))) ∧ ((31 : Nat) = (31 : Nat) ∧ (IntKind.i64
      = IntKind.i64 ∧ fst (vv w o / (4 : Int) % (4 : Int)) = fst (vv w o / (4 : Int) % (4 : Int))) ∧ (IntKind.i64 = IntKind.i64 ∧ fst (vv w o / (32 : Int) % (4 : Int)) = fst (vv
      w o / (32 : Int) % (4 : Int))) ∧ (IntKind.i64 = IntKind.i64 ∧ fst (vv w o / (256 : Int) % (4 : Int)) = fst (vv w o / (256 : Int) % (4 : Int))) ∧ (IntKind.i64 = IntKind.i64
      ∧ (if vv w o / (16 : Int) % (2 : Int) = (1 : Int) then (1 : Int) else (2 : Int)) = if vv w o / (16 : Int) % (2 : Int) = (1 : Int) then (1 : Int) else (2 : Int)) ∧
      (IntKind.i64 = IntKind.i64 ∧ (if vv w o / (128 : Int) % (2 : Int) = (1 : Int) then (1 : Int) else (4 : Int)) = if vv w o / (128 : Int) % (2 : Int) = (1 : Int) then (1 :
      Int) else (4 : Int)) ∧ (IntKind.i64 = IntKind.i64 ∧ (if vv w o / (1024 : Int) % (2 : Int) = (1 : Int) then (1 : Int) else (8 : Int)) = if vv w o / (1024 : Int) % (2 : Int)
      = (1 : Int) then (1 : Int) else (8 : Int)) ∧ (IntKind.i64 = IntKind.i64 ∧ fst (vv w o % (4 : Int)) = fst (vv w o % (4 : Int))) ∧ decide (vv w o / (16384 : Int) % (2 : Int)
      = (1 : Int)) = decide (vv w o / (16384 : Int) % (2 : Int) = (1 : Int))) ∧ True))) ∧ ((selI [if w / (16 : Int) % (2 : Int) = (1 : Int) then (1 : Int) else (2 : Int), if w /
      (128 : Int) % (2 : Int) = (1 : Int) then (1 : Int) else (4 : Int), if w / (1024 : Int) % (2 : Int) = (1 : Int) then (1 : Int) else (8 : Int)] j != (1 : Int)) = false →
      (decide (j > (0 : Int)) = true → inB j (3 : Nat) = true ∧ ((selI [fst (vv w o / (4 : Int) % (4 : Int)), fst (vv w o / (32 : Int) % (4 : Int)), fst (vv w o / (256 : Int) %
      (4 : Int))] j != selI [fst (w / (4 : Int) % (4 : Int)), fst (w / (32 : Int) % (4 : Int)), fst (w / (256 : Int) % (4 : Int))] j) = true → false = true) ∧ ((selI [fst (vv w
      o / (4 : Int) % (4 : Int)), fst (vv w o / (32 : Int) % (4 : Int)), fst (vv w o / (256 : Int) % (4 : Int))] j != selI [fst (w / (4 : Int) % (4 : Int)), fst (w / (32 : Int)
      % (4 : Int)), fst (w / (256 : Int) % (4 : Int))] j) = false → inB j (3 : Nat) = true ∧ ((selI [if vv w o / (16 : Int) % (2 : Int) = (1 : Int) then (1 : Int) else (2 :
      Int), if vv w o / (128 : Int) % (2 : Int) = (1 : Int) then (1 : Int) else (4 : Int), if vv w o / (1024 : Int) % (2 : Int) = (1 : Int) then (1 : Int) else (8 : Int)] j !=
      selI [if w / (16 : Int) % (2 : Int) = (1 : Int) then (1 : Int) else (2 : Int), if w / (128 : Int) % (2 : Int) = (1 : Int) then (1 : Int) else (4 : Int), if w / (1024 :
      Int) % (2 : Int) = (1 : Int) then (1 : Int) else (8 : Int)] j) = true → false = true) ∧ ((selI [if vv w o / (16 : Int) % (2 : Int) = (1 : Int) then (1 : Int) else (2 :
      Int), if vv w o / (128 : Int) % (2 : Int) = (1 : Int) then (1 : Int) else (4 : Int), if vv w o / (1024 : Int) % (2 : Int) = (1 : Int) then (1 : Int) else (8 : Int)] j !=
      selI [if w / (16 : Int) % (2 : Int) = (1 : Int) then (1 : Int) else (2 : Int), if w / (128 : Int) % (2 : Int) = (1 : Int) then (1 : Int) else (4 : Int), if w / (1024 :
      Int) % (2 : Int) = (1 : Int) then (1 : Int) else (8 : Int)] j) = false → ∃ x, ((0 : Int) ≤ x ∧ x ≤ (3 : Int)) ∧ mu6 w o x < mu6 w o j ∧ hd6 = hd6 ∧ (107 : Nat) = (107 :
      Nat) ∧ ((IntKind.u16 = IntKind.u16 ∧ w = w) ∧ (IntKind.u16 = IntKind.u16 ∧ o = o) ∧ C.p (0 : Nat) (0 : Nat) = C.p (0 : Nat) (0 : Nat) ∧ C.p (1 : Nat) (0 : Nat) = C.p (1 :
      Nat) (0 : Nat) ∧ IntKind.i64 = IntKind.i64 ∧ IntKind.i64.wrap (j + (1 : Int)) = x) ∧ ((31 : Nat) = (31 : Nat) ∧ (IntKind.i64 = IntKind.i64 ∧ fst (w / (4 : Int) % (4 :
      Int)) = fst (w / (4 : Int) % (4 : Int))) ∧ (IntKind.i64 = IntKind.i64 ∧ fst (w / (32 : Int) % (4 : Int)) = fst (w / (32 : Int) % (4 : Int))) ∧ (IntKind.i64 = IntKind.i64 ∧
      fst (w / (256 : Int) % (4 : Int)) = fst (w / (256 : Int) % (4 : Int))) ∧ (IntKind.i64 = IntKind.i64 ∧ (if w / (16 : Int) % (2 : Int) = (1 : Int) then (1 : Int) else (2 :
      Int)) = if w / (16 : Int) % (2 : Int) = (1 : Int) then (1 : Int) else (2 : Int)) ∧ (IntKind.i64 = IntKind.i64 ∧ (if w / (128 : Int) % (2 : Int) = (1 : Int) then (1 : Int)
      else (4 : Int)) = if w / (128 : Int) % (2 : Int) = (1 : Int) then (1 : Int) else (4 : Int)) ∧ (IntKind.i64 = IntKind.i64 ∧ (if w / (1024 : Int) % (2 : Int) = (1 : Int)
      then (1 : Int) else (8 : Int)) = if w / (1024 : Int) % (2 : Int) = (1 : Int) then (1 : Int) else (8 : Int)) ∧ (IntKind.i64 = IntKind.i64 ∧ fst (w % (4 : Int)) = fst (w %
      (4 : Int))) ∧ decide (w / (16384 : Int) % (2 : Int) = (1 : Int)) = decide (w / (16384 : Int) % (2 : Int) = (1 : Int))) ∧ ((31 : Nat) = (31 : Nat) ∧ (IntKind.i64 =
      IntKind.i64 ∧ fst (vv w o / (4 : Int) % (4 : Int)) = fst (vv w o / (4 : Int) % (4 : Int))) ∧ (IntKind.i64 = IntKind.i64 ∧ fst (vv w o / (32 : Int) % (4 : Int)) = fst (vv w
      o / (32 : Int) % (4 : Int))) ∧ (IntKind.i64 = IntKind.i64 ∧ fst (vv w o / (256 : Int) % (4 : Int)) = fst (vv w o / (256 : Int) % (4 : Int))) ∧ (IntKind.i64 = IntKind.i64 ∧
      (if vv w o / (16 : Int) % (2 : Int) = (1 : Int) then (1 : Int) else (2 : Int)) = if vv w o / (16 : Int) % (2 : Int) = (1 : Int) then (1 : Int) else (2 : Int)) ∧
      (IntKind.i64 = IntKind.i64 ∧ (if vv w o / (128 : Int) % (2 : Int) = (1 : Int) then (1 : Int) else (4 : Int)) = if vv w o / (128 : Int) % (2 : Int) = (1 : Int) then (1 :
      Int) else (4 : Int)) ∧ (IntKind.i64 = IntKind.i64 ∧ (if vv w o / (1024 : Int) % (2 : Int) = (1 : Int) then (1 : Int) else (8 : Int)) = if vv w o / (1024 : Int) % (2 : Int)
      = (1 : Int) then (1 : Int) else (8 : Int)) ∧ (IntKind.i64 = IntKind.i64 ∧ fst (vv w o % (4 : Int)) = fst (vv w o % (4 : Int))) ∧ decide (vv w o / (16384 : Int) % (2 : Int)
      = (1 : Int)) = decide (vv w o / (16384 : Int) % (2 : Int) = (1 : Int))) ∧ True))) ∧ (decide (j > (0 : Int)) = false → ∃ x, ((0 : Int) ≤ x ∧ x ≤ (3 : Int)) ∧ mu6 w o x <
      mu6 w o j ∧ hd6 = hd6 ∧ (107 : Nat) = (107 : Nat) ∧ ((IntKind.u16 = IntKind.u16 ∧ w = w) ∧ (IntKind.u16 = IntKind.u16 ∧ o = o) ∧ C.p (0 : Nat) (0 : Nat) = C.p (0 : Nat) (0
      : Nat) ∧ C.p (1 : Nat) (0 : Nat) = C.p (1 : Nat) (0 : Nat) ∧ IntKind.i64 = IntKind.i64 ∧ IntKind.i64.wrap (j + (1 : Int)) = x) ∧ ((31 : Nat) = (31 : Nat) ∧ (IntKind.i64 =
      IntKind.i64 ∧ fst (w / (4 : Int) % (4 : Int)) = fst (w / (4 : Int) % (4 : Int))) ∧ (IntKind.i64 = IntKind.i64 ∧ fst (w / (32 : Int) % (4 : Int)) = fst (w / (32 : Int) % (4
      : Int))) ∧ (IntKind.i64 = IntKind.i64 ∧ fst (w / (256 : Int) % (4 : Int)) = fst (w / (256 : Int) % (4 : Int))) ∧ (IntKind.i64 = IntKind.i64 ∧ (if w / (16 : Int) % (2 :
      Int) = (1 : Int) then (1 : Int) else (2 : Int)) = if w / (16 : Int) % (2 : Int) = (1 : Int) then (1 : Int) else (2 : Int)) ∧ (IntKind.i64 = IntKind.i64 ∧ (if w / (128 :
      Int) % (2 : Int) = (1 : Int) then (1 : Int) else (4 : Int)) = if w / (128 : Int) % (2 : Int) = (1 : Int) then (1 : Int) else (4 : Int)) ∧ (IntKind.i64 = IntKind.i64 ∧ (if
      w / (1024 : Int) % (2 : Int) = (1 : Int) then (1 : Int) else (8 : Int)) = if w / (1024 : Int) % (2 : Int) = (1 : Int) then (1 : Int) else (8 : Int)) ∧ (IntKind.i64 =
      IntKind.i64 ∧ fst (w % (4 : Int)) = fst (w % (4 : Int))) ∧ decide (w / (16384 : Int) % (2 : Int) = (1 : Int)) = decide (w / (16384 : Int) % (2 : Int) = (1 : Int))) ∧ ((31
      : Nat) = (31 : Nat) ∧ (IntKind.i64 = IntKind.i64 ∧ fst (vv w o / (4 : Int) % (4 : Int)) = fst (vv w o / (4 : Int) % (4 : Int))) ∧ (IntKind.i64 = IntKind.i64 ∧ fst (vv w o
      / (32 : Int) % (4 : Int)) = fst (vv w o / (32 : Int) % (4 : Int))) ∧ (IntKind.i64 = IntKind.i64 ∧ fst (vv w o / (256 : Int) % (4 : Int)) = fst (vv w o / (256 : Int) % (4 :
      Int))) ∧ (IntKind.i64 = IntKind.i64 ∧ (if vv w o / (16 : Int) % (2 : Int) = (1 : Int) then (1 : Int) else (2 : Int)) = if vv w o / (16 : Int) % (2 : Int) = (1 : Int) then
      (1 : Int) else (2 : Int)) ∧ (IntKind.i64 = IntKind.i64 ∧ (if vv w o / (128 : Int) % (2 : Int) = (1 : Int) then (1 : Int) else (4 : Int)) = if vv w o / (128 : Int) % (2 :
      Int) = (1 : Int) then (1 : Int) else (4 : Int)) ∧ (IntKind.i64 = IntKind.i64 ∧ (if vv w o / (1024 : Int) % (2 : Int) = (1 : Int) then (1 : Int) else (8 : Int)) = if vv w o
      / (1024 : Int) % (2 : Int) = (1 : Int) then (1 : Int) else (8 : Int)) ∧ (IntKind.i64 = IntKind.i64 ∧ fst (vv w o % (4 : Int)) = fst (vv w o % (4 : Int))) ∧ decide (vv w o
      / (16384 : Int) % (2 : Int) = (1 : Int)) = decide (vv w o / (16384 : Int) % (2 : Int) = (1 : Int))) ∧ True)))) ∧ ((selI [fst (w / (4 : Int) % (4 : Int)), fst (w / (32 :
      Int) % (4 : Int)), fst (w / (256 : Int) % (4 : Int))] j != (3 : Int)) = false → ((selI [if w / (16 : Int) % (2 : Int) = (1 : Int) then (1 : Int) else (2 : Int), if w /
      (128 : Int) % (2 : Int) = (1 : Int) then (1 : Int) else (4 : Int), if w / (1024 : Int) % (2 : Int) = (1 : Int) then (1 : Int) else (8 : Int)] j != (1 : Int)) = true →
      decide ((0 : Int) ≤ j) = true ∧ ((selI [if w / (16 : Int) % (2 : Int) = (1 : Int) then (1 : Int) else (2 : Int), if w / (128 : Int) % (2 : Int) = (1 : Int) then (1 : Int)
      else (4 : Int), if w / (1024 : Int) % (2 : Int) = (1 : Int) then (1 : Int) else (8 : Int)] j != IntKind.i64.wrap ((2 : Int) * (2 : Int) ^ min j.toNat (64 : Nat))) = true →
      false = true) ∧ ((selI [if w / (16 : Int) % (2 : Int) = (1 : Int) then (1 : Int) else (2 : Int), if w / (128 : Int) % (2 : Int) = (1 : Int) then (1 : Int) else (4 : Int),
      if w / (1024 : Int) % (2 : Int) = (1 : Int) then (1 : Int) else (8 : Int)] j != IntKind.i64.wrap ((2 : Int) * (2 : Int) ^ min j.toNat (64 : Nat))) = false → (decide (j >
      (0 : Int)) = true → inB j (3 : Nat) = true ∧ ((selI [fst (vv w o / (4 : Int) % (4 : Int)), fst (vv w o / (32 : Int) % (4 : Int)), fst (vv w o / (256 : Int) % (4 : Int))] j
      != selI [fst (w / (4 : Int) % (4 : Int)), fst (w / (32 : Int) % (4 : Int)), fst (w / (256 : Int) % (4 : Int))] j) = true → false = true) ∧ ((selI [fst (vv w o / (4 : Int)
      % (4 : Int)), fst (vv w o / (32 : Int) % (4 : Int)), fst (vv w o / (256 : Int) % (4 : Int))] j != selI [fst (w / (4 : Int) % (4 : Int)), fst (w / (32 : Int) % (4 : Int)),
      fst (w / (256 : Int) % (4 : Int))] j) = false → inB j (3 : Nat) = true ∧ ((selI [if vv w o / (16 : Int) % (2 : Int) = (1 : Int) then (1 : Int) else (2 : Int), if vv w o /
      (128 : Int) % (2 : Int) = (1 : Int) then (1 : Int) else (4 : Int), if vv w o / (1024 : Int) % (2 : Int) = (1 : Int) then (1 : Int) else (8 : Int)] j != selI [if w / (16 :
      Int) % (2 : Int) = (1 : Int) then (1 : Int) else (2 : Int), if w / (128 : Int) % (2 : Int) = (1 : Int) then (1 : Int) else (4 : Int), if w / (1024 : Int) % (2 : Int) = (1
      : Int) then (1 : Int) else (8 : Int)] j) = true → false = true) ∧ ((selI [if vv w o / (16 : Int) % (2 : Int) = (1 : Int) then (1 : Int) else (2 : Int), if vv w o / (128 :
      Int) % (2 : Int) = (1 : Int) then (1 : Int) else (4 : Int), if vv w o / (1024 : Int) % (2 : Int) = (1 : Int) then (1 : Int) else (8 : Int)] j != selI [if w / (16 : Int) %
      (2 : Int) = (1 : Int) then (1 : Int) else (2 : Int), if w / (128 : Int) % (2 : Int) = (1 : Int) then (1 : Int) else (4 : Int), if w / (1024 : Int) % (2 : Int) = (1 : Int)
      then (1 : Int) else (8 : Int)] j) = false → ∃ x, ((0 : Int) ≤ x ∧ x ≤ (3 : Int)) ∧ mu6 w o x < mu6 w o j ∧ hd6 = hd6 ∧ (107 : Nat) = (107 : Nat) ∧ ((IntKind.u16 =
      IntKind.u16 ∧ w = w) ∧ (IntKind.u16 = IntKind.u16 ∧ o = o) ∧ C.p (0 : Nat) (0 : Nat) = C.p (0 : Nat) (0 : Nat) ∧ C.p (1 : Nat) (0 : Nat) = C.p (1 : Nat) (0 : Nat) ∧
      IntKind.i64 = IntKind.i64 ∧ IntKind.i64.wrap (j + (1 : Int)) = x) ∧ ((31 : Nat) = (31 : Nat) ∧ (IntKind.i64 = IntKind.i64 ∧ fst (w / (4 : Int) % (4 : Int)) = fst (w / (4 :
      Int) % (4 : Int))) ∧ (IntKind.i64 = IntKind.i64 ∧ fst (w / (32 : Int) % (4 : Int)) = fst (w / (32 : Int) % (4 : Int))) ∧ (IntKind.i64 = IntKind.i64 ∧ fst (w / (256 : Int)
      % (4 : Int)) = fst (w / (256 : Int) % (4 : Int))) ∧ (IntKind.i64 = IntKind.i64 ∧ (if w / (16 : Int) % (2 : Int) = (1 : Int) then (1 : Int) else (2 : Int)) = if w / (16 :
      Int) % (2 : Int) = (1 : Int) then (1 : Int) else (2 : Int)) ∧ (IntKind.i64 = IntKind.i64 ∧ (if w / (128 : Int) % (2 : Int) = (1 : Int) then (1 : Int) else (4 : Int)) = if
      w / (128 : Int) % (2 : Int) = (1 : Int) then (1 : Int) else (4 : Int)) ∧ (IntKind.i64 = IntKind.i64 ∧ (if w / (1024 : Int) % (2 : Int) = (1 : Int) then (1 : Int) else (8 :
      Int)) = if w / (1024 : Int) % (2 : Int) = (1 : Int) then (1 : Int) else (8 : Int)) ∧ (IntKind.i64 = IntKind.i64 ∧ fst (w % (4 : Int)) = fst (w % (4 : Int))) ∧ decide (w /
      (16384 : Int) % (2 : Int) = (1 : Int)) = decide (w / (16384 : Int) % (2 : Int) = (1 : Int))) ∧ ((31 : Nat) = (31 : Nat) ∧ (IntKind.i64 = IntKind.i64 ∧ fst (vv w o / (4 :
      Int) % (4 : Int)) = fst (vv w o / (4 : Int) % (4 : Int))) ∧ (IntKind.i64 = IntKind.i64 ∧ fst (vv w o / (32 : Int) % (4 : Int)) = fst (vv w o / (32 : Int) % (4 : Int))) ∧
      (IntKind.i64 = IntKind.i64 ∧ fst (vv w o / (256 : Int) % (4 : Int)) = fst (vv w o / (256 : Int) % (4 : Int))) ∧ (IntKind.i64 = IntKind.i64 ∧ (if vv w o / (16 : Int) % (2 :
      Int) = (1 : Int) then (1 : Int) else (2 : Int)) = if vv w o / (16 : Int) % (2 : Int) = (1 : Int) then (1 : Int) else (2 : Int)) ∧ (IntKind.i64 = IntKind.i64 ∧ (if vv w o /
      (128 : Int) % (2 : Int) = (1 : Int) then (1 : Int) else (4 : Int)) = if vv w o / (128 : Int) % (2 : Int) = (1 : Int) then (1 : Int) else (4 : Int)) ∧ (IntKind.i64 =
      IntKind.i64 ∧ (if vv w o / (1024 : Int) % (2 : Int) = (1 : Int) then (1 : Int) else (8 : Int)) = if vv w o / (1024 : Int) % (2 : Int) = (1 : Int) then (1 : Int) else (8 :
      Int)) ∧ (IntKind.i64 = IntKind.i64 ∧ fst (vv w o % (4 : Int)) = fst (vv w o % (4 : Int))) ∧ decide (vv w o / (16384 : Int) % (2 : Int) = (1 : Int)) = decide (vv w o /
      (16384 : Int) % (2 : Int) = (1 : Int))) ∧ True))) ∧ (decide (j > (0 : Int)) = false → ∃ x, ((0 : Int) ≤ x ∧ x ≤ (3 : Int)) ∧ mu6 w o x < mu6 w o j ∧ hd6 = hd6 ∧ (107 :
      Nat) = (107 : Nat) ∧ ((IntKind.u16 = IntKind.u16 ∧ w = w) ∧ (IntKind.u16 = IntKind.u16 ∧ o = o) ∧ C.p (0 : Nat) (0 : Nat) = C.p (0 : Nat) (0 : Nat) ∧ C.p (1 : Nat) (0 :
      Nat) = C.p (1 : Nat) (0 : Nat) ∧ IntKind.i64 = IntKind.i64 ∧ IntKind.i64.wrap (j + (1 : Int)) = x) ∧ ((31 : Nat) = (31 : Nat) ∧ (IntKind.i64 = IntKind.i64 ∧ fst (w / (4 :
      Int) % (4 : Int)) = fst (w / (4 : Int) % (4 : Int))) ∧ (IntKind.i64 = IntKind.i64 ∧ fst (w / (32 : Int) % (4 : Int)) = fst (w / (32 : Int) % (4 : Int))) ∧ (IntKind.i64 =
      IntKind.i64 ∧ fst (w / (256 : Int) % (4 : Int)) = fst (w / (256 : Int) % (4 : Int))) ∧ (IntKind.i64 = IntKind.i64 ∧ (if w / (16 : Int) % (2 : Int) = (1 : Int) then (1 :
      Int) else (2 : Int)) = if w / (16 : Int) % (2 : Int) = (1 : Int) then (1 : Int) else (2 : Int)) ∧ (IntKind.i64 = IntKind.i64 ∧ (if w / (128 : Int) % (2 : Int) = (1 : Int)
      then (1 : Int) else (4 : Int)) = if w / (128 : Int) % (2 : Int) = (1 : Int) then (1 : Int) else (4 : Int)) ∧ (IntKind.i64 = IntKind.i64 ∧ (if w / (1024 : Int) % (2 : Int)
      = (1 : Int) then (1 : Int) else (8 : Int)) = if w / (1024 : Int) % (2 : Int) = (1 : Int) then (1 : Int) else (8 : Int)) ∧ (IntKind.i64 = IntKind.i64 ∧ fst (w % (4 : Int))
      = fst (w % (4 : Int))) ∧ decide (w / (16384 : Int) % (2 : Int) = (1 : Int)) = decide (w / (16384 : Int) % (2 : Int) = (1 : Int))) ∧ ((31 : Nat) = (31 : Nat) ∧ (IntKind.i64
      = IntKind.i64 ∧ fst (vv w o / (4 : Int) % (4 : Int)) = fst (vv w o / (4 : Int) % (4 : Int))) ∧ (IntKind.i64 = IntKind.i64 ∧ fst (vv w o / (32 : Int) % (4 : Int)) = fst (vv
      w o / (32 : Int) % (4 : Int))) ∧ (IntKind.i64 = IntKind.i64 ∧ fst (vv w o / (256 : Int) % (4 : Int)) = fst (vv w o / (256 : Int) % (4 : Int))) ∧ (IntKind.i64 = IntKind.i64
      ∧ (if vv w o / (16 : Int) % (2 : Int) = (1 : Int) then (1 : Int) else (2 : Int)) = if vv w o / (16 : Int) % (2 : Int) = (1 : Int) then (1 : Int) else (2 : Int)) ∧
      (IntKind.i64 = IntKind.i64 ∧ (if vv w o / (128 : Int) % (2 : Int) = (1 : Int) then (1 : Int) else (4 : Int)) = if vv w o / (128 : Int) % (2 : Int) = (1 : Int) then (1 :
      Int) else (4 : Int)) ∧ (IntKind.i64 = IntKind.i64 ∧ (if vv w o / (1024 : Int) % (2 : Int) = (1 : Int) then (1 : Int) else (8 : Int)) = if vv w o / (1024 : Int) % (2 : Int)
      = (1 : Int) then (1 : Int) else (8 : Int)) ∧ (IntKind.i64 = IntKind.i64 ∧ fst (vv w o % (4 : Int)) = fst (vv w o % (4 : Int))) ∧ decide (vv w o / (16384 : Int) % (2 : Int)
      = (1 : Int)) = decide (vv w o / (16384 : Int) % (2 : Int) = (1 : Int))) ∧ True))) ∧ ((selI [if w / (16 : Int) % (2 : Int) = (1 : Int) then (1 : Int) else (2 : Int), if w /
      (128 : Int) % (2 : Int) = (1 : Int) then (1 : Int) else (4 : Int), if w / (1024 : Int) % (2 : Int) = (1 : Int) then (1 : Int) else (8 : Int)] j != (1 : Int)) = false →
      (decide (j > (0 : Int)) = true → inB j (3 : Nat) = true ∧ ((selI [fst (vv w o / (4 : Int) % (4 : Int)), fst (vv w o / (32 : Int) % (4 : Int)), fst (vv w o / (256 : Int) %
      (4 : Int))] j != selI [fst (w / (4 : Int) % (4 : Int)), fst (w / (32 : Int) % (4 : Int)), fst (w / (256 : Int) % (4 : Int))] j) = true → false = true) ∧ ((selI [fst (vv w
      o / (4 : Int) % (4 : Int)), fst (vv w o / (32 : Int) % (4 : Int)), fst (vv w o / (256 : Int) % (4 : Int))] j != selI [fst (w / (4 : Int) % (4 : Int)), fst (w / (32 : Int)
      % (4 : Int)), fst (w / (256 : Int) % (4 : Int))] j) = false → inB j (3 : Nat) = true ∧ ((selI [if vv w o / (16 : Int) % (2 : Int) = (1 : Int) then (1 : Int) else (2 :
      Int), if vv w o / (128 : Int) % (2 : Int) = (1 : Int) then (1 : Int) else (4 : Int), if vv w o / (1024 : Int) % (2 : Int) = (1 : Int) then (1 : Int) else (8 : Int)] j !=
      selI [if w / (16 : Int) % (2 : Int) = (1 : Int) then (1 : Int) else (2 : Int), if w / (128 : Int) % (2 : Int) = (1 : Int) then (1 : Int) else (4 : Int), if w / (1024 :
      Int) % (2 : Int) = (1 : Int) then (1 : Int) else (8 : Int)] j) = true → false = true) ∧ ((selI [if vv w o / (16 : Int) % (2 : Int) = (1 : Int) then (1 : Int) else (2 :
      Int), if vv w o / (128 : Int) % (2 : Int) = (1 : Int) then (1 : Int) else (4 : Int), if vv w o / (1024 : Int) % (2 : Int) = (1 : Int) then (1 : Int) else (8 : Int)] j !=
      selI [if w / (16 : Int) % (2 : Int) = (1 : Int) then (1 : Int) else (2 : Int), if w / (128 : Int) % (2 : Int) = (1 : Int) then (1 : Int) else (4 : Int), if w / (1024 :
      Int) % (2 : Int) = (1 : Int) then (1 : Int) else (8 : Int)] j) = false → ∃ x, ((0 : Int) ≤ x ∧ x ≤ (3 : Int)) ∧ mu6 w o x < mu6 w o j ∧ hd6 = hd6 ∧ (107 : Nat) = (107 :
      Nat) ∧ ((IntKind.u16 = IntKind.u16 ∧ w = w) ∧ (IntKind.u16 = IntKind.u16 ∧ o = o) ∧ C.p (0 : Nat) (0 : Nat) = C.p (0 : Nat) (0 : Nat) ∧ C.p (1 : Nat) (0 : Nat) = C.p (1 :
      Nat) (0 : Nat) ∧ IntKind.i64 = IntKind.i64 ∧ IntKind.i64.wrap (j + (1 : Int)) = x) ∧ ((31 : Nat) = (31 : Nat) ∧ (IntKind.i64 = IntKind.i64 ∧ fst (w / (4 : Int) % (4 :
      Int)) = fst (w / (4 : Int) % (4 : Int))) ∧ (IntKind.i64 = IntKind.i64 ∧ fst (w / (32 : Int) % (4 : Int)) = fst (w / (32 : Int) % (4 : Int))) ∧ (IntKind.i64 = IntKind.i64 ∧
      fst (w / (256 : Int) % (4 : Int)) = fst (w / (256 : Int) % (4 : Int))) ∧ (IntKind.i64 = IntKind.i64 ∧ (if w / (16 : Int) % (2 : Int) = (1 : Int) then (1 : Int) else (2 :
      Int)) = if w / (16 : Int) % (2 : Int) = (1 : Int) then (1 : Int) else (2 : Int)) ∧ (IntKind.i64 = IntKind.i64 ∧ (if w / (128 : Int) % (2 : Int) = (1 : Int) then (1 : Int)
      else (4 : Int)) = if w / (128 : Int) % (2 : Int) = (1 : Int) then (1 : Int) else (4 : Int)) ∧ (IntKind.i64 = IntKind.i64 ∧ (if w / (1024 : Int) % (2 : Int) = (1 : Int)
      then (1 : Int) else (8 : Int)) = if w / (1024 : Int) % (2 : Int) = (1 : Int) then (1 : Int) else (8 : Int)) ∧ (IntKind.i64 = IntKind.i64 ∧ fst (w % (4 : Int)) = fst (w %
      (4 : Int))) ∧ decide (w / (16384 : Int) % (2 : Int) = (1 : Int)) = decide (w / (16384 : Int) % (2 : Int) = (1 : Int))) ∧ ((31 : Nat) = (31 : Nat) ∧ (IntKind.i64 =
      IntKind.i64 ∧ fst (vv w o / (4 : Int) % (4 : Int)) = fst (vv w o / (4 : Int) % (4 : Int))) ∧ (IntKind.i64 = IntKind.i64 ∧ fst (vv w o / (32 : Int) % (4 : Int)) = fst (vv w
      o / (32 : Int) % (4 : Int))) ∧ (IntKind.i64 = IntKind.i64 ∧ fst (vv w o / (256 : Int) % (4 : Int)) = fst (vv w o / (256 : Int) % (4 : Int))) ∧ (IntKind.i64 = IntKind.i64 ∧
      (if vv w o / (16 : Int) % (2 : Int) = (1 : Int) then (1 : Int) else (2 : Int)) = if vv w o / (16 : Int) % (2 : Int) = (1 : Int) then (1 : Int) else (2 : Int)) ∧
      (IntKind.i64 = IntKind.i64 ∧ (if vv w o / (128 : Int) % (2 : Int) = (1 : Int) then (1 : Int) else (4 : Int)) = if vv w o / (128 : Int) % (2 : Int) = (1 : Int) then (1 :
      Int) else (4 : Int)) ∧ (IntKind.i64 = IntKind.i64 ∧ (if vv w o / (1024 : Int) % (2 : Int) = (1 : Int) then (1 : Int) else (8 : Int)) = if vv w o / (1024 : Int) % (2 : Int)
      = (1 : Int) then (1 : Int) else (8 : Int)) ∧ (IntKind.i64 = IntKind.i64 ∧ fst (vv w o % (4 : Int)) = fst (vv w o % (4 : Int))) ∧ decide (vv w o / (16384 : Int) % (2 : Int)
      = (1 : Int)) = decide (vv w o / (16384 : Int) % (2 : Int) = (1 : Int))) ∧ True))) ∧ (decide (j > (0 : Int)) = false → ∃ x, ((0 : Int) ≤ x ∧ x ≤ (3 : Int)) ∧ mu6 w o x <
      mu6 w o j ∧ hd6 = hd6 ∧ (107 : Nat) = (107 : Nat) ∧ ((IntKind.u16 = IntKind.u16 ∧ w = w) ∧ (IntKind.u16 = IntKind.u16 ∧ o = o) ∧ C.p (0 : Nat) (0 : Nat) = C.p (0 : Nat) (0
      : Nat) ∧ C.p (1 : Nat) (0 : Nat) = C.p (1 : Nat) (0 : Nat) ∧ IntKind.i64 = IntKind.i64 ∧ IntKind.i64.wrap (j + (1 : Int)) = x) ∧ ((31 : Nat) = (31 : Nat) ∧ (IntKind.i64 =
      IntKind.i64 ∧ fst (w / (4 : Int) % (4 : Int)) = fst (w / (4 : Int) % (4 : Int))) ∧ (IntKind.i64 = IntKind.i64 ∧ fst (w / (32 : Int) % (4 : Int)) = fst (w / (32 : Int) % (4
      : Int))) ∧ (IntKind.i64 = IntKind.i64 ∧ fst (w / (256 : Int) % (4 : Int)) = fst (w / (256 : Int) % (4 : Int))) ∧ (IntKind.i64 = IntKind.i64 ∧ (if w / (16 : Int) % (2 :
      Int) = (1 : Int) then (1 : Int) else (2 : Int)) = if w / (16 : Int) % (2 : Int) = (1 : Int) then (1 : Int) else (2 : Int)) ∧ (IntKind.i64 = IntKind.i64 ∧ (if w / (128 :
      Int) % (2 : Int) = (1 : Int) then (1 : Int) else (4 : Int)) = if w / (128 : Int) % (2 : Int) = (1 : Int) then (1 : Int) else (4 : Int)) ∧ (IntKind.i64 = IntKind.i64 ∧ (if
      w / (1024 : Int) % (2 : Int) = (1 : Int) then (1 : Int) else (8 : Int)) = if w / (1024 : Int) % (2 : Int) = (1 : Int) then (1 : Int) else (8 : Int)) ∧ (IntKind.i64 =
      IntKind.i64 ∧ fst (w % (4 : Int)) = fst (w % (4 : Int))) ∧ decide (w / (16384 : Int) % (2 : Int) = (1 : Int)) = decide (w / (16384 : Int) % (2 : Int) = (1 : Int))) ∧ ((31
      : Nat) = (31 : Nat) ∧ (IntKind.i64 = IntKind.i64 ∧ fst (vv w o / (4 : Int) % (4 : Int)) = fst (vv w o / (4 : Int) % (4 : Int))) ∧ (IntKind.i64 = IntKind.i64 ∧ fst (vv w o
      / (32 : Int) % (4 : Int)) = fst (vv w o / (32 : Int) % (4 : Int))) ∧ (IntKind.i64 = IntKind.i64 ∧ fst (vv w o / (256 : Int) % (4 : Int)) = fst (vv w o / (256 : Int) % (4 :
      Int))) ∧ (IntKind.i64 = IntKind.i64 ∧ (if vv w o / (16 : Int) % (2 : Int) = (1 : Int) then (1 : Int) else (2 : Int)) = if vv w o / (16 : Int) % (2 : Int) = (1 : Int) then
      (1 : Int) else (2 : Int)) ∧ (IntKind.i64 = IntKind.i64 ∧ (if vv w o / (128 : Int) % (2 : Int) = (1 : Int) then (1 : Int) else (4 : Int)) = if vv w o / (128 : Int) % (2 :
      Int) = (1 : Int) then (1 : Int) else (4 : Int)) ∧ (IntKind.i64 = IntKind.i64 ∧ (if vv w o / (1024 : Int) % (2 : Int) = (1 : Int) then (1 : Int) else (8 : Int)) = if vv w o
      / (1024 : Int) % (2 : Int) = (1 : Int) then (1 : Int) else (8 : Int)) ∧ (IntKind.i64 = IntKind.i64 ∧ fst (vv w o % (4 : Int)) = fst (vv w o % (4 : Int))) ∧ decide (vv w o
      / (16384 : Int) % (2 : Int) = (1 : Int)) = decide (vv w o / (16384 : Int) % (2 : Int) = (1 : Int))) ∧ True)))) ∧ ((selI [fst (w / (4 : Int) % (4 : Int)), fst (w / (32 :
      Int) % (4 : Int)), fst (w / (256 : Int) % (4 : Int))] j != (2 : Int)) = false → ((selI [if w / (16 : Int) % (2 : Int) = (1 : Int) then (1 : Int) else (2 : Int), if w /
      (128 : Int) % (2 : Int) = (1 : Int) then (1 : Int) else (4 : Int), if w / (1024 : Int) % (2 : Int) = (1 : Int) then (1 : Int) else (8 : Int)] j != (1 : Int)) = true →
      decide ((0 : Int) ≤ j) = true ∧ ((selI [if w / (16 : Int) % (2 : Int) = (1 : Int) then (1 : Int) else (2 : Int), if w / (128 : Int) % (2 : Int) = (1 : Int) then (1 : Int)
      else (4 : Int), if w / (1024 : Int) % (2 : Int) = (1 : Int) then (1 : Int) else (8 : Int)] j != IntKind.i64.wrap ((2 : Int) * (2 : Int) ^ min j.toNat (64 : Nat))) = true →
      false = true) ∧ ((selI [if w / (16 : Int) % (2 : Int) = (1 : Int) then (1 : Int) else (2 : Int), if w / (128 : Int) % (2 : Int) = (1 : Int) then (1 : Int) else (4 : Int),
      if w / (1024 : Int) % (2 : Int) = (1 : Int) then (1 : Int) else (8 : Int)] j != IntKind.i64.wrap ((2 : Int) * (2 : Int) ^ min j.toNat (64 : Nat))) = false → (decide (j >
      (0 : Int)) = true → inB j (3 : Nat) = true ∧ ((selI [fst (vv w o / (4 : Int) % (4 : Int)), fst (vv w o / (32 : Int) % (4 : Int)), fst (vv w o / (256 : Int) % (4 : Int))] j
      != selI [fst (w / (4 : Int) % (4 : Int)), fst (w / (32 : Int) % (4 : Int)), fst (w / (256 : Int) % (4 : Int))] j) = true → false = true) ∧ ((selI [fst (vv w o / (4 : Int)
      % (4 : Int)), fst (vv w o / (32 : Int) % (4 : Int)), fst (vv w o / (256 : Int) % (4 : Int))] j != selI [fst (w / (4 : Int) % (4 : Int)), fst (w / (32 : Int) % (4 : Int)),
      fst (w / (256 : Int) % (4 : Int))] j) = false → inB j (3 : Nat) = true ∧ ((selI [if vv w o / (16 : Int) % (2 : Int) = (1 : Int) then (1 : Int) else (2 : Int), if vv w o /
      (128 : Int) % (2 : Int) = (1 : Int) then (1 : Int) else (4 : Int), if vv w o / (1024 : Int) % (2 : Int) = (1 : Int) then (1 : Int) else (8 : Int)] j != selI [if w / (16 :
      Int) % (2 : Int) = (1 : Int) then (1 : Int) else (2 : Int), if w / (128 : Int) % (2 : Int) = (1 : Int) then (1 : Int) else (4 : Int), if w / (1024 : Int) % (2 : Int) = (1
      : Int) then (1 : Int) else (8 : Int)] j) = true → false = true) ∧ ((selI [if vv w o / (16 : Int) % (2 : Int) = (1 : Int) then (1 : Int) else (2 : Int), if vv w o / (128 :
      Int) % (2 : Int) = (1 : Int) then (1 : Int) else (4 : Int), if vv w o / (1024 : Int) % (2 : Int) = (1 : Int) then (1 : Int) else (8 : Int)] j != selI [if w / (16 : Int) %
      (2 : Int) = (1 : Int) then (1 : Int) else (2 : Int), if w / (128 : Int) % (2 : Int) = (1 : Int) then (1 : Int) else (4 : Int), if w / (1024 : Int) % (2 : Int) = (1 : Int)
      then (1 : Int) else (8 : Int)] j) = false → ∃ x, ((0 : Int) ≤ x ∧ x ≤ (3 : Int)) ∧ mu6 w o x < mu6 w o j ∧ hd6 = hd6 ∧ (107 : Nat) = (107 : Nat) ∧ ((IntKind.u16 =
      IntKind.u16 ∧ w = w) ∧ (IntKind.u16 = IntKind.u16 ∧ o = o) ∧ C.p (0 : Nat) (0 : Nat) = C.p (0 : Nat) (0 : Nat) ∧ C.p (1 : Nat) (0 : Nat) = C.p (1 : Nat) (0 : Nat) ∧
      IntKind.i64 = IntKind.i64 ∧ IntKind.i64.wrap (j + (1 : Int)) = x) ∧ ((31 : Nat) = (31 : Nat) ∧ (IntKind.i64 = IntKind.i64 ∧ fst (w / (4 : Int) % (4 : Int)) = fst (w / (4 :
      Int) % (4 : Int))) ∧ (IntKind.i64 = IntKind.i64 ∧ fst (w / (32 : Int) % (4 : Int)) = fst (w / (32 : Int) % (4 : Int))) ∧ (IntKind.i64 = IntKind.i64 ∧ fst (w / (256 : Int)
      % (4 : Int)) = fst (w / (256 : Int) % (4 : Int))) ∧ (IntKind.i64 = IntKind.i64 ∧ (if w / (16 : Int) % (2 : Int) = (1 : Int) then (1 : Int) else (2 : Int)) = if w / (16 :
      Int) % (2 : Int) = (1 : Int) then (1 : Int) else (2 : Int)) ∧ (IntKind.i64 = IntKind.i64 ∧ (if w / (128 : Int) % (2 : Int) = (1 : Int) then (1 : Int) else (4 : Int)) = if
      w / (128 : Int) % (2 : Int) = (1 : Int) then (1 : Int) else (4 : Int)) ∧ (IntKind.i64 = IntKind.i64 ∧ (if w / (1024 : Int) % (2 : Int) = (1 : Int) then (1 : Int) else (8 :
      Int)) = if w / (1024 : Int) % (2 : Int) = (1 : Int) then (1 : Int) else (8 : Int)) ∧ (IntKind.i64 = IntKind.i64 ∧ fst (w % (4 : Int)) = fst (w % (4 : Int))) ∧ decide (w /
      (16384 : Int) % (2 : Int) = (1 : Int)) = decide (w / (16384 : Int) % (2 : Int) = (1 : Int))) ∧ ((31 : Nat) = (31 : Nat) ∧ (IntKind.i64 = IntKind.i64 ∧ fst (vv w o / (4 :
      Int) % (4 : Int)) = fst (vv w o / (4 : Int) % (4 : Int))) ∧ (IntKind.i64 = IntKind.i64 ∧ fst (vv w o / (32 : Int) % (4 : Int)) = fst (vv w o / (32 : Int) % (4 : Int))) ∧
      (IntKind.i64 = IntKind.i64 ∧ fst (vv w o / (256 : Int) % (4 : Int)) = fst (vv w o / (256 : Int) % (4 : Int))) ∧ (IntKind.i64 = IntKind.i64 ∧ (if vv w o / (16 : Int) % (2 :
      Int) = (1 : Int) then (1 : Int) else (2 : Int)) = if vv w o / (16 : Int) % (2 : Int) = (1 : Int) then (1 : Int) else (2 : Int)) ∧ (IntKind.i64 = IntKind.i64 ∧ (if vv w o /
      (128 : Int) % (2 : Int) = (1 : Int) then (1 : Int) else (4 : Int)) = if vv w o / (128 : Int) % (2 : Int) = (1 : Int) then (1 : Int) else (4 : Int)) ∧ (IntKind.i64 =
      IntKind.i64 ∧ (if vv w o / (1024 : Int) % (2 : Int) = (1 : Int) then (1 : Int) else (8 : Int)) = if vv w o / (1024 : Int) % (2 : Int) = (1 : Int) then (1 : Int) else (8 :
      Int)) ∧ (IntKind.i64 = IntKind.i64 ∧ fst (vv w o % (4 : Int)) = fst (vv w o % (4 : Int))) ∧ decide (vv w o / (16384 : Int) % (2 : Int) = (1 : Int)) = decide (vv w o /
      (16384 : Int) % (2 : Int) = (1 : Int))) ∧ True))) ∧ (decide (j > (0 : Int)) = false → ∃ x, ((0 : Int) ≤ x ∧ x ≤ (3 : Int)) ∧ mu6 w o x < mu6 w o j ∧ hd6 = hd6 ∧ (107 :
      Nat) = (107 : Nat) ∧ ((IntKind.u16 = IntKind.u16 ∧ w = w) ∧ (IntKind.u16 = IntKind.u16 ∧ o = o) ∧ C.p (0 : Nat) (0 : Nat) = C.p (0 : Nat) (0 : Nat) ∧ C.p (1 : Nat) (0 :
      Nat) = C.p (1 : Nat) (0 : Nat) ∧ IntKind.i64 = IntKind.i64 ∧ IntKind.i64.wrap (j + (1 : Int)) = x) ∧ ((31 : Nat) = (31 : Nat) ∧ (IntKind.i64 = IntKind.i64 ∧ fst (w / (4 :
      Int) % (4 : Int)) = fst (w / (4 : Int) % (4 : Int))) ∧ (IntKind.i64 = IntKind.i64 ∧ fst (w / (32 : Int) % (4 : Int)) = fst (w / (32 : Int) % (4 : Int))) ∧ (IntKind.i64 =
      IntKind.i64 ∧ fst (w / (256 : Int) % (4 : Int)) = fst (w / (256 : Int) % (4 : Int))) ∧ (IntKind.i64 = IntKind.i64 ∧ (if w / (16 : Int) % (2 : Int) = (1 : Int) then (1 :
      Int) else (2 : Int)) = if w / (16 : Int) % (2 : Int) = (1 : Int) then (1 : Int) else (2 : Int)) ∧ (IntKind.i64 = IntKind.i64 ∧ (if w / (128 : Int) % (2 : Int) = (1 : Int)
      then (1 : Int) else (4 : Int)) = if w / (128 : Int) % (2 : Int) = (1 : Int) then (1 : Int) else (4 : Int)) ∧ (IntKind.i64 = IntKind.i64 ∧ (if w / (1024 : Int) % (2 : Int)
      = (1 : Int) then (1 : Int) else (8 : Int)) = if w / (1024 : Int) % (2 : Int) = (1 : Int) then (1 : Int) else (8 : Int)) ∧ (IntKind.i64 = IntKind.i64 ∧ fst (w % (4 : Int))
      = fst (w % (4 : Int))) ∧ decide (w / (16384 : Int) % (2 : Int) = (1 : Int)) = decide (w / (16384 : Int) % (2 : Int) = (1 : Int))) ∧ ((31 : Nat) = (31 : Nat) ∧ (IntKind.i64
      = IntKind.i64 ∧ fst (vv w o / (4 : Int) % (4 : Int)) = fst (vv w o / (4 : Int) % (4 : Int))) ∧ (IntKind.i64 = IntKind.i64 ∧ fst (vv w o / (32 : Int) % (4 : Int)) = fst (vv
      w o / (32 : Int) % (4 : Int))) ∧ (IntKind.i64 = IntKind.i64 ∧ fst (vv w o / (256 : Int) % (4 : Int)) = fst (vv w o / (256 : Int) % (4 : Int))) ∧ (IntKind.i64 = IntKind.i64
      ∧ (if vv w o / (16 : Int) % (2 : Int) = (1 : Int) then (1 : Int) else (2 : Int)) = if vv w o / (16 : Int) % (2 : Int) = (1 : Int) then (1 : Int) else (2 : Int)) ∧
      (IntKind.i64 = IntKind.i64 ∧ (if vv w o / (128 : Int) % (2 : Int) = (1 : Int) then (1 : Int) else (4 : Int)) = if vv w o / (128 : Int) % (2 : Int) = (1 : Int) then (1 :
      Int) else (4 : Int)) ∧ (IntKind.i64 = IntKind.i64 ∧ (if vv w o / (1024 : Int) % (2 : Int) = (1 : Int) then (1 : Int) else (8 : Int)) = if vv w o / (1024 : Int) % (2 : Int)
      = (1 : Int) then (1 : Int) else (8 : Int)) ∧ (IntKind.i64 = IntKind.i64 ∧ fst (vv w o % (4 : Int)) = fst (vv w o % (4 : Int))) ∧ decide (vv w o / (16384 : Int) % (2 : Int)
      = (1 : Int)) = decide (vv w o / (16384 : Int) % (2 : Int) = (1 : Int))) ∧ True))) ∧ ((selI [if w / (16 : Int) % (2 : Int) = (1 : Int) then (1 : Int) else (2 : Int), if w /
      (128 : Int) % (2 : Int) = (1 : Int) then (1 : Int) else (4 : Int), if w / (1024 : Int) % (2 : Int) = (1 : Int) then (1 : Int) else (8 : Int)] j != (1 : Int)) = false →
      (decide (j > (0 : Int)) = true → inB j (3 : Nat) = true ∧ ((selI [fst (vv w o / (4 : Int) % (4 : Int)), fst (vv w o / (32 : Int) % (4 : Int)), fst (vv w o / (256 : Int) %
      (4 : Int))] j != selI [fst (w / (4 : Int) % (4 : Int)), fst (w / (32 : Int) % (4 : Int)), fst (w / (256 : Int) % (4 : Int))] j) = true → false = true) ∧ ((selI [fst (vv w
      o / (4 : Int) % (4 : Int)), fst (vv w o / (32 : Int) % (4 : Int)), fst (vv w o / (256 : Int) % (4 : Int))] j != selI [fst (w / (4 : Int) % (4 : Int)), fst (w / (32 : Int)
      % (4 : Int)), fst (w / (256 : Int) % (4 : Int))] j) = false → inB j (3 : Nat) = true ∧ ((selI [if vv w o / (16 : Int) % (2 : Int) = (1 : Int) then (1 : Int) else (2 :
      Int), if vv w o / (128 : Int) % (2 : Int) = (1 : Int) then (1 : Int) else (4 : Int), if vv w o / (1024 : Int) % (2 : Int) = (1 : Int) then (1 : Int) else (8 : Int)] j !=
      selI [if w / (16 : Int) % (2 : Int) = (1 : Int) then (1 : Int) else (2 : Int), if w / (128 : Int) % (2 : Int) = (1 : Int) then (1 : Int) else (4 : Int), if w / (1024 :
      Int) % (2 : Int) = (1 : Int) then (1 : Int) else (8 : Int)] j) = true → false = true) ∧ ((selI [if vv w o / (16 : Int) % (2 : Int) = (1 : Int) then (1 : Int) else (2 :
      Int), if vv w o / (128 : Int) % (2 : Int) = (1 : Int) then (1 : Int) else (4 : Int), if vv w o / (1024 : Int) % (2 : Int) = (1 : Int) then (1 : Int) else (8 : Int)] j !=
      selI [if w / (16 : Int) % (2 : Int) = (1 : Int) then (1 : Int) else (2 : Int), if w / (128 : Int) % (2 : Int) = (1 : Int) then (1 : Int) else (4 : Int), if w / (1024 :
      Int) % (2 : Int) = (1 : Int) then (1 : Int) else (8 : Int)] j) = false → ∃ x, ((0 : Int) ≤ x ∧ x ≤ (3 : Int)) ∧ mu6 w o x < mu6 w o j ∧ hd6 = hd6 ∧ (107 : Nat) = (107 :
      Nat) ∧ ((IntKind.u16 = IntKind.u16 ∧ w = w) ∧ (IntKind.u16 = IntKind.u16 ∧ o = o) ∧ C.p (0 : Nat) (0 : Nat) = C.p (0 : Nat) (0 : Nat) ∧ C.p (1 : Nat) (0 : Nat) = C.p (1 :
      Nat) (0 : Nat) ∧ IntKind.i64 = IntKind.i64 ∧ IntKind.i64.wrap (j + (1 : Int)) = x) ∧ ((31 : Nat) = (31 : Nat) ∧ (IntKind.i64 = IntKind.i64 ∧ fst (w / (4 : Int) % (4 :
      Int)) = fst (w / (4 : Int) % (4 : Int))) ∧ (IntKind.i64 = IntKind.i64 ∧ fst (w / (32 : Int) % (4 : Int)) = fst (w / (32 : Int) % (4 : Int))) ∧ (IntKind.i64 = IntKind.i64 ∧
      fst (w / (256 : Int) % (4 : Int)) = fst (w / (256 : Int) % (4 : Int))) ∧ (IntKind.i64 = IntKind.i64 ∧ (if w / (16 : Int) % (2 : Int) = (1 : Int) then (1 : Int) else (2 :
      Int)) = if w / (16 : Int) % (2 : Int) = (1 : Int) then (1 : Int) else (2 : Int)) ∧ (IntKind.i64 = IntKind.i64 ∧ (if w / (128 : Int) % (2 : Int) = (1 : Int) then (1 : Int)
      else (4 : Int)) = if w / (128 : Int) % (2 : Int) = (1 : Int) then (1 : Int) else (4 : Int)) ∧ (IntKind.i64 = IntKind.i64 ∧ (if w / (1024 : Int) % (2 : Int) = (1 : Int)
      then (1 : Int) else (8 : Int)) = if w / (1024 : Int) % (2 : Int) = (1 : Int) then (1 : Int) else (8 : Int)) ∧ (IntKind.i64 = IntKind.i64 ∧ fst (w % (4 : Int)) = fst (w %
      (4 : Int))) ∧ decide (w / (16384 : Int) % (2 : Int) = (1 : Int)) = decide (w / (16384 : Int) % (2 : Int) = (1 : Int))) ∧ ((31 : Nat) = (31 : Nat) ∧ (IntKind.i64 =
      IntKind.i64 ∧ fst (vv w o / (4 : Int) % (4 : Int)) = fst (vv w o / (4 : Int) % (4 : Int))) ∧ (IntKind.i64 = IntKind.i64 ∧ fst (vv w o / (32 : Int) % (4 : Int)) = fst (vv w
      o / (32 : Int) % (4 : Int))) ∧ (IntKind.i64 = IntKind.i64 ∧ fst (vv w o / (256 : Int) % (4 : Int)) = fst (vv w o / (256 : Int) % (4 : Int))) ∧ (IntKind.i64 = IntKind.i64 ∧
      (if vv w o / (16 : Int) % (2 : Int) = (1 : Int) then (1 : Int) else (2 : Int)) = if vv w o / (16 : Int) % (2 : Int) = (1 : Int) then (1 : Int) else (2 : Int)) ∧
      (IntKind.i64 = IntKind.i64 ∧ (if vv w o / (128 : Int) % (2 : Int) = (1 : Int) then (1 : Int) else (4 : Int)) = if vv w o / (128 : Int) % (2 : Int) = (1 : Int) then (1 :
      Int) else (4 : Int)) ∧ (IntKind.i64 = IntKind.i64 ∧ (if vv w o / (1024 : Int) % (2 : Int) = (1 : Int) then (1 : Int) else (8 : Int)) = if vv w o / (1024 : Int) % (2 : Int)
      = (1 : Int) then (1 : Int) else (8 : Int)) ∧ (IntKind.i64 = IntKind.i64 ∧ fst (vv w o % (4 : Int)) = fst (vv w o % (4 : Int))) ∧ decide (vv w o / (16384 : Int) % (2 : Int)
      = (1 : Int)) = decide (vv w o / (16384 : Int) % (2 : Int) = (1 : Int))) ∧ True))) ∧ (decide (j > (0 : Int)) = false → ∃ x, ((0 : Int) ≤ x ∧ x ≤ (3 : Int)) ∧ mu6 w o x <
      mu6 w o j ∧ hd6 = hd6 ∧ (107 : Nat) = (107 : Nat) ∧ ((IntKind.u16 = IntKind.u16 ∧ w = w) ∧ (IntKind.u16 = IntKind.u16 ∧ o = o) ∧ C.p (0 : Nat) (0 : Nat) = C.p (0 : Nat) (0
      : Nat) ∧ C.p (1 : Nat) (0 : Nat) = C.p (1 : Nat) (0 : Nat) ∧ IntKind.i64 = IntKind.i64 ∧ IntKind.i64.wrap (j + (1 : Int)) = x) ∧ ((31 : Nat) = (31 : Nat) ∧ (IntKind.i64 =
      IntKind.i64 ∧ fst (w / (4 : Int) % (4 : Int)) = fst (w / (4 : Int) % (4 : Int))) ∧ (IntKind.i64 = IntKind.i64 ∧ fst (w / (32 : Int) % (4 : Int)) = fst (w / (32 : Int) % (4
      : Int))) ∧ (IntKind.i64 = IntKind.i64 ∧ fst (w / (256 : Int) % (4 : Int)) = fst (w / (256 : Int) % (4 : Int))) ∧ (IntKind.i64 = IntKind.i64 ∧ (if w / (16 : Int) % (2 :
      Int) = (1 : Int) then (1 : Int) else (2 : Int)) = if w / (16 : Int) % (2 : Int) = (1 : Int) then (1 : Int) else (2 : Int)) ∧ (IntKind.i64 = IntKind.i64 ∧ (if w / (128 :
      Int) % (2 : Int) = (1 : Int) then (1 : Int) else (4 : Int)) = if w / (128 : Int) % (2 : Int) = (1 : Int) then (1 : Int) else (4 : Int)) ∧ (IntKind.i64 = IntKind.i64 ∧ (if
      w / (1024 : Int) % (2 : Int) = (1 : Int) then (1 : Int) else (8 : Int)) = if w / (1024 : Int) % (2 : Int) = (1 : Int) then (1 : Int) else (8 : Int)) ∧ (IntKind.i64 =
      IntKind.i64 ∧ fst (w % (4 : Int)) = fst (w % (4 : Int))) ∧ decide (w / (16384 : Int) % (2 : Int) = (1 : Int)) = decide (w / (16384 : Int) % (2 : Int) = (1 : Int))) ∧ ((31
      : Nat) = (31 : Nat) ∧ (IntKind.i64 = IntKind.i64 ∧ fst (vv w o / (4 : Int) % (4 : Int)) = fst (vv w o / (4 : Int) % (4 : Int))) ∧ (IntKind.i64 = IntKind.i64 ∧ fst (vv w o
      / (32 : Int) % (4 : Int)) = fst (vv w o / (32 : Int) % (4 : Int))) ∧ (IntKind.i64 = IntKind.i64 ∧ fst (vv w o / (256 : Int) % (4 : Int)) = fst (vv w o / (256 : Int) % (4 :
      Int))) ∧ (IntKind.i64 = IntKind.i64 ∧ (if vv w o / (16 : Int) % (2 : Int) = (1 : Int) then (1 : Int) else (2 : Int)) = if vv w o / (16 : Int) % (2 : Int) = (1 : Int) then
      (1 : Int) else (2 : Int)) ∧ (IntKind.i64 = IntKind.i64 ∧ (if vv w o / (128 : Int) % (2 : Int) = (1 : Int) then (1 : Int) else (4 : Int)) = if vv w o / (128 : Int) % (2 :
      Int) = (1 : Int) then (1 : Int) else (4 : Int)) ∧ (IntKind.i64 = IntKind.i64 ∧ (if vv w o / (1024 : Int) % (2 : Int) = (1 : Int) then (1 : Int) else (8 : Int)) = if vv w o
      / (1024 : Int) % (2 : Int) = (1 : Int) then (1 : Int) else (8 : Int)) ∧ (IntKind.i64 = IntKind.i64 ∧ fst (vv w o % (4 : Int)) = fst (vv w o % (4 : Int))) ∧ decide (vv w o
      / (16384 : Int) % (2 : Int) = (1 : Int)) = decide (vv w o / (16384 : Int) % (2 : Int) = (1 : Int))) ∧ True)))) ∧ (decide (j < (3 : Int)) = false → ((false ^^ decide (w /
      (16384 : Int) % (2 : Int) = (1 : Int)) == (bits BinOp.and IntKind.u16 w (16384 : Int) != (0 : Int))) = true → ((fst (w % (4 : Int)) == fst (vv w o % (4 : Int))) = true →
      u32 (234881024 : Int) = true ∧ sm (fst (w / (4 : Int) % (4 : Int))) = true ∧ sm (fst (w / (32 : Int) % (4 : Int))) = true ∧ sm (fst (w / (256 : Int) % (4 : Int))) = true ∧
      sm (if w / (16 : Int) % (2 : Int) = (1 : Int) then (1 : Int) else (2 : Int)) = true ∧ sm (if w / (128 : Int) % (2 : Int) = (1 : Int) then (1 : Int) else (4 : Int)) = true
      ∧ sm (if w / (1024 : Int) % (2 : Int) = (1 : Int) then (1 : Int) else (8 : Int)) = true ∧ sm (fst (w % (4 : Int))) = true ∧ ((costV (fst (w / (4 : Int) % (4 : Int))) (fst
      (w / (32 : Int) % (4 : Int))) (fst (w / (256 : Int) % (4 : Int))) (if w / (16 : Int) % (2 : Int) = (1 : Int) then (1 : Int) else (2 : Int)) (if w / (128 : Int) % (2 : Int)
      = (1 : Int) then (1 : Int) else (4 : Int)) (if w / (1024 : Int) % (2 : Int) = (1 : Int) then (1 : Int) else (8 : Int)) (fst (w % (4 : Int))) (234881024 : Int) (1 : Int) (0
      : Int) == IntKind.i64.wrap ((1 : Int) + fst (w % (4 : Int)))) = true → u32 (134217730 : Int) = true ∧ sm (fst (w / (4 : Int) % (4 : Int))) = true ∧ sm (fst (w / (32 : Int)
      % (4 : Int))) = true ∧ sm (fst (w / (256 : Int) % (4 : Int))) = true ∧ sm (if w / (16 : Int) % (2 : Int) = (1 : Int) then (1 : Int) else (2 : Int)) = true ∧ sm (if w /
      (128 : Int) % (2 : Int) = (1 : Int) then (1 : Int) else (4 : Int)) = true ∧ sm (if w / (1024 : Int) % (2 : Int) = (1 : Int) then (1 : Int) else (8 : Int)) = true ∧ sm (fst
      (w % (4 : Int))) = true ∧ (costV (fst (w / (4 : Int) % (4 : Int))) (fst (w / (32 : Int) % (4 : Int))) (fst (w / (256 : Int) % (4 : Int))) (if w / (16 : Int) % (2 : Int) =
      (1 : Int) then (1 : Int) else (2 : Int)) (if w / (128 : Int) % (2 : Int) = (1 : Int) then (1 : Int) else (4 : Int)) (if w / (1024 : Int) % (2 : Int) = (1 : Int) then (1 :
      Int) else (8 : Int)) (fst (w % (4 : Int))) (134217730 : Int) (4 : Int) (1 : Int) == IntKind.i64.wrap ((2 : Int) + IntKind.i64.wrap ((2 : Int) * if w / (16 : Int) % (2 :
      Int) = (1 : Int) then (1 : Int) else (2 : Int)))) = true) ∧ ((costV (fst (w / (4 : Int) % (4 : Int))) (fst (w / (32 : Int) % (4 : Int))) (fst (w / (256 : Int) % (4 :
      Int))) (if w / (16 : Int) % (2 : Int) = (1 : Int) then (1 : Int) else (2 : Int)) (if w / (128 : Int) % (2 : Int) = (1 : Int) then (1 : Int) else (4 : Int)) (if w / (1024 :
      Int) % (2 : Int) = (1 : Int) then (1 : Int) else (8 : Int)) (fst (w % (4 : Int))) (234881024 : Int) (1 : Int) (0 : Int) == IntKind.i64.wrap ((1 : Int) + fst (w % (4 :
      Int)))) = false → false = true)) ∧ ((fst (w % (4 : Int)) == fst (vv w o % (4 : Int))) = false → false = true)) ∧ ((false ^^ decide (w / (16384 : Int) % (2 : Int) = (1 :
      Int)) == (bits BinOp.and IntKind.u16 w (16384 : Int) != (0 : Int))) = false → false = true))) := by kernel_rfl
end Go.Proofs.Ytagfeilieoolkaa

