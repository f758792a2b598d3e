import Derived.Test.YthgcieloijmgdaaUB
set_option linter.unusedVariables false
set_option linter.unusedSimpArgs false
namespace Go.Proofs.Ythgcieloijmgdaa
open Go Go.Proofs Go.Proofs.Ythgcieloijmgdaa.Ev Go.Proofs.Ythgcieloijmgdaa.Ev.Ho
set_option maxRecDepth 100000
set_option maxHeartbeats 8000000
theorem law_r0 (E : World) (g : Bool) (sd : Int) (z : PX) (y : PX) :
    (loopP (pe E) Try.f6 (endR ([] : List MB).length [] (.c .b) (fun z y => y.b 90000 = true) z) (headR ([] : List MB).length Try.f6.ntmps (some ((fun y => (20000 - y.n 91026).toNat + 300000) y)) (law_hs E g sd z))  (run (pe E) (orcA E) (tabL fns) 20000 (2 ^ 2 + 2 ^ 6) (t1a_td E) (mkL Try.f6.ntmps (slC y [(1, .r .u32 (0) (4294967295)), (5, .c (.i true .i64 14)), (6, .c (.i true .i64 8192)), (7, .q (.rs 0 1 8192)), (25, .q (.i false .i64 8192)), (26, .r .i64 (0) (8192))])) (mkM y [] [rowB] 0))) =
    ((decide (y.n (91026 : Nat) < (8192 : Int)) = true → inB (y.n (91026 : Nat)) (8192 : Nat) = true ∧ decide ((y.n (91026 : Nat)).toNat + (1 : Nat) ≤ (y.l (0 : Nat)).length) =
      true ∧ t1a_td E = t1a_td E ∧ (98 : Nat) = (98 : Nat) ∧ ((((0 : Int) ≤ IntKind.u32.wrap (IntKind.u32.wrap (y.n (91001 : Nat) * (1664525 : Int)) + (1013904223 : Int)) ∧
      IntKind.u32.wrap (IntKind.u32.wrap (y.n (91001 : Nat) * (1664525 : Int)) + (1013904223 : Int)) ≤ (4294967295 : Int)) ∧ True) ∧ True ∧ True ∧ (renC (posN [(0 : Nat)]) (C.rs
      (0 : Nat) (1 : Nat) (8192 : Nat)) = C.rs (0 : Nat) (1 : Nat) (8192 : Nat) ∧ True) ∧ (renC (posN [(0 : Nat)]) (C.i false IntKind.i64 (8192 : Int)) = C.i false IntKind.i64
      (8192 : Int) ∧ True) ∧ (((0 : Int) ≤ IntKind.i64.wrap (y.n (91026 : Nat) + (1 : Int)) ∧ IntKind.i64.wrap (y.n (91026 : Nat) + (1 : Int)) ≤ (8192 : Int)) ∧ True) ∧ True) ∧
      ((5 : Nat) = (5 : Nat) ∧ (flat [Sp.r IntKind.u8 (0 : Int) (255 : Int)] = true ∧ Row [Sp.r IntKind.u8 (0 : Int) (255 : Int)] (rSet (y.l (0 : Nat)) (y.n (91026 : Nat)).toNat
      [C.i false IntKind.u8 (IntKind.u8.wrap ((IntKind.u32.wrap (IntKind.u32.wrap (y.n (91001 : Nat) * (1664525 : Int)) + (1013904223 : Int))).fdiv (16777216 : Int)))])) ∧ ([] :
      SW) = []) ∧ (Ln (rSet (y.l (0 : Nat)) (y.n (91026 : Nat)).toNat [C.i false IntKind.u8 (IntKind.u8.wrap ((IntKind.u32.wrap (IntKind.u32.wrap (y.n (91001 : Nat) * (1664525 :
      Int)) + (1013904223 : Int))).fdiv (16777216 : Int)))]) (8192 : Nat) ∧ True) ∧ ((20000 : Int) - IntKind.i64.wrap (y.n (91026 : Nat) + (1 : Int))).toNat + (300000 : Nat) <
      ((20000 : Int) - y.n (91026 : Nat)).toNat + (300000 : Nat) ∧ True) ∧ (decide (y.n (91026 : Nat) < (8192 : Int)) = false → rowU8 (y.l (0 : Nat)) (8192 : Nat) = true ∧
      (((↑(rowT (y.l (0 : Nat)) (8192 : Nat)).size : Int) == (512 : Int)) = true → t2a_td E = t2a_td E ∧ (98 : Nat) = (98 : Nat) ∧ (True ∧ True ∧ (renC (posN [(0 : Nat), (1 :
      Nat)]) (C.rs (0 : Nat) (1 : Nat) (8192 : Nat)) = C.rs (0 : Nat) (1 : Nat) (8192 : Nat) ∧ True) ∧ True ∧ (((0 : Int) ≤ (0 : Int) ∧ (0 : Int) ≤ (1029 : Int)) ∧ True) ∧ True)
      ∧ ((5 : Nat) = (5 : Nat) ∧ (flat [Sp.r IntKind.u8 (0 : Int) (255 : Int)] = true ∧ Row [Sp.r IntKind.u8 (0 : Int) (255 : Int)] (y.l (0 : Nat))) ∧ (63 : Nat) = (63 : Nat) ∧
      False ∧ ([] : SW) = []) ∧ ((Ln (y.l (0 : Nat)) (8192 : Nat) ∧ EqT (rowT (y.l (0 : Nat)) (8192 : Nat)) (y.l (0 : Nat)) (8192 : Nat)) ∧ (0 : Int) ≤ (1028 : Int)) ∧ (((2000 :
      Int) - (0 : Int)) * (100 : Int) + (90 : Int)).toNat < ((20000 : Int) - y.n (91026 : Nat)).toNat + (300000 : Nat) ∧ True) ∧ (((↑(rowT (y.l (0 : Nat)) (8192 : Nat)).size :
      Int) == (512 : Int)) = false → (((↑(rowT (y.l (0 : Nat)) (8192 : Nat)).size : Int) == (8192 : Int)) = true → t2a_td E = t2a_td E ∧ (98 : Nat) = (98 : Nat) ∧ (True ∧ True ∧
      (renC (posN [(0 : Nat), (1 : Nat)]) (C.rs (0 : Nat) (1 : Nat) (8192 : Nat)) = C.rs (0 : Nat) (1 : Nat) (8192 : Nat) ∧ True) ∧ True ∧ (((0 : Int) ≤ (0 : Int) ∧ (0 : Int) ≤
      (1029 : Int)) ∧ True) ∧ True) ∧ ((5 : Nat) = (5 : Nat) ∧ (flat [Sp.r IntKind.u8 (0 : Int) (255 : Int)] = true ∧ Row [Sp.r IntKind.u8 (0 : Int) (255 : Int)] (y.l (0 :
      Nat))) ∧ (63 : Nat) = (63 : Nat) ∧ (((0 : Int) ≤ (0 : Int) ∧ (0 : Int) ≤ (68 : Int)) ∧ True) ∧ ([] : SW) = []) ∧ ((Ln (y.l (0 : Nat)) (8192 : Nat) ∧ EqT (rowT (y.l (0 :
      Nat)) (8192 : Nat)) (y.l (0 : Nat)) (8192 : Nat)) ∧ (0 : Int) ≤ (1028 : Int)) ∧ (((2000 : Int) - (0 : Int)) * (100 : Int) + (90 : Int)).toNat < ((20000 : Int) - y.n (91026
      : Nat)).toNat + (300000 : Nat) ∧ True) ∧ (((↑(rowT (y.l (0 : Nat)) (8192 : Nat)).size : Int) == (8192 : Int)) = false → ([] : SW) = [] ∧ True ∧ false = true)))) := by kernel_rfl
end Go.Proofs.Ythgcieloijmgdaa

