import Derived.Test.YthgcieloijmgdaaUB
set_option linter.unusedVariables false
set_option linter.unusedSimpArgs false
namespace Go.Proofs.Ythgcieloijmgdaa
open Go Go.Proofs Go.Proofs.Ythgcieloijmgdaa.Ev Go.Proofs.Ythgcieloijmgdaa.Ev.Ho
set_option maxRecDepth 100000
theorem law_pro (E : World) (g : Bool) (sd : Int) (z : PX) :
    (loopP (pe E) Try.f6 (endR ([] : List MB).length [] (.c .b) (fun z y => y.b 90000 = true) z) (headR ([] : List MB).length Try.f6.ntmps none (law_hs E g sd z)) (run (pe E) (orcA E) (tabL fns) 20000 (2 ^ 2 + 2 ^ 6) [.code (Try.f6.body.getD .skip)] ⟨Try.f6.ntmps, mkFrGo (Tr.mk 12) 0 [.c (.b false g), .c (.i false .u32 sd)]⟩ (mkM z [] [] 0))) =
    ((g = true → decide ((8192 : Int) = (8192 : Int)) = true ∧ decide ((0 : Int) ≤ (8192 : Int)) = true ∧ decide ((8192 : Int) ≤ (1073741824 : Int)) = true ∧ decide ((8192 :
      Nat) ≤ (1099511627776 : Nat)) = true ∧ t1a_td E = t1a_td E ∧ (98 : Nat) = (98 : Nat) ∧ ((((0 : Int) ≤ sd ∧ sd ≤ (4294967295 : Int)) ∧ True) ∧ True ∧ True ∧ (renC (posN [(0
      : Nat)]) (C.rs (0 : Nat) (1 : Nat) (8192 : Nat)) = C.rs (0 : Nat) (1 : Nat) (8192 : Nat) ∧ True) ∧ (renC (posN [(0 : Nat)]) (C.i false IntKind.i64 (8192 : Int)) = C.i
      false IntKind.i64 (8192 : Int) ∧ True) ∧ (((0 : Int) ≤ (0 : Int) ∧ (0 : Int) ≤ (8192 : Int)) ∧ True) ∧ True) ∧ ((5 : Nat) = (5 : Nat) ∧ (flat [Sp.r IntKind.u8 (0 : Int)
      (255 : Int)] = true ∧ Row [Sp.r IntKind.u8 (0 : Int) (255 : Int)] (rRep [C.i true IntKind.u8 (0 : Int)] (8192 : Nat))) ∧ ([] : SW) = []) ∧ (Ln (rRep [C.i true IntKind.u8
      (0 : Int)] (8192 : Nat)) (8192 : Nat) ∧ True) ∧ True) ∧ (g = false → decide ((512 : Int) = (512 : Int)) = true ∧ decide ((0 : Int) ≤ (512 : Int)) = true ∧ decide ((512 :
      Int) ≤ (1073741824 : Int)) = true ∧ decide ((512 : Nat) ≤ (1099511627776 : Nat)) = true ∧ t1b_td E = t1b_td E ∧ (98 : Nat) = (98 : Nat) ∧ ((((0 : Int) ≤ sd ∧ sd ≤
      (4294967295 : Int)) ∧ True) ∧ True ∧ True ∧ (renC (posN [(0 : Nat)]) (C.rs (0 : Nat) (1 : Nat) (512 : Nat)) = C.rs (0 : Nat) (1 : Nat) (512 : Nat) ∧ True) ∧ (renC (posN
      [(0 : Nat)]) (C.i false IntKind.i64 (512 : Int)) = C.i false IntKind.i64 (512 : Int) ∧ True) ∧ (((0 : Int) ≤ (0 : Int) ∧ (0 : Int) ≤ (512 : Int)) ∧ True) ∧ True) ∧ ((5 :
      Nat) = (5 : Nat) ∧ (flat [Sp.r IntKind.u8 (0 : Int) (255 : Int)] = true ∧ Row [Sp.r IntKind.u8 (0 : Int) (255 : Int)] (rRep [C.i true IntKind.u8 (0 : Int)] (512 : Nat))) ∧
      ([] : SW) = []) ∧ (Ln (rRep [C.i true IntKind.u8 (0 : Int)] (512 : Nat)) (512 : Nat) ∧ True) ∧ True)) := by kernel_rfl
end Go.Proofs.Ythgcieloijmgdaa

