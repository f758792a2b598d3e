import Derived.Test.YthgcieloijmgdaaXC
set_option linter.unusedVariables false
set_option linter.unusedSimpArgs false
namespace Go.Proofs.Ythgcieloijmgdaa
open Go Go.Proofs Go.Proofs.Ythgcieloijmgdaa.Ev Go.Proofs.Ythgcieloijmgdaa.Ev.Ho
set_option maxRecDepth 100000
theorem bk_r1 (E : World) (g : Bool) (u d : Int) (z : PX) (y : PX) :
    (loopP (pe E) Try.f4 (endR ([] : List MB).length [] (.c .b) (fun z y => y.b 90000 = true) z) (headR ([] : List MB).length Try.f4.ntmps (some ((fun y => (68 - y.n 91129).toNat) y)) (bk_hs E g u d z))  (run (pe E) (orcW E) (tabL fns) 20000 (2 ^ 200 - 1) (bb_td E) (mkL Try.f4.ntmps (slC y [(1, .r .i64 (0) (63)), (2, .r .u64 (0) (18446744073709551615)), (7, .c (.i true .i64 6)), (8, .c (.i true .i64 512)), (10, .c (.p 0 0)), (12, .s), (18, .s), (129, .r .i64 (0) (68))])) (mkM y [] [mW 6] 0))) =
    ((decide (y.n (91129 : Nat) < (68 : Int)) = true → ((false ^^ y.s (0 : Nat) == ByteArray.mk #[]) = true → ((y.s (91018 : Nat)).size + (1 : Nat)).ble ((2 : Nat) ^ (62 :
      Nat)) = true ∧ bb_td E = bb_td E ∧ (148 : Nat) = (148 : Nat) ∧ ((((0 : Int) ≤ y.n (91001 : Nat) ∧ y.n (91001 : Nat) ≤ (63 : Int)) ∧ True) ∧ (((0 : Int) ≤ y.n (91002 : Nat)
      ∧ y.n (91002 : Nat) ≤ (18446744073709551615 : Int)) ∧ True) ∧ True ∧ True ∧ True ∧ True ∧ True ∧ (((0 : Int) ≤ IntKind.i64.wrap (y.n (91129 : Nat) + (1 : Int)) ∧
      IntKind.i64.wrap (y.n (91129 : Nat) + (1 : Int)) ≤ (68 : Int)) ∧ True) ∧ True) ∧ ((63 : Nat) = (63 : Nat) ∧ (((0 : Int) ≤ y.n (2 : Nat) ∧ y.n (2 : Nat) ≤ (80 : Int)) ∧ ((0
      : Int) ≤ y.n (7 : Nat) ∧ y.n (7 : Nat) ≤ (68 : Int)) ∧ True) ∧ ([] : SW) = []) ∧ (((SO (y.s (91018 : Nat) ++ bytesN [(49 : Int)]) (y.s (91012 : Nat)) (IntKind.i64.wrap
      (y.n (91129 : Nat) + (1 : Int))) ∧ OO (y.n (6 : Nat)) (y.s (91012 : Nat))) ∧ Im (y.s (0 : Nat)) (512 : Nat)) ∧ y.n (7 : Nat) = (68 : Int) - IntKind.i64.wrap (y.n (91129 :
      Nat) + (1 : Int))) ∧ ((68 : Int) - IntKind.i64.wrap (y.n (91129 : Nat) + (1 : Int))).toNat < ((68 : Int) - y.n (91129 : Nat)).toNat ∧ True) ∧ ((false ^^ y.s (0 : Nat) ==
      ByteArray.mk #[]) = false → ((y.n (7 : Nat) == (0 : Int)) = true → ((y.s (91018 : Nat)).size + (1 : Nat)).ble ((2 : Nat) ^ (62 : Nat)) = true ∧ bb_td E = bb_td E ∧ (148 :
      Nat) = (148 : Nat) ∧ ((((0 : Int) ≤ y.n (91001 : Nat) ∧ y.n (91001 : Nat) ≤ (63 : Int)) ∧ True) ∧ (((0 : Int) ≤ y.n (91002 : Nat) ∧ y.n (91002 : Nat) ≤
      (18446744073709551615 : Int)) ∧ True) ∧ True ∧ True ∧ True ∧ True ∧ True ∧ (((0 : Int) ≤ IntKind.i64.wrap (y.n (91129 : Nat) + (1 : Int)) ∧ IntKind.i64.wrap (y.n (91129 :
      Nat) + (1 : Int)) ≤ (68 : Int)) ∧ True) ∧ True) ∧ ((63 : Nat) = (63 : Nat) ∧ (((0 : Int) ≤ y.n (2 : Nat) ∧ y.n (2 : Nat) ≤ (80 : Int)) ∧ ((0 : Int) ≤ y.n (7 : Nat) ∧ y.n
      (7 : Nat) ≤ (68 : Int)) ∧ True) ∧ ([] : SW) = []) ∧ (((SO (y.s (91018 : Nat) ++ bytesN [(49 : Int)]) (y.s (91012 : Nat)) (IntKind.i64.wrap (y.n (91129 : Nat) + (1 : Int)))
      ∧ OO (y.n (6 : Nat)) (y.s (91012 : Nat))) ∧ Im (y.s (0 : Nat)) (512 : Nat)) ∧ y.n (7 : Nat) = (68 : Int) - IntKind.i64.wrap (y.n (91129 : Nat) + (1 : Int))) ∧ ((68 : Int)
      - IntKind.i64.wrap (y.n (91129 : Nat) + (1 : Int))).toNat < ((68 : Int) - y.n (91129 : Nat)).toNat ∧ True) ∧ ((y.n (7 : Nat) == (0 : Int)) = false → (decide
      (IntKind.i64.wrap (y.n (7 : Nat) - (1 : Int)) ≥ (64 : Int)) = true → ((y.s (91018 : Nat)).size + (1 : Nat)).ble ((2 : Nat) ^ (62 : Nat)) = true ∧ bb_td E = bb_td E ∧ (148
      : Nat) = (148 : Nat) ∧ ((((0 : Int) ≤ y.n (91001 : Nat) ∧ y.n (91001 : Nat) ≤ (63 : Int)) ∧ True) ∧ (((0 : Int) ≤ y.n (91002 : Nat) ∧ y.n (91002 : Nat) ≤
      (18446744073709551615 : Int)) ∧ True) ∧ True ∧ True ∧ True ∧ True ∧ True ∧ (((0 : Int) ≤ IntKind.i64.wrap (y.n (91129 : Nat) + (1 : Int)) ∧ IntKind.i64.wrap (y.n (91129 :
      Nat) + (1 : Int)) ≤ (68 : Int)) ∧ True) ∧ True) ∧ ((63 : Nat) = (63 : Nat) ∧ (((0 : Int) ≤ y.n (2 : Nat) ∧ y.n (2 : Nat) ≤ (80 : Int)) ∧ ((0 : Int) ≤ IntKind.i64.wrap (y.n
      (7 : Nat) - (1 : Int)) ∧ IntKind.i64.wrap (y.n (7 : Nat) - (1 : Int)) ≤ (68 : Int)) ∧ True) ∧ ([] : SW) = []) ∧ (((SO (y.s (91018 : Nat) ++ bytesN [(48 : Int)]) (y.s
      (91012 : Nat)) (IntKind.i64.wrap (y.n (91129 : Nat) + (1 : Int))) ∧ OO (y.n (6 : Nat)) (y.s (91012 : Nat))) ∧ Im (y.s (0 : Nat)) (512 : Nat)) ∧ IntKind.i64.wrap (y.n (7 :
      Nat) - (1 : Int)) = (68 : Int) - IntKind.i64.wrap (y.n (91129 : Nat) + (1 : Int))) ∧ ((68 : Int) - IntKind.i64.wrap (y.n (91129 : Nat) + (1 : Int))).toNat < ((68 : Int) -
      y.n (91129 : Nat)).toNat ∧ True) ∧ (decide (IntKind.i64.wrap (y.n (7 : Nat) - (1 : Int)) ≥ (64 : Int)) = false → decide ((0 : Int) ≤ IntKind.i64.wrap (y.n (7 : Nat) - (1 :
      Int))) = true ∧ ((y.s (91018 : Nat)).size + (bytesN [IntKind.u8.wrap ((48 : Int) + bits BinOp.and IntKind.u8 (IntKind.u8.wrap ((y.n (6 : Nat)).fdiv ((2 : Int) ^ min
      (IntKind.i64.wrap (y.n (7 : Nat) - (1 : Int))).toNat (64 : Nat)))) (1 : Int))]).size).ble ((2 : Nat) ^ (62 : Nat)) = true ∧ bb_td E = bb_td E ∧ (148 : Nat) = (148 : Nat) ∧
      ((((0 : Int) ≤ y.n (91001 : Nat) ∧ y.n (91001 : Nat) ≤ (63 : Int)) ∧ True) ∧ (((0 : Int) ≤ y.n (91002 : Nat) ∧ y.n (91002 : Nat) ≤ (18446744073709551615 : Int)) ∧ True) ∧
      True ∧ True ∧ True ∧ True ∧ True ∧ (((0 : Int) ≤ IntKind.i64.wrap (y.n (91129 : Nat) + (1 : Int)) ∧ IntKind.i64.wrap (y.n (91129 : Nat) + (1 : Int)) ≤ (68 : Int)) ∧ True)
      ∧ True) ∧ ((63 : Nat) = (63 : Nat) ∧ (((0 : Int) ≤ y.n (2 : Nat) ∧ y.n (2 : Nat) ≤ (80 : Int)) ∧ ((0 : Int) ≤ IntKind.i64.wrap (y.n (7 : Nat) - (1 : Int)) ∧
      IntKind.i64.wrap (y.n (7 : Nat) - (1 : Int)) ≤ (68 : Int)) ∧ True) ∧ ([] : SW) = []) ∧ (((SO (y.s (91018 : Nat) ++ bytesN [IntKind.u8.wrap ((48 : Int) + bits BinOp.and
      IntKind.u8 (IntKind.u8.wrap ((y.n (6 : Nat)).fdiv ((2 : Int) ^ min (IntKind.i64.wrap (y.n (7 : Nat) - (1 : Int))).toNat (64 : Nat)))) (1 : Int))]) (y.s (91012 : Nat))
      (IntKind.i64.wrap (y.n (91129 : Nat) + (1 : Int))) ∧ OO (y.n (6 : Nat)) (y.s (91012 : Nat))) ∧ Im (y.s (0 : Nat)) (512 : Nat)) ∧ IntKind.i64.wrap (y.n (7 : Nat) - (1 :
      Int)) = (68 : Int) - IntKind.i64.wrap (y.n (91129 : Nat) + (1 : Int))) ∧ ((68 : Int) - IntKind.i64.wrap (y.n (91129 : Nat) + (1 : Int))).toNat < ((68 : Int) - y.n (91129 :
      Nat)).toNat ∧ True)))) ∧ (decide (y.n (91129 : Nat) < (68 : Int)) = false → ((4 : Nat) + (y.s (91012 : Nat)).size).ble ((2 : Nat) ^ (62 : Nat)) = true ∧ ((false ^^ y.s
      (91018 : Nat) == ByteArray.mk #[(48 : UInt8), (48 : UInt8), (48 : UInt8), (48 : UInt8)] ++ y.s (91012 : Nat)) = true → ((false ^^ y.s (0 : Nat) == ByteArray.mk #[]) = true
      → ([] : SW) = [] ∧ True ∧ true = true) ∧ ((false ^^ y.s (0 : Nat) == ByteArray.mk #[]) = false → ((y.n (7 : Nat) == (0 : Int)) = true → ([] : SW) = [] ∧ True ∧ true =
      true) ∧ ((y.n (7 : Nat) == (0 : Int)) = false → (decide (IntKind.i64.wrap (y.n (7 : Nat) - (1 : Int)) ≥ (64 : Int)) = true → ([] : SW) = [] ∧ True ∧ false = true) ∧
      (decide (IntKind.i64.wrap (y.n (7 : Nat) - (1 : Int)) ≥ (64 : Int)) = false → decide ((0 : Int) ≤ IntKind.i64.wrap (y.n (7 : Nat) - (1 : Int))) = true ∧ ([] : SW) = [] ∧
      True ∧ (bits BinOp.and IntKind.u8 (IntKind.u8.wrap ((y.n (6 : Nat)).fdiv ((2 : Int) ^ min (IntKind.i64.wrap (y.n (7 : Nat) - (1 : Int))).toNat (64 : Nat)))) (1 : Int) ==
      (1 : Int)) = true)))) ∧ ((false ^^ y.s (91018 : Nat) == ByteArray.mk #[(48 : UInt8), (48 : UInt8), (48 : UInt8), (48 : UInt8)] ++ y.s (91012 : Nat)) = false → ([] : SW) =
      [] ∧ True ∧ false = true))) := by kernel_rfl
end Go.Proofs.Ythgcieloijmgdaa

