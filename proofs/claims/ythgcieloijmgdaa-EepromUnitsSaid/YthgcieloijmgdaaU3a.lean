import Derived.Test.YthgcieloijmgdaaUB
set_option linter.unusedVariables false
set_option linter.unusedSimpArgs false
namespace Go.Proofs.Ythgcieloijmgdaa
open Go Go.Proofs Go.Proofs.Ythgcieloijmgdaa.Ev Go.Proofs.Ythgcieloijmgdaa.Ev.Ho
set_option maxRecDepth 100000
set_option maxHeartbeats 8000000
theorem law_r3 (E : World) (g : Bool) (sd : Int) (z : PX) (y : PX) :
    (loopP (pe E) Try.f6 (endR ([] : List MB).length [] (.c .b) (fun z y => y.b 90000 = true) z) (headR ([] : List MB).length Try.f6.ntmps (some ((fun y => ((2000 - y.n 91011) * 100 + (64 - y.n 91073)).toNat) y)) (law_hs E g sd z))  (run (pe E) (orcA E) (tabL fns) 20000 (2 ^ 2 + 2 ^ 6) (t3a_td E) (mkL Try.f6.ntmps (slC y [(5, .c (.i true .i64 14)), (6, .c (.i true .i64 8192)), (7, .q (.rs 0 1 8192)), (9, .c (.p 1 0)), (11, .r .i64 (0) (1023)), (73, .r .i64 (0) (64))])) (mkM y [] [rowB, mC 14 true] 0))) =
    ((decide (y.n (91073 : Nat) < (64 : Int)) = true → inB (IntKind.i64.wrap (IntKind.i64.wrap ((8 : Int) * y.n (91011 : Nat)) + IntKind.i64.wrap ((y.n (91073 : Nat)).tdiv (8 :
      Int)))) (8192 : Nat) = true ∧ rOk (y.l (0 : Nat)) (IntKind.i64.wrap (IntKind.i64.wrap ((8 : Int) * y.n (91011 : Nat)) + IntKind.i64.wrap ((y.n (91073 : Nat)).tdiv (8 :
      Int)))).toNat (EK.i IntKind.u8) = true ∧ decide ((0 : Int) ≤ IntKind.i64.wrap ((7 : Int) - (y.n (91073 : Nat)).tmod (8 : Int))) = true ∧ ((false ^^ y.s (100000 : Nat) ==
      ByteArray.mk #[]) = true → sameB (Bl.mk (y.l (0 : Nat)) (5 : Nat)) (Bl.mk (y.l (0 : Nat)) (5 : Nat)) = true ∧ (((1 : Int) != bits BinOp.and IntKind.u8 ((rI (y.l (0 : Nat))
      (IntKind.i64.wrap (IntKind.i64.wrap ((8 : Int) * y.n (91011 : Nat)) + IntKind.i64.wrap ((y.n (91073 : Nat)).tdiv (8 : Int)))).toNat).fdiv ((2 : Int) ^ min
      (IntKind.i64.wrap ((7 : Int) - (y.n (91073 : Nat)).tmod (8 : Int))).toNat (8 : Nat))) (1 : Int)) = true → ([] : SW) = [] ∧ True ∧ false = true) ∧ (((1 : Int) != bits
      BinOp.and IntKind.u8 ((rI (y.l (0 : Nat)) (IntKind.i64.wrap (IntKind.i64.wrap ((8 : Int) * y.n (91011 : Nat)) + IntKind.i64.wrap ((y.n (91073 : Nat)).tdiv (8 :
      Int)))).toNat).fdiv ((2 : Int) ^ min (IntKind.i64.wrap ((7 : Int) - (y.n (91073 : Nat)).tmod (8 : Int))).toNat (8 : Nat))) (1 : Int)) = false → t3a_td E = t3a_td E ∧ (98 :
      Nat) = (98 : Nat) ∧ (True ∧ True ∧ (renC (posN [(0 : Nat), (1 : Nat)]) (C.rs (0 : Nat) (1 : Nat) (8192 : Nat)) = C.rs (0 : Nat) (1 : Nat) (8192 : Nat) ∧ True) ∧ True ∧
      (((0 : Int) ≤ y.n (91011 : Nat) ∧ y.n (91011 : Nat) ≤ (1023 : Int)) ∧ True) ∧ (((0 : Int) ≤ IntKind.i64.wrap (y.n (91073 : Nat) + (1 : Int)) ∧ IntKind.i64.wrap (y.n (91073
      : Nat) + (1 : Int)) ≤ (64 : Int)) ∧ True) ∧ True) ∧ ((5 : Nat) = (5 : Nat) ∧ (flat [Sp.r IntKind.u8 (0 : Int) (255 : Int)] = true ∧ Row [Sp.r IntKind.u8 (0 : Int) (255 :
      Int)] (y.l (0 : Nat))) ∧ (63 : Nat) = (63 : Nat) ∧ (((0 : Int) ≤ y.n (100007 : Nat) ∧ y.n (100007 : Nat) ≤ (68 : Int)) ∧ True) ∧ ([] : SW) = []) ∧ ((Ln (y.l (0 : Nat))
      (8192 : Nat) ∧ EqT (y.s (100000 : Nat)) (y.l (0 : Nat)) (8192 : Nat)) ∧ O8 (y.n (100006 : Nat)) (y.l (0 : Nat)) (y.n (91011 : Nat)) ∧ y.n (100007 : Nat) = (64 : Int) -
      IntKind.i64.wrap (y.n (91073 : Nat) + (1 : Int))) ∧ (((2000 : Int) - y.n (91011 : Nat)) * (100 : Int) + ((64 : Int) - IntKind.i64.wrap (y.n (91073 : Nat) + (1 :
      Int)))).toNat < (((2000 : Int) - y.n (91011 : Nat)) * (100 : Int) + ((64 : Int) - y.n (91073 : Nat))).toNat ∧ True)) ∧ ((false ^^ y.s (100000 : Nat) == ByteArray.mk #[]) =
      false → ((y.n (100007 : Nat) == (0 : Int)) = true → sameB (Bl.mk (y.l (0 : Nat)) (5 : Nat)) (Bl.mk (y.l (0 : Nat)) (5 : Nat)) = true ∧ (((1 : Int) != bits BinOp.and
      IntKind.u8 ((rI (y.l (0 : Nat)) (IntKind.i64.wrap (IntKind.i64.wrap ((8 : Int) * y.n (91011 : Nat)) + IntKind.i64.wrap ((y.n (91073 : Nat)).tdiv (8 : Int)))).toNat).fdiv
      ((2 : Int) ^ min (IntKind.i64.wrap ((7 : Int) - (y.n (91073 : Nat)).tmod (8 : Int))).toNat (8 : Nat))) (1 : Int)) = true → ([] : SW) = [] ∧ True ∧ false = true) ∧ (((1 :
      Int) != bits BinOp.and IntKind.u8 ((rI (y.l (0 : Nat)) (IntKind.i64.wrap (IntKind.i64.wrap ((8 : Int) * y.n (91011 : Nat)) + IntKind.i64.wrap ((y.n (91073 : Nat)).tdiv (8
      : Int)))).toNat).fdiv ((2 : Int) ^ min (IntKind.i64.wrap ((7 : Int) - (y.n (91073 : Nat)).tmod (8 : Int))).toNat (8 : Nat))) (1 : Int)) = false → t3a_td E = t3a_td E ∧ (98
      : Nat) = (98 : Nat) ∧ (True ∧ True ∧ (renC (posN [(0 : Nat), (1 : Nat)]) (C.rs (0 : Nat) (1 : Nat) (8192 : Nat)) = C.rs (0 : Nat) (1 : Nat) (8192 : Nat) ∧ True) ∧ True ∧
      (((0 : Int) ≤ y.n (91011 : Nat) ∧ y.n (91011 : Nat) ≤ (1023 : Int)) ∧ True) ∧ (((0 : Int) ≤ IntKind.i64.wrap (y.n (91073 : Nat) + (1 : Int)) ∧ IntKind.i64.wrap (y.n (91073
      : Nat) + (1 : Int)) ≤ (64 : Int)) ∧ True) ∧ True) ∧ ((5 : Nat) = (5 : Nat) ∧ (flat [Sp.r IntKind.u8 (0 : Int) (255 : Int)] = true ∧ Row [Sp.r IntKind.u8 (0 : Int) (255 :
      Int)] (y.l (0 : Nat))) ∧ (63 : Nat) = (63 : Nat) ∧ (((0 : Int) ≤ y.n (100007 : Nat) ∧ y.n (100007 : Nat) ≤ (68 : Int)) ∧ True) ∧ ([] : SW) = []) ∧ ((Ln (y.l (0 : Nat))
      (8192 : Nat) ∧ EqT (y.s (100000 : Nat)) (y.l (0 : Nat)) (8192 : Nat)) ∧ O8 (y.n (100006 : Nat)) (y.l (0 : Nat)) (y.n (91011 : Nat)) ∧ y.n (100007 : Nat) = (64 : Int) -
      IntKind.i64.wrap (y.n (91073 : Nat) + (1 : Int))) ∧ (((2000 : Int) - y.n (91011 : Nat)) * (100 : Int) + ((64 : Int) - IntKind.i64.wrap (y.n (91073 : Nat) + (1 :
      Int)))).toNat < (((2000 : Int) - y.n (91011 : Nat)) * (100 : Int) + ((64 : Int) - y.n (91073 : Nat))).toNat ∧ True)) ∧ ((y.n (100007 : Nat) == (0 : Int)) = false → (decide
      (IntKind.i64.wrap (y.n (100007 : Nat) - (1 : Int)) ≥ (64 : Int)) = true → sameB (Bl.mk (y.l (0 : Nat)) (5 : Nat)) (Bl.mk (y.l (0 : Nat)) (5 : Nat)) = true ∧ (((0 : Int) !=
      bits BinOp.and IntKind.u8 ((rI (y.l (0 : Nat)) (IntKind.i64.wrap (IntKind.i64.wrap ((8 : Int) * y.n (91011 : Nat)) + IntKind.i64.wrap ((y.n (91073 : Nat)).tdiv (8 :
      Int)))).toNat).fdiv ((2 : Int) ^ min (IntKind.i64.wrap ((7 : Int) - (y.n (91073 : Nat)).tmod (8 : Int))).toNat (8 : Nat))) (1 : Int)) = true → ([] : SW) = [] ∧ True ∧
      false = true) ∧ (((0 : Int) != bits BinOp.and IntKind.u8 ((rI (y.l (0 : Nat)) (IntKind.i64.wrap (IntKind.i64.wrap ((8 : Int) * y.n (91011 : Nat)) + IntKind.i64.wrap ((y.n
      (91073 : Nat)).tdiv (8 : Int)))).toNat).fdiv ((2 : Int) ^ min (IntKind.i64.wrap ((7 : Int) - (y.n (91073 : Nat)).tmod (8 : Int))).toNat (8 : Nat))) (1 : Int)) = false →
      t3a_td E = t3a_td E ∧ (98 : Nat) = (98 : Nat) ∧ (True ∧ True ∧ (renC (posN [(0 : Nat), (1 : Nat)]) (C.rs (0 : Nat) (1 : Nat) (8192 : Nat)) = C.rs (0 : Nat) (1 : Nat) (8192
      : Nat) ∧ True) ∧ True ∧ (((0 : Int) ≤ y.n (91011 : Nat) ∧ y.n (91011 : Nat) ≤ (1023 : Int)) ∧ True) ∧ (((0 : Int) ≤ IntKind.i64.wrap (y.n (91073 : Nat) + (1 : Int)) ∧
      IntKind.i64.wrap (y.n (91073 : Nat) + (1 : Int)) ≤ (64 : Int)) ∧ True) ∧ True) ∧ ((5 : Nat) = (5 : Nat) ∧ (flat [Sp.r IntKind.u8 (0 : Int) (255 : Int)] = true ∧ Row [Sp.r
      IntKind.u8 (0 : Int) (255 : Int)] (y.l (0 : Nat))) ∧ (63 : Nat) = (63 : Nat) ∧ (((0 : Int) ≤ IntKind.i64.wrap (y.n (100007 : Nat) - (1 : Int)) ∧ IntKind.i64.wrap (y.n
      (100007 : Nat) - (1 : Int)) ≤ (68 : Int)) ∧ True) ∧ ([] : SW) = []) ∧ ((Ln (y.l (0 : Nat)) (8192 : Nat) ∧ EqT (y.s (100000 : Nat)) (y.l (0 : Nat)) (8192 : Nat)) ∧ O8 (y.n
      (100006 : Nat)) (y.l (0 : Nat)) (y.n (91011 : Nat)) ∧ IntKind.i64.wrap (y.n (100007 : Nat) - (1 : Int)) = (64 : Int) - IntKind.i64.wrap (y.n (91073 : Nat) + (1 : Int))) ∧
      (((2000 : Int) - y.n (91011 : Nat)) * (100 : Int) + ((64 : Int) - IntKind.i64.wrap (y.n (91073 : Nat) + (1 : Int)))).toNat < (((2000 : Int) - y.n (91011 : Nat)) * (100 :
      Int) + ((64 : Int) - y.n (91073 : Nat))).toNat ∧ True)) ∧ (decide (IntKind.i64.wrap (y.n (100007 : Nat) - (1 : Int)) ≥ (64 : Int)) = false → decide ((0 : Int) ≤
      IntKind.i64.wrap (y.n (100007 : Nat) - (1 : Int))) = true ∧ sameB (Bl.mk (y.l (0 : Nat)) (5 : Nat)) (Bl.mk (y.l (0 : Nat)) (5 : Nat)) = true ∧ ((bits BinOp.and IntKind.u8
      (IntKind.u8.wrap ((y.n (100006 : Nat)).fdiv ((2 : Int) ^ min (IntKind.i64.wrap (y.n (100007 : Nat) - (1 : Int))).toNat (64 : Nat)))) (1 : Int) != bits BinOp.and IntKind.u8
      ((rI (y.l (0 : Nat)) (IntKind.i64.wrap (IntKind.i64.wrap ((8 : Int) * y.n (91011 : Nat)) + IntKind.i64.wrap ((y.n (91073 : Nat)).tdiv (8 : Int)))).toNat).fdiv ((2 : Int) ^
      min (IntKind.i64.wrap ((7 : Int) - (y.n (91073 : Nat)).tmod (8 : Int))).toNat (8 : Nat))) (1 : Int)) = true → ([] : SW) = [] ∧ True ∧ false = true) ∧ ((bits BinOp.and
      IntKind.u8 (IntKind.u8.wrap ((y.n (100006 : Nat)).fdiv ((2 : Int) ^ min (IntKind.i64.wrap (y.n (100007 : Nat) - (1 : Int))).toNat (64 : Nat)))) (1 : Int) != bits BinOp.and
      IntKind.u8 ((rI (y.l (0 : Nat)) (IntKind.i64.wrap (IntKind.i64.wrap ((8 : Int) * y.n (91011 : Nat)) + IntKind.i64.wrap ((y.n (91073 : Nat)).tdiv (8 : Int)))).toNat).fdiv
      ((2 : Int) ^ min (IntKind.i64.wrap ((7 : Int) - (y.n (91073 : Nat)).tmod (8 : Int))).toNat (8 : Nat))) (1 : Int)) = false → t3a_td E = t3a_td E ∧ (98 : Nat) = (98 : Nat) ∧
      (True ∧ True ∧ (renC (posN [(0 : Nat), (1 : Nat)]) (C.rs (0 : Nat) (1 : Nat) (8192 : Nat)) = C.rs (0 : Nat) (1 : Nat) (8192 : Nat) ∧ True) ∧ True ∧ (((0 : Int) ≤ y.n
      (91011 : Nat) ∧ y.n (91011 : Nat) ≤ (1023 : Int)) ∧ True) ∧ (((0 : Int) ≤ IntKind.i64.wrap (y.n (91073 : Nat) + (1 : Int)) ∧ IntKind.i64.wrap (y.n (91073 : Nat) + (1 :
      Int)) ≤ (64 : Int)) ∧ True) ∧ True) ∧ ((5 : Nat) = (5 : Nat) ∧ (flat [Sp.r IntKind.u8 (0 : Int) (255 : Int)] = true ∧ Row [Sp.r IntKind.u8 (0 : Int) (255 : Int)] (y.l (0 :
      Nat))) ∧ (63 : Nat) = (63 : Nat) ∧ (((0 : Int) ≤ IntKind.i64.wrap (y.n (100007 : Nat) - (1 : Int)) ∧ IntKind.i64.wrap (y.n (100007 : Nat) - (1 : Int)) ≤ (68 : Int)) ∧
      True) ∧ ([] : SW) = []) ∧ ((Ln (y.l (0 : Nat)) (8192 : Nat) ∧ EqT (y.s (100000 : Nat)) (y.l (0 : Nat)) (8192 : Nat)) ∧ O8 (y.n (100006 : Nat)) (y.l (0 : Nat)) (y.n (91011
      : Nat)) ∧ IntKind.i64.wrap (y.n (100007 : Nat) - (1 : Int)) = (64 : Int) - IntKind.i64.wrap (y.n (91073 : Nat) + (1 : Int))) ∧ (((2000 : Int) - y.n (91011 : Nat)) * (100 :
      Int) + ((64 : Int) - IntKind.i64.wrap (y.n (91073 : Nat) + (1 : Int)))).toNat < (((2000 : Int) - y.n (91011 : Nat)) * (100 : Int) + ((64 : Int) - y.n (91073 : Nat))).toNat
      ∧ True))))) ∧ (decide (y.n (91073 : Nat) < (64 : Int)) = false → t2a_td E = t2a_td E ∧ (98 : Nat) = (98 : Nat) ∧ (True ∧ True ∧ (renC (posN [(0 : Nat), (1 : Nat)]) (C.rs
      (0 : Nat) (1 : Nat) (8192 : Nat)) = C.rs (0 : Nat) (1 : Nat) (8192 : Nat) ∧ True) ∧ True ∧ (((0 : Int) ≤ IntKind.i64.wrap (y.n (91011 : Nat) + (5 : Int)) ∧
      IntKind.i64.wrap (y.n (91011 : Nat) + (5 : Int)) ≤ (1029 : Int)) ∧ True) ∧ True) ∧ ((5 : Nat) = (5 : Nat) ∧ (flat [Sp.r IntKind.u8 (0 : Int) (255 : Int)] = true ∧ Row
      [Sp.r IntKind.u8 (0 : Int) (255 : Int)] (y.l (0 : Nat))) ∧ (63 : Nat) = (63 : Nat) ∧ (((0 : Int) ≤ y.n (100007 : Nat) ∧ y.n (100007 : Nat) ≤ (68 : Int)) ∧ True) ∧ ([] :
      SW) = []) ∧ ((Ln (y.l (0 : Nat)) (8192 : Nat) ∧ EqT (y.s (100000 : Nat)) (y.l (0 : Nat)) (8192 : Nat)) ∧ IntKind.i64.wrap (y.n (91011 : Nat) + (5 : Int)) ≤ (1028 : Int)) ∧
      (((2000 : Int) - IntKind.i64.wrap (y.n (91011 : Nat) + (5 : Int))) * (100 : Int) + (90 : Int)).toNat < (((2000 : Int) - y.n (91011 : Nat)) * (100 : Int) + ((64 : Int) -
      y.n (91073 : Nat))).toNat ∧ True)) := by kernel_rfl
end Go.Proofs.Ythgcieloijmgdaa

