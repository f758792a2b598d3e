import Derived.Test.YtpddbhfebhpohaaU
set_option linter.unusedVariables false
set_option linter.unusedSimpArgs false
namespace Go.Proofs.Ytpddbhfebhpohaa
open Go Go.Proofs Go.Proofs.Ytpddbhfebhpohaa.Ev Go.Proofs.Ytpddbhfebhpohaa.Ev.Ho
set_option maxRecDepth 100000
theorem stn_p (E : World) (z : PX)  :
    (hdP ([uB, tN] : List MB).length [uB, tW 2 3, pR, wR] (.t [.r .i64 (-1) 3, .b, .b]) (fun z y => (y.n 90000 = (rdy (U4.mk (Ch.mk (z.n 1) (z.n 2) (z.n 3) (z.n 4) (z.n 5) (z.n 6) (z.n 7) (z.b 8) (z.b 9) (z.n 10)) (Ch.mk (z.n 12) (z.n 13) (z.n 14) (z.n 15) (z.n 16) (z.n 17) (z.n 18) (z.b 19) (z.b 20) (z.n 21)) (Ch.mk (z.n 23) (z.n 24) (z.n 25) (z.n 26) (z.n 27) (z.n 28) (z.n 29) (z.b 30) (z.b 31) (z.n 32)) (Ch.mk (z.n 34) (z.n 35) (z.n 36) (z.n 37) (z.n 38) (z.n 39) (z.n 40) (z.b 41) (z.b 42) (z.n 43)))) ∧ y.b 90001 = dn (getC (U4.mk (Ch.mk (z.n 1) (z.n 2) (z.n 3) (z.n 4) (z.n 5) (z.n 6) (z.n 7) (z.b 8) (z.b 9) (z.n 10)) (Ch.mk (z.n 12) (z.n 13) (z.n 14) (z.n 15) (z.n 16) (z.n 17) (z.n 18) (z.b 19) (z.b 20) (z.n 21)) (Ch.mk (z.n 23) (z.n 24) (z.n 25) (z.n 26) (z.n 27) (z.n 28) (z.n 29) (z.b 30) (z.b 31) (z.n 32)) (Ch.mk (z.n 34) (z.n 35) (z.n 36) (z.n 37) (z.n 38) (z.n 39) (z.n 40) (z.b 41) (z.b 42) (z.n 43))) (rdy (U4.mk (Ch.mk (z.n 1) (z.n 2) (z.n 3) (z.n 4) (z.n 5) (z.n 6) (z.n 7) (z.b 8) (z.b 9) (z.n 10)) (Ch.mk (z.n 12) (z.n 13) (z.n 14) (z.n 15) (z.n 16) (z.n 17) (z.n 18) (z.b 19) (z.b 20) (z.n 21)) (Ch.mk (z.n 23) (z.n 24) (z.n 25) (z.n 26) (z.n 27) (z.n 28) (z.n 29) (z.b 30) (z.b 31) (z.n 32)) (Ch.mk (z.n 34) (z.n 35) (z.n 36) (z.n 37) (z.n 38) (z.n 39) (z.n 40) (z.b 41) (z.b 42) (z.n 43))))) ∧ y.b 90002 = (dn (getC (U4.mk (Ch.mk (z.n 1) (z.n 2) (z.n 3) (z.n 4) (z.n 5) (z.n 6) (z.n 7) (z.b 8) (z.b 9) (z.n 10)) (Ch.mk (z.n 12) (z.n 13) (z.n 14) (z.n 15) (z.n 16) (z.n 17) (z.n 18) (z.b 19) (z.b 20) (z.n 21)) (Ch.mk (z.n 23) (z.n 24) (z.n 25) (z.n 26) (z.n 27) (z.n 28) (z.n 29) (z.b 30) (z.b 31) (z.n 32)) (Ch.mk (z.n 34) (z.n 35) (z.n 36) (z.n 37) (z.n 38) (z.n 39) (z.n 40) (z.b 41) (z.b 42) (z.n 43))) (rdy (U4.mk (Ch.mk (z.n 1) (z.n 2) (z.n 3) (z.n 4) (z.n 5) (z.n 6) (z.n 7) (z.b 8) (z.b 9) (z.n 10)) (Ch.mk (z.n 12) (z.n 13) (z.n 14) (z.n 15) (z.n 16) (z.n 17) (z.n 18) (z.b 19) (z.b 20) (z.n 21)) (Ch.mk (z.n 23) (z.n 24) (z.n 25) (z.n 26) (z.n 27) (z.n 28) (z.n 29) (z.b 30) (z.b 31) (z.n 32)) (Ch.mk (z.n 34) (z.n 35) (z.n 36) (z.n 37) (z.n 38) (z.n 39) (z.n 40) (z.b 41) (z.b 42) (z.n 43))))) && asks (getC (U4.mk (Ch.mk (z.n 1) (z.n 2) (z.n 3) (z.n 4) (z.n 5) (z.n 6) (z.n 7) (z.b 8) (z.b 9) (z.n 10)) (Ch.mk (z.n 12) (z.n 13) (z.n 14) (z.n 15) (z.n 16) (z.n 17) (z.n 18) (z.b 19) (z.b 20) (z.n 21)) (Ch.mk (z.n 23) (z.n 24) (z.n 25) (z.n 26) (z.n 27) (z.n 28) (z.n 29) (z.b 30) (z.b 31) (z.n 32)) (Ch.mk (z.n 34) (z.n 35) (z.n 36) (z.n 37) (z.n 38) (z.n 39) (z.n 40) (z.b 41) (z.b 42) (z.n 43))) (rdy (U4.mk (Ch.mk (z.n 1) (z.n 2) (z.n 3) (z.n 4) (z.n 5) (z.n 6) (z.n 7) (z.b 8) (z.b 9) (z.n 10)) (Ch.mk (z.n 12) (z.n 13) (z.n 14) (z.n 15) (z.n 16) (z.n 17) (z.n 18) (z.b 19) (z.b 20) (z.n 21)) (Ch.mk (z.n 23) (z.n 24) (z.n 25) (z.n 26) (z.n 27) (z.n 28) (z.n 29) (z.b 30) (z.b 31) (z.n 32)) (Ch.mk (z.n 34) (z.n 35) (z.n 36) (z.n 37) (z.n 38) (z.n 39) (z.n 40) (z.b 41) (z.b 42) (z.n 43))))))) ∧ (U4.mk (Ch.mk (y.n 1) (y.n 2) (y.n 3) (y.n 4) (y.n 5) (y.n 6) (y.n 7) (y.b 8) (y.b 9) (y.n 10)) (Ch.mk (y.n 12) (y.n 13) (y.n 14) (y.n 15) (y.n 16) (y.n 17) (y.n 18) (y.b 19) (y.b 20) (y.n 21)) (Ch.mk (y.n 23) (y.n 24) (y.n 25) (y.n 26) (y.n 27) (y.n 28) (y.n 29) (y.b 30) (y.b 31) (y.n 32)) (Ch.mk (y.n 34) (y.n 35) (y.n 36) (y.n 37) (y.n 38) (y.n 39) (y.n 40) (y.b 41) (y.b 42) (y.n 43))) = stU (U4.mk (Ch.mk (z.n 1) (z.n 2) (z.n 3) (z.n 4) (z.n 5) (z.n 6) (z.n 7) (z.b 8) (z.b 9) (z.n 10)) (Ch.mk (z.n 12) (z.n 13) (z.n 14) (z.n 15) (z.n 16) (z.n 17) (z.n 18) (z.b 19) (z.b 20) (z.n 21)) (Ch.mk (z.n 23) (z.n 24) (z.n 25) (z.n 26) (z.n 27) (z.n 28) (z.n 29) (z.b 30) (z.b 31) (z.n 32)) (Ch.mk (z.n 34) (z.n 35) (z.n 36) (z.n 37) (z.n 38) (z.n 39) (z.n 40) (z.b 41) (z.b 42) (z.n 43))) ∧ NX (rdy (U4.mk (Ch.mk (z.n 1) (z.n 2) (z.n 3) (z.n 4) (z.n 5) (z.n 6) (z.n 7) (z.b 8) (z.b 9) (z.n 10)) (Ch.mk (z.n 12) (z.n 13) (z.n 14) (z.n 15) (z.n 16) (z.n 17) (z.n 18) (z.b 19) (z.b 20) (z.n 21)) (Ch.mk (z.n 23) (z.n 24) (z.n 25) (z.n 26) (z.n 27) (z.n 28) (z.n 29) (z.b 30) (z.b 31) (z.n 32)) (Ch.mk (z.n 34) (z.n 35) (z.n 36) (z.n 37) (z.n 38) (z.n 39) (z.n 40) (z.b 41) (z.b 42) (z.n 43)))) (wd (rdy (U4.mk (Ch.mk (z.n 1) (z.n 2) (z.n 3) (z.n 4) (z.n 5) (z.n 6) (z.n 7) (z.b 8) (z.b 9) (z.n 10)) (Ch.mk (z.n 12) (z.n 13) (z.n 14) (z.n 15) (z.n 16) (z.n 17) (z.n 18) (z.b 19) (z.b 20) (z.n 21)) (Ch.mk (z.n 23) (z.n 24) (z.n 25) (z.n 26) (z.n 27) (z.n 28) (z.n 29) (z.b 30) (z.b 31) (z.n 32)) (Ch.mk (z.n 34) (z.n 35) (z.n 36) (z.n 37) (z.n 38) (z.n 39) (z.n 40) (z.b 41) (z.b 42) (z.n 43)))) (Ch.control (getC (U4.mk (Ch.mk (z.n 1) (z.n 2) (z.n 3) (z.n 4) (z.n 5) (z.n 6) (z.n 7) (z.b 8) (z.b 9) (z.n 10)) (Ch.mk (z.n 12) (z.n 13) (z.n 14) (z.n 15) (z.n 16) (z.n 17) (z.n 18) (z.b 19) (z.b 20) (z.n 21)) (Ch.mk (z.n 23) (z.n 24) (z.n 25) (z.n 26) (z.n 27) (z.n 28) (z.n 29) (z.b 30) (z.b 31) (z.n 32)) (Ch.mk (z.n 34) (z.n 35) (z.n 36) (z.n 37) (z.n 38) (z.n 39) (z.n 40) (z.b 41) (z.b 42) (z.n 43))) (rdy (U4.mk (Ch.mk (z.n 1) (z.n 2) (z.n 3) (z.n 4) (z.n 5) (z.n 6) (z.n 7) (z.b 8) (z.b 9) (z.n 10)) (Ch.mk (z.n 12) (z.n 13) (z.n 14) (z.n 15) (z.n 16) (z.n 17) (z.n 18) (z.b 19) (z.b 20) (z.n 21)) (Ch.mk (z.n 23) (z.n 24) (z.n 25) (z.n 26) (z.n 27) (z.n 28) (z.n 29) (z.b 30) (z.b 31) (z.n 32)) (Ch.mk (z.n 34) (z.n 35) (z.n 36) (z.n 37) (z.n 38) (z.n 39) (z.n 40) (z.b 41) (z.b 42) (z.n 43))))))) (getC (U4.mk (Ch.mk (z.n 1) (z.n 2) (z.n 3) (z.n 4) (z.n 5) (z.n 6) (z.n 7) (z.b 8) (z.b 9) (z.n 10)) (Ch.mk (z.n 12) (z.n 13) (z.n 14) (z.n 15) (z.n 16) (z.n 17) (z.n 18) (z.b 19) (z.b 20) (z.n 21)) (Ch.mk (z.n 23) (z.n 24) (z.n 25) (z.n 26) (z.n 27) (z.n 28) (z.n 29) (z.b 30) (z.b 31) (z.n 32)) (Ch.mk (z.n 34) (z.n 35) (z.n 36) (z.n 37) (z.n 38) (z.n 39) (z.n 40) (z.b 41) (z.b 42) (z.n 43))) (rdy (U4.mk (Ch.mk (z.n 1) (z.n 2) (z.n 3) (z.n 4) (z.n 5) (z.n 6) (z.n 7) (z.b 8) (z.b 9) (z.n 10)) (Ch.mk (z.n 12) (z.n 13) (z.n 14) (z.n 15) (z.n 16) (z.n 17) (z.n 18) (z.b 19) (z.b 20) (z.n 21)) (Ch.mk (z.n 23) (z.n 24) (z.n 25) (z.n 26) (z.n 27) (z.n 28) (z.n 29) (z.b 30) (z.b 31) (z.n 32)) (Ch.mk (z.n 34) (z.n 35) (z.n 36) (z.n 37) (z.n 38) (z.n 39) (z.n 40) (z.b 41) (z.b 42) (z.n 43))))) 0 (y.n 100000) (y.n 100001) (y.l 2) (y.l 3)) z (fnTree (pe E) (orcC E) (tabL fns) 20000 Try.f12 [.c (.p 0 0), .c (.ifc 34 1 0)] (mkM z [] [uB, tN] 0))) =
    ((((62 : Nat) = (62 : Nat) ∧ (RGu z) ∧ ([] : SW) = []) ∧ True) ∧ ∀ (y : PX), (((-1 : Int) ≤ y.n 90000 ∧ y.n 90000 ≤ (3 : Int)) ∧ True) ∧ y.n 90000 = rdy (TU z) → ((bif
      decide (y.n 90000 < (0 : Int)) then true else false) = true → False) ∧ ((bif decide (y.n 90000 < (0 : Int)) then true else false) = false → ((y.n 90000 == (0 : Int)) =
      true → (((62 : Nat) = (62 : Nat) ∧ (RGu z) ∧ ([] : SW) = []) ∧ True) ∧ ∀ (y_1 : PX), (((2 : Int) ≤ y_1.n 90000 ∧ y_1.n 90000 ≤ (4 : Int)) ∧ True) ∧ y_1.n 90000 = wd (0 :
      Int) (z.n 4) → (((62 : Nat) = (62 : Nat) ∧ (RGu z) ∧ (38 : Nat) = (38 : Nat) ∧ True ∧ ([] : SW) = []) ∧ (y_1.n 90000 = (2 : Int) ∨ y_1.n 90000 = (4 : Int))) ∧ ∀ (y_2 :
      PX), ((RGu y_2) ∧ ((0 : Int) ≤ y_2.n 100000 ∧ (0 : Int) ≤ y_2.n 100001 ∧ True) ∧ (flat plS = true ∧ Row plS (y_2.l 2)) ∧ (flat [Sp.i IntKind.u32] = true ∧ Row [Sp.i
      IntKind.u32] (y_2.l 3)) ∧ True) ∧ True ∧ TU y_2 = setC (TU z) (0 : Int) (carC (y_1.n 90000)) ∧ NX (0 : Int) (y_1.n 90000) (cu0 z) (0 : Int) (y_2.n 100000) (y_2.n 100001)
      (y_2.l 2) (y_2.l 3) → (((62 : Nat) = (62 : Nat) ∧ (RGu y_2) ∧ ([] : SW) = []) ∧ (y_1.n 90000 = (2 : Int) ∨ y_1.n 90000 = (4 : Int))) ∧ ∀ (y_3 : PX), ((RGu y_3) ∧ True) ∧
      True ∧ TU y_3 = setC (TU y_2) (0 : Int) (advC (y_1.n 90000) (0 : Int)) → (decide (IntKind.i64.wrap (y_3.n 7 - (1 : Int)) > (0 : Int)) = true → ((62 : Nat) = (62 : Nat) ∧
      (RGu y_3) ∧ (38 : Nat) = (38 : Nat) ∧ True ∧ (48 : Nat) = (48 : Nat) ∧ (flat plS = true ∧ Row plS (y_2.l 2)) ∧ (27 : Nat) = (27 : Nat) ∧ (flat [Sp.i IntKind.u32] = true ∧
      Row [Sp.i IntKind.u32] (y_2.l 3)) ∧ ([] : SW) = []) ∧ (((-1 : Int) ≤ y.n 90000 ∧ y.n 90000 ≤ (3 : Int)) ∧ True) ∧ (y.n 90000 = rdy (TU z) ∧ false = dn (getC (TU z) (rdy
      (TU z))) ∧ false = (dn (getC (TU z) (rdy (TU z))) && asks (getC (TU z) (rdy (TU z))))) ∧ U4.mk (Ch.mk (y_3.n 1) (y_3.n 2) (y_3.n 3) (y_3.n 4) (y_3.n 5) (y_3.n 6)
      (IntKind.i64.wrap (y_3.n 7 - (1 : Int))) (y_3.b 8) (y_3.b 9) (y_3.n 10)) (cu1 y_3) (cu2 y_3) (cu3 y_3) = stU (TU z) ∧ NX (rdy (TU z)) (wd (rdy (TU z)) (getC (TU z) (rdy
      (TU z))).control) (getC (TU z) (rdy (TU z))) (0 : Int) (↑(y_2.n 100000).toNat : Int) (↑(y_2.n 100001).toNat : Int) (y_2.l 2) (y_2.l 3)) ∧ (decide (IntKind.i64.wrap (y_3.n
      7 - (1 : Int)) > (0 : Int)) = false → (((62 : Nat) = (62 : Nat) ∧ (RGu y_3) ∧ ([] : SW) = []) ∧ True) ∧ ∀ (y_4 : PX), ((RGu y_4) ∧ True) ∧ True ∧ TU y_4 = setC (U4.mk
      (Ch.mk (y_3.n 1) (y_3.n 2) (y_3.n 3) (y_3.n 4) (y_3.n 5) (y_3.n 6) (IntKind.i64.wrap (y_3.n 7 - (1 : Int))) (y_3.b 8) (y_3.b 9) (y_3.n 10)) (cu1 y_3) (cu2 y_3) (cu3 y_3))
      (0 : Int) (endC (0 : Int)) → ((62 : Nat) = (62 : Nat) ∧ (RGu y_4) ∧ (38 : Nat) = (38 : Nat) ∧ True ∧ (48 : Nat) = (48 : Nat) ∧ (flat plS = true ∧ Row plS (y_2.l 2)) ∧ (27
      : Nat) = (27 : Nat) ∧ (flat [Sp.i IntKind.u32] = true ∧ Row [Sp.i IntKind.u32] (y_2.l 3)) ∧ ([] : SW) = []) ∧ (((-1 : Int) ≤ y.n 90000 ∧ y.n 90000 ≤ (3 : Int)) ∧ True) ∧
      (y.n 90000 = rdy (TU z) ∧ true = dn (getC (TU z) (rdy (TU z))) ∧ (bits BinOp.and IntKind.u16 (y_4.n 4) (16384 : Int) != (0 : Int)) = (dn (getC (TU z) (rdy (TU z))) && asks
      (getC (TU z) (rdy (TU z))))) ∧ TU y_4 = stU (TU z) ∧ NX (rdy (TU z)) (wd (rdy (TU z)) (getC (TU z) (rdy (TU z))).control) (getC (TU z) (rdy (TU z))) (0 : Int) (↑(y_2.n
      100000).toNat : Int) (↑(y_2.n 100001).toNat : Int) (y_2.l 2) (y_2.l 3))) ∧ ((y.n 90000 == (0 : Int)) = false → ((y.n 90000 == (1 : Int)) = true → (((62 : Nat) = (62 : Nat)
      ∧ (RGu z) ∧ ([] : SW) = []) ∧ True) ∧ ∀ (y_1 : PX), (((2 : Int) ≤ y_1.n 90000 ∧ y_1.n 90000 ≤ (4 : Int)) ∧ True) ∧ y_1.n 90000 = wd (1 : Int) (z.n 15) → (((62 : Nat) = (62
      : Nat) ∧ (RGu z) ∧ (38 : Nat) = (38 : Nat) ∧ True ∧ ([] : SW) = []) ∧ (y_1.n 90000 = (2 : Int) ∨ y_1.n 90000 = (4 : Int))) ∧ ∀ (y_2 : PX), ((RGu y_2) ∧ ((0 : Int) ≤ y_2.n
      100000 ∧ (0 : Int) ≤ y_2.n 100001 ∧ True) ∧ (flat plS = true ∧ Row plS (y_2.l 2)) ∧ (flat [Sp.i IntKind.u32] = true ∧ Row [Sp.i IntKind.u32] (y_2.l 3)) ∧ True) ∧ True ∧ TU
      y_2 = setC (TU z) (1 : Int) (carC (y_1.n 90000)) ∧ NX (1 : Int) (y_1.n 90000) (cu1 z) (0 : Int) (y_2.n 100000) (y_2.n 100001) (y_2.l 2) (y_2.l 3) → (((62 : Nat) = (62 :
      Nat) ∧ (RGu y_2) ∧ ([] : SW) = []) ∧ (y_1.n 90000 = (2 : Int) ∨ y_1.n 90000 = (4 : Int))) ∧ ∀ (y_3 : PX), ((RGu y_3) ∧ True) ∧ True ∧ TU y_3 = setC (TU y_2) (1 : Int)
      (advC (y_1.n 90000) (1 : Int)) → (decide (IntKind.i64.wrap (y_3.n 18 - (1 : Int)) > (0 : Int)) = true → ((62 : Nat) = (62 : Nat) ∧ (RGu y_3) ∧ (38 : Nat) = (38 : Nat) ∧
      True ∧ (48 : Nat) = (48 : Nat) ∧ (flat plS = true ∧ Row plS (y_2.l 2)) ∧ (27 : Nat) = (27 : Nat) ∧ (flat [Sp.i IntKind.u32] = true ∧ Row [Sp.i IntKind.u32] (y_2.l 3)) ∧
      ([] : SW) = []) ∧ (((-1 : Int) ≤ y.n 90000 ∧ y.n 90000 ≤ (3 : Int)) ∧ True) ∧ (y.n 90000 = rdy (TU z) ∧ false = dn (getC (TU z) (rdy (TU z))) ∧ false = (dn (getC (TU z)
      (rdy (TU z))) && asks (getC (TU z) (rdy (TU z))))) ∧ U4.mk (cu0 y_3) (Ch.mk (y_3.n 12) (y_3.n 13) (y_3.n 14) (y_3.n 15) (y_3.n 16) (y_3.n 17) (IntKind.i64.wrap (y_3.n 18 -
      (1 : Int))) (y_3.b 19) (y_3.b 20) (y_3.n 21)) (cu2 y_3) (cu3 y_3) = stU (TU z) ∧ NX (rdy (TU z)) (wd (rdy (TU z)) (getC (TU z) (rdy (TU z))).control) (getC (TU z) (rdy (TU
      z))) (0 : Int) (↑(y_2.n 100000).toNat : Int) (↑(y_2.n 100001).toNat : Int) (y_2.l 2) (y_2.l 3)) ∧ (decide (IntKind.i64.wrap (y_3.n 18 - (1 : Int)) > (0 : Int)) = false →
      (((62 : Nat) = (62 : Nat) ∧ (RGu y_3) ∧ ([] : SW) = []) ∧ True) ∧ ∀ (y_4 : PX), ((RGu y_4) ∧ True) ∧ True ∧ TU y_4 = setC (U4.mk (cu0 y_3) (Ch.mk (y_3.n 12) (y_3.n 13)
      (y_3.n 14) (y_3.n 15) (y_3.n 16) (y_3.n 17) (IntKind.i64.wrap (y_3.n 18 - (1 : Int))) (y_3.b 19) (y_3.b 20) (y_3.n 21)) (cu2 y_3) (cu3 y_3)) (1 : Int) (endC (1 : Int)) →
      ((62 : Nat) = (62 : Nat) ∧ (RGu y_4) ∧ (38 : Nat) = (38 : Nat) ∧ True ∧ (48 : Nat) = (48 : Nat) ∧ (flat plS = true ∧ Row plS (y_2.l 2)) ∧ (27 : Nat) = (27 : Nat) ∧ (flat
      [Sp.i IntKind.u32] = true ∧ Row [Sp.i IntKind.u32] (y_2.l 3)) ∧ ([] : SW) = []) ∧ (((-1 : Int) ≤ y.n 90000 ∧ y.n 90000 ≤ (3 : Int)) ∧ True) ∧ (y.n 90000 = rdy (TU z) ∧
      true = dn (getC (TU z) (rdy (TU z))) ∧ (bits BinOp.and IntKind.u16 (y_4.n 15) (16384 : Int) != (0 : Int)) = (dn (getC (TU z) (rdy (TU z))) && asks (getC (TU z) (rdy (TU
      z))))) ∧ TU y_4 = stU (TU z) ∧ NX (rdy (TU z)) (wd (rdy (TU z)) (getC (TU z) (rdy (TU z))).control) (getC (TU z) (rdy (TU z))) (0 : Int) (↑(y_2.n 100000).toNat : Int)
      (↑(y_2.n 100001).toNat : Int) (y_2.l 2) (y_2.l 3))) ∧ ((y.n 90000 == (1 : Int)) = false → ((y.n 90000 == (2 : Int)) = true → (((62 : Nat) = (62 : Nat) ∧ (RGu z) ∧ ([] :
      SW) = []) ∧ True) ∧ ∀ (y_1 : PX), (((2 : Int) ≤ y_1.n 90000 ∧ y_1.n 90000 ≤ (4 : Int)) ∧ True) ∧ y_1.n 90000 = wd (2 : Int) (z.n 26) → (((62 : Nat) = (62 : Nat) ∧ (RGu z)
      ∧ (38 : Nat) = (38 : Nat) ∧ True ∧ ([] : SW) = []) ∧ (y_1.n 90000 = (2 : Int) ∨ y_1.n 90000 = (4 : Int))) ∧ ∀ (y_2 : PX), ((RGu y_2) ∧ ((0 : Int) ≤ y_2.n 100000 ∧ (0 :
      Int) ≤ y_2.n 100001 ∧ True) ∧ (flat plS = true ∧ Row plS (y_2.l 2)) ∧ (flat [Sp.i IntKind.u32] = true ∧ Row [Sp.i IntKind.u32] (y_2.l 3)) ∧ True) ∧ True ∧ TU y_2 = setC
      (TU z) (2 : Int) (carC (y_1.n 90000)) ∧ NX (2 : Int) (y_1.n 90000) (cu2 z) (0 : Int) (y_2.n 100000) (y_2.n 100001) (y_2.l 2) (y_2.l 3) → (((62 : Nat) = (62 : Nat) ∧ (RGu
      y_2) ∧ ([] : SW) = []) ∧ (y_1.n 90000 = (2 : Int) ∨ y_1.n 90000 = (4 : Int))) ∧ ∀ (y_3 : PX), ((RGu y_3) ∧ True) ∧ True ∧ TU y_3 = setC (TU y_2) (2 : Int) (advC (y_1.n
      90000) (2 : Int)) → (decide (IntKind.i64.wrap (y_3.n 29 - (1 : Int)) > (0 : Int)) = true → ((62 : Nat) = (62 : Nat) ∧ (RGu y_3) ∧ (38 : Nat) = (38 : Nat) ∧ True ∧ (48 :
      Nat) = (48 : Nat) ∧ (flat plS = true ∧ Row plS (y_2.l 2)) ∧ (27 : Nat) = (27 : Nat) ∧ (flat [Sp.i IntKind.u32] = true ∧ Row [Sp.i IntKind.u32] (y_2.l 3)) ∧ ([] : SW) = [])
      ∧ (((-1 : Int) ≤ y.n 90000 ∧ y.n 90000 ≤ (3 : Int)) ∧ True) ∧ (y.n 90000 = rdy (TU z) ∧ false = dn (getC (TU z) (rdy (TU z))) ∧ false = (dn (getC (TU z) (rdy (TU z))) &&
      asks (getC (TU z) (rdy (TU z))))) ∧ U4.mk (cu0 y_3) (cu1 y_3) (Ch.mk (y_3.n 23) (y_3.n 24) (y_3.n 25) (y_3.n 26) (y_3.n 27) (y_3.n 28) (IntKind.i64.wrap (y_3.n 29 - (1 :
      Int))) (y_3.b 30) (y_3.b 31) (y_3.n 32)) (cu3 y_3) = stU (TU z) ∧ NX (rdy (TU z)) (wd (rdy (TU z)) (getC (TU z) (rdy (TU z))).control) (getC (TU z) (rdy (TU z))) (0 : Int)
      (↑(y_2.n 100000).toNat : Int) (↑(y_2.n 100001).toNat : Int) (y_2.l 2) (y_2.l 3)) ∧ (decide (IntKind.i64.wrap (y_3.n 29 - (1 : Int)) > (0 : Int)) = false → (((62 : Nat) =
      (62 : Nat) ∧ (RGu y_3) ∧ ([] : SW) = []) ∧ True) ∧ ∀ (y_4 : PX), ((RGu y_4) ∧ True) ∧ True ∧ TU y_4 = setC (U4.mk (cu0 y_3) (cu1 y_3) (Ch.mk (y_3.n 23) (y_3.n 24) (y_3.n
      25) (y_3.n 26) (y_3.n 27) (y_3.n 28) (IntKind.i64.wrap (y_3.n 29 - (1 : Int))) (y_3.b 30) (y_3.b 31) (y_3.n 32)) (cu3 y_3)) (2 : Int) (endC (2 : Int)) → ((62 : Nat) = (62
      : Nat) ∧ (RGu y_4) ∧ (38 : Nat) = (38 : Nat) ∧ True ∧ (48 : Nat) = (48 : Nat) ∧ (flat plS = true ∧ Row plS (y_2.l 2)) ∧ (27 : Nat) = (27 : Nat) ∧ (flat [Sp.i IntKind.u32]
      = true ∧ Row [Sp.i IntKind.u32] (y_2.l 3)) ∧ ([] : SW) = []) ∧ (((-1 : Int) ≤ y.n 90000 ∧ y.n 90000 ≤ (3 : Int)) ∧ True) ∧ (y.n 90000 = rdy (TU z) ∧ true = dn (getC (TU z)
      (rdy (TU z))) ∧ (bits BinOp.and IntKind.u16 (y_4.n 26) (16384 : Int) != (0 : Int)) = (dn (getC (TU z) (rdy (TU z))) && asks (getC (TU z) (rdy (TU z))))) ∧ TU y_4 = stU (TU
      z) ∧ NX (rdy (TU z)) (wd (rdy (TU z)) (getC (TU z) (rdy (TU z))).control) (getC (TU z) (rdy (TU z))) (0 : Int) (↑(y_2.n 100000).toNat : Int) (↑(y_2.n 100001).toNat : Int)
      (y_2.l 2) (y_2.l 3))) ∧ ((y.n 90000 == (2 : Int)) = false → ((y.n 90000 == (3 : Int)) = true → (((62 : Nat) = (62 : Nat) ∧ (RGu z) ∧ ([] : SW) = []) ∧ True) ∧ ∀ (y_1 :
      PX), (((2 : Int) ≤ y_1.n 90000 ∧ y_1.n 90000 ≤ (4 : Int)) ∧ True) ∧ y_1.n 90000 = wd (3 : Int) (z.n 37) → (((62 : Nat) = (62 : Nat) ∧ (RGu z) ∧ (38 : Nat) = (38 : Nat) ∧
      True ∧ ([] : SW) = []) ∧ (y_1.n 90000 = (2 : Int) ∨ y_1.n 90000 = (4 : Int))) ∧ ∀ (y_2 : PX), ((RGu y_2) ∧ ((0 : Int) ≤ y_2.n 100000 ∧ (0 : Int) ≤ y_2.n 100001 ∧ True) ∧
      (flat plS = true ∧ Row plS (y_2.l 2)) ∧ (flat [Sp.i IntKind.u32] = true ∧ Row [Sp.i IntKind.u32] (y_2.l 3)) ∧ True) ∧ True ∧ TU y_2 = setC (TU z) (3 : Int) (carC (y_1.n
      90000)) ∧ NX (3 : Int) (y_1.n 90000) (cu3 z) (0 : Int) (y_2.n 100000) (y_2.n 100001) (y_2.l 2) (y_2.l 3) → (((62 : Nat) = (62 : Nat) ∧ (RGu y_2) ∧ ([] : SW) = []) ∧ (y_1.n
      90000 = (2 : Int) ∨ y_1.n 90000 = (4 : Int))) ∧ ∀ (y_3 : PX), ((RGu y_3) ∧ True) ∧ True ∧ TU y_3 = setC (TU y_2) (3 : Int) (advC (y_1.n 90000) (3 : Int)) → (decide
      (IntKind.i64.wrap (y_3.n 40 - (1 : Int)) > (0 : Int)) = true → ((62 : Nat) = (62 : Nat) ∧ (RGu y_3) ∧ (38 : Nat) = (38 : Nat) ∧ True ∧ (48 : Nat) = (48 : Nat) ∧ (flat plS
      = true ∧ Row plS (y_2.l 2)) ∧ (27 : Nat) = (27 : Nat) ∧ (flat [Sp.i IntKind.u32] = true ∧ Row [Sp.i IntKind.u32] (y_2.l 3)) ∧ ([] : SW) = []) ∧ (((-1 : Int) ≤ y.n 90000 ∧
      y.n 90000 ≤ (3 : Int)) ∧ True) ∧ (y.n 90000 = rdy (TU z) ∧ false = dn (getC (TU z) (rdy (TU z))) ∧ false = (dn (getC (TU z) (rdy (TU z))) && asks (getC (TU z) (rdy (TU
      z))))) ∧ U4.mk (cu0 y_3) (cu1 y_3) (cu2 y_3) (Ch.mk (y_3.n 34) (y_3.n 35) (y_3.n 36) (y_3.n 37) (y_3.n 38) (y_3.n 39) (IntKind.i64.wrap (y_3.n 40 - (1 : Int))) (y_3.b 41)
      (y_3.b 42) (y_3.n 43)) = stU (TU z) ∧ NX (rdy (TU z)) (wd (rdy (TU z)) (getC (TU z) (rdy (TU z))).control) (getC (TU z) (rdy (TU z))) (0 : Int) (↑(y_2.n 100000).toNat :
      Int) (↑(y_2.n 100001).toNat : Int) (y_2.l 2) (y_2.l 3)) ∧ (decide (IntKind.i64.wrap (y_3.n 40 - (1 : Int)) > (0 : Int)) = false → (((62 : Nat) = (62 : Nat) ∧ (RGu y_3) ∧
      ([] : SW) = []) ∧ True) ∧ ∀ (y_4 : PX), ((RGu y_4) ∧ True) ∧ True ∧ TU y_4 = setC (U4.mk (cu0 y_3) (cu1 y_3) (cu2 y_3) (Ch.mk (y_3.n 34) (y_3.n 35) (y_3.n 36) (y_3.n 37)
      (y_3.n 38) (y_3.n 39) (IntKind.i64.wrap (y_3.n 40 - (1 : Int))) (y_3.b 41) (y_3.b 42) (y_3.n 43))) (3 : Int) (endC (3 : Int)) → ((62 : Nat) = (62 : Nat) ∧ (RGu y_4) ∧ (38
      : Nat) = (38 : Nat) ∧ True ∧ (48 : Nat) = (48 : Nat) ∧ (flat plS = true ∧ Row plS (y_2.l 2)) ∧ (27 : Nat) = (27 : Nat) ∧ (flat [Sp.i IntKind.u32] = true ∧ Row [Sp.i
      IntKind.u32] (y_2.l 3)) ∧ ([] : SW) = []) ∧ (((-1 : Int) ≤ y.n 90000 ∧ y.n 90000 ≤ (3 : Int)) ∧ True) ∧ (y.n 90000 = rdy (TU z) ∧ true = dn (getC (TU z) (rdy (TU z))) ∧
      (bits BinOp.and IntKind.u16 (y_4.n 37) (16384 : Int) != (0 : Int)) = (dn (getC (TU z) (rdy (TU z))) && asks (getC (TU z) (rdy (TU z))))) ∧ TU y_4 = stU (TU z) ∧ NX (rdy
      (TU z)) (wd (rdy (TU z)) (getC (TU z) (rdy (TU z))).control) (getC (TU z) (rdy (TU z))) (0 : Int) (↑(y_2.n 100000).toNat : Int) (↑(y_2.n 100001).toNat : Int) (y_2.l 2)
      (y_2.l 3))) ∧ ((y.n 90000 == (3 : Int)) = false → False)))))) := by kernel_rfl
set_option maxHeartbeats 4000000 in
theorem stn_c (E : World)  (z : PX) (hz : rgM z [uB, tN] 0) (hp : (fun z => 0 ≤ (rdy (U4.mk (Ch.mk (z.n 1) (z.n 2) (z.n 3) (z.n 4) (z.n 5) (z.n 6) (z.n 7) (z.b 8) (z.b 9) (z.n 10)) (Ch.mk (z.n 12) (z.n 13) (z.n 14) (z.n 15) (z.n 16) (z.n 17) (z.n 18) (z.b 19) (z.b 20) (z.n 21)) (Ch.mk (z.n 23) (z.n 24) (z.n 25) (z.n 26) (z.n 27) (z.n 28) (z.n 29) (z.b 30) (z.b 31) (z.n 32)) (Ch.mk (z.n 34) (z.n 35) (z.n 36) (z.n 37) (z.n 38) (z.n 39) (z.n 40) (z.b 41) (z.b 42) (z.n 43))))) z) : HD (pe E) 12 [.c (.p 0 0), .c (.ifc 34 1 0)] [uB, tN] [uB, tW 2 3, pR, wR] (.t [.r .i64 (-1) 3, .b, .b]) (fun z y => (y.n 90000 = (rdy (U4.mk (Ch.mk (z.n 1) (z.n 2) (z.n 3) (z.n 4) (z.n 5) (z.n 6) (z.n 7) (z.b 8) (z.b 9) (z.n 10)) (Ch.mk (z.n 12) (z.n 13) (z.n 14) (z.n 15) (z.n 16) (z.n 17) (z.n 18) (z.b 19) (z.b 20) (z.n 21)) (Ch.mk (z.n 23) (z.n 24) (z.n 25) (z.n 26) (z.n 27) (z.n 28) (z.n 29) (z.b 30) (z.b 31) (z.n 32)) (Ch.mk (z.n 34) (z.n 35) (z.n 36) (z.n 37) (z.n 38) (z.n 39) (z.n 40) (z.b 41) (z.b 42) (z.n 43)))) ∧ y.b 90001 = dn (getC (U4.mk (Ch.mk (z.n 1) (z.n 2) (z.n 3) (z.n 4) (z.n 5) (z.n 6) (z.n 7) (z.b 8) (z.b 9) (z.n 10)) (Ch.mk (z.n 12) (z.n 13) (z.n 14) (z.n 15) (z.n 16) (z.n 17) (z.n 18) (z.b 19) (z.b 20) (z.n 21)) (Ch.mk (z.n 23) (z.n 24) (z.n 25) (z.n 26) (z.n 27) (z.n 28) (z.n 29) (z.b 30) (z.b 31) (z.n 32)) (Ch.mk (z.n 34) (z.n 35) (z.n 36) (z.n 37) (z.n 38) (z.n 39) (z.n 40) (z.b 41) (z.b 42) (z.n 43))) (rdy (U4.mk (Ch.mk (z.n 1) (z.n 2) (z.n 3) (z.n 4) (z.n 5) (z.n 6) (z.n 7) (z.b 8) (z.b 9) (z.n 10)) (Ch.mk (z.n 12) (z.n 13) (z.n 14) (z.n 15) (z.n 16) (z.n 17) (z.n 18) (z.b 19) (z.b 20) (z.n 21)) (Ch.mk (z.n 23) (z.n 24) (z.n 25) (z.n 26) (z.n 27) (z.n 28) (z.n 29) (z.b 30) (z.b 31) (z.n 32)) (Ch.mk (z.n 34) (z.n 35) (z.n 36) (z.n 37) (z.n 38) (z.n 39) (z.n 40) (z.b 41) (z.b 42) (z.n 43))))) ∧ y.b 90002 = (dn (getC (U4.mk (Ch.mk (z.n 1) (z.n 2) (z.n 3) (z.n 4) (z.n 5) (z.n 6) (z.n 7) (z.b 8) (z.b 9) (z.n 10)) (Ch.mk (z.n 12) (z.n 13) (z.n 14) (z.n 15) (z.n 16) (z.n 17) (z.n 18) (z.b 19) (z.b 20) (z.n 21)) (Ch.mk (z.n 23) (z.n 24) (z.n 25) (z.n 26) (z.n 27) (z.n 28) (z.n 29) (z.b 30) (z.b 31) (z.n 32)) (Ch.mk (z.n 34) (z.n 35) (z.n 36) (z.n 37) (z.n 38) (z.n 39) (z.n 40) (z.b 41) (z.b 42) (z.n 43))) (rdy (U4.mk (Ch.mk (z.n 1) (z.n 2) (z.n 3) (z.n 4) (z.n 5) (z.n 6) (z.n 7) (z.b 8) (z.b 9) (z.n 10)) (Ch.mk (z.n 12) (z.n 13) (z.n 14) (z.n 15) (z.n 16) (z.n 17) (z.n 18) (z.b 19) (z.b 20) (z.n 21)) (Ch.mk (z.n 23) (z.n 24) (z.n 25) (z.n 26) (z.n 27) (z.n 28) (z.n 29) (z.b 30) (z.b 31) (z.n 32)) (Ch.mk (z.n 34) (z.n 35) (z.n 36) (z.n 37) (z.n 38) (z.n 39) (z.n 40) (z.b 41) (z.b 42) (z.n 43))))) && asks (getC (U4.mk (Ch.mk (z.n 1) (z.n 2) (z.n 3) (z.n 4) (z.n 5) (z.n 6) (z.n 7) (z.b 8) (z.b 9) (z.n 10)) (Ch.mk (z.n 12) (z.n 13) (z.n 14) (z.n 15) (z.n 16) (z.n 17) (z.n 18) (z.b 19) (z.b 20) (z.n 21)) (Ch.mk (z.n 23) (z.n 24) (z.n 25) (z.n 26) (z.n 27) (z.n 28) (z.n 29) (z.b 30) (z.b 31) (z.n 32)) (Ch.mk (z.n 34) (z.n 35) (z.n 36) (z.n 37) (z.n 38) (z.n 39) (z.n 40) (z.b 41) (z.b 42) (z.n 43))) (rdy (U4.mk (Ch.mk (z.n 1) (z.n 2) (z.n 3) (z.n 4) (z.n 5) (z.n 6) (z.n 7) (z.b 8) (z.b 9) (z.n 10)) (Ch.mk (z.n 12) (z.n 13) (z.n 14) (z.n 15) (z.n 16) (z.n 17) (z.n 18) (z.b 19) (z.b 20) (z.n 21)) (Ch.mk (z.n 23) (z.n 24) (z.n 25) (z.n 26) (z.n 27) (z.n 28) (z.n 29) (z.b 30) (z.b 31) (z.n 32)) (Ch.mk (z.n 34) (z.n 35) (z.n 36) (z.n 37) (z.n 38) (z.n 39) (z.n 40) (z.b 41) (z.b 42) (z.n 43))))))) ∧ (U4.mk (Ch.mk (y.n 1) (y.n 2) (y.n 3) (y.n 4) (y.n 5) (y.n 6) (y.n 7) (y.b 8) (y.b 9) (y.n 10)) (Ch.mk (y.n 12) (y.n 13) (y.n 14) (y.n 15) (y.n 16) (y.n 17) (y.n 18) (y.b 19) (y.b 20) (y.n 21)) (Ch.mk (y.n 23) (y.n 24) (y.n 25) (y.n 26) (y.n 27) (y.n 28) (y.n 29) (y.b 30) (y.b 31) (y.n 32)) (Ch.mk (y.n 34) (y.n 35) (y.n 36) (y.n 37) (y.n 38) (y.n 39) (y.n 40) (y.b 41) (y.b 42) (y.n 43))) = stU (U4.mk (Ch.mk (z.n 1) (z.n 2) (z.n 3) (z.n 4) (z.n 5) (z.n 6) (z.n 7) (z.b 8) (z.b 9) (z.n 10)) (Ch.mk (z.n 12) (z.n 13) (z.n 14) (z.n 15) (z.n 16) (z.n 17) (z.n 18) (z.b 19) (z.b 20) (z.n 21)) (Ch.mk (z.n 23) (z.n 24) (z.n 25) (z.n 26) (z.n 27) (z.n 28) (z.n 29) (z.b 30) (z.b 31) (z.n 32)) (Ch.mk (z.n 34) (z.n 35) (z.n 36) (z.n 37) (z.n 38) (z.n 39) (z.n 40) (z.b 41) (z.b 42) (z.n 43))) ∧ NX (rdy (U4.mk (Ch.mk (z.n 1) (z.n 2) (z.n 3) (z.n 4) (z.n 5) (z.n 6) (z.n 7) (z.b 8) (z.b 9) (z.n 10)) (Ch.mk (z.n 12) (z.n 13) (z.n 14) (z.n 15) (z.n 16) (z.n 17) (z.n 18) (z.b 19) (z.b 20) (z.n 21)) (Ch.mk (z.n 23) (z.n 24) (z.n 25) (z.n 26) (z.n 27) (z.n 28) (z.n 29) (z.b 30) (z.b 31) (z.n 32)) (Ch.mk (z.n 34) (z.n 35) (z.n 36) (z.n 37) (z.n 38) (z.n 39) (z.n 40) (z.b 41) (z.b 42) (z.n 43)))) (wd (rdy (U4.mk (Ch.mk (z.n 1) (z.n 2) (z.n 3) (z.n 4) (z.n 5) (z.n 6) (z.n 7) (z.b 8) (z.b 9) (z.n 10)) (Ch.mk (z.n 12) (z.n 13) (z.n 14) (z.n 15) (z.n 16) (z.n 17) (z.n 18) (z.b 19) (z.b 20) (z.n 21)) (Ch.mk (z.n 23) (z.n 24) (z.n 25) (z.n 26) (z.n 27) (z.n 28) (z.n 29) (z.b 30) (z.b 31) (z.n 32)) (Ch.mk (z.n 34) (z.n 35) (z.n 36) (z.n 37) (z.n 38) (z.n 39) (z.n 40) (z.b 41) (z.b 42) (z.n 43)))) (Ch.control (getC (U4.mk (Ch.mk (z.n 1) (z.n 2) (z.n 3) (z.n 4) (z.n 5) (z.n 6) (z.n 7) (z.b 8) (z.b 9) (z.n 10)) (Ch.mk (z.n 12) (z.n 13) (z.n 14) (z.n 15) (z.n 16) (z.n 17) (z.n 18) (z.b 19) (z.b 20) (z.n 21)) (Ch.mk (z.n 23) (z.n 24) (z.n 25) (z.n 26) (z.n 27) (z.n 28) (z.n 29) (z.b 30) (z.b 31) (z.n 32)) (Ch.mk (z.n 34) (z.n 35) (z.n 36) (z.n 37) (z.n 38) (z.n 39) (z.n 40) (z.b 41) (z.b 42) (z.n 43))) (rdy (U4.mk (Ch.mk (z.n 1) (z.n 2) (z.n 3) (z.n 4) (z.n 5) (z.n 6) (z.n 7) (z.b 8) (z.b 9) (z.n 10)) (Ch.mk (z.n 12) (z.n 13) (z.n 14) (z.n 15) (z.n 16) (z.n 17) (z.n 18) (z.b 19) (z.b 20) (z.n 21)) (Ch.mk (z.n 23) (z.n 24) (z.n 25) (z.n 26) (z.n 27) (z.n 28) (z.n 29) (z.b 30) (z.b 31) (z.n 32)) (Ch.mk (z.n 34) (z.n 35) (z.n 36) (z.n 37) (z.n 38) (z.n 39) (z.n 40) (z.b 41) (z.b 42) (z.n 43))))))) (getC (U4.mk (Ch.mk (z.n 1) (z.n 2) (z.n 3) (z.n 4) (z.n 5) (z.n 6) (z.n 7) (z.b 8) (z.b 9) (z.n 10)) (Ch.mk (z.n 12) (z.n 13) (z.n 14) (z.n 15) (z.n 16) (z.n 17) (z.n 18) (z.b 19) (z.b 20) (z.n 21)) (Ch.mk (z.n 23) (z.n 24) (z.n 25) (z.n 26) (z.n 27) (z.n 28) (z.n 29) (z.b 30) (z.b 31) (z.n 32)) (Ch.mk (z.n 34) (z.n 35) (z.n 36) (z.n 37) (z.n 38) (z.n 39) (z.n 40) (z.b 41) (z.b 42) (z.n 43))) (rdy (U4.mk (Ch.mk (z.n 1) (z.n 2) (z.n 3) (z.n 4) (z.n 5) (z.n 6) (z.n 7) (z.b 8) (z.b 9) (z.n 10)) (Ch.mk (z.n 12) (z.n 13) (z.n 14) (z.n 15) (z.n 16) (z.n 17) (z.n 18) (z.b 19) (z.b 20) (z.n 21)) (Ch.mk (z.n 23) (z.n 24) (z.n 25) (z.n 26) (z.n 27) (z.n 28) (z.n 29) (z.b 30) (z.b 31) (z.n 32)) (Ch.mk (z.n 34) (z.n 35) (z.n 36) (z.n 37) (z.n 38) (z.n 39) (z.n 40) (z.b 41) (z.b 42) (z.n 43))))) 0 (y.n 100000) (y.n 100001) (y.l 2) (y.l 3)) z := by
  refine HD.mk (by rfl) (fnTree_sound (P := pe E) orcC_ok tab_ok tab_sz mixed 20000 Try.func12 (by decide) [.c (.p 0 0), .c (.ifc 34 1 0)] _) ⟨?_⟩
  rw [stn_p]
  have hR : RGu z := rg_u (show rgM z uMs 0 from ⟨hz.1, trivial⟩)
  have hp0 : 0 ≤ rdy (TU z) := hp
  refine ⟨by ((repeat' (first | exact trivial | with_reducible rfl | assumption | apply And.intro)) <;> omega), ?_⟩
  rintro y ⟨⟨⟨r0, r1⟩, _⟩, hrd⟩
  have hy0 : 0 ≤ y.n 90000 := by rw [hrd]; exact hp0
  refine ⟨fun h => ?_, fun _ => ⟨fun hk => ?_, fun n0 => ⟨fun hk => ?_, fun n1 => ⟨fun hk => ?_, fun n2 => ⟨fun hk => ?_, fun n3 => ?_⟩⟩⟩⟩⟩
  · rw [decide_eq_false (by omega)] at h; cases h
  · have ek : rdy (TU z) = 0 := by rw [← hrd]; simpa using hk
    have e3 : rdy (TU z) ≤ 3 := by rw [ek]; decide
    refine ⟨by ((repeat' (first | exact trivial | with_reducible rfl | assumption | apply And.intro)) <;> omega), ?_⟩
    rintro y1 ⟨⟨⟨w0, w1⟩, _⟩, hw⟩
    have hw2 : y1.n 90000 = 2 ∨ y1.n 90000 = 4 := by rw [hw]; exact wd_24 _ _
    refine ⟨by ((repeat' (first | exact trivial | with_reducible rfl | assumption | apply And.intro)) <;> omega), ?_⟩
    rintro y2 ⟨⟨hR2, ⟨l0, l1, _⟩, ⟨_, hp2⟩, ⟨_, hp3⟩, _⟩, _, hq2, hN⟩
    
    have hf1 : flat plS = true := rfl
    have hf2 : flat [Sp.i IntKind.u32] = true := rfl
    refine ⟨by ((repeat' (first | exact trivial | with_reducible rfl | assumption | apply And.intro)) <;> omega), ?_⟩
    rintro y3 ⟨⟨hR3, _⟩, _, hq3⟩
    have hm : setC (TU y3) 0 lft = setC (TU z) 0 (fun c => lft (mid 0 c)) := by rw [hq3, hq2, hw]; rfl
    have hm' : (U4.mk (Ch.mk (y3.n 1) (y3.n 2) (y3.n 3) (y3.n 4) (y3.n 5) (y3.n 6) (IntKind.i64.wrap (y3.n 7 - 1)) (y3.b 8) (y3.b 9) (y3.n 10)) (cu1 y3) (cu2 y3) (cu3 y3)) = setC (TU z) 0 (fun c => lft (mid 0 c)) := hm
    have hl : y3.n 7 = z.n 7 := by
      have e := congrArg (fun u => (getC u 0).left) hq3
      rw [hq2] at e
      exact e
    have hdn : dn (getC (TU z) (rdy (TU z))) = !decide (IntKind.i64.wrap (z.n 7 - 1) > 0) := by rw [ek]; rfl
    have hN' : NX (rdy (TU z)) (wd (rdy (TU z)) (getC (TU z) (rdy (TU z))).control) (getC (TU z) (rdy (TU z))) 0 ((y2.n 100000).toNat : Int) ((y2.n 100001).toNat : Int) (y2.l 2) (y2.l 3) := by
      rw [ek, Int.toNat_of_nonneg l0, Int.toNat_of_nonneg l1]
      show NX 0 (wd 0 (z.n 4)) (cu0 z) _ _ _ _ _
      rw [← hw]; exact hN
    obtain ⟨hR3h, hR3t⟩ := id hR3
    obtain ⟨j1, j2, j3, j4, j5, j6, j10, j12, j13, j14, j15, j16, j17, j21, j23, j24, j25, j26, j27, j28, j32, j34, j35, j36, j37, j38, j39, j43, _⟩ := id hR3
    refine ⟨fun hd => ?_, fun hd => ?_⟩
    · rw [hl] at hd
      have hdf : dn (getC (TU z) (rdy (TU z))) = false := by rw [hdn, hd]; rfl
      have hst : (U4.mk (Ch.mk (y3.n 1) (y3.n 2) (y3.n 3) (y3.n 4) (y3.n 5) (y3.n 6) (IntKind.i64.wrap (y3.n 7 - 1)) (y3.b 8) (y3.b 9) (y3.n 10)) (cu1 y3) (cu2 y3) (cu3 y3)) = stU (TU z) := by rw [stU_f hp0 e3 hdf, ek]; exact hm'
      have hx1 : false = dn (getC (TU z) (rdy (TU z))) := hdf.symm
      have hx2 : false = (dn (getC (TU z) (rdy (TU z))) && asks (getC (TU z) (rdy (TU z)))) := by rw [hdf]; rfl
      ((repeat' (first | exact trivial | with_reducible rfl | assumption | apply And.intro)) <;> omega)
    · rw [hl] at hd
      have hdt : dn (getC (TU z) (rdy (TU z))) = true := by rw [hdn, hd]; rfl
      refine ⟨by ((repeat' (first | exact trivial | with_reducible rfl | assumption | apply And.intro)) <;> omega), ?_⟩
      rintro y4 ⟨⟨hR4, _⟩, _, hq4⟩
      have hst : (TU y4) = stU (TU z) := by rw [stU_t hp0 e3 hdt, ek, hq4, hm']; rfl
      have hx1 : true = dn (getC (TU z) (rdy (TU z))) := hdt.symm
      have hct : y4.n 4 / 16384 % 2 = z.n 4 / 16384 % 2 := by
        have e := congrArg (fun u => (getC u 0).control / 16384 % 2) hq4
        rw [hm'] at e
        exact e.trans (end_14 0 _)
      obtain ⟨i1, i2, i3, i4, i5, i6, i10, i12, i13, i14, i15, i16, i17, i21, i23, i24, i25, i26, i27, i28, i32, i34, i35, i36, i37, i38, i39, i43, _⟩ := id hR4
      have hx2 : (bits .and .u16 (y4.n 4) 16384 != 0) = (dn (getC (TU z) (rdy (TU z))) && asks (getC (TU z) (rdy (TU z)))) := by
        rw [and14 _ i4.1 i4.2, hct, hdt, ek]; rfl
      ((repeat' (first | exact trivial | with_reducible rfl | assumption | apply And.intro)) <;> omega)
  · have ek : rdy (TU z) = 1 := by rw [← hrd]; simpa using hk
    have e3 : rdy (TU z) ≤ 3 := by rw [ek]; decide
    refine ⟨by ((repeat' (first | exact trivial | with_reducible rfl | assumption | apply And.intro)) <;> omega), ?_⟩
    rintro y1 ⟨⟨⟨w0, w1⟩, _⟩, hw⟩
    have hw2 : y1.n 90000 = 2 ∨ y1.n 90000 = 4 := by rw [hw]; exact wd_24 _ _
    refine ⟨by ((repeat' (first | exact trivial | with_reducible rfl | assumption | apply And.intro)) <;> omega), ?_⟩
    rintro y2 ⟨⟨hR2, ⟨l0, l1, _⟩, ⟨_, hp2⟩, ⟨_, hp3⟩, _⟩, _, hq2, hN⟩
    
    have hf1 : flat plS = true := rfl
    have hf2 : flat [Sp.i IntKind.u32] = true := rfl
    refine ⟨by ((repeat' (first | exact trivial | with_reducible rfl | assumption | apply And.intro)) <;> omega), ?_⟩
    rintro y3 ⟨⟨hR3, _⟩, _, hq3⟩
    have hm : setC (TU y3) 1 lft = setC (TU z) 1 (fun c => lft (mid 1 c)) := by rw [hq3, hq2, hw]; rfl
    have hm' : (U4.mk (cu0 y3) (Ch.mk (y3.n 12) (y3.n 13) (y3.n 14) (y3.n 15) (y3.n 16) (y3.n 17) (IntKind.i64.wrap (y3.n 18 - 1)) (y3.b 19) (y3.b 20) (y3.n 21)) (cu2 y3) (cu3 y3)) = setC (TU z) 1 (fun c => lft (mid 1 c)) := hm
    have hl : y3.n 18 = z.n 18 := by
      have e := congrArg (fun u => (getC u 1).left) hq3
      rw [hq2] at e
      exact e
    have hdn : dn (getC (TU z) (rdy (TU z))) = !decide (IntKind.i64.wrap (z.n 18 - 1) > 0) := by rw [ek]; rfl
    have hN' : NX (rdy (TU z)) (wd (rdy (TU z)) (getC (TU z) (rdy (TU z))).control) (getC (TU z) (rdy (TU z))) 0 ((y2.n 100000).toNat : Int) ((y2.n 100001).toNat : Int) (y2.l 2) (y2.l 3) := by
      rw [ek, Int.toNat_of_nonneg l0, Int.toNat_of_nonneg l1]
      show NX 1 (wd 1 (z.n 15)) (cu1 z) _ _ _ _ _
      rw [← hw]; exact hN
    obtain ⟨hR3h, hR3t⟩ := id hR3
    obtain ⟨j1, j2, j3, j4, j5, j6, j10, j12, j13, j14, j15, j16, j17, j21, j23, j24, j25, j26, j27, j28, j32, j34, j35, j36, j37, j38, j39, j43, _⟩ := id hR3
    refine ⟨fun hd => ?_, fun hd => ?_⟩
    · rw [hl] at hd
      have hdf : dn (getC (TU z) (rdy (TU z))) = false := by rw [hdn, hd]; rfl
      have hst : (U4.mk (cu0 y3) (Ch.mk (y3.n 12) (y3.n 13) (y3.n 14) (y3.n 15) (y3.n 16) (y3.n 17) (IntKind.i64.wrap (y3.n 18 - 1)) (y3.b 19) (y3.b 20) (y3.n 21)) (cu2 y3) (cu3 y3)) = stU (TU z) := by rw [stU_f hp0 e3 hdf, ek]; exact hm'
      have hx1 : false = dn (getC (TU z) (rdy (TU z))) := hdf.symm
      have hx2 : false = (dn (getC (TU z) (rdy (TU z))) && asks (getC (TU z) (rdy (TU z)))) := by rw [hdf]; rfl
      ((repeat' (first | exact trivial | with_reducible rfl | assumption | apply And.intro)) <;> omega)
    · rw [hl] at hd
      have hdt : dn (getC (TU z) (rdy (TU z))) = true := by rw [hdn, hd]; rfl
      refine ⟨by ((repeat' (first | exact trivial | with_reducible rfl | assumption | apply And.intro)) <;> omega), ?_⟩
      rintro y4 ⟨⟨hR4, _⟩, _, hq4⟩
      have hst : (TU y4) = stU (TU z) := by rw [stU_t hp0 e3 hdt, ek, hq4, hm']; rfl
      have hx1 : true = dn (getC (TU z) (rdy (TU z))) := hdt.symm
      have hct : y4.n 15 / 16384 % 2 = z.n 15 / 16384 % 2 := by
        have e := congrArg (fun u => (getC u 1).control / 16384 % 2) hq4
        rw [hm'] at e
        exact e.trans (end_14 1 _)
      obtain ⟨i1, i2, i3, i4, i5, i6, i10, i12, i13, i14, i15, i16, i17, i21, i23, i24, i25, i26, i27, i28, i32, i34, i35, i36, i37, i38, i39, i43, _⟩ := id hR4
      have hx2 : (bits .and .u16 (y4.n 15) 16384 != 0) = (dn (getC (TU z) (rdy (TU z))) && asks (getC (TU z) (rdy (TU z)))) := by
        rw [and14 _ i15.1 i15.2, hct, hdt, ek]; rfl
      ((repeat' (first | exact trivial | with_reducible rfl | assumption | apply And.intro)) <;> omega)
  · have ek : rdy (TU z) = 2 := by rw [← hrd]; simpa using hk
    have e3 : rdy (TU z) ≤ 3 := by rw [ek]; decide
    refine ⟨by ((repeat' (first | exact trivial | with_reducible rfl | assumption | apply And.intro)) <;> omega), ?_⟩
    rintro y1 ⟨⟨⟨w0, w1⟩, _⟩, hw⟩
    have hw2 : y1.n 90000 = 2 ∨ y1.n 90000 = 4 := by rw [hw]; exact wd_24 _ _
    refine ⟨by ((repeat' (first | exact trivial | with_reducible rfl | assumption | apply And.intro)) <;> omega), ?_⟩
    rintro y2 ⟨⟨hR2, ⟨l0, l1, _⟩, ⟨_, hp2⟩, ⟨_, hp3⟩, _⟩, _, hq2, hN⟩
    
    have hf1 : flat plS = true := rfl
    have hf2 : flat [Sp.i IntKind.u32] = true := rfl
    refine ⟨by ((repeat' (first | exact trivial | with_reducible rfl | assumption | apply And.intro)) <;> omega), ?_⟩
    rintro y3 ⟨⟨hR3, _⟩, _, hq3⟩
    have hm : setC (TU y3) 2 lft = setC (TU z) 2 (fun c => lft (mid 2 c)) := by rw [hq3, hq2, hw]; rfl
    have hm' : (U4.mk (cu0 y3) (cu1 y3) (Ch.mk (y3.n 23) (y3.n 24) (y3.n 25) (y3.n 26) (y3.n 27) (y3.n 28) (IntKind.i64.wrap (y3.n 29 - 1)) (y3.b 30) (y3.b 31) (y3.n 32)) (cu3 y3)) = setC (TU z) 2 (fun c => lft (mid 2 c)) := hm
    have hl : y3.n 29 = z.n 29 := by
      have e := congrArg (fun u => (getC u 2).left) hq3
      rw [hq2] at e
      exact e
    have hdn : dn (getC (TU z) (rdy (TU z))) = !decide (IntKind.i64.wrap (z.n 29 - 1) > 0) := by rw [ek]; rfl
    have hN' : NX (rdy (TU z)) (wd (rdy (TU z)) (getC (TU z) (rdy (TU z))).control) (getC (TU z) (rdy (TU z))) 0 ((y2.n 100000).toNat : Int) ((y2.n 100001).toNat : Int) (y2.l 2) (y2.l 3) := by
      rw [ek, Int.toNat_of_nonneg l0, Int.toNat_of_nonneg l1]
      show NX 2 (wd 2 (z.n 26)) (cu2 z) _ _ _ _ _
      rw [← hw]; exact hN
    obtain ⟨hR3h, hR3t⟩ := id hR3
    obtain ⟨j1, j2, j3, j4, j5, j6, j10, j12, j13, j14, j15, j16, j17, j21, j23, j24, j25, j26, j27, j28, j32, j34, j35, j36, j37, j38, j39, j43, _⟩ := id hR3
    refine ⟨fun hd => ?_, fun hd => ?_⟩
    · rw [hl] at hd
      have hdf : dn (getC (TU z) (rdy (TU z))) = false := by rw [hdn, hd]; rfl
      have hst : (U4.mk (cu0 y3) (cu1 y3) (Ch.mk (y3.n 23) (y3.n 24) (y3.n 25) (y3.n 26) (y3.n 27) (y3.n 28) (IntKind.i64.wrap (y3.n 29 - 1)) (y3.b 30) (y3.b 31) (y3.n 32)) (cu3 y3)) = stU (TU z) := by rw [stU_f hp0 e3 hdf, ek]; exact hm'
      have hx1 : false = dn (getC (TU z) (rdy (TU z))) := hdf.symm
      have hx2 : false = (dn (getC (TU z) (rdy (TU z))) && asks (getC (TU z) (rdy (TU z)))) := by rw [hdf]; rfl
      ((repeat' (first | exact trivial | with_reducible rfl | assumption | apply And.intro)) <;> omega)
    · rw [hl] at hd
      have hdt : dn (getC (TU z) (rdy (TU z))) = true := by rw [hdn, hd]; rfl
      refine ⟨by ((repeat' (first | exact trivial | with_reducible rfl | assumption | apply And.intro)) <;> omega), ?_⟩
      rintro y4 ⟨⟨hR4, _⟩, _, hq4⟩
      have hst : (TU y4) = stU (TU z) := by rw [stU_t hp0 e3 hdt, ek, hq4, hm']; rfl
      have hx1 : true = dn (getC (TU z) (rdy (TU z))) := hdt.symm
      have hct : y4.n 26 / 16384 % 2 = z.n 26 / 16384 % 2 := by
        have e := congrArg (fun u => (getC u 2).control / 16384 % 2) hq4
        rw [hm'] at e
        exact e.trans (end_14 2 _)
      obtain ⟨i1, i2, i3, i4, i5, i6, i10, i12, i13, i14, i15, i16, i17, i21, i23, i24, i25, i26, i27, i28, i32, i34, i35, i36, i37, i38, i39, i43, _⟩ := id hR4
      have hx2 : (bits .and .u16 (y4.n 26) 16384 != 0) = (dn (getC (TU z) (rdy (TU z))) && asks (getC (TU z) (rdy (TU z)))) := by
        rw [and14 _ i26.1 i26.2, hct, hdt, ek]; rfl
      ((repeat' (first | exact trivial | with_reducible rfl | assumption | apply And.intro)) <;> omega)
  · have ek : rdy (TU z) = 3 := by rw [← hrd]; simpa using hk
    have e3 : rdy (TU z) ≤ 3 := by rw [ek]; decide
    refine ⟨by ((repeat' (first | exact trivial | with_reducible rfl | assumption | apply And.intro)) <;> omega), ?_⟩
    rintro y1 ⟨⟨⟨w0, w1⟩, _⟩, hw⟩
    have hw2 : y1.n 90000 = 2 ∨ y1.n 90000 = 4 := by rw [hw]; exact wd_24 _ _
    refine ⟨by ((repeat' (first | exact trivial | with_reducible rfl | assumption | apply And.intro)) <;> omega), ?_⟩
    rintro y2 ⟨⟨hR2, ⟨l0, l1, _⟩, ⟨_, hp2⟩, ⟨_, hp3⟩, _⟩, _, hq2, hN⟩
    
    have hf1 : flat plS = true := rfl
    have hf2 : flat [Sp.i IntKind.u32] = true := rfl
    refine ⟨by ((repeat' (first | exact trivial | with_reducible rfl | assumption | apply And.intro)) <;> omega), ?_⟩
    rintro y3 ⟨⟨hR3, _⟩, _, hq3⟩
    have hm : setC (TU y3) 3 lft = setC (TU z) 3 (fun c => lft (mid 3 c)) := by rw [hq3, hq2, hw]; rfl
    have hm' : (U4.mk (cu0 y3) (cu1 y3) (cu2 y3) (Ch.mk (y3.n 34) (y3.n 35) (y3.n 36) (y3.n 37) (y3.n 38) (y3.n 39) (IntKind.i64.wrap (y3.n 40 - 1)) (y3.b 41) (y3.b 42) (y3.n 43))) = setC (TU z) 3 (fun c => lft (mid 3 c)) := hm
    have hl : y3.n 40 = z.n 40 := by
      have e := congrArg (fun u => (getC u 3).left) hq3
      rw [hq2] at e
      exact e
    have hdn : dn (getC (TU z) (rdy (TU z))) = !decide (IntKind.i64.wrap (z.n 40 - 1) > 0) := by rw [ek]; rfl
    have hN' : NX (rdy (TU z)) (wd (rdy (TU z)) (getC (TU z) (rdy (TU z))).control) (getC (TU z) (rdy (TU z))) 0 ((y2.n 100000).toNat : Int) ((y2.n 100001).toNat : Int) (y2.l 2) (y2.l 3) := by
      rw [ek, Int.toNat_of_nonneg l0, Int.toNat_of_nonneg l1]
      show NX 3 (wd 3 (z.n 37)) (cu3 z) _ _ _ _ _
      rw [← hw]; exact hN
    obtain ⟨hR3h, hR3t⟩ := id hR3
    obtain ⟨j1, j2, j3, j4, j5, j6, j10, j12, j13, j14, j15, j16, j17, j21, j23, j24, j25, j26, j27, j28, j32, j34, j35, j36, j37, j38, j39, j43, _⟩ := id hR3
    refine ⟨fun hd => ?_, fun hd => ?_⟩
    · rw [hl] at hd
      have hdf : dn (getC (TU z) (rdy (TU z))) = false := by rw [hdn, hd]; rfl
      have hst : (U4.mk (cu0 y3) (cu1 y3) (cu2 y3) (Ch.mk (y3.n 34) (y3.n 35) (y3.n 36) (y3.n 37) (y3.n 38) (y3.n 39) (IntKind.i64.wrap (y3.n 40 - 1)) (y3.b 41) (y3.b 42) (y3.n 43))) = stU (TU z) := by rw [stU_f hp0 e3 hdf, ek]; exact hm'
      have hx1 : false = dn (getC (TU z) (rdy (TU z))) := hdf.symm
      have hx2 : false = (dn (getC (TU z) (rdy (TU z))) && asks (getC (TU z) (rdy (TU z)))) := by rw [hdf]; rfl
      ((repeat' (first | exact trivial | with_reducible rfl | assumption | apply And.intro)) <;> omega)
    · rw [hl] at hd
      have hdt : dn (getC (TU z) (rdy (TU z))) = true := by rw [hdn, hd]; rfl
      refine ⟨by ((repeat' (first | exact trivial | with_reducible rfl | assumption | apply And.intro)) <;> omega), ?_⟩
      rintro y4 ⟨⟨hR4, _⟩, _, hq4⟩
      have hst : (TU y4) = stU (TU z) := by rw [stU_t hp0 e3 hdt, ek, hq4, hm']; rfl
      have hx1 : true = dn (getC (TU z) (rdy (TU z))) := hdt.symm
      have hct : y4.n 37 / 16384 % 2 = z.n 37 / 16384 % 2 := by
        have e := congrArg (fun u => (getC u 3).control / 16384 % 2) hq4
        rw [hm'] at e
        exact e.trans (end_14 3 _)
      obtain ⟨i1, i2, i3, i4, i5, i6, i10, i12, i13, i14, i15, i16, i17, i21, i23, i24, i25, i26, i27, i28, i32, i34, i35, i36, i37, i38, i39, i43, _⟩ := id hR4
      have hx2 : (bits .and .u16 (y4.n 37) 16384 != 0) = (dn (getC (TU z) (rdy (TU z))) && asks (getC (TU z) (rdy (TU z)))) := by
        rw [and14 _ i37.1 i37.2, hct, hdt, ek]; rfl
      ((repeat' (first | exact trivial | with_reducible rfl | assumption | apply And.intro)) <;> omega)
  · simp only [beq_eq_false_iff_ne, ne_eq] at n0 n1 n2 n3; omega
end Go.Proofs.Ytpddbhfebhpohaa

