import Derived.Test.YtkeinfmfkcgkhaaO
set_option linter.unusedVariables false
set_option linter.unusedSimpArgs false
namespace Go.Proofs.Ytkeinfmfkcgkhaa
open Go Go.Proofs Go.Proofs.Ytkeinfmfkcgkhaa.Ev Go.Proofs.Ytkeinfmfkcgkhaa.Ev.Ho
set_option maxRecDepth 100000
theorem law_r0 (E : World) (a : Option Addr) (n m : Nat) (b : Int) (z : PX) (y : PX) :
    (loopP (pe E) Try.f6 (endR ([] : List MB).length [] (.c .b) (fun z y => y.b 90000 = true) z) (headR ([] : List MB).length Try.f6.ntmps (some ((fun y => (2000000 - y.n 91029).toNat) y)) (law_hs E a n m b z))  (run (pe E) (orcT E) (tabL fns) 20000 (2 ^ 200 - 1) (l_td E) (mkL Try.f6.ntmps (slC y [(0, .q (.es a n m)), (5, .c (.p 0 0)), (6, .c (.p 1 0)), (7, .r .i64 (0) (3050000)), (27, .q (.es a n m)), (28, .q (.i false .i64 (n : Int))), (29, .r .i64 (0) (60))])) (mkM y [] [mU 2 3, mV 4 5, mP 6, rowS, mP 7, rowS, mO, mO] 0))) =
    ((decide (y.n (91029 : Nat) < (↑n : Int)) = true → inB (y.n (91029 : Nat)) n = true ∧ a.isSome = true ∧ eRow E a ((y.n (91029 : Nat)).toNat * (4 : Nat) + (0 : Nat)) ([EK.i
      IntKind.i64] ++ ([EK.i IntKind.i64] ++ ([EK.i IntKind.i64] ++ ([EK.i IntKind.u32] ++ [])))) = true ∧ ((bif decide (eI E a ((y.n (91029 : Nat)).toNat * (4 : Nat) + (0 :
      Nat)) < (0 : Int)) then true else decide (eI E a ((y.n (91029 : Nat)).toNat * (4 : Nat) + (0 : Nat)) > (50000 : Int))) = true → l_td E = l_td E ∧ (106 : Nat) = (106 : Nat)
      ∧ ((renC (posN [(0 : Nat), (1 : Nat), (2 : Nat), (3 : Nat), (4 : Nat), (5 : Nat), (6 : Nat), (7 : Nat)]) (C.es a n m) = C.es a n m ∧ True) ∧ True ∧ True ∧ (((0 : Int) ≤
      y.n (91007 : Nat) ∧ y.n (91007 : Nat) ≤ (3050000 : Int)) ∧ True) ∧ (renC (posN [(0 : Nat), (1 : Nat), (2 : Nat), (3 : Nat), (4 : Nat), (5 : Nat), (6 : Nat), (7 : Nat)])
      (C.es a n m) = C.es a n m ∧ True) ∧ (renC (posN [(0 : Nat), (1 : Nat), (2 : Nat), (3 : Nat), (4 : Nat), (5 : Nat), (6 : Nat), (7 : Nat)]) (C.i false IntKind.i64 (↑n :
      Int)) = C.i false IntKind.i64 (↑n : Int) ∧ True) ∧ (((0 : Int) ≤ IntKind.i64.wrap (y.n (91029 : Nat) + (1 : Int)) ∧ IntKind.i64.wrap (y.n (91029 : Nat) + (1 : Int)) ≤ (60
      : Int)) ∧ True) ∧ True) ∧ ((68 : Nat) = (68 : Nat) ∧ (((0 : Int) ≤ y.n (33 : Nat) ∧ y.n (33 : Nat) ≤ (32 : Int)) ∧ ((0 : Int) ≤ y.n (67 : Nat) ∧ y.n (67 : Nat) ≤ (32 :
      Int)) ∧ ((0 : Int) ≤ y.n (72 : Nat) ∧ y.n (72 : Nat) ≤ (1022 : Int)) ∧ ((0 : Int) ≤ y.n (73 : Nat) ∧ y.n (73 : Nat) ≤ (10000000 : Int)) ∧ True) ∧ (68 : Nat) = (68 : Nat) ∧
      (((0 : Int) ≤ y.n (100033 : Nat) ∧ y.n (100033 : Nat) ≤ (32 : Int)) ∧ ((0 : Int) ≤ y.n (100067 : Nat) ∧ y.n (100067 : Nat) ≤ (32 : Int)) ∧ ((0 : Int) ≤ y.n (100072 : Nat)
      ∧ y.n (100072 : Nat) ≤ (1022 : Int)) ∧ ((0 : Int) ≤ y.n (100073 : Nat) ∧ y.n (100073 : Nat) ≤ (10000000 : Int)) ∧ True) ∧ (84 : Nat) = (84 : Nat) ∧ (((0 : Int) ≤ y.n
      (200000 : Nat) ∧ y.n (200000 : Nat) ≤ (10000000 : Int)) ∧ True) ∧ (60 : Nat) = (60 : Nat) ∧ (flat [Sp.r IntKind.i16 (0 : Int) (0 : Int), Sp.r IntKind.i16 (0 : Int) (0 :
      Int)] = true ∧ Row [Sp.r IntKind.i16 (0 : Int) (0 : Int), Sp.r IntKind.i16 (0 : Int) (0 : Int)] (y.l (3 : Nat))) ∧ (84 : Nat) = (84 : Nat) ∧ (((0 : Int) ≤ y.n (400000 :
      Nat) ∧ y.n (400000 : Nat) ≤ (10000000 : Int)) ∧ True) ∧ (60 : Nat) = (60 : Nat) ∧ (flat [Sp.r IntKind.i16 (0 : Int) (0 : Int), Sp.r IntKind.i16 (0 : Int) (0 : Int)] = true
      ∧ Row [Sp.r IntKind.i16 (0 : Int) (0 : Int), Sp.r IntKind.i16 (0 : Int) (0 : Int)] (y.l (5 : Nat))) ∧
      (741991204937588471353107210173517385893522847741378461052633880361214601735917472982278721692919759636892846595991201096475255940853038949688016010326287086087990634635853824
      : Nat) =
      (741991204937588471353107210173517385893522847741378461052633880361214601735917472982278721692919759636892846595991201096475255940853038949688016010326287086087990634635853824
      : Nat) ∧
      (741991204937588471353107210173517385893522847741378461052633880361214601735917472982278721692919759636892846595991201096475255940853038949688016010326287086087990634635853824
      : Nat) =
      (741991204937588471353107210173517385893522847741378461052633880361214601735917472982278721692919759636892846595991201096475255940853038949688016010326287086087990634635853824
      : Nat) ∧ ([] : SW) = []) ∧ (((Len2 (y.l (3 : Nat)) (↑(y.n (74 : Nat)).toNat : Int) ∧ (↑(y.n (74 : Nat)).toNat : Int) * (512 : Int) ≤ y.n (73 : Nat)) ∧ Len2 (y.l (5 : Nat))
      (↑(y.n (100074 : Nat)).toNat : Int) ∧ (↑(y.n (100074 : Nat)).toNat : Int) * (512 : Int) ≤ y.n (100073 : Nat)) ∧ y.n (91007 : Nat) ≤ (50000 : Int) * IntKind.i64.wrap (y.n
      (91029 : Nat) + (1 : Int)) ∧ IntKind.i64.wrap (y.n (91029 : Nat) + (1 : Int)) ≤ (↑n : Int) ∧ (↑n : Int) ≤ (60 : Int)) ∧ ((2000000 : Int) - IntKind.i64.wrap (y.n (91029 :
      Nat) + (1 : Int))).toNat < ((2000000 : Int) - y.n (91029 : Nat)).toNat ∧ True) ∧ ((bif decide (eI E a ((y.n (91029 : Nat)).toNat * (4 : Nat) + (0 : Nat)) < (0 : Int)) then
      true else decide (eI E a ((y.n (91029 : Nat)).toNat * (4 : Nat) + (0 : Nat)) > (50000 : Int))) = false → ((eI E a ((y.n (91029 : Nat)).toNat * (4 : Nat) + (1 : Nat)) == (0
      : Int)) = true → ((eI E a ((y.n (91029 : Nat)).toNat * (4 : Nat) + (2 : Nat)) != (2 : Int)) = true → (((68 : Nat) = (68 : Nat) ∧ (((0 : Int) ≤ y.n (33 : Nat) ∧ y.n (33 :
      Nat) ≤ (32 : Int)) ∧ ((0 : Int) ≤ y.n (67 : Nat) ∧ y.n (67 : Nat) ≤ (32 : Int)) ∧ ((0 : Int) ≤ y.n (72 : Nat) ∧ y.n (72 : Nat) ≤ (1022 : Int)) ∧ ((0 : Int) ≤ y.n (73 :
      Nat) ∧ y.n (73 : Nat) ≤ (10000000 : Int)) ∧ True) ∧ (84 : Nat) = (84 : Nat) ∧ (((0 : Int) ≤ y.n (200000 : Nat) ∧ y.n (200000 : Nat) ≤ (10000000 : Int)) ∧ True) ∧ (60 :
      Nat) = (60 : Nat) ∧ (flat [Sp.r IntKind.i16 (0 : Int) (0 : Int), Sp.r IntKind.i16 (0 : Int) (0 : Int)] = true ∧ Row [Sp.r IntKind.i16 (0 : Int) (0 : Int), Sp.r IntKind.i16
      (0 : Int) (0 : Int)] (y.l (3 : Nat))) ∧
      (741991204937588471353107210173517385893522847741378461052633880361214601735917472982278721692919759636892846595991201096475255940853038949688016010326287086087990634635853824
      : Nat) =
      (741991204937588471353107210173517385893522847741378461052633880361214601735917472982278721692919759636892846595991201096475255940853038949688016010326287086087990634635853824
      : Nat) ∧ ([] : SW) = []) ∧ Len2 (y.l (3 : Nat)) (↑(y.n (74 : Nat)).toNat : Int) ∧ (↑(y.n (74 : Nat)).toNat : Int) * (512 : Int) ≤ y.n (73 : Nat) ∧ IntKind.i64.wrap (y.n
      (91007 : Nat) + eI E a ((y.n (91029 : Nat)).toNat * (4 : Nat) + (0 : Nat))) ≤ (10000000 : Int) ∧ (eI E a ((y.n (91029 : Nat)).toNat * (4 : Nat) + (2 : Nat)) = (2 : Int) →
      False) ∧ (0 : Int) ≤ IntKind.u16.wrap (eI E a ((y.n (91029 : Nat)).toNat * (4 : Nat) + (3 : Nat))) ∧ IntKind.u16.wrap (eI E a ((y.n (91029 : Nat)).toNat * (4 : Nat) + (3 :
      Nat))) ≤ (65535 : Int)) ∧ ∀ (y_1 : PX), ((((0 : Int) ≤ y_1.n (33 : Nat) ∧ y_1.n (33 : Nat) ≤ (32 : Int)) ∧ ((0 : Int) ≤ y_1.n (67 : Nat) ∧ y_1.n (67 : Nat) ≤ (32 : Int)) ∧
      ((0 : Int) ≤ y_1.n (72 : Nat) ∧ y_1.n (72 : Nat) ≤ (1022 : Int)) ∧ ((0 : Int) ≤ y_1.n (73 : Nat) ∧ y_1.n (73 : Nat) ≤ (10000000 : Int)) ∧ (0 : Int) ≤ y_1.n (74 : Nat) ∧
      True) ∧ (((0 : Int) ≤ y_1.n (100000 : Nat) ∧ y_1.n (100000 : Nat) ≤ (10000000 : Int)) ∧ True) ∧ (flat [Sp.r IntKind.i16 (0 : Int) (0 : Int), Sp.r IntKind.i16 (0 : Int) (0
      : Int)] = true ∧ Row [Sp.r IntKind.i16 (0 : Int) (0 : Int), Sp.r IntKind.i16 (0 : Int) (0 : Int)] (y_1.l (4 : Nat))) ∧ True) ∧ True ∧ Len2 (y_1.l (4 : Nat)) (y_1.n (74 :
      Nat)) ∧ y_1.n (74 : Nat) * (512 : Int) ≤ y_1.n (73 : Nat) → l_td E = l_td E ∧ (106 : Nat) = (106 : Nat) ∧ ((renC (posN [(0 : Nat), (1 : Nat), (2 : Nat), (9 : Nat), (4 :
      Nat), (5 : Nat), (6 : Nat), (7 : Nat)]) (C.es a n m) = C.es a n m ∧ True) ∧ True ∧ True ∧ (((0 : Int) ≤ IntKind.i64.wrap (y.n (91007 : Nat) + eI E a ((y.n (91029 :
      Nat)).toNat * (4 : Nat) + (0 : Nat))) ∧ IntKind.i64.wrap (y.n (91007 : Nat) + eI E a ((y.n (91029 : Nat)).toNat * (4 : Nat) + (0 : Nat))) ≤ (3050000 : Int)) ∧ True) ∧
      (renC (posN [(0 : Nat), (1 : Nat), (2 : Nat), (9 : Nat), (4 : Nat), (5 : Nat), (6 : Nat), (7 : Nat)]) (C.es a n m) = C.es a n m ∧ True) ∧ (renC (posN [(0 : Nat), (1 :
      Nat), (2 : Nat), (9 : Nat), (4 : Nat), (5 : Nat), (6 : Nat), (7 : Nat)]) (C.i false IntKind.i64 (↑n : Int)) = C.i false IntKind.i64 (↑n : Int) ∧ True) ∧ (((0 : Int) ≤
      IntKind.i64.wrap (y.n (91029 : Nat) + (1 : Int)) ∧ IntKind.i64.wrap (y.n (91029 : Nat) + (1 : Int)) ≤ (60 : Int)) ∧ True) ∧ True) ∧ ((68 : Nat) = (68 : Nat) ∧ (((0 : Int)
      ≤ y_1.n (33 : Nat) ∧ y_1.n (33 : Nat) ≤ (32 : Int)) ∧ ((0 : Int) ≤ y_1.n (67 : Nat) ∧ y_1.n (67 : Nat) ≤ (32 : Int)) ∧ ((0 : Int) ≤ y_1.n (72 : Nat) ∧ y_1.n (72 : Nat) ≤
      (1022 : Int)) ∧ ((0 : Int) ≤ y_1.n (73 : Nat) ∧ y_1.n (73 : Nat) ≤ (10000000 : Int)) ∧ True) ∧ (68 : Nat) = (68 : Nat) ∧ (((0 : Int) ≤ y.n (100033 : Nat) ∧ y.n (100033 :
      Nat) ≤ (32 : Int)) ∧ ((0 : Int) ≤ y.n (100067 : Nat) ∧ y.n (100067 : Nat) ≤ (32 : Int)) ∧ ((0 : Int) ≤ y.n (100072 : Nat) ∧ y.n (100072 : Nat) ≤ (1022 : Int)) ∧ ((0 : Int)
      ≤ y.n (100073 : Nat) ∧ y.n (100073 : Nat) ≤ (10000000 : Int)) ∧ True) ∧ (84 : Nat) = (84 : Nat) ∧ (((0 : Int) ≤ y_1.n (100000 : Nat) ∧ y_1.n (100000 : Nat) ≤ (10000000 :
      Int)) ∧ True) ∧ (60 : Nat) = (60 : Nat) ∧ (flat [Sp.r IntKind.i16 (0 : Int) (0 : Int), Sp.r IntKind.i16 (0 : Int) (0 : Int)] = true ∧ Row [Sp.r IntKind.i16 (0 : Int) (0 :
      Int), Sp.r IntKind.i16 (0 : Int) (0 : Int)] (y_1.l (4 : Nat))) ∧ (84 : Nat) = (84 : Nat) ∧ (((0 : Int) ≤ y.n (400000 : Nat) ∧ y.n (400000 : Nat) ≤ (10000000 : Int)) ∧
      True) ∧ (60 : Nat) = (60 : Nat) ∧ (flat [Sp.r IntKind.i16 (0 : Int) (0 : Int), Sp.r IntKind.i16 (0 : Int) (0 : Int)] = true ∧ Row [Sp.r IntKind.i16 (0 : Int) (0 : Int),
      Sp.r IntKind.i16 (0 : Int) (0 : Int)] (y.l (5 : Nat))) ∧
      (741991204937588471353107210173517385893522847741378461052633880361214601735917472982278721692919759636892846595991201096475255940853038949688016010326287086087990634635853824
      : Nat) =
      (741991204937588471353107210173517385893522847741378461052633880361214601735917472982278721692919759636892846595991201096475255940853038949688016010326287086087990634635853824
      : Nat) ∧
      (741991204937588471353107210173517385893522847741378461052633880361214601735917472982278721692919759636892846595991201096475255940853038949688016010326287086087990634635853824
      : Nat) =
      (741991204937588471353107210173517385893522847741378461052633880361214601735917472982278721692919759636892846595991201096475255940853038949688016010326287086087990634635853824
      : Nat) ∧ ([] : SW) = []) ∧ (((Len2 (y_1.l (4 : Nat)) (↑(y_1.n (74 : Nat)).toNat : Int) ∧ (↑(y_1.n (74 : Nat)).toNat : Int) * (512 : Int) ≤ y_1.n (73 : Nat)) ∧ Len2 (y.l (5
      : Nat)) (↑(y.n (100074 : Nat)).toNat : Int) ∧ (↑(y.n (100074 : Nat)).toNat : Int) * (512 : Int) ≤ y.n (100073 : Nat)) ∧ IntKind.i64.wrap (y.n (91007 : Nat) + eI E a ((y.n
      (91029 : Nat)).toNat * (4 : Nat) + (0 : Nat))) ≤ (50000 : Int) * IntKind.i64.wrap (y.n (91029 : Nat) + (1 : Int)) ∧ IntKind.i64.wrap (y.n (91029 : Nat) + (1 : Int)) ≤ (↑n
      : Int) ∧ (↑n : Int) ≤ (60 : Int)) ∧ ((2000000 : Int) - IntKind.i64.wrap (y.n (91029 : Nat) + (1 : Int))).toNat < ((2000000 : Int) - y.n (91029 : Nat)).toNat ∧ True) ∧ ((eI
      E a ((y.n (91029 : Nat)).toNat * (4 : Nat) + (2 : Nat)) != (2 : Int)) = false → l_td E = l_td E ∧ (106 : Nat) = (106 : Nat) ∧ ((renC (posN [(0 : Nat), (1 : Nat), (2 :
      Nat), (3 : Nat), (4 : Nat), (5 : Nat), (6 : Nat), (7 : Nat)]) (C.es a n m) = C.es a n m ∧ True) ∧ True ∧ True ∧ (((0 : Int) ≤ IntKind.i64.wrap (y.n (91007 : Nat) + eI E a
      ((y.n (91029 : Nat)).toNat * (4 : Nat) + (0 : Nat))) ∧ IntKind.i64.wrap (y.n (91007 : Nat) + eI E a ((y.n (91029 : Nat)).toNat * (4 : Nat) + (0 : Nat))) ≤ (3050000 : Int))
      ∧ True) ∧ (renC (posN [(0 : Nat), (1 : Nat), (2 : Nat), (3 : Nat), (4 : Nat), (5 : Nat), (6 : Nat), (7 : Nat)]) (C.es a n m) = C.es a n m ∧ True) ∧ (renC (posN [(0 : Nat),
      (1 : Nat), (2 : Nat), (3 : Nat), (4 : Nat), (5 : Nat), (6 : Nat), (7 : Nat)]) (C.i false IntKind.i64 (↑n : Int)) = C.i false IntKind.i64 (↑n : Int) ∧ True) ∧ (((0 : Int) ≤
      IntKind.i64.wrap (y.n (91029 : Nat) + (1 : Int)) ∧ IntKind.i64.wrap (y.n (91029 : Nat) + (1 : Int)) ≤ (60 : Int)) ∧ True) ∧ True) ∧ ((68 : Nat) = (68 : Nat) ∧ (((0 : Int)
      ≤ y.n (33 : Nat) ∧ y.n (33 : Nat) ≤ (32 : Int)) ∧ ((0 : Int) ≤ y.n (67 : Nat) ∧ y.n (67 : Nat) ≤ (32 : Int)) ∧ ((0 : Int) ≤ y.n (72 : Nat) ∧ y.n (72 : Nat) ≤ (1022 : Int))
      ∧ ((0 : Int) ≤ y.n (73 : Nat) ∧ y.n (73 : Nat) ≤ (10000000 : Int)) ∧ True) ∧ (68 : Nat) = (68 : Nat) ∧ (((0 : Int) ≤ y.n (100033 : Nat) ∧ y.n (100033 : Nat) ≤ (32 : Int))
      ∧ ((0 : Int) ≤ y.n (100067 : Nat) ∧ y.n (100067 : Nat) ≤ (32 : Int)) ∧ ((0 : Int) ≤ y.n (100072 : Nat) ∧ y.n (100072 : Nat) ≤ (1022 : Int)) ∧ ((0 : Int) ≤ y.n (100073 :
      Nat) ∧ y.n (100073 : Nat) ≤ (10000000 : Int)) ∧ True) ∧ (84 : Nat) = (84 : Nat) ∧ (((0 : Int) ≤ y.n (200000 : Nat) ∧ y.n (200000 : Nat) ≤ (10000000 : Int)) ∧ True) ∧ (60 :
      Nat) = (60 : Nat) ∧ (flat [Sp.r IntKind.i16 (0 : Int) (0 : Int), Sp.r IntKind.i16 (0 : Int) (0 : Int)] = true ∧ Row [Sp.r IntKind.i16 (0 : Int) (0 : Int), Sp.r IntKind.i16
      (0 : Int) (0 : Int)] (y.l (3 : Nat))) ∧ (84 : Nat) = (84 : Nat) ∧ (((0 : Int) ≤ y.n (400000 : Nat) ∧ y.n (400000 : Nat) ≤ (10000000 : Int)) ∧ True) ∧ (60 : Nat) = (60 :
      Nat) ∧ (flat [Sp.r IntKind.i16 (0 : Int) (0 : Int), Sp.r IntKind.i16 (0 : Int) (0 : Int)] = true ∧ Row [Sp.r IntKind.i16 (0 : Int) (0 : Int), Sp.r IntKind.i16 (0 : Int) (0
      : Int)] (y.l (5 : Nat))) ∧
      (741991204937588471353107210173517385893522847741378461052633880361214601735917472982278721692919759636892846595991201096475255940853038949688016010326287086087990634635853824
      : Nat) =
      (741991204937588471353107210173517385893522847741378461052633880361214601735917472982278721692919759636892846595991201096475255940853038949688016010326287086087990634635853824
      : Nat) ∧
      (741991204937588471353107210173517385893522847741378461052633880361214601735917472982278721692919759636892846595991201096475255940853038949688016010326287086087990634635853824
      : Nat) =
      (741991204937588471353107210173517385893522847741378461052633880361214601735917472982278721692919759636892846595991201096475255940853038949688016010326287086087990634635853824
      : Nat) ∧ ([] : SW) = []) ∧ (((Len2 (y.l (3 : Nat)) (↑(y.n (74 : Nat)).toNat : Int) ∧ (↑(y.n (74 : Nat)).toNat : Int) * (512 : Int) ≤ y.n (73 : Nat)) ∧ Len2 (y.l (5 : Nat))
      (↑(y.n (100074 : Nat)).toNat : Int) ∧ (↑(y.n (100074 : Nat)).toNat : Int) * (512 : Int) ≤ y.n (100073 : Nat)) ∧ IntKind.i64.wrap (y.n (91007 : Nat) + eI E a ((y.n (91029 :
      Nat)).toNat * (4 : Nat) + (0 : Nat))) ≤ (50000 : Int) * IntKind.i64.wrap (y.n (91029 : Nat) + (1 : Int)) ∧ IntKind.i64.wrap (y.n (91029 : Nat) + (1 : Int)) ≤ (↑n : Int) ∧
      (↑n : Int) ≤ (60 : Int)) ∧ ((2000000 : Int) - IntKind.i64.wrap (y.n (91029 : Nat) + (1 : Int))).toNat < ((2000000 : Int) - y.n (91029 : Nat)).toNat ∧ True)) ∧ ((eI E a
      ((y.n (91029 : Nat)).toNat * (4 : Nat) + (1 : Nat)) == (0 : Int)) = false → ((eI E a ((y.n (91029 : Nat)).toNat * (4 : Nat) + (1 : Nat)) == (2 : Int)) = true → (((68 :
      Nat) = (68 : Nat) ∧ (((0 : Int) ≤ y.n (33 : Nat) ∧ y.n (33 : Nat) ≤ (32 : Int)) ∧ ((0 : Int) ≤ y.n (67 : Nat) ∧ y.n (67 : Nat) ≤ (32 : Int)) ∧ ((0 : Int) ≤ y.n (72 : Nat)
      ∧ y.n (72 : Nat) ≤ (1022 : Int)) ∧ ((0 : Int) ≤ y.n (73 : Nat) ∧ y.n (73 : Nat) ≤ (10000000 : Int)) ∧ True) ∧ (84 : Nat) = (84 : Nat) ∧ (((0 : Int) ≤ y.n (200000 : Nat) ∧
      y.n (200000 : Nat) ≤ (10000000 : Int)) ∧ True) ∧ (60 : Nat) = (60 : Nat) ∧ (flat [Sp.r IntKind.i16 (0 : Int) (0 : Int), Sp.r IntKind.i16 (0 : Int) (0 : Int)] = true ∧ Row
      [Sp.r IntKind.i16 (0 : Int) (0 : Int), Sp.r IntKind.i16 (0 : Int) (0 : Int)] (y.l (3 : Nat))) ∧
      (741991204937588471353107210173517385893522847741378461052633880361214601735917472982278721692919759636892846595991201096475255940853038949688016010326287086087990634635853824
      : Nat) =
      (741991204937588471353107210173517385893522847741378461052633880361214601735917472982278721692919759636892846595991201096475255940853038949688016010326287086087990634635853824
      : Nat) ∧ ([] : SW) = []) ∧ Len2 (y.l (3 : Nat)) (↑(y.n (74 : Nat)).toNat : Int) ∧ (↑(y.n (74 : Nat)).toNat : Int) * (512 : Int) ≤ y.n (73 : Nat)) ∧ ∀ (y_1 : PX), ((((0 :
      Int) ≤ y_1.n (33 : Nat) ∧ y_1.n (33 : Nat) ≤ (32 : Int)) ∧ ((0 : Int) ≤ y_1.n (67 : Nat) ∧ y_1.n (67 : Nat) ≤ (32 : Int)) ∧ ((0 : Int) ≤ y_1.n (72 : Nat) ∧ y_1.n (72 :
      Nat) ≤ (1022 : Int)) ∧ ((0 : Int) ≤ y_1.n (73 : Nat) ∧ y_1.n (73 : Nat) ≤ (10000000 : Int)) ∧ (0 : Int) ≤ y_1.n (74 : Nat) ∧ True) ∧ (((0 : Int) ≤ y_1.n (100000 : Nat) ∧
      y_1.n (100000 : Nat) ≤ (10000000 : Int)) ∧ True) ∧ (flat [Sp.r IntKind.i16 (0 : Int) (0 : Int), Sp.r IntKind.i16 (0 : Int) (0 : Int)] = true ∧ Row [Sp.r IntKind.i16 (0 :
      Int) (0 : Int), Sp.r IntKind.i16 (0 : Int) (0 : Int)] (y_1.l (2 : Nat))) ∧ True) ∧ True ∧ Len2 (y_1.l (2 : Nat)) (y_1.n (74 : Nat)) ∧ y_1.n (74 : Nat) * (512 : Int) ≤
      y_1.n (73 : Nat) → (((68 : Nat) = (68 : Nat) ∧ (((0 : Int) ≤ y.n (100033 : Nat) ∧ y.n (100033 : Nat) ≤ (32 : Int)) ∧ ((0 : Int) ≤ y.n (100067 : Nat) ∧ y.n (100067 : Nat) ≤
      (32 : Int)) ∧ ((0 : Int) ≤ y.n (100072 : Nat) ∧ y.n (100072 : Nat) ≤ (1022 : Int)) ∧ ((0 : Int) ≤ y.n (100073 : Nat) ∧ y.n (100073 : Nat) ≤ (10000000 : Int)) ∧ True) ∧ (84
      : Nat) = (84 : Nat) ∧ (((0 : Int) ≤ y.n (400000 : Nat) ∧ y.n (400000 : Nat) ≤ (10000000 : Int)) ∧ True) ∧ (60 : Nat) = (60 : Nat) ∧ (flat [Sp.r IntKind.i16 (0 : Int) (0 :
      Int), Sp.r IntKind.i16 (0 : Int) (0 : Int)] = true ∧ Row [Sp.r IntKind.i16 (0 : Int) (0 : Int), Sp.r IntKind.i16 (0 : Int) (0 : Int)] (y.l (5 : Nat))) ∧
      (741991204937588471353107210173517385893522847741378461052633880361214601735917472982278721692919759636892846595991201096475255940853038949688016010326287086087990634635853824
      : Nat) =
      (741991204937588471353107210173517385893522847741378461052633880361214601735917472982278721692919759636892846595991201096475255940853038949688016010326287086087990634635853824
      : Nat) ∧ ([] : SW) = []) ∧ Len2 (y.l (5 : Nat)) (↑(y.n (100074 : Nat)).toNat : Int) ∧ (↑(y.n (100074 : Nat)).toNat : Int) * (512 : Int) ≤ y.n (100073 : Nat)) ∧ ∀ (y_2 :
      PX), ((((0 : Int) ≤ y_2.n (33 : Nat) ∧ y_2.n (33 : Nat) ≤ (32 : Int)) ∧ ((0 : Int) ≤ y_2.n (67 : Nat) ∧ y_2.n (67 : Nat) ≤ (32 : Int)) ∧ ((0 : Int) ≤ y_2.n (72 : Nat) ∧
      y_2.n (72 : Nat) ≤ (1022 : Int)) ∧ ((0 : Int) ≤ y_2.n (73 : Nat) ∧ y_2.n (73 : Nat) ≤ (10000000 : Int)) ∧ (0 : Int) ≤ y_2.n (74 : Nat) ∧ True) ∧ (((0 : Int) ≤ y_2.n
      (100000 : Nat) ∧ y_2.n (100000 : Nat) ≤ (10000000 : Int)) ∧ True) ∧ (flat [Sp.r IntKind.i16 (0 : Int) (0 : Int), Sp.r IntKind.i16 (0 : Int) (0 : Int)] = true ∧ Row [Sp.r
      IntKind.i16 (0 : Int) (0 : Int), Sp.r IntKind.i16 (0 : Int) (0 : Int)] (y_2.l (2 : Nat))) ∧ True) ∧ True ∧ Len2 (y_2.l (2 : Nat)) (y_2.n (74 : Nat)) ∧ y_2.n (74 : Nat) *
      (512 : Int) ≤ y_2.n (73 : Nat) → l_td E = l_td E ∧ (106 : Nat) = (106 : Nat) ∧ ((renC (posN [(0 : Nat), (1 : Nat), (2 : Nat), (3 : Nat), (4 : Nat), (5 : Nat), (6 : Nat),
      (7 : Nat)]) (C.es a n m) = C.es a n m ∧ True) ∧ True ∧ True ∧ (((0 : Int) ≤ IntKind.i64.wrap (y.n (91007 : Nat) + eI E a ((y.n (91029 : Nat)).toNat * (4 : Nat) + (0 :
      Nat))) ∧ IntKind.i64.wrap (y.n (91007 : Nat) + eI E a ((y.n (91029 : Nat)).toNat * (4 : Nat) + (0 : Nat))) ≤ (3050000 : Int)) ∧ True) ∧ (renC (posN [(0 : Nat), (1 : Nat),
      (2 : Nat), (3 : Nat), (4 : Nat), (5 : Nat), (6 : Nat), (7 : Nat)]) (C.es a n m) = C.es a n m ∧ True) ∧ (renC (posN [(0 : Nat), (1 : Nat), (2 : Nat), (3 : Nat), (4 : Nat),
      (5 : Nat), (6 : Nat), (7 : Nat)]) (C.i false IntKind.i64 (↑n : Int)) = C.i false IntKind.i64 (↑n : Int) ∧ True) ∧ (((0 : Int) ≤ IntKind.i64.wrap (y.n (91029 : Nat) + (1 :
      Int)) ∧ IntKind.i64.wrap (y.n (91029 : Nat) + (1 : Int)) ≤ (60 : Int)) ∧ True) ∧ True) ∧ ((68 : Nat) = (68 : Nat) ∧ (((0 : Int) ≤ y_1.n (33 : Nat) ∧ y_1.n (33 : Nat) ≤ (32
      : Int)) ∧ ((0 : Int) ≤ y_1.n (67 : Nat) ∧ y_1.n (67 : Nat) ≤ (32 : Int)) ∧ ((0 : Int) ≤ y_1.n (72 : Nat) ∧ y_1.n (72 : Nat) ≤ (1022 : Int)) ∧ ((0 : Int) ≤ y_1.n (73 : Nat)
      ∧ y_1.n (73 : Nat) ≤ (10000000 : Int)) ∧ True) ∧ (68 : Nat) = (68 : Nat) ∧ (((0 : Int) ≤ y_2.n (33 : Nat) ∧ y_2.n (33 : Nat) ≤ (32 : Int)) ∧ ((0 : Int) ≤ y_2.n (67 : Nat)
      ∧ y_2.n (67 : Nat) ≤ (32 : Int)) ∧ ((0 : Int) ≤ y_2.n (72 : Nat) ∧ y_2.n (72 : Nat) ≤ (1022 : Int)) ∧ ((0 : Int) ≤ y_2.n (73 : Nat) ∧ y_2.n (73 : Nat) ≤ (10000000 : Int))
      ∧ True) ∧ (84 : Nat) = (84 : Nat) ∧ (((0 : Int) ≤ y_1.n (100000 : Nat) ∧ y_1.n (100000 : Nat) ≤ (10000000 : Int)) ∧ True) ∧ (60 : Nat) = (60 : Nat) ∧ (flat [Sp.r
      IntKind.i16 (0 : Int) (0 : Int), Sp.r IntKind.i16 (0 : Int) (0 : Int)] = true ∧ Row [Sp.r IntKind.i16 (0 : Int) (0 : Int), Sp.r IntKind.i16 (0 : Int) (0 : Int)] (y_1.l (2
      : Nat))) ∧ (84 : Nat) = (84 : Nat) ∧ (((0 : Int) ≤ y_2.n (100000 : Nat) ∧ y_2.n (100000 : Nat) ≤ (10000000 : Int)) ∧ True) ∧ (60 : Nat) = (60 : Nat) ∧ (flat [Sp.r
      IntKind.i16 (0 : Int) (0 : Int), Sp.r IntKind.i16 (0 : Int) (0 : Int)] = true ∧ Row [Sp.r IntKind.i16 (0 : Int) (0 : Int), Sp.r IntKind.i16 (0 : Int) (0 : Int)] (y_2.l (2
      : Nat))) ∧
      (741991204937588471353107210173517385893522847741378461052633880361214601735917472982278721692919759636892846595991201096475255940853038949688016010326287086087990634635853824
      : Nat) =
      (741991204937588471353107210173517385893522847741378461052633880361214601735917472982278721692919759636892846595991201096475255940853038949688016010326287086087990634635853824
      : Nat) ∧
      (741991204937588471353107210173517385893522847741378461052633880361214601735917472982278721692919759636892846595991201096475255940853038949688016010326287086087990634635853824
      : Nat) =
      (741991204937588471353107210173517385893522847741378461052633880361214601735917472982278721692919759636892846595991201096475255940853038949688016010326287086087990634635853824
      : Nat) ∧ ([] : SW) = []) ∧ (((Len2 (y_1.l (2 : Nat)) (↑(y_1.n (74 : Nat)).toNat : Int) ∧ (↑(y_1.n (74 : Nat)).toNat : Int) * (512 : Int) ≤ y_1.n (73 : Nat)) ∧ Len2 (y_2.l
      (2 : Nat)) (↑(y_2.n (74 : Nat)).toNat : Int) ∧ (↑(y_2.n (74 : Nat)).toNat : Int) * (512 : Int) ≤ y_2.n (73 : Nat)) ∧ IntKind.i64.wrap (y.n (91007 : Nat) + eI E a ((y.n
      (91029 : Nat)).toNat * (4 : Nat) + (0 : Nat))) ≤ (50000 : Int) * IntKind.i64.wrap (y.n (91029 : Nat) + (1 : Int)) ∧ IntKind.i64.wrap (y.n (91029 : Nat) + (1 : Int)) ≤ (↑n
      : Int) ∧ (↑n : Int) ≤ (60 : Int)) ∧ ((2000000 : Int) - IntKind.i64.wrap (y.n (91029 : Nat) + (1 : Int))).toNat < ((2000000 : Int) - y.n (91029 : Nat)).toNat ∧ True) ∧ ((eI
      E a ((y.n (91029 : Nat)).toNat * (4 : Nat) + (1 : Nat)) == (2 : Int)) = false → ((eI E a ((y.n (91029 : Nat)).toNat * (4 : Nat) + (1 : Nat)) == (3 : Int)) = true → (((68 :
      Nat) = (68 : Nat) ∧ (((0 : Int) ≤ y.n (33 : Nat) ∧ y.n (33 : Nat) ≤ (32 : Int)) ∧ ((0 : Int) ≤ y.n (67 : Nat) ∧ y.n (67 : Nat) ≤ (32 : Int)) ∧ ((0 : Int) ≤ y.n (72 : Nat)
      ∧ y.n (72 : Nat) ≤ (1022 : Int)) ∧ ((0 : Int) ≤ y.n (73 : Nat) ∧ y.n (73 : Nat) ≤ (10000000 : Int)) ∧ True) ∧ (84 : Nat) = (84 : Nat) ∧ (((0 : Int) ≤ y.n (200000 : Nat) ∧
      y.n (200000 : Nat) ≤ (10000000 : Int)) ∧ True) ∧ (60 : Nat) = (60 : Nat) ∧ (flat [Sp.r IntKind.i16 (0 : Int) (0 : Int), Sp.r IntKind.i16 (0 : Int) (0 : Int)] = true ∧ Row
      [Sp.r IntKind.i16 (0 : Int) (0 : Int), Sp.r IntKind.i16 (0 : Int) (0 : Int)] (y.l (3 : Nat))) ∧
      (741991204937588471353107210173517385893522847741378461052633880361214601735917472982278721692919759636892846595991201096475255940853038949688016010326287086087990634635853824
      : Nat) =
      (741991204937588471353107210173517385893522847741378461052633880361214601735917472982278721692919759636892846595991201096475255940853038949688016010326287086087990634635853824
      : Nat) ∧ ([] : SW) = []) ∧ Len2 (y.l (3 : Nat)) (↑(y.n (74 : Nat)).toNat : Int) ∧ (↑(y.n (74 : Nat)).toNat : Int) * (512 : Int) ≤ y.n (73 : Nat) ∧ IntKind.i64.wrap (y.n
      (91007 : Nat) + eI E a ((y.n (91029 : Nat)).toNat * (4 : Nat) + (0 : Nat))) ≤ (10000000 : Int)) ∧ ∀ (y_1 : PX), ((((0 : Int) ≤ y_1.n (33 : Nat) ∧ y_1.n (33 : Nat) ≤ (32 :
      Int)) ∧ ((0 : Int) ≤ y_1.n (67 : Nat) ∧ y_1.n (67 : Nat) ≤ (32 : Int)) ∧ ((0 : Int) ≤ y_1.n (72 : Nat) ∧ y_1.n (72 : Nat) ≤ (1022 : Int)) ∧ ((0 : Int) ≤ y_1.n (73 : Nat) ∧
      y_1.n (73 : Nat) ≤ (10000000 : Int)) ∧ (0 : Int) ≤ y_1.n (74 : Nat) ∧ True) ∧ (((0 : Int) ≤ y_1.n (100000 : Nat) ∧ y_1.n (100000 : Nat) ≤ (10000000 : Int)) ∧ True) ∧ (flat
      [Sp.r IntKind.i16 (0 : Int) (0 : Int), Sp.r IntKind.i16 (0 : Int) (0 : Int)] = true ∧ Row [Sp.r IntKind.i16 (0 : Int) (0 : Int), Sp.r IntKind.i16 (0 : Int) (0 : Int)]
      (y_1.l (4 : Nat))) ∧ True) ∧ (((0 : Int) ≤ y_1.n (90000 : Nat) ∧ y_1.n (90000 : Nat) ≤ (0 : Int)) ∧ True) ∧ Len2 (y_1.l (4 : Nat)) (y_1.n (74 : Nat)) ∧ y_1.n (74 : Nat) *
      (512 : Int) ≤ y_1.n (73 : Nat) → ((y_1.n (90000 : Nat) != (0 : Int)) = true → ([] : SW) = [] ∧ True ∧ false = true) ∧ ((y_1.n (90000 : Nat) != (0 : Int)) = false → (((68 :
      Nat) = (68 : Nat) ∧ (((0 : Int) ≤ y.n (100033 : Nat) ∧ y.n (100033 : Nat) ≤ (32 : Int)) ∧ ((0 : Int) ≤ y.n (100067 : Nat) ∧ y.n (100067 : Nat) ≤ (32 : Int)) ∧ ((0 : Int) ≤
      y.n (100072 : Nat) ∧ y.n (100072 : Nat) ≤ (1022 : Int)) ∧ ((0 : Int) ≤ y.n (100073 : Nat) ∧ y.n (100073 : Nat) ≤ (10000000 : Int)) ∧ True) ∧ (84 : Nat) = (84 : Nat) ∧ (((0
      : Int) ≤ y.n (400000 : Nat) ∧ y.n (400000 : Nat) ≤ (10000000 : Int)) ∧ True) ∧ (60 : Nat) = (60 : Nat) ∧ (flat [Sp.r IntKind.i16 (0 : Int) (0 : Int), Sp.r IntKind.i16 (0 :
      Int) (0 : Int)] = true ∧ Row [Sp.r IntKind.i16 (0 : Int) (0 : Int), Sp.r IntKind.i16 (0 : Int) (0 : Int)] (y.l (5 : Nat))) ∧
      (741991204937588471353107210173517385893522847741378461052633880361214601735917472982278721692919759636892846595991201096475255940853038949688016010326287086087990634635853824
      : Nat) =
      (741991204937588471353107210173517385893522847741378461052633880361214601735917472982278721692919759636892846595991201096475255940853038949688016010326287086087990634635853824
      : Nat) ∧ ([] : SW) = []) ∧ Len2 (y.l (5 : Nat)) (↑(y.n (100074 : Nat)).toNat : Int) ∧ (↑(y.n (100074 : Nat)).toNat : Int) * (512 : Int) ≤ y.n (100073 : Nat) ∧
      IntKind.i64.wrap (y.n (91007 : Nat) + eI E a ((y.n (91029 : Nat)).toNat * (4 : Nat) + (0 : Nat))) ≤ (10000000 : Int)) ∧ ∀ (y_2 : PX), ((((0 : Int) ≤ y_2.n (33 : Nat) ∧
      y_2.n (33 : Nat) ≤ (32 : Int)) ∧ ((0 : Int) ≤ y_2.n (67 : Nat) ∧ y_2.n (67 : Nat) ≤ (32 : Int)) ∧ ((0 : Int) ≤ y_2.n (72 : Nat) ∧ y_2.n (72 : Nat) ≤ (1022 : Int)) ∧ ((0 :
      Int) ≤ y_2.n (73 : Nat) ∧ y_2.n (73 : Nat) ≤ (10000000 : Int)) ∧ (0 : Int) ≤ y_2.n (74 : Nat) ∧ True) ∧ (((0 : Int) ≤ y_2.n (100000 : Nat) ∧ y_2.n (100000 : Nat) ≤
      (10000000 : Int)) ∧ True) ∧ (flat [Sp.r IntKind.i16 (0 : Int) (0 : Int), Sp.r IntKind.i16 (0 : Int) (0 : Int)] = true ∧ Row [Sp.r IntKind.i16 (0 : Int) (0 : Int), Sp.r
      IntKind.i16 (0 : Int) (0 : Int)] (y_2.l (4 : Nat))) ∧ True) ∧ True ∧ Len2 (y_2.l (4 : Nat)) (y_2.n (74 : Nat)) ∧ y_2.n (74 : Nat) * (512 : Int) ≤ y_2.n (73 : Nat) → l_td E
      = l_td E ∧ (106 : Nat) = (106 : Nat) ∧ ((renC (posN [(0 : Nat), (1 : Nat), (2 : Nat), (9 : Nat), (4 : Nat), (10 : Nat), (6 : Nat), (7 : Nat)]) (C.es a n m) = C.es a n m ∧
      True) ∧ True ∧ True ∧ (((0 : Int) ≤ IntKind.i64.wrap (y.n (91007 : Nat) + eI E a ((y.n (91029 : Nat)).toNat * (4 : Nat) + (0 : Nat))) ∧ IntKind.i64.wrap (y.n (91007 : Nat)
      + eI E a ((y.n (91029 : Nat)).toNat * (4 : Nat) + (0 : Nat))) ≤ (3050000 : Int)) ∧ True) ∧ (renC (posN [(0 : Nat), (1 : Nat), (2 : Nat), (9 : Nat), (4 : Nat), (10 : Nat),
      (6 : Nat), (7 : Nat)]) (C.es a n m) = C.es a n m ∧ True) ∧ (renC (posN [(0 : Nat), (1 : Nat), (2 : Nat), (9 : Nat), (4 : Nat), (10 : Nat), (6 : Nat), (7 : Nat)]) (C.i
      false IntKind.i64 (↑n : Int)) = C.i false IntKind.i64 (↑n : Int) ∧ True) ∧ (((0 : Int) ≤ IntKind.i64.wrap (y.n (91029 : Nat) + (1 : Int)) ∧ IntKind.i64.wrap (y.n (91029 :
      Nat) + (1 : Int)) ≤ (60 : Int)) ∧ True) ∧ True) ∧ ((68 : Nat) = (68 : Nat) ∧ (((0 : Int) ≤ y_1.n (33 : Nat) ∧ y_1.n (33 : Nat) ≤ (32 : Int)) ∧ ((0 : Int) ≤ y_1.n (67 :
      Nat) ∧ y_1.n (67 : Nat) ≤ (32 : Int)) ∧ ((0 : Int) ≤ y_1.n (72 : Nat) ∧ y_1.n (72 : Nat) ≤ (1022 : Int)) ∧ ((0 : Int) ≤ y_1.n (73 : Nat) ∧ y_1.n (73 : Nat) ≤ (10000000 :
      Int)) ∧ True) ∧ (68 : Nat) = (68 : Nat) ∧ (((0 : Int) ≤ y_2.n (33 : Nat) ∧ y_2.n (33 : Nat) ≤ (32 : Int)) ∧ ((0 : Int) ≤ y_2.n (67 : Nat) ∧ y_2.n (67 : Nat) ≤ (32 : Int))
      ∧ ((0 : Int) ≤ y_2.n (72 : Nat) ∧ y_2.n (72 : Nat) ≤ (1022 : Int)) ∧ ((0 : Int) ≤ y_2.n (73 : Nat) ∧ y_2.n (73 : Nat) ≤ (10000000 : Int)) ∧ True) ∧ (84 : Nat) = (84 : Nat)
      ∧ (((0 : Int) ≤ y_1.n (100000 : Nat) ∧ y_1.n (100000 : Nat) ≤ (10000000 : Int)) ∧ True) ∧ (60 : Nat) = (60 : Nat) ∧ (flat [Sp.r IntKind.i16 (0 : Int) (0 : Int), Sp.r
      IntKind.i16 (0 : Int) (0 : Int)] = true ∧ Row [Sp.r IntKind.i16 (0 : Int) (0 : Int), Sp.r IntKind.i16 (0 : Int) (0 : Int)] (y_1.l (4 : Nat))) ∧ (84 : Nat) = (84 : Nat) ∧
      (((0 : Int) ≤ y_2.n (100000 : Nat) ∧ y_2.n (100000 : Nat) ≤ (10000000 : Int)) ∧ True) ∧ (60 : Nat) = (60 : Nat) ∧ (flat [Sp.r IntKind.i16 (0 : Int) (0 : Int), Sp.r
      IntKind.i16 (0 : Int) (0 : Int)] = true ∧ Row [Sp.r IntKind.i16 (0 : Int) (0 : Int), Sp.r IntKind.i16 (0 : Int) (0 : Int)] (y_2.l (4 : Nat))) ∧
      (741991204937588471353107210173517385893522847741378461052633880361214601735917472982278721692919759636892846595991201096475255940853038949688016010326287086087990634635853824
      : Nat) =
      (741991204937588471353107210173517385893522847741378461052633880361214601735917472982278721692919759636892846595991201096475255940853038949688016010326287086087990634635853824
      : Nat) ∧
      (741991204937588471353107210173517385893522847741378461052633880361214601735917472982278721692919759636892846595991201096475255940853038949688016010326287086087990634635853824
      : Nat) =
      (741991204937588471353107210173517385893522847741378461052633880361214601735917472982278721692919759636892846595991201096475255940853038949688016010326287086087990634635853824
      : Nat) ∧ ([] : SW) = []) ∧ (((Len2 (y_1.l (4 : Nat)) (↑(y_1.n (74 : Nat)).toNat : Int) ∧ (↑(y_1.n (74 : Nat)).toNat : Int) * (512 : Int) ≤ y_1.n (73 : Nat)) ∧ Len2 (y_2.l
      (4 : Nat)) (↑(y_2.n (74 : Nat)).toNat : Int) ∧ (↑(y_2.n (74 : Nat)).toNat : Int) * (512 : Int) ≤ y_2.n (73 : Nat)) ∧ IntKind.i64.wrap (y.n (91007 : Nat) + eI E a ((y.n
      (91029 : Nat)).toNat * (4 : Nat) + (0 : Nat))) ≤ (50000 : Int) * IntKind.i64.wrap (y.n (91029 : Nat) + (1 : Int)) ∧ IntKind.i64.wrap (y.n (91029 : Nat) + (1 : Int)) ≤ (↑n
      : Int) ∧ (↑n : Int) ≤ (60 : Int)) ∧ ((2000000 : Int) - IntKind.i64.wrap (y.n (91029 : Nat) + (1 : Int))).toNat < ((2000000 : Int) - y.n (91029 : Nat)).toNat ∧ True)) ∧
      ((eI E a ((y.n (91029 : Nat)).toNat * (4 : Nat) + (1 : Nat)) == (3 : Int)) = false → l_td E = l_td E ∧ (106 : Nat) = (106 : Nat) ∧ ((renC (posN [(0 : Nat), (1 : Nat), (2 :
      Nat), (3 : Nat), (4 : Nat), (5 : Nat), (6 : Nat), (7 : Nat)]) (C.es a n m) = C.es a n m ∧ True) ∧ True ∧ True ∧ (((0 : Int) ≤ IntKind.i64.wrap (y.n (91007 : Nat) + eI E a
      ((y.n (91029 : Nat)).toNat * (4 : Nat) + (0 : Nat))) ∧ IntKind.i64.wrap (y.n (91007 : Nat) + eI E a ((y.n (91029 : Nat)).toNat * (4 : Nat) + (0 : Nat))) ≤ (3050000 : Int))
      ∧ True) ∧ (renC (posN [(0 : Nat), (1 : Nat), (2 : Nat), (3 : Nat), (4 : Nat), (5 : Nat), (6 : Nat), (7 : Nat)]) (C.es a n m) = C.es a n m ∧ True) ∧ (renC (posN [(0 : Nat),
      (1 : Nat), (2 : Nat), (3 : Nat), (4 : Nat), (5 : Nat), (6 : Nat), (7 : Nat)]) (C.i false IntKind.i64 (↑n : Int)) = C.i false IntKind.i64 (↑n : Int) ∧ True) ∧ (((0 : Int) ≤
      IntKind.i64.wrap (y.n (91029 : Nat) + (1 : Int)) ∧ IntKind.i64.wrap (y.n (91029 : Nat) + (1 : Int)) ≤ (60 : Int)) ∧ True) ∧ True) ∧ ((68 : Nat) = (68 : Nat) ∧ (((0 : Int)
      ≤ y.n (33 : Nat) ∧ y.n (33 : Nat) ≤ (32 : Int)) ∧ ((0 : Int) ≤ y.n (67 : Nat) ∧ y.n (67 : Nat) ≤ (32 : Int)) ∧ ((0 : Int) ≤ y.n (72 : Nat) ∧ y.n (72 : Nat) ≤ (1022 : Int))
      ∧ ((0 : Int) ≤ y.n (73 : Nat) ∧ y.n (73 : Nat) ≤ (10000000 : Int)) ∧ True) ∧ (68 : Nat) = (68 : Nat) ∧ (((0 : Int) ≤ y.n (100033 : Nat) ∧ y.n (100033 : Nat) ≤ (32 : Int))
      ∧ ((0 : Int) ≤ y.n (100067 : Nat) ∧ y.n (100067 : Nat) ≤ (32 : Int)) ∧ ((0 : Int) ≤ y.n (100072 : Nat) ∧ y.n (100072 : Nat) ≤ (1022 : Int)) ∧ ((0 : Int) ≤ y.n (100073 :
      Nat) ∧ y.n (100073 : Nat) ≤ (10000000 : Int)) ∧ True) ∧ (84 : Nat) = (84 : Nat) ∧ (((0 : Int) ≤ y.n (200000 : Nat) ∧ y.n (200000 : Nat) ≤ (10000000 : Int)) ∧ True) ∧ (60 :
      Nat) = (60 : Nat) ∧ (flat [Sp.r IntKind.i16 (0 : Int) (0 : Int), Sp.r IntKind.i16 (0 : Int) (0 : Int)] = true ∧ Row [Sp.r IntKind.i16 (0 : Int) (0 : Int), Sp.r IntKind.i16
      (0 : Int) (0 : Int)] (y.l (3 : Nat))) ∧ (84 : Nat) = (84 : Nat) ∧ (((0 : Int) ≤ y.n (400000 : Nat) ∧ y.n (400000 : Nat) ≤ (10000000 : Int)) ∧ True) ∧ (60 : Nat) = (60 :
      Nat) ∧ (flat [Sp.r IntKind.i16 (0 : Int) (0 : Int), Sp.r IntKind.i16 (0 : Int) (0 : Int)] = true ∧ Row [Sp.r IntKind.i16 (0 : Int) (0 : Int), Sp.r IntKind.i16 (0 : Int) (0
      : Int)] (y.l (5 : Nat))) ∧
      (741991204937588471353107210173517385893522847741378461052633880361214601735917472982278721692919759636892846595991201096475255940853038949688016010326287086087990634635853824
      : Nat) =
      (741991204937588471353107210173517385893522847741378461052633880361214601735917472982278721692919759636892846595991201096475255940853038949688016010326287086087990634635853824
      : Nat) ∧
      (741991204937588471353107210173517385893522847741378461052633880361214601735917472982278721692919759636892846595991201096475255940853038949688016010326287086087990634635853824
      : Nat) =
      (741991204937588471353107210173517385893522847741378461052633880361214601735917472982278721692919759636892846595991201096475255940853038949688016010326287086087990634635853824
      : Nat) ∧ ([] : SW) = []) ∧ (((Len2 (y.l (3 : Nat)) (↑(y.n (74 : Nat)).toNat : Int) ∧ (↑(y.n (74 : Nat)).toNat : Int) * (512 : Int) ≤ y.n (73 : Nat)) ∧ Len2 (y.l (5 : Nat))
      (↑(y.n (100074 : Nat)).toNat : Int) ∧ (↑(y.n (100074 : Nat)).toNat : Int) * (512 : Int) ≤ y.n (100073 : Nat)) ∧ IntKind.i64.wrap (y.n (91007 : Nat) + eI E a ((y.n (91029 :
      Nat)).toNat * (4 : Nat) + (0 : Nat))) ≤ (50000 : Int) * IntKind.i64.wrap (y.n (91029 : Nat) + (1 : Int)) ∧ IntKind.i64.wrap (y.n (91029 : Nat) + (1 : Int)) ≤ (↑n : Int) ∧
      (↑n : Int) ≤ (60 : Int)) ∧ ((2000000 : Int) - IntKind.i64.wrap (y.n (91029 : Nat) + (1 : Int))).toNat < ((2000000 : Int) - y.n (91029 : Nat)).toNat ∧ True))))) ∧ (decide
      (y.n (91029 : Nat) < (↑n : Int)) = false → (((68 : Nat) = (68 : Nat) ∧ (((0 : Int) ≤ y.n (33 : Nat) ∧ y.n (33 : Nat) ≤ (32 : Int)) ∧ ((0 : Int) ≤ y.n (67 : Nat) ∧ y.n (67
      : Nat) ≤ (32 : Int)) ∧ ((0 : Int) ≤ y.n (72 : Nat) ∧ y.n (72 : Nat) ≤ (1022 : Int)) ∧ ((0 : Int) ≤ y.n (73 : Nat) ∧ y.n (73 : Nat) ≤ (10000000 : Int)) ∧ True) ∧ (84 : Nat)
      = (84 : Nat) ∧ (((0 : Int) ≤ y.n (200000 : Nat) ∧ y.n (200000 : Nat) ≤ (10000000 : Int)) ∧ True) ∧ (60 : Nat) = (60 : Nat) ∧ (flat [Sp.r IntKind.i16 (0 : Int) (0 : Int),
      Sp.r IntKind.i16 (0 : Int) (0 : Int)] = true ∧ Row [Sp.r IntKind.i16 (0 : Int) (0 : Int), Sp.r IntKind.i16 (0 : Int) (0 : Int)] (y.l (3 : Nat))) ∧
      (741991204937588471353107210173517385893522847741378461052633880361214601735917472982278721692919759636892846595991201096475255940853038949688016010326287086087990634635853824
      : Nat) =
      (741991204937588471353107210173517385893522847741378461052633880361214601735917472982278721692919759636892846595991201096475255940853038949688016010326287086087990634635853824
      : Nat) ∧ ([] : SW) = []) ∧ Len2 (y.l (3 : Nat)) (↑(y.n (74 : Nat)).toNat : Int) ∧ (↑(y.n (74 : Nat)).toNat : Int) * (512 : Int) ≤ y.n (73 : Nat) ∧ IntKind.i64.wrap (y.n
      (91007 : Nat) + (2000 : Int)) ≤ (10000000 : Int)) ∧ ∀ (y_1 : PX), ((((0 : Int) ≤ y_1.n (33 : Nat) ∧ y_1.n (33 : Nat) ≤ (32 : Int)) ∧ ((0 : Int) ≤ y_1.n (67 : Nat) ∧ y_1.n
      (67 : Nat) ≤ (32 : Int)) ∧ ((0 : Int) ≤ y_1.n (72 : Nat) ∧ y_1.n (72 : Nat) ≤ (1022 : Int)) ∧ ((0 : Int) ≤ y_1.n (73 : Nat) ∧ y_1.n (73 : Nat) ≤ (10000000 : Int)) ∧ (0 :
      Int) ≤ y_1.n (74 : Nat) ∧ True) ∧ (((0 : Int) ≤ y_1.n (100000 : Nat) ∧ y_1.n (100000 : Nat) ≤ (10000000 : Int)) ∧ True) ∧ (flat [Sp.r IntKind.i16 (0 : Int) (0 : Int), Sp.r
      IntKind.i16 (0 : Int) (0 : Int)] = true ∧ Row [Sp.r IntKind.i16 (0 : Int) (0 : Int), Sp.r IntKind.i16 (0 : Int) (0 : Int)] (y_1.l (4 : Nat))) ∧ True) ∧ True ∧ Len2 (y_1.l
      (4 : Nat)) (y_1.n (74 : Nat)) ∧ y_1.n (74 : Nat) * (512 : Int) ≤ y_1.n (73 : Nat) → (((68 : Nat) = (68 : Nat) ∧ (((0 : Int) ≤ y.n (100033 : Nat) ∧ y.n (100033 : Nat) ≤ (32
      : Int)) ∧ ((0 : Int) ≤ y.n (100067 : Nat) ∧ y.n (100067 : Nat) ≤ (32 : Int)) ∧ ((0 : Int) ≤ y.n (100072 : Nat) ∧ y.n (100072 : Nat) ≤ (1022 : Int)) ∧ ((0 : Int) ≤ y.n
      (100073 : Nat) ∧ y.n (100073 : Nat) ≤ (10000000 : Int)) ∧ True) ∧ (84 : Nat) = (84 : Nat) ∧ (((0 : Int) ≤ y.n (400000 : Nat) ∧ y.n (400000 : Nat) ≤ (10000000 : Int)) ∧
      True) ∧ (60 : Nat) = (60 : Nat) ∧ (flat [Sp.r IntKind.i16 (0 : Int) (0 : Int), Sp.r IntKind.i16 (0 : Int) (0 : Int)] = true ∧ Row [Sp.r IntKind.i16 (0 : Int) (0 : Int),
      Sp.r IntKind.i16 (0 : Int) (0 : Int)] (y.l (5 : Nat))) ∧
      (741991204937588471353107210173517385893522847741378461052633880361214601735917472982278721692919759636892846595991201096475255940853038949688016010326287086087990634635853824
      : Nat) =
      (741991204937588471353107210173517385893522847741378461052633880361214601735917472982278721692919759636892846595991201096475255940853038949688016010326287086087990634635853824
      : Nat) ∧ ([] : SW) = []) ∧ Len2 (y.l (5 : Nat)) (↑(y.n (100074 : Nat)).toNat : Int) ∧ (↑(y.n (100074 : Nat)).toNat : Int) * (512 : Int) ≤ y.n (100073 : Nat) ∧
      IntKind.i64.wrap (y.n (91007 : Nat) + (2000 : Int)) ≤ (10000000 : Int)) ∧ ∀ (y_2 : PX), ((((0 : Int) ≤ y_2.n (33 : Nat) ∧ y_2.n (33 : Nat) ≤ (32 : Int)) ∧ ((0 : Int) ≤
      y_2.n (67 : Nat) ∧ y_2.n (67 : Nat) ≤ (32 : Int)) ∧ ((0 : Int) ≤ y_2.n (72 : Nat) ∧ y_2.n (72 : Nat) ≤ (1022 : Int)) ∧ ((0 : Int) ≤ y_2.n (73 : Nat) ∧ y_2.n (73 : Nat) ≤
      (10000000 : Int)) ∧ (0 : Int) ≤ y_2.n (74 : Nat) ∧ True) ∧ (((0 : Int) ≤ y_2.n (100000 : Nat) ∧ y_2.n (100000 : Nat) ≤ (10000000 : Int)) ∧ True) ∧ (flat [Sp.r IntKind.i16
      (0 : Int) (0 : Int), Sp.r IntKind.i16 (0 : Int) (0 : Int)] = true ∧ Row [Sp.r IntKind.i16 (0 : Int) (0 : Int), Sp.r IntKind.i16 (0 : Int) (0 : Int)] (y_2.l (4 : Nat))) ∧
      True) ∧ True ∧ Len2 (y_2.l (4 : Nat)) (y_2.n (74 : Nat)) ∧ y_2.n (74 : Nat) * (512 : Int) ≤ y_2.n (73 : Nat) → decide ((y_1.n (74 : Nat)).toNat * (2 : Nat) ≤ (y_1.l (4 :
      Nat)).length) = true ∧ decide ((y_1.n (74 : Nat)).toNat + (y_2.n (74 : Nat)).toNat ≤ (1099511627776 : Nat)) = true ∧ decide (((y_1.n (74 : Nat)).toNat + (y_2.n (74 :
      Nat)).toNat) * (4 : Nat) ≤ (1099511627776 : Nat)) = true ∧ decide ((y_2.n (74 : Nat)).toNat * (2 : Nat) ≤ (y_2.l (4 : Nat)).length) = true ∧ stoR (rTake (y_2.l (4 : Nat))
      ((y_2.n (74 : Nat)).toNat * (2 : Nat))) = true ∧ l2_td E = l2_td E ∧ (106 : Nat) = (106 : Nat) ∧ (True ∧ (((0 : Int) ≤ (↑((y_1.n (74 : Nat)).toNat + (y_2.n (74 :
      Nat)).toNat) : Int) ∧ (↑((y_1.n (74 : Nat)).toNat + (y_2.n (74 : Nat)).toNat) : Int) ≤ (1000000 : Int)) ∧ True) ∧ (((0 : Int) ≤ (0 : Int) ∧ (0 : Int) ≤ (1000000 : Int)) ∧
      True) ∧ True) ∧ ((60 : Nat) = (60 : Nat) ∧ (flat [Sp.r IntKind.i16 (0 : Int) (0 : Int), Sp.r IntKind.i16 (0 : Int) (0 : Int)] = true ∧ Row [Sp.r IntKind.i16 (0 : Int) (0 :
      Int), Sp.r IntKind.i16 (0 : Int) (0 : Int)] (rApp (y_1.l (4 : Nat)) ((y_1.n (74 : Nat)).toNat * (2 : Nat)) (rTake (y_2.l (4 : Nat)) ((y_2.n (74 : Nat)).toNat * (2 :
      Nat))))) ∧ ([] : SW) = []) ∧ (Len2 (rApp (y_1.l (4 : Nat)) ((y_1.n (74 : Nat)).toNat * (2 : Nat)) (rTake (y_2.l (4 : Nat)) ((y_2.n (74 : Nat)).toNat * (2 : Nat))))
      (↑((y_1.n (74 : Nat)).toNat + (y_2.n (74 : Nat)).toNat) : Int) ∧ (↑((y_1.n (74 : Nat)).toNat + (y_2.n (74 : Nat)).toNat) : Int) = (↑((y_1.n (74 : Nat)).toNat + (y_2.n (74
      : Nat)).toNat) : Int) ∧ (0 : Int) ≤ (↑((y_1.n (74 : Nat)).toNat + (y_2.n (74 : Nat)).toNat) : Int)) ∧ ((1000000 : Int) - (0 : Int)).toNat < ((2000000 : Int) - y.n (91029 :
      Nat)).toNat ∧ True)) := by kernel_rfl
set_option maxHeartbeats 8000000 in
theorem law_q0 (E : World) (a : Option Addr) (n m : Nat) (b : Int) (z : PX) (hp : (fun _ => eRows E a n 4 [.i .i64, .i .i64, .i .i64, .i .u32] = true ∧ (n = 0 ∨ a.isSome = true) ∧ 0 ≤ b ∧ b ≤ 65535) z) (y : PX) (hy1 : rgM y [mU 2 3, mV 4 5, mP 6, rowS, mP 7, rowS, mO, mO] 0) (hy2 : rgF y [(0, .q (.es a n m)), (5, .c (.p 0 0)), (6, .c (.p 1 0)), (7, .r .i64 (0) (3050000)), (27, .q (.es a n m)), (28, .q (.i false .i64 (n : Int))), (29, .r .i64 (0) (60))]) (hy3 : (fun y => ((Len2 (y.l 3) (y.n 74) ∧ y.n 74 * 512 ≤ y.n 73) ∧ Len2 (y.l 5) (y.n 100074) ∧ y.n 100074 * 512 ≤ y.n 100073) ∧ y.n 91007 ≤ 50000 * y.n 91029 ∧ y.n 91029 ≤ (n : Int) ∧ (n : Int) ≤ 60) y) : Holds ((run (pe E) (orcT E) (tabL fns) 20000 (2 ^ 200 - 1) (l_td E) (mkL Try.f6.ntmps (slC y [(0, .q (.es a n m)), (5, .c (.p 0 0)), (6, .c (.p 1 0)), (7, .r .i64 (0) (3050000)), (27, .q (.es a n m)), (28, .q (.i false .i64 (n : Int))), (29, .r .i64 (0) (60))])) (mkM y [] [mU 2 3, mV 4 5, mP 6, rowS, mP 7, rowS, mO, mO] 0)).OK (lfP (pe E) Try.f6 (endR ([] : List MB).length [] (.c .b) (fun z y => y.b 90000 = true) z) (headR ([] : List MB).length Try.f6.ntmps (some ((fun y => (2000000 - y.n 91029).toNat) y)) (law_hs E a n m b z)))) := by
  refine loopP_lfH ⟨?_⟩
  rw [law_r0]
  have hf : True ∧ True ∧ True ∧ (((0) ≤ y.n 91007 ∧ y.n 91007 ≤ (3050000)) ∧ True) ∧ True ∧ True ∧ (((0) ≤ y.n 91029 ∧ y.n 91029 ≤ (60)) ∧ True) ∧ True := hy2
  obtain ⟨_, _, _, ⟨g7, _⟩, _, _, ⟨g29, _⟩, _⟩ := hf
  obtain ⟨⟨⟨hLu, hnu⟩, hLw, hnw⟩, h7, hi, hn60⟩ := hy3
  obtain ⟨hE, hs, hb⟩ := hp
  obtain ⟨u33, u67, u72, u73, u74, _⟩ : (0 ≤ y.n 33 ∧ y.n 33 ≤ 32) ∧ (0 ≤ y.n 67 ∧ y.n 67 ≤ 32) ∧ (0 ≤ y.n 72 ∧ y.n 72 ≤ 1022) ∧ (0 ≤ y.n 73 ∧ y.n 73 ≤ 10000000) ∧ 0 ≤ y.n 74 ∧ True := hy1.1
  obtain ⟨v33, v67, v72, v73, v74, _⟩ : (0 ≤ y.n 100033 ∧ y.n 100033 ≤ 32) ∧ (0 ≤ y.n 100067 ∧ y.n 100067 ≤ 32) ∧ (0 ≤ y.n 100072 ∧ y.n 100072 ≤ 1022) ∧ (0 ≤ y.n 100073 ∧ y.n 100073 ≤ 10000000) ∧ 0 ≤ y.n 100074 ∧ True := hy1.2.1
  have hPu : (0 ≤ y.n 200000 ∧ y.n 200000 ≤ 10000000) ∧ True := hy1.2.2.1
  have hRu : Row [.r .i16 0 0, .r .i16 0 0] (y.l 3) := hy1.2.2.2.1.2
  have hPv : (0 ≤ y.n 400000 ∧ y.n 400000 ≤ 10000000) ∧ True := hy1.2.2.2.2.1
  have hRv : Row [.r .i16 0 0, .r .i16 0 0] (y.l 5) := hy1.2.2.2.2.2.1.2
  have hf : flat [Sp.r .i16 0 0, Sp.r .i16 0 0] = true := rfl
  have Tu : ((y.n 74).toNat : Int) = y.n 74 := Int.toNat_of_nonneg u74
  have Tv : ((y.n 100074).toNat : Int) = y.n 100074 := Int.toNat_of_nonneg v74
  simp only [Tu, Tv]
  refine ⟨fun hl => ?_, fun hl => ?_⟩
  · have hl := of_decide_eq_true hl
    have hin : inB (y.n 91029) n = true := by simp only [inB, Bool.and_eq_true, decide_eq_true_eq]; omega
    have her : eRow E a ((y.n 91029).toNat * 4 + 0) ([EK.i .i64] ++ ([EK.i .i64] ++ ([EK.i .i64] ++ ([EK.i .u32] ++ [])))) = true := List.all_eq_true.1 hE (y.n 91029).toNat (List.mem_range.2 (by omega))
    have hsm : a.isSome = true := by rcases hs with h | h; (exfalso; omega); exact h
    refine ⟨hin, hsm, her, ?_⟩
    clear hin her hE hs hsm
    generalize eI E a ((y.n 91029).toNat * 4 + 0) = W
    generalize eI E a ((y.n 91029).toNat * 4 + 1) = K
    generalize eI E a ((y.n 91029).toNat * 4 + 2) = I
    generalize eI E a ((y.n 91029).toNat * 4 + 3) = X
    have w1 : IntKind.i64.wrap (y.n 91029 + 1) = y.n 91029 + 1 := by rw [wi64]; omega
    have hx : 0 ≤ IntKind.u16.wrap X ∧ IntKind.u16.wrap X ≤ 65535 := by rw [wu16]; omega
    refine ⟨fun hw => ?_, fun hw => ?_⟩
    · clear hw
      simp only [w1]
      ((repeat' (first | exact trivial | with_reducible rfl | assumption | exact decide_eq_true rfl | exact sameB_self _ | exact rfl | apply And.intro | intro _)) <;> omega)
    · have hw2 : 0 ≤ W ∧ W ≤ 50000 := by
        by_cases a1 : W < 0
        · simp [a1] at hw
        · by_cases a2 : W > 50000
          · simp [a1, a2] at hw
          · omega
      clear hw
      have w7 : IntKind.i64.wrap (y.n 91007 + W) = y.n 91007 + W := by rw [wi64]; omega
      simp only [w7, w1]
      refine ⟨fun hk => ⟨fun hi2 => ?_, fun _ => by ((repeat' (first | exact trivial | with_reducible rfl | assumption | exact decide_eq_true rfl | exact sameB_self _ | exact rfl | apply And.intro | intro _)) <;> omega)⟩, fun hk => ⟨fun hk2 => ⟨by ((repeat' (first | exact trivial | with_reducible rfl | assumption | exact decide_eq_true rfl | exact sameB_self _ | exact rfl | apply And.intro | intro _)) <;> omega), ?_⟩, fun hk2 => ⟨fun hk3 => ⟨by ((repeat' (first | exact trivial | with_reducible rfl | assumption | exact decide_eq_true rfl | exact sameB_self _ | exact rfl | apply And.intro | intro _)) <;> omega), ?_⟩, fun hk3 => by ((repeat' (first | exact trivial | with_reducible rfl | assumption | exact decide_eq_true rfl | exact sameB_self _ | exact rfl | apply And.intro | intro _)) <;> omega)⟩⟩⟩
      · have hi3 : I ≠ 2 := by simpa using hi2
        refine ⟨by ((repeat' (first | exact trivial | with_reducible rfl | assumption | exact decide_eq_true rfl | exact sameB_self _ | exact rfl | apply And.intro | intro _)) <;> omega), ?_⟩
        rintro x ⟨⟨hux, hPx, ⟨_, hRx⟩, _⟩, hrvx, hLx, hnx⟩
        obtain ⟨u33x, u67x, u72x, u73x, u74x, _⟩ : (0 ≤ x.n 33 ∧ x.n 33 ≤ 32) ∧ (0 ≤ x.n 67 ∧ x.n 67 ≤ 32) ∧ (0 ≤ x.n 72 ∧ x.n 72 ≤ 1022) ∧ (0 ≤ x.n 73 ∧ x.n 73 ≤ 10000000) ∧ 0 ≤ x.n 74 ∧ True  := hux
        have T1x : ((x.n 74).toNat : Int) = x.n 74 := Int.toNat_of_nonneg u74x
        try simp only [T1x]
        ((repeat' (first | exact trivial | with_reducible rfl | assumption | exact decide_eq_true rfl | exact sameB_self _ | exact rfl | apply And.intro | intro _)) <;> omega)
      · rintro x ⟨⟨hux, hPx, ⟨_, hRx⟩, _⟩, hrvx, hLx, hnx⟩
        obtain ⟨u33x, u67x, u72x, u73x, u74x, _⟩ : (0 ≤ x.n 33 ∧ x.n 33 ≤ 32) ∧ (0 ≤ x.n 67 ∧ x.n 67 ≤ 32) ∧ (0 ≤ x.n 72 ∧ x.n 72 ≤ 1022) ∧ (0 ≤ x.n 73 ∧ x.n 73 ≤ 10000000) ∧ 0 ≤ x.n 74 ∧ True  := hux
        have T1x : ((x.n 74).toNat : Int) = x.n 74 := Int.toNat_of_nonneg u74x
        try simp only [T1x]
        refine ⟨by ((repeat' (first | exact trivial | with_reducible rfl | assumption | exact decide_eq_true rfl | exact sameB_self _ | exact rfl | apply And.intro | intro _)) <;> omega), ?_⟩
        rintro v ⟨⟨huv, hPv, ⟨_, hRv⟩, _⟩, hrvv, hLv, hnv⟩
        obtain ⟨u33v, u67v, u72v, u73v, u74v, _⟩ : (0 ≤ v.n 33 ∧ v.n 33 ≤ 32) ∧ (0 ≤ v.n 67 ∧ v.n 67 ≤ 32) ∧ (0 ≤ v.n 72 ∧ v.n 72 ≤ 1022) ∧ (0 ≤ v.n 73 ∧ v.n 73 ≤ 10000000) ∧ 0 ≤ v.n 74 ∧ True  := huv
        have T1v : ((v.n 74).toNat : Int) = v.n 74 := Int.toNat_of_nonneg u74v
        try simp only [T1v]
        ((repeat' (first | exact trivial | with_reducible rfl | assumption | exact decide_eq_true rfl | exact sameB_self _ | exact rfl | apply And.intro | intro _)) <;> omega)
      · rintro x ⟨⟨hux, hPx, ⟨_, hRx⟩, _⟩, hrvx, hLx, hnx⟩
        obtain ⟨u33x, u67x, u72x, u73x, u74x, _⟩ : (0 ≤ x.n 33 ∧ x.n 33 ≤ 32) ∧ (0 ≤ x.n 67 ∧ x.n 67 ≤ 32) ∧ (0 ≤ x.n 72 ∧ x.n 72 ≤ 1022) ∧ (0 ≤ x.n 73 ∧ x.n 73 ≤ 10000000) ∧ 0 ≤ x.n 74 ∧ True  := hux
        have T1x : ((x.n 74).toNat : Int) = x.n 74 := Int.toNat_of_nonneg u74x
        try simp only [T1x]
        have e0 : x.n 90000 = 0 := by omega
        rw [e0]
        refine ⟨fun h => absurd h (by decide), fun _ => ⟨by ((repeat' (first | exact trivial | with_reducible rfl | assumption | exact decide_eq_true rfl | exact sameB_self _ | exact rfl | apply And.intro | intro _)) <;> omega), ?_⟩⟩
        rintro v ⟨⟨huv, hPv, ⟨_, hRv⟩, _⟩, hrvv, hLv, hnv⟩
        obtain ⟨u33v, u67v, u72v, u73v, u74v, _⟩ : (0 ≤ v.n 33 ∧ v.n 33 ≤ 32) ∧ (0 ≤ v.n 67 ∧ v.n 67 ≤ 32) ∧ (0 ≤ v.n 72 ∧ v.n 72 ≤ 1022) ∧ (0 ≤ v.n 73 ∧ v.n 73 ≤ 10000000) ∧ 0 ≤ v.n 74 ∧ True  := huv
        have T1v : ((v.n 74).toNat : Int) = v.n 74 := Int.toNat_of_nonneg u74v
        try simp only [T1v]
        ((repeat' (first | exact trivial | with_reducible rfl | assumption | exact decide_eq_true rfl | exact sameB_self _ | exact rfl | apply And.intro | intro _)) <;> omega)
  · have hl := of_decide_eq_false hl
    have w8 : IntKind.i64.wrap (y.n 91007 + 2000) = y.n 91007 + 2000 := by rw [wi64]; omega
    simp only [w8]
    refine ⟨by ((repeat' (first | exact trivial | with_reducible rfl | assumption | exact decide_eq_true rfl | exact sameB_self _ | exact rfl | apply And.intro | intro _)) <;> omega), ?_⟩
    rintro x ⟨⟨hux, hPx, ⟨_, hRx⟩, _⟩, hrvx, hLx, hnx⟩
    obtain ⟨u33x, u67x, u72x, u73x, u74x, _⟩ : (0 ≤ x.n 33 ∧ x.n 33 ≤ 32) ∧ (0 ≤ x.n 67 ∧ x.n 67 ≤ 32) ∧ (0 ≤ x.n 72 ∧ x.n 72 ≤ 1022) ∧ (0 ≤ x.n 73 ∧ x.n 73 ≤ 10000000) ∧ 0 ≤ x.n 74 ∧ True  := hux
    have T1x : ((x.n 74).toNat : Int) = x.n 74 := Int.toNat_of_nonneg u74x
    try simp only [T1x]
    refine ⟨by ((repeat' (first | exact trivial | with_reducible rfl | assumption | exact decide_eq_true rfl | exact sameB_self _ | exact rfl | apply And.intro | intro _)) <;> omega), ?_⟩
    rintro v ⟨⟨huv, hPv, ⟨_, hRv⟩, _⟩, hrvv, hLv, hnv⟩
    obtain ⟨u33v, u67v, u72v, u73v, u74v, _⟩ : (0 ≤ v.n 33 ∧ v.n 33 ≤ 32) ∧ (0 ≤ v.n 67 ∧ v.n 67 ≤ 32) ∧ (0 ≤ v.n 72 ∧ v.n 72 ≤ 1022) ∧ (0 ≤ v.n 73 ∧ v.n 73 ≤ 10000000) ∧ 0 ≤ v.n 74 ∧ True  := huv
    have T1v : ((v.n 74).toNat : Int) = v.n 74 := Int.toNat_of_nonneg u74v
    try simp only [T1v]
    have m1 : (x.n 74).toNat * 2 ≤ (x.l 4).length := by rw [hLx.e]; exact Nat.le_refl _
    have m2 : (v.n 74).toNat * 2 ≤ (v.l 4).length := by rw [hLv.e]; exact Nat.le_refl _
    have Ts : (((x.n 74).toNat + (v.n 74).toNat : Nat) : Int) = x.n 74 + v.n 74 := by omega
    have d1 := decide_eq_true m1
    have d2 : decide ((x.n 74).toNat + (v.n 74).toNat ≤ 1099511627776) = true := decide_eq_true (by omega)
    have d3 : decide (((x.n 74).toNat + (v.n 74).toNat) * 4 ≤ 1099511627776) = true := decide_eq_true (by omega)
    have d4 := decide_eq_true m2
    have d5 := sto0 hRv ((v.n 74).toNat * 2)
    have hA := Row.app (vs := rTake (v.l 4) ((v.n 74).toNat * 2)) hRx (tkRow hRv m2) m1 (by show _ % 2 = 0; omega)
    have hLs : Len2 (rApp (x.l 4) ((x.n 74).toNat * 2) (rTake (v.l 4) ((v.n 74).toNat * 2))) (x.n 74 + v.n 74) := ⟨by rw [len_app m1, tkLen m2]; omega⟩
    try simp only [Ts]
    ((repeat' (first | exact trivial | with_reducible rfl | assumption | exact decide_eq_true rfl | exact sameB_self _ | exact rfl | apply And.intro | intro _)) <;> omega)
end Go.Proofs.Ytkeinfmfkcgkhaa

