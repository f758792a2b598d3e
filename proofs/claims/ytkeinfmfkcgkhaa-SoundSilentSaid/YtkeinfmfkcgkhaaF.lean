import Derived.Test.YtkeinfmfkcgkhaaB
set_option linter.unusedVariables false
set_option linter.unusedSimpArgs false
namespace Go.Proofs.Ytkeinfmfkcgkhaa
open Go Go.Proofs Go.Proofs.Ytkeinfmfkcgkhaa.Ev Go.Proofs.Ytkeinfmfkcgkhaa.Ev.Ho
set_option maxRecDepth 100000
theorem fdu_p (E : World) (z : PX) (i x : Int) :
    (hdP ([mU 1 2, mP 3, rowS, mO] : List MB).length [mU 1 2, mP 3, rowS, mO] (.t []) (fun z y => Len2 (y.l 2) (y.n 74) ∧ y.n 74 * 512 ≤ y.n 73) z (fnTree (pe E) (orcA E) (tabL fns) 20000 Try.f17 [.c (.p 0 0), .c (.i false .i64 i), .c (.i false .u32 x)] (mkM z [] [mU 1 2, mP 3, rowS, mO] 0))) =
    (((!bif decide (i ≥ (0 : Int)) then decide (i < (2 : Int)) else false) = true → ((68 : Nat) = (68 : Nat) ∧ (((0 : Int) ≤ z.n (33 : Nat) ∧ z.n (33 : Nat) ≤ (32 : Int)) ∧ ((0
      : Int) ≤ z.n (67 : Nat) ∧ z.n (67 : Nat) ≤ (32 : Int)) ∧ ((0 : Int) ≤ z.n (72 : Nat) ∧ z.n (72 : Nat) ≤ (1022 : Int)) ∧ ((0 : Int) ≤ z.n (73 : Nat) ∧ z.n (73 : Nat) ≤
      (10000000 : Int)) ∧ True) ∧ (84 : Nat) = (84 : Nat) ∧ (((0 : Int) ≤ z.n (100000 : Nat) ∧ z.n (100000 : Nat) ≤ (10000000 : Int)) ∧ True) ∧ (60 : Nat) = (60 : Nat) ∧ (flat
      [Sp.r IntKind.i16 (0 : Int) (0 : Int), Sp.r IntKind.i16 (0 : Int) (0 : Int)] = true ∧ Row [Sp.r IntKind.i16 (0 : Int) (0 : Int), Sp.r IntKind.i16 (0 : Int) (0 : Int)] (z.l
      (2 : Nat))) ∧
      (741991204937588471353107210173517385893522847741378461052633880361214601735917472982278721692919759636892846595991201096475255940853038949688016010326287086087990634635853824
      : Nat) =
      (741991204937588471353107210173517385893522847741378461052633880361214601735917472982278721692919759636892846595991201096475255940853038949688016010326287086087990634635853824
      : Nat) ∧ ([] : SW) = []) ∧ True ∧ Len2 (z.l (2 : Nat)) (↑(z.n (74 : Nat)).toNat : Int) ∧ (↑(z.n (74 : Nat)).toNat : Int) * (512 : Int) ≤ z.n (73 : Nat)) ∧ ((!bif decide (i
      ≥ (0 : Int)) then decide (i < (2 : Int)) else false) = false → ((i == (0 : Int)) = true → ((z.n (33 : Nat) == (32 : Int)) = true → ((68 : Nat) = (68 : Nat) ∧ (((0 : Int) ≤
      z.n (33 : Nat) ∧ z.n (33 : Nat) ≤ (32 : Int)) ∧ ((0 : Int) ≤ z.n (67 : Nat) ∧ z.n (67 : Nat) ≤ (32 : Int)) ∧ ((0 : Int) ≤ z.n (72 : Nat) ∧ z.n (72 : Nat) ≤ (1022 : Int)) ∧
      ((0 : Int) ≤ z.n (73 : Nat) ∧ z.n (73 : Nat) ≤ (10000000 : Int)) ∧ True) ∧ (84 : Nat) = (84 : Nat) ∧ (((0 : Int) ≤ z.n (100000 : Nat) ∧ z.n (100000 : Nat) ≤ (10000000 :
      Int)) ∧ True) ∧ (60 : Nat) = (60 : Nat) ∧ (flat [Sp.r IntKind.i16 (0 : Int) (0 : Int), Sp.r IntKind.i16 (0 : Int) (0 : Int)] = true ∧ Row [Sp.r IntKind.i16 (0 : Int) (0 :
      Int), Sp.r IntKind.i16 (0 : Int) (0 : Int)] (z.l (2 : Nat))) ∧
      (741991204937588471353107210173517385893522847741378461052633880361214601735917472982278721692919759636892846595991201096475255940853038949688016010326287086087990634635853824
      : Nat) =
      (741991204937588471353107210173517385893522847741378461052633880361214601735917472982278721692919759636892846595991201096475255940853038949688016010326287086087990634635853824
      : Nat) ∧ ([] : SW) = []) ∧ True ∧ Len2 (z.l (2 : Nat)) (↑(z.n (74 : Nat)).toNat : Int) ∧ (↑(z.n (74 : Nat)).toNat : Int) * (512 : Int) ≤ z.n (73 : Nat)) ∧ ((z.n (33 : Nat)
      == (32 : Int)) = false → inB (z.n (33 : Nat)) (32 : Nat) = true ∧ ((IntKind.i64.wrap (z.n (33 : Nat) + (1 : Int)) == (32 : Int)) = true → ((68 : Nat) = (68 : Nat) ∧ (((0 :
      Int) ≤ IntKind.i64.wrap (z.n (33 : Nat) + (1 : Int)) ∧ IntKind.i64.wrap (z.n (33 : Nat) + (1 : Int)) ≤ (32 : Int)) ∧ ((0 : Int) ≤ z.n (67 : Nat) ∧ z.n (67 : Nat) ≤ (32 :
      Int)) ∧ ((0 : Int) ≤ z.n (72 : Nat) ∧ z.n (72 : Nat) ≤ (1022 : Int)) ∧ ((0 : Int) ≤ z.n (73 : Nat) ∧ z.n (73 : Nat) ≤ (10000000 : Int)) ∧ True) ∧ (84 : Nat) = (84 : Nat) ∧
      (((0 : Int) ≤ z.n (100000 : Nat) ∧ z.n (100000 : Nat) ≤ (10000000 : Int)) ∧ True) ∧ (60 : Nat) = (60 : Nat) ∧ (flat [Sp.r IntKind.i16 (0 : Int) (0 : Int), Sp.r IntKind.i16
      (0 : Int) (0 : Int)] = true ∧ Row [Sp.r IntKind.i16 (0 : Int) (0 : Int), Sp.r IntKind.i16 (0 : Int) (0 : Int)] (z.l (2 : Nat))) ∧
      (741991204937588471353107210173517385893522847741378461052633880361214601735917472982278721692919759636892846595991201096475255940853038949688016010326287086087990634635853824
      : Nat) =
      (741991204937588471353107210173517385893522847741378461052633880361214601735917472982278721692919759636892846595991201096475255940853038949688016010326287086087990634635853824
      : Nat) ∧ ([] : SW) = []) ∧ True ∧ Len2 (z.l (2 : Nat)) (↑(z.n (74 : Nat)).toNat : Int) ∧ (↑(z.n (74 : Nat)).toNat : Int) * (512 : Int) ≤ z.n (73 : Nat)) ∧
      ((IntKind.i64.wrap (z.n (33 : Nat) + (1 : Int)) == (32 : Int)) = false → inB (IntKind.i64.wrap (z.n (33 : Nat) + (1 : Int))) (32 : Nat) = true ∧ ((IntKind.i64.wrap
      (IntKind.i64.wrap (z.n (33 : Nat) + (1 : Int)) + (1 : Int)) == (32 : Int)) = true → ((68 : Nat) = (68 : Nat) ∧ (((0 : Int) ≤ IntKind.i64.wrap (IntKind.i64.wrap (z.n (33 :
      Nat) + (1 : Int)) + (1 : Int)) ∧ IntKind.i64.wrap (IntKind.i64.wrap (z.n (33 : Nat) + (1 : Int)) + (1 : Int)) ≤ (32 : Int)) ∧ ((0 : Int) ≤ z.n (67 : Nat) ∧ z.n (67 : Nat)
      ≤ (32 : Int)) ∧ ((0 : Int) ≤ z.n (72 : Nat) ∧ z.n (72 : Nat) ≤ (1022 : Int)) ∧ ((0 : Int) ≤ z.n (73 : Nat) ∧ z.n (73 : Nat) ≤ (10000000 : Int)) ∧ True) ∧ (84 : Nat) = (84
      : Nat) ∧ (((0 : Int) ≤ z.n (100000 : Nat) ∧ z.n (100000 : Nat) ≤ (10000000 : Int)) ∧ True) ∧ (60 : Nat) = (60 : Nat) ∧ (flat [Sp.r IntKind.i16 (0 : Int) (0 : Int), Sp.r
      IntKind.i16 (0 : Int) (0 : Int)] = true ∧ Row [Sp.r IntKind.i16 (0 : Int) (0 : Int), Sp.r IntKind.i16 (0 : Int) (0 : Int)] (z.l (2 : Nat))) ∧
      (741991204937588471353107210173517385893522847741378461052633880361214601735917472982278721692919759636892846595991201096475255940853038949688016010326287086087990634635853824
      : Nat) =
      (741991204937588471353107210173517385893522847741378461052633880361214601735917472982278721692919759636892846595991201096475255940853038949688016010326287086087990634635853824
      : Nat) ∧ ([] : SW) = []) ∧ True ∧ Len2 (z.l (2 : Nat)) (↑(z.n (74 : Nat)).toNat : Int) ∧ (↑(z.n (74 : Nat)).toNat : Int) * (512 : Int) ≤ z.n (73 : Nat)) ∧
      ((IntKind.i64.wrap (IntKind.i64.wrap (z.n (33 : Nat) + (1 : Int)) + (1 : Int)) == (32 : Int)) = false → inB (IntKind.i64.wrap (IntKind.i64.wrap (z.n (33 : Nat) + (1 :
      Int)) + (1 : Int))) (32 : Nat) = true ∧ ((IntKind.i64.wrap (IntKind.i64.wrap (IntKind.i64.wrap (z.n (33 : Nat) + (1 : Int)) + (1 : Int)) + (1 : Int)) == (32 : Int)) = true
      → ((68 : Nat) = (68 : Nat) ∧ (((0 : Int) ≤ IntKind.i64.wrap (IntKind.i64.wrap (IntKind.i64.wrap (z.n (33 : Nat) + (1 : Int)) + (1 : Int)) + (1 : Int)) ∧ IntKind.i64.wrap
      (IntKind.i64.wrap (IntKind.i64.wrap (z.n (33 : Nat) + (1 : Int)) + (1 : Int)) + (1 : Int)) ≤ (32 : Int)) ∧ ((0 : Int) ≤ z.n (67 : Nat) ∧ z.n (67 : Nat) ≤ (32 : Int)) ∧ ((0
      : Int) ≤ z.n (72 : Nat) ∧ z.n (72 : Nat) ≤ (1022 : Int)) ∧ ((0 : Int) ≤ z.n (73 : Nat) ∧ z.n (73 : Nat) ≤ (10000000 : Int)) ∧ True) ∧ (84 : Nat) = (84 : Nat) ∧ (((0 : Int)
      ≤ z.n (100000 : Nat) ∧ z.n (100000 : Nat) ≤ (10000000 : Int)) ∧ True) ∧ (60 : Nat) = (60 : Nat) ∧ (flat [Sp.r IntKind.i16 (0 : Int) (0 : Int), Sp.r IntKind.i16 (0 : Int)
      (0 : Int)] = true ∧ Row [Sp.r IntKind.i16 (0 : Int) (0 : Int), Sp.r IntKind.i16 (0 : Int) (0 : Int)] (z.l (2 : Nat))) ∧
      (741991204937588471353107210173517385893522847741378461052633880361214601735917472982278721692919759636892846595991201096475255940853038949688016010326287086087990634635853824
      : Nat) =
      (741991204937588471353107210173517385893522847741378461052633880361214601735917472982278721692919759636892846595991201096475255940853038949688016010326287086087990634635853824
      : Nat) ∧ ([] : SW) = []) ∧ True ∧ Len2 (z.l (2 : Nat)) (↑(z.n (74 : Nat)).toNat : Int) ∧ (↑(z.n (74 : Nat)).toNat : Int) * (512 : Int) ≤ z.n (73 : Nat)) ∧
      ((IntKind.i64.wrap (IntKind.i64.wrap (IntKind.i64.wrap (z.n (33 : Nat) + (1 : Int)) + (1 : Int)) + (1 : Int)) == (32 : Int)) = false → inB (IntKind.i64.wrap
      (IntKind.i64.wrap (IntKind.i64.wrap (z.n (33 : Nat) + (1 : Int)) + (1 : Int)) + (1 : Int))) (32 : Nat) = true ∧ ((68 : Nat) = (68 : Nat) ∧ (((0 : Int) ≤ IntKind.i64.wrap
      (IntKind.i64.wrap (IntKind.i64.wrap (IntKind.i64.wrap (z.n (33 : Nat) + (1 : Int)) + (1 : Int)) + (1 : Int)) + (1 : Int)) ∧ IntKind.i64.wrap (IntKind.i64.wrap
      (IntKind.i64.wrap (IntKind.i64.wrap (z.n (33 : Nat) + (1 : Int)) + (1 : Int)) + (1 : Int)) + (1 : Int)) ≤ (32 : Int)) ∧ ((0 : Int) ≤ z.n (67 : Nat) ∧ z.n (67 : Nat) ≤ (32
      : Int)) ∧ ((0 : Int) ≤ z.n (72 : Nat) ∧ z.n (72 : Nat) ≤ (1022 : Int)) ∧ ((0 : Int) ≤ z.n (73 : Nat) ∧ z.n (73 : Nat) ≤ (10000000 : Int)) ∧ True) ∧ (84 : Nat) = (84 : Nat)
      ∧ (((0 : Int) ≤ z.n (100000 : Nat) ∧ z.n (100000 : Nat) ≤ (10000000 : Int)) ∧ True) ∧ (60 : Nat) = (60 : Nat) ∧ (flat [Sp.r IntKind.i16 (0 : Int) (0 : Int), Sp.r
      IntKind.i16 (0 : Int) (0 : Int)] = true ∧ Row [Sp.r IntKind.i16 (0 : Int) (0 : Int), Sp.r IntKind.i16 (0 : Int) (0 : Int)] (z.l (2 : Nat))) ∧
      (741991204937588471353107210173517385893522847741378461052633880361214601735917472982278721692919759636892846595991201096475255940853038949688016010326287086087990634635853824
      : Nat) =
      (741991204937588471353107210173517385893522847741378461052633880361214601735917472982278721692919759636892846595991201096475255940853038949688016010326287086087990634635853824
      : Nat) ∧ ([] : SW) = []) ∧ True ∧ Len2 (z.l (2 : Nat)) (↑(z.n (74 : Nat)).toNat : Int) ∧ (↑(z.n (74 : Nat)).toNat : Int) * (512 : Int) ≤ z.n (73 : Nat)))))) ∧ ((i == (0 :
      Int)) = false → ((i == (1 : Int)) = true → ((z.n (67 : Nat) == (32 : Int)) = true → ((68 : Nat) = (68 : Nat) ∧ (((0 : Int) ≤ z.n (33 : Nat) ∧ z.n (33 : Nat) ≤ (32 : Int))
      ∧ ((0 : Int) ≤ z.n (67 : Nat) ∧ z.n (67 : Nat) ≤ (32 : Int)) ∧ ((0 : Int) ≤ z.n (72 : Nat) ∧ z.n (72 : Nat) ≤ (1022 : Int)) ∧ ((0 : Int) ≤ z.n (73 : Nat) ∧ z.n (73 : Nat)
      ≤ (10000000 : Int)) ∧ True) ∧ (84 : Nat) = (84 : Nat) ∧ (((0 : Int) ≤ z.n (100000 : Nat) ∧ z.n (100000 : Nat) ≤ (10000000 : Int)) ∧ True) ∧ (60 : Nat) = (60 : Nat) ∧ (flat
      [Sp.r IntKind.i16 (0 : Int) (0 : Int), Sp.r IntKind.i16 (0 : Int) (0 : Int)] = true ∧ Row [Sp.r IntKind.i16 (0 : Int) (0 : Int), Sp.r IntKind.i16 (0 : Int) (0 : Int)] (z.l
      (2 : Nat))) ∧
      (741991204937588471353107210173517385893522847741378461052633880361214601735917472982278721692919759636892846595991201096475255940853038949688016010326287086087990634635853824
      : Nat) =
      (741991204937588471353107210173517385893522847741378461052633880361214601735917472982278721692919759636892846595991201096475255940853038949688016010326287086087990634635853824
      : Nat) ∧ ([] : SW) = []) ∧ True ∧ Len2 (z.l (2 : Nat)) (↑(z.n (74 : Nat)).toNat : Int) ∧ (↑(z.n (74 : Nat)).toNat : Int) * (512 : Int) ≤ z.n (73 : Nat)) ∧ ((z.n (67 : Nat)
      == (32 : Int)) = false → inB (z.n (67 : Nat)) (32 : Nat) = true ∧ ((IntKind.i64.wrap (z.n (67 : Nat) + (1 : Int)) == (32 : Int)) = true → ((68 : Nat) = (68 : Nat) ∧ (((0 :
      Int) ≤ z.n (33 : Nat) ∧ z.n (33 : Nat) ≤ (32 : Int)) ∧ ((0 : Int) ≤ IntKind.i64.wrap (z.n (67 : Nat) + (1 : Int)) ∧ IntKind.i64.wrap (z.n (67 : Nat) + (1 : Int)) ≤ (32 :
      Int)) ∧ ((0 : Int) ≤ z.n (72 : Nat) ∧ z.n (72 : Nat) ≤ (1022 : Int)) ∧ ((0 : Int) ≤ z.n (73 : Nat) ∧ z.n (73 : Nat) ≤ (10000000 : Int)) ∧ True) ∧ (84 : Nat) = (84 : Nat) ∧
      (((0 : Int) ≤ z.n (100000 : Nat) ∧ z.n (100000 : Nat) ≤ (10000000 : Int)) ∧ True) ∧ (60 : Nat) = (60 : Nat) ∧ (flat [Sp.r IntKind.i16 (0 : Int) (0 : Int), Sp.r IntKind.i16
      (0 : Int) (0 : Int)] = true ∧ Row [Sp.r IntKind.i16 (0 : Int) (0 : Int), Sp.r IntKind.i16 (0 : Int) (0 : Int)] (z.l (2 : Nat))) ∧
      (741991204937588471353107210173517385893522847741378461052633880361214601735917472982278721692919759636892846595991201096475255940853038949688016010326287086087990634635853824
      : Nat) =
      (741991204937588471353107210173517385893522847741378461052633880361214601735917472982278721692919759636892846595991201096475255940853038949688016010326287086087990634635853824
      : Nat) ∧ ([] : SW) = []) ∧ True ∧ Len2 (z.l (2 : Nat)) (↑(z.n (74 : Nat)).toNat : Int) ∧ (↑(z.n (74 : Nat)).toNat : Int) * (512 : Int) ≤ z.n (73 : Nat)) ∧
      ((IntKind.i64.wrap (z.n (67 : Nat) + (1 : Int)) == (32 : Int)) = false → inB (IntKind.i64.wrap (z.n (67 : Nat) + (1 : Int))) (32 : Nat) = true ∧ ((IntKind.i64.wrap
      (IntKind.i64.wrap (z.n (67 : Nat) + (1 : Int)) + (1 : Int)) == (32 : Int)) = true → ((68 : Nat) = (68 : Nat) ∧ (((0 : Int) ≤ z.n (33 : Nat) ∧ z.n (33 : Nat) ≤ (32 : Int))
      ∧ ((0 : Int) ≤ IntKind.i64.wrap (IntKind.i64.wrap (z.n (67 : Nat) + (1 : Int)) + (1 : Int)) ∧ IntKind.i64.wrap (IntKind.i64.wrap (z.n (67 : Nat) + (1 : Int)) + (1 : Int))
      ≤ (32 : Int)) ∧ ((0 : Int) ≤ z.n (72 : Nat) ∧ z.n (72 : Nat) ≤ (1022 : Int)) ∧ ((0 : Int) ≤ z.n (73 : Nat) ∧ z.n (73 : Nat) ≤ (10000000 : Int)) ∧ True) ∧ (84 : Nat) = (84
      : Nat) ∧ (((0 : Int) ≤ z.n (100000 : Nat) ∧ z.n (100000 : Nat) ≤ (10000000 : Int)) ∧ True) ∧ (60 : Nat) = (60 : Nat) ∧ (flat [Sp.r IntKind.i16 (0 : Int) (0 : Int), Sp.r
      IntKind.i16 (0 : Int) (0 : Int)] = true ∧ Row [Sp.r IntKind.i16 (0 : Int) (0 : Int), Sp.r IntKind.i16 (0 : Int) (0 : Int)] (z.l (2 : Nat))) ∧
      (741991204937588471353107210173517385893522847741378461052633880361214601735917472982278721692919759636892846595991201096475255940853038949688016010326287086087990634635853824
      : Nat) =
      (741991204937588471353107210173517385893522847741378461052633880361214601735917472982278721692919759636892846595991201096475255940853038949688016010326287086087990634635853824
      : Nat) ∧ ([] : SW) = []) ∧ True ∧ Len2 (z.l (2 : Nat)) (↑(z.n (74 : Nat)).toNat : Int) ∧ (↑(z.n (74 : Nat)).toNat : Int) * (512 : Int) ≤ z.n (73 : Nat)) ∧
      ((IntKind.i64.wrap (IntKind.i64.wrap (z.n (67 : Nat) + (1 : Int)) + (1 : Int)) == (32 : Int)) = false → inB (IntKind.i64.wrap (IntKind.i64.wrap (z.n (67 : Nat) + (1 :
      Int)) + (1 : Int))) (32 : Nat) = true ∧ ((IntKind.i64.wrap (IntKind.i64.wrap (IntKind.i64.wrap (z.n (67 : Nat) + (1 : Int)) + (1 : Int)) + (1 : Int)) == (32 : Int)) = true
      → ((68 : Nat) = (68 : Nat) ∧ (((0 : Int) ≤ z.n (33 : Nat) ∧ z.n (33 : Nat) ≤ (32 : Int)) ∧ ((0 : Int) ≤ IntKind.i64.wrap (IntKind.i64.wrap (IntKind.i64.wrap (z.n (67 :
      Nat) + (1 : Int)) + (1 : Int)) + (1 : Int)) ∧ IntKind.i64.wrap (IntKind.i64.wrap (IntKind.i64.wrap (z.n (67 : Nat) + (1 : Int)) + (1 : Int)) + (1 : Int)) ≤ (32 : Int)) ∧
      ((0 : Int) ≤ z.n (72 : Nat) ∧ z.n (72 : Nat) ≤ (1022 : Int)) ∧ ((0 : Int) ≤ z.n (73 : Nat) ∧ z.n (73 : Nat) ≤ (10000000 : Int)) ∧ True) ∧ (84 : Nat) = (84 : Nat) ∧ (((0 :
      Int) ≤ z.n (100000 : Nat) ∧ z.n (100000 : Nat) ≤ (10000000 : Int)) ∧ True) ∧ (60 : Nat) = (60 : Nat) ∧ (flat [Sp.r IntKind.i16 (0 : Int) (0 : Int), Sp.r IntKind.i16 (0 :
      Int) (0 : Int)] = true ∧ Row [Sp.r IntKind.i16 (0 : Int) (0 : Int), Sp.r IntKind.i16 (0 : Int) (0 : Int)] (z.l (2 : Nat))) ∧
      (741991204937588471353107210173517385893522847741378461052633880361214601735917472982278721692919759636892846595991201096475255940853038949688016010326287086087990634635853824
      : Nat) =
      (741991204937588471353107210173517385893522847741378461052633880361214601735917472982278721692919759636892846595991201096475255940853038949688016010326287086087990634635853824
      : Nat) ∧ ([] : SW) = []) ∧ True ∧ Len2 (z.l (2 : Nat)) (↑(z.n (74 : Nat)).toNat : Int) ∧ (↑(z.n (74 : Nat)).toNat : Int) * (512 : Int) ≤ z.n (73 : Nat)) ∧
      ((IntKind.i64.wrap (IntKind.i64.wrap (IntKind.i64.wrap (z.n (67 : Nat) + (1 : Int)) + (1 : Int)) + (1 : Int)) == (32 : Int)) = false → inB (IntKind.i64.wrap
      (IntKind.i64.wrap (IntKind.i64.wrap (z.n (67 : Nat) + (1 : Int)) + (1 : Int)) + (1 : Int))) (32 : Nat) = true ∧ ((68 : Nat) = (68 : Nat) ∧ (((0 : Int) ≤ z.n (33 : Nat) ∧
      z.n (33 : Nat) ≤ (32 : Int)) ∧ ((0 : Int) ≤ IntKind.i64.wrap (IntKind.i64.wrap (IntKind.i64.wrap (IntKind.i64.wrap (z.n (67 : Nat) + (1 : Int)) + (1 : Int)) + (1 : Int)) +
      (1 : Int)) ∧ IntKind.i64.wrap (IntKind.i64.wrap (IntKind.i64.wrap (IntKind.i64.wrap (z.n (67 : Nat) + (1 : Int)) + (1 : Int)) + (1 : Int)) + (1 : Int)) ≤ (32 : Int)) ∧ ((0
      : Int) ≤ z.n (72 : Nat) ∧ z.n (72 : Nat) ≤ (1022 : Int)) ∧ ((0 : Int) ≤ z.n (73 : Nat) ∧ z.n (73 : Nat) ≤ (10000000 : Int)) ∧ True) ∧ (84 : Nat) = (84 : Nat) ∧ (((0 : Int)
      ≤ z.n (100000 : Nat) ∧ z.n (100000 : Nat) ≤ (10000000 : Int)) ∧ True) ∧ (60 : Nat) = (60 : Nat) ∧ (flat [Sp.r IntKind.i16 (0 : Int) (0 : Int), Sp.r IntKind.i16 (0 : Int)
      (0 : Int)] = true ∧ Row [Sp.r IntKind.i16 (0 : Int) (0 : Int), Sp.r IntKind.i16 (0 : Int) (0 : Int)] (z.l (2 : Nat))) ∧
      (741991204937588471353107210173517385893522847741378461052633880361214601735917472982278721692919759636892846595991201096475255940853038949688016010326287086087990634635853824
      : Nat) =
      (741991204937588471353107210173517385893522847741378461052633880361214601735917472982278721692919759636892846595991201096475255940853038949688016010326287086087990634635853824
      : Nat) ∧ ([] : SW) = []) ∧ True ∧ Len2 (z.l (2 : Nat)) (↑(z.n (74 : Nat)).toNat : Int) ∧ (↑(z.n (74 : Nat)).toNat : Int) * (512 : Int) ≤ z.n (73 : Nat)))))) ∧ ((i == (1 :
      Int)) = false → False)))) := by kernel_rfl
set_option maxHeartbeats 4000000 in
theorem fdu_c (E : World) (i x : Int) (z : PX) (hz : rgM z [mU 1 2, mP 3, rowS, mO] 0) (hp : (fun z => Len2 (z.l 2) (z.n 74) ∧ z.n 74 * 512 ≤ z.n 73) z) : HD (pe E) 17 [.c (.p 0 0), .c (.i false .i64 i), .c (.i false .u32 x)] [mU 1 2, mP 3, rowS, mO] [mU 1 2, mP 3, rowS, mO] (.t []) (fun z y => Len2 (y.l 2) (y.n 74) ∧ y.n 74 * 512 ≤ y.n 73) z := by
  refine HD.mk (by rfl) (fnTree_sound (P := pe E) orcA_ok tab_ok tab_sz mixed 20000 Try.func17 (by decide) [.c (.p 0 0), .c (.i false .i64 i), .c (.i false .u32 x)] _) ⟨?_⟩
  rw [fdu_p]
  obtain ⟨hL, hn⟩ := hp
  obtain ⟨u33, u67, u72, u73, u74, _⟩ : (0 ≤ z.n 33 ∧ z.n 33 ≤ 32) ∧ (0 ≤ z.n 67 ∧ z.n 67 ≤ 32) ∧ (0 ≤ z.n 72 ∧ z.n 72 ≤ 1022) ∧ (0 ≤ z.n 73 ∧ z.n 73 ≤ 10000000) ∧ 0 ≤ z.n 74 ∧ True  := hz.1
  have hR : Row [.r .i16 0 0, .r .i16 0 0] (z.l 2) := hz.2.2.1.2
  have hP : (0 ≤ z.n 100000 ∧ z.n 100000 ≤ 10000000) ∧ True := hz.2.1
  have hf : flat [Sp.r .i16 0 0, Sp.r .i16 0 0] = true := rfl
  have T1 : ((z.n 74).toNat : Int) = z.n 74 := Int.toNat_of_nonneg u74
  simp only [T1]
  have e : (bif decide (i ≥ 0) then decide (i < 2) else false) = decide (0 ≤ i ∧ i < 2) := by by_cases h1 : 0 ≤ i <;> by_cases h2 : i < 2 <;> simp [h1, h2]
  have a1 : IntKind.i64.wrap (z.n 33 + 1) = z.n 33 + 1 := by rw [wi64]; omega
  have a2 : IntKind.i64.wrap (z.n 33 + 1 + 1) = z.n 33 + 1 + 1 := by rw [wi64]; omega
  have a3 : IntKind.i64.wrap (z.n 33 + 1 + 1 + 1) = z.n 33 + 1 + 1 + 1 := by rw [wi64]; omega
  have a4 : IntKind.i64.wrap (z.n 33 + 1 + 1 + 1 + 1) = z.n 33 + 1 + 1 + 1 + 1 := by rw [wi64]; omega
  have b1 : IntKind.i64.wrap (z.n 67 + 1) = z.n 67 + 1 := by rw [wi64]; omega
  have b2 : IntKind.i64.wrap (z.n 67 + 1 + 1) = z.n 67 + 1 + 1 := by rw [wi64]; omega
  have b3 : IntKind.i64.wrap (z.n 67 + 1 + 1 + 1) = z.n 67 + 1 + 1 + 1 := by rw [wi64]; omega
  have b4 : IntKind.i64.wrap (z.n 67 + 1 + 1 + 1 + 1) = z.n 67 + 1 + 1 + 1 + 1 := by rw [wi64]; omega
  simp only [e, a1, a2, a3, a4, b1, b2, b3, b4]
  ((repeat' (first | exact trivial | with_reducible rfl | assumption | exact decide_eq_true rfl | exact sameB_self _ | exact rfl | apply And.intro | intro _)) <;> ((try simp only [inB, beq_iff_eq, bne_iff_ne, ne_eq, beq_eq_false_iff_ne, Bool.and_eq_true, Bool.not_eq_true', Bool.not_eq_false', decide_eq_true_eq, decide_eq_false_iff_not] at *) <;> omega))
end Go.Proofs.Ytkeinfmfkcgkhaa

