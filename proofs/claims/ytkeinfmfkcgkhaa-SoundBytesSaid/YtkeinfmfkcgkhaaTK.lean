import Derived.Test.YtkeinfmfkcgkhaaTH
set_option linter.unusedVariables false
set_option linter.unusedSimpArgs false
namespace Go.Proofs.Ytkeinfmfkcgkhaa
open Go Go.Proofs Go.Proofs.Ytkeinfmfkcgkhaa.Ev Go.Proofs.Ytkeinfmfkcgkhaa.Ev.Ho
set_option maxRecDepth 100000
theorem law_r2 (E : World) (a : Option Addr) (n m : Nat) (z : PX) (y : PX) :
    (loopP (pe E) Try.f4 (endR ([] : List MB).length [] (.c .b) (fun z y => y.b 90000 = true) z) (headR ([] : List MB).length Try.f4.ntmps (some ((fun y => (33 - y.n 91059).toNat) y)) (law_hs E a n m z))  (run (pe E) (orcQ E) (tabL fns) 20000 (2 ^ 200 - 1) (t3_td E) (mkL Try.f4.ntmps (slC y [(3, .c (.p 0 0)), (4, .v 1 1), (57, .v 1 1), (58, .r .i64 (0) (32)), (59, .r .i64 (0) (32))])) (mkM y [] [mT 2 3, rowW, mP 4, rowT, mO] 0))) =
    ((decide (y.n (91059 : Nat) < y.n (91058 : Nat)) = true → inB (y.n (91059 : Nat)) (y.n (91057 : Nat)).toNat = true ∧ rOk (y.l (1 : Nat)) (y.n (91059 : Nat)).toNat (EK.i
      IntKind.i8) = true ∧ (((68 : Nat) = (68 : Nat) ∧ (((0 : Int) ≤ y.n (33 : Nat) ∧ y.n (33 : Nat) ≤ (32 : Int)) ∧ ((-128 : Int) ≤ y.n (34 : Nat) ∧ y.n (34 : Nat) ≤ (127 :
      Int)) ∧ ((0 : Int) ≤ y.n (73 : Nat) ∧ y.n (73 : Nat) ≤ (10000000 : Int)) ∧ True) ∧ (84 : Nat) = (84 : Nat) ∧ (((0 : Int) ≤ y.n (200000 : Nat) ∧ y.n (200000 : Nat) ≤
      (10000000 : Int)) ∧ True) ∧ (60 : Nat) = (60 : Nat) ∧ (flat [Sp.i IntKind.i16, Sp.i IntKind.i16] = true ∧ Row [Sp.i IntKind.i16, Sp.i IntKind.i16] (y.l (3 : Nat))) ∧
      (741991204937588471353107210173517385893522847741378461052633880361214601735917472982278721692919759636892846595991201096475255940853038949688016010326287086087990634635853824
      : Nat) =
      (741991204937588471353107210173517385893522847741378461052633880361214601735917472982278721692919759636892846595991201096475255940853038949688016010326287086087990634635853824
      : Nat) ∧ ([] : SW) = []) ∧ (↑(y.n (74 : Nat)).toNat : Int) = (0 : Int) ∧ IntKind.i64.wrap ((512 : Int) * y.n (91059 : Nat)) = y.n (73 : Nat) ∧ y.n (73 : Nat) % (512 : Int)
      = (0 : Int) ∧ IntKind.i64.wrap ((512 : Int) * y.n (91059 : Nat)) ≤ (1000000 : Int) ∧ (1 : Int) ≤ y.n (33 : Nat)) ∧ ∀ (y_1 : PX), (((((0 : Int) ≤ y_1.n (33 : Nat) ∧ y_1.n
      (33 : Nat) ≤ (32 : Int)) ∧ ((-128 : Int) ≤ y_1.n (34 : Nat) ∧ y_1.n (34 : Nat) ≤ (127 : Int)) ∧ ((0 : Int) ≤ y_1.n (73 : Nat) ∧ y_1.n (73 : Nat) ≤ (10000000 : Int)) ∧ (0 :
      Int) ≤ y_1.n (74 : Nat) ∧ True) ∧ (((0 : Int) ≤ y_1.n (100000 : Nat) ∧ y_1.n (100000 : Nat) ≤ (10000000 : Int)) ∧ True) ∧ (flat [Sp.i IntKind.i16, Sp.i IntKind.i16] = true
      ∧ Row [Sp.i IntKind.i16, Sp.i IntKind.i16] (y_1.l (4 : Nat))) ∧ True) ∧ (((2 : Int) ≤ y_1.n (90000 : Nat) ∧ y_1.n (90000 : Nat) ≤ (3 : Int)) ∧ True) ∧ (SH (y.n (33 : Nat))
      [y.n (1 : Nat), y.n (2 : Nat), y.n (3 : Nat), y.n (4 : Nat), y.n (5 : Nat), y.n (6 : Nat), y.n (7 : Nat), y.n (8 : Nat), y.n (9 : Nat), y.n (10 : Nat), y.n (11 : Nat), y.n
      (12 : Nat), y.n (13 : Nat), y.n (14 : Nat), y.n (15 : Nat), y.n (16 : Nat), y.n (17 : Nat), y.n (18 : Nat), y.n (19 : Nat), y.n (20 : Nat), y.n (21 : Nat), y.n (22 : Nat),
      y.n (23 : Nat), y.n (24 : Nat), y.n (25 : Nat), y.n (26 : Nat), y.n (27 : Nat), y.n (28 : Nat), y.n (29 : Nat), y.n (30 : Nat), y.n (31 : Nat), y.n (32 : Nat)] [y_1.n (1 :
      Nat), y_1.n (2 : Nat), y_1.n (3 : Nat), y_1.n (4 : Nat), y_1.n (5 : Nat), y_1.n (6 : Nat), y_1.n (7 : Nat), y_1.n (8 : Nat), y_1.n (9 : Nat), y_1.n (10 : Nat), y_1.n (11 :
      Nat), y_1.n (12 : Nat), y_1.n (13 : Nat), y_1.n (14 : Nat), y_1.n (15 : Nat), y_1.n (16 : Nat), y_1.n (17 : Nat), y_1.n (18 : Nat), y_1.n (19 : Nat), y_1.n (20 : Nat),
      y_1.n (21 : Nat), y_1.n (22 : Nat), y_1.n (23 : Nat), y_1.n (24 : Nat), y_1.n (25 : Nat), y_1.n (26 : Nat), y_1.n (27 : Nat), y_1.n (28 : Nat), y_1.n (29 : Nat), y_1.n (30
      : Nat), y_1.n (31 : Nat), y_1.n (32 : Nat)] ∧ y_1.n (33 : Nat) = y.n (33 : Nat) - (1 : Int) ∧ y_1.n (34 : Nat) = IntKind.i8.wrap (y.n (1 : Nat))) ∧ y_1.n (73 : Nat) = y.n
      (73 : Nat) ∧ y_1.n (74 : Nat) = (0 : Int) ∧ y_1.n (90000 : Nat) = if y.n (33 : Nat) - (1 : Int) ≤ (16 : Int) then (3 : Int) else (2 : Int)) → ((true ^^ (bits BinOp.and
      IntKind.i64 (y_1.n (90000 : Nat)) (1 : Int) == (1 : Int)) == decide (IntKind.i64.wrap (IntKind.i64.wrap ((↑(y.n (91004 : Nat)).toNat : Int) - y.n (91059 : Nat)) - (1 :
      Int)) ≤ (16 : Int))) = true → ([] : SW) = [] ∧ True ∧ false = true) ∧ ((true ^^ (bits BinOp.and IntKind.i64 (y_1.n (90000 : Nat)) (1 : Int) == (1 : Int)) == decide
      (IntKind.i64.wrap (IntKind.i64.wrap ((↑(y.n (91004 : Nat)).toNat : Int) - y.n (91059 : Nat)) - (1 : Int)) ≤ (16 : Int))) = false → (((68 : Nat) = (68 : Nat) ∧ (((0 : Int)
      ≤ y_1.n (33 : Nat) ∧ y_1.n (33 : Nat) ≤ (32 : Int)) ∧ ((-128 : Int) ≤ y_1.n (34 : Nat) ∧ y_1.n (34 : Nat) ≤ (127 : Int)) ∧ ((0 : Int) ≤ y_1.n (73 : Nat) ∧ y_1.n (73 : Nat)
      ≤ (10000000 : Int)) ∧ True) ∧ (84 : Nat) = (84 : Nat) ∧ (((0 : Int) ≤ y_1.n (100000 : Nat) ∧ y_1.n (100000 : Nat) ≤ (10000000 : Int)) ∧ True) ∧ (60 : Nat) = (60 : Nat) ∧
      (flat [Sp.i IntKind.i16, Sp.i IntKind.i16] = true ∧ Row [Sp.i IntKind.i16, Sp.i IntKind.i16] (y_1.l (4 : Nat))) ∧
      (741991204937588471353107210173517385893522847741378461052633880361214601735917472982278721692919759636892846595991201096475255940853038949688016010326287086087990634635853824
      : Nat) =
      (741991204937588471353107210173517385893522847741378461052633880361214601735917472982278721692919759636892846595991201096475255940853038949688016010326287086087990634635853824
      : Nat) ∧ ([] : SW) = []) ∧ (↑(y_1.n (74 : Nat)).toNat : Int) = (0 : Int) ∧ (IntKind.i64.wrap ((512 : Int) * IntKind.i64.wrap (y.n (91059 : Nat) + (1 : Int))) ≤ y_1.n (73 :
      Nat) + (512 : Int) ∧ y_1.n (73 : Nat) ≤ IntKind.i64.wrap ((512 : Int) * IntKind.i64.wrap (y.n (91059 : Nat) + (1 : Int))) ∧ (IntKind.i64.wrap ((512 : Int) *
      IntKind.i64.wrap (y.n (91059 : Nat) + (1 : Int))) - y_1.n (73 : Nat)) % (512 : Int) = (0 : Int)) ∧ y_1.n (73 : Nat) % (512 : Int) = (0 : Int) ∧ IntKind.i64.wrap ((512 :
      Int) * IntKind.i64.wrap (y.n (91059 : Nat) + (1 : Int))) ≤ (1000000 : Int)) ∧ ∀ (y_2 : PX), ((((0 : Int) ≤ y_2.n (33 : Nat) ∧ y_2.n (33 : Nat) ≤ (32 : Int)) ∧ ((-128 :
      Int) ≤ y_2.n (34 : Nat) ∧ y_2.n (34 : Nat) ≤ (127 : Int)) ∧ ((0 : Int) ≤ y_2.n (73 : Nat) ∧ y_2.n (73 : Nat) ≤ (10000000 : Int)) ∧ (0 : Int) ≤ y_2.n (74 : Nat) ∧ True) ∧
      (((0 : Int) ≤ y_2.n (100000 : Nat) ∧ y_2.n (100000 : Nat) ≤ (10000000 : Int)) ∧ True) ∧ (flat [Sp.i IntKind.i16, Sp.i IntKind.i16] = true ∧ Row [Sp.i IntKind.i16, Sp.i
      IntKind.i16] (y_2.l (4 : Nat))) ∧ True) ∧ True ∧ (EQ [y_1.n (1 : Nat), y_1.n (2 : Nat), y_1.n (3 : Nat), y_1.n (4 : Nat), y_1.n (5 : Nat), y_1.n (6 : Nat), y_1.n (7 :
      Nat), y_1.n (8 : Nat), y_1.n (9 : Nat), y_1.n (10 : Nat), y_1.n (11 : Nat), y_1.n (12 : Nat), y_1.n (13 : Nat), y_1.n (14 : Nat), y_1.n (15 : Nat), y_1.n (16 : Nat), y_1.n
      (17 : Nat), y_1.n (18 : Nat), y_1.n (19 : Nat), y_1.n (20 : Nat), y_1.n (21 : Nat), y_1.n (22 : Nat), y_1.n (23 : Nat), y_1.n (24 : Nat), y_1.n (25 : Nat), y_1.n (26 :
      Nat), y_1.n (27 : Nat), y_1.n (28 : Nat), y_1.n (29 : Nat), y_1.n (30 : Nat), y_1.n (31 : Nat), y_1.n (32 : Nat)] [y_2.n (1 : Nat), y_2.n (2 : Nat), y_2.n (3 : Nat), y_2.n
      (4 : Nat), y_2.n (5 : Nat), y_2.n (6 : Nat), y_2.n (7 : Nat), y_2.n (8 : Nat), y_2.n (9 : Nat), y_2.n (10 : Nat), y_2.n (11 : Nat), y_2.n (12 : Nat), y_2.n (13 : Nat),
      y_2.n (14 : Nat), y_2.n (15 : Nat), y_2.n (16 : Nat), y_2.n (17 : Nat), y_2.n (18 : Nat), y_2.n (19 : Nat), y_2.n (20 : Nat), y_2.n (21 : Nat), y_2.n (22 : Nat), y_2.n (23
      : Nat), y_2.n (24 : Nat), y_2.n (25 : Nat), y_2.n (26 : Nat), y_2.n (27 : Nat), y_2.n (28 : Nat), y_2.n (29 : Nat), y_2.n (30 : Nat), y_2.n (31 : Nat), y_2.n (32 : Nat)] ∧
      y_2.n (33 : Nat) = y_1.n (33 : Nat) ∧ y_2.n (34 : Nat) = y_1.n (34 : Nat) ∧ y_2.n (73 : Nat) = IntKind.i64.wrap ((512 : Int) * IntKind.i64.wrap (y.n (91059 : Nat) + (1 :
      Int)))) ∧ (IntKind.i64.wrap ((512 : Int) * IntKind.i64.wrap (y.n (91059 : Nat) + (1 : Int))) = y_1.n (73 : Nat) → y_2.n (74 : Nat) = (0 : Int)) ∧ (IntKind.i64.wrap ((512 :
      Int) * IntKind.i64.wrap (y.n (91059 : Nat) + (1 : Int))) = y_1.n (73 : Nat) + (512 : Int) → y_2.n (74 : Nat) = (1 : Int) ∧ Smp (y_2.l (4 : Nat)) ((128 : Int) * y_2.n (34 :
      Nat))) → (bif (↑(y_2.n (74 : Nat)).toNat : Int) != (1 : Int) then true else inB (0 : Int) (y_2.n (74 : Nat)).toNat && rOk (y_2.l (4 : Nat)) (0 : Nat) (EK.i IntKind.i16)) =
      true ∧ (bif bif (↑(y_2.n (74 : Nat)).toNat : Int) != (1 : Int) then true else rI (y_2.l (4 : Nat)) (0 : Nat) != IntKind.i16.wrap (IntKind.i64.wrap ((128 : Int) * if (if
      IntKind.i64.wrap (rI (y.l (1 : Nat)) (y.n (91059 : Nat)).toNat) < (127 : Int) then IntKind.i64.wrap (rI (y.l (1 : Nat)) (y.n (91059 : Nat)).toNat) else (127 : Int)) >
      (-128 : Int) then if IntKind.i64.wrap (rI (y.l (1 : Nat)) (y.n (91059 : Nat)).toNat) < (127 : Int) then IntKind.i64.wrap (rI (y.l (1 : Nat)) (y.n (91059 : Nat)).toNat)
      else (127 : Int) else (-128 : Int))) then true else inB (0 : Int) (y_2.n (74 : Nat)).toNat && (inB (0 : Int) (y_2.n (74 : Nat)).toNat && (rOk (y_2.l (4 : Nat)) (1 : Nat)
      (EK.i IntKind.i16) && rOk (y_2.l (4 : Nat)) (0 : Nat) (EK.i IntKind.i16)))) = true ∧ ((bif bif (↑(y_2.n (74 : Nat)).toNat : Int) != (1 : Int) then true else rI (y_2.l (4 :
      Nat)) (0 : Nat) != IntKind.i16.wrap (IntKind.i64.wrap ((128 : Int) * if (if IntKind.i64.wrap (rI (y.l (1 : Nat)) (y.n (91059 : Nat)).toNat) < (127 : Int) then
      IntKind.i64.wrap (rI (y.l (1 : Nat)) (y.n (91059 : Nat)).toNat) else (127 : Int)) > (-128 : Int) then if IntKind.i64.wrap (rI (y.l (1 : Nat)) (y.n (91059 : Nat)).toNat) <
      (127 : Int) then IntKind.i64.wrap (rI (y.l (1 : Nat)) (y.n (91059 : Nat)).toNat) else (127 : Int) else (-128 : Int))) then true else rI (y_2.l (4 : Nat)) (1 : Nat) != rI
      (y_2.l (4 : Nat)) (0 : Nat)) = true → ([] : SW) = [] ∧ True ∧ false = true) ∧ ((bif bif (↑(y_2.n (74 : Nat)).toNat : Int) != (1 : Int) then true else rI (y_2.l (4 : Nat))
      (0 : Nat) != IntKind.i16.wrap (IntKind.i64.wrap ((128 : Int) * if (if IntKind.i64.wrap (rI (y.l (1 : Nat)) (y.n (91059 : Nat)).toNat) < (127 : Int) then IntKind.i64.wrap
      (rI (y.l (1 : Nat)) (y.n (91059 : Nat)).toNat) else (127 : Int)) > (-128 : Int) then if IntKind.i64.wrap (rI (y.l (1 : Nat)) (y.n (91059 : Nat)).toNat) < (127 : Int) then
      IntKind.i64.wrap (rI (y.l (1 : Nat)) (y.n (91059 : Nat)).toNat) else (127 : Int) else (-128 : Int))) then true else rI (y_2.l (4 : Nat)) (1 : Nat) != rI (y_2.l (4 : Nat))
      (0 : Nat)) = false → t3_td E = t3_td E ∧ (111 : Nat) = (111 : Nat) ∧ (True ∧ True ∧ True ∧ (((0 : Int) ≤ y.n (91058 : Nat) ∧ y.n (91058 : Nat) ≤ (32 : Int)) ∧ True) ∧ (((0
      : Int) ≤ IntKind.i64.wrap (y.n (91059 : Nat) + (1 : Int)) ∧ IntKind.i64.wrap (y.n (91059 : Nat) + (1 : Int)) ≤ (32 : Int)) ∧ True) ∧ True) ∧ ((68 : Nat) = (68 : Nat) ∧
      (((0 : Int) ≤ y_2.n (33 : Nat) ∧ y_2.n (33 : Nat) ≤ (32 : Int)) ∧ ((-128 : Int) ≤ y_2.n (34 : Nat) ∧ y_2.n (34 : Nat) ≤ (127 : Int)) ∧ ((0 : Int) ≤ y_2.n (73 : Nat) ∧
      y_2.n (73 : Nat) ≤ (10000000 : Int)) ∧ True) ∧ (57 : Nat) = (57 : Nat) ∧ (flat [Sp.i IntKind.i8] = true ∧ Row [Sp.i IntKind.i8] (y.l (1 : Nat))) ∧ (84 : Nat) = (84 : Nat)
      ∧ (((0 : Int) ≤ y_2.n (100000 : Nat) ∧ y_2.n (100000 : Nat) ≤ (10000000 : Int)) ∧ True) ∧ (60 : Nat) = (60 : Nat) ∧ (flat [Sp.i IntKind.i16, Sp.i IntKind.i16] = true ∧ Row
      [Sp.i IntKind.i16, Sp.i IntKind.i16] []) ∧
      (741991204937588471353107210173517385893522847741378461052633880361214601735917472982278721692919759636892846595991201096475255940853038949688016010326287086087990634635853824
      : Nat) =
      (741991204937588471353107210173517385893522847741378461052633880361214601735917472982278721692919759636892846595991201096475255940853038949688016010326287086087990634635853824
      : Nat) ∧ ([] : SW) = []) ∧ ((WD (y.l (1 : Nat)) (IntKind.i64.wrap (y.n (91059 : Nat) + (1 : Int))) (y_2.n (33 : Nat)) [y_2.n (1 : Nat), y_2.n (2 : Nat), y_2.n (3 : Nat),
      y_2.n (4 : Nat), y_2.n (5 : Nat), y_2.n (6 : Nat), y_2.n (7 : Nat), y_2.n (8 : Nat), y_2.n (9 : Nat), y_2.n (10 : Nat), y_2.n (11 : Nat), y_2.n (12 : Nat), y_2.n (13 :
      Nat), y_2.n (14 : Nat), y_2.n (15 : Nat), y_2.n (16 : Nat), y_2.n (17 : Nat), y_2.n (18 : Nat), y_2.n (19 : Nat), y_2.n (20 : Nat), y_2.n (21 : Nat), y_2.n (22 : Nat),
      y_2.n (23 : Nat), y_2.n (24 : Nat), y_2.n (25 : Nat), y_2.n (26 : Nat), y_2.n (27 : Nat), y_2.n (28 : Nat), y_2.n (29 : Nat), y_2.n (30 : Nat), y_2.n (31 : Nat), y_2.n (32
      : Nat)] ∧ y_2.n (33 : Nat) = y.n (91058 : Nat) - IntKind.i64.wrap (y.n (91059 : Nat) + (1 : Int)) ∧ (↑(y.n (91057 : Nat)).toNat : Int) = (↑(y.n (91004 : Nat)).toNat : Int)
      ∧ y.n (91058 : Nat) = (↑(y.n (91004 : Nat)).toNat : Int)) ∧ y_2.n (73 : Nat) = (512 : Int) * IntKind.i64.wrap (y.n (91059 : Nat) + (1 : Int)) ∧ (0 : Int) = (0 : Int) ∧ Ln
      (y.l (1 : Nat)) (↑(y.n (91004 : Nat)).toNat : Int) ∧ IntKind.i64.wrap (y.n (91059 : Nat) + (1 : Int)) ≤ y.n (91058 : Nat)) ∧ ((33 : Int) - IntKind.i64.wrap (y.n (91059 :
      Nat) + (1 : Int))).toNat < ((33 : Int) - y.n (91059 : Nat)).toNat ∧ True))) ∧ (decide (y.n (91059 : Nat) < y.n (91058 : Nat)) = false → ([] : SW) = [] ∧ True ∧ true =
      true)) := by kernel_rfl
set_option maxHeartbeats 8000000 in
theorem law_q2 (E : World) (a : Option Addr) (n m : Nat) (z : PX) (hp : (fun _ => eRows E a n 1 [.i .u32] = true ∧ (n = 0 ∨ a.isSome = true)) z) (y : PX) (hy1 : rgM y [mT 2 3, rowW, mP 4, rowT, mO] 0) (hy2 : rgF y [(3, .c (.p 0 0)), (4, .v 1 1), (57, .v 1 1), (58, .r .i64 (0) (32)), (59, .r .i64 (0) (32))]) (hy3 : (fun y => (WD (y.l 1) (y.n 91059) (y.n 33) [y.n 1, y.n 2, y.n 3, y.n 4, y.n 5, y.n 6, y.n 7, y.n 8, y.n 9, y.n 10, y.n 11, y.n 12, y.n 13, y.n 14, y.n 15, y.n 16, y.n 17, y.n 18, y.n 19, y.n 20, y.n 21, y.n 22, y.n 23, y.n 24, y.n 25, y.n 26, y.n 27, y.n 28, y.n 29, y.n 30, y.n 31, y.n 32] ∧ y.n 33 = y.n 91058 - y.n 91059 ∧ y.n 91057 = y.n 91004 ∧ y.n 91058 = y.n 91004) ∧ y.n 73 = 512 * y.n 91059 ∧ y.n 74 = 0 ∧ Ln (y.l 1) (y.n 91004) ∧ y.n 91059 ≤ y.n 91058) y) : Holds ((run (pe E) (orcQ E) (tabL fns) 20000 (2 ^ 200 - 1) (t3_td E) (mkL Try.f4.ntmps (slC y [(3, .c (.p 0 0)), (4, .v 1 1), (57, .v 1 1), (58, .r .i64 (0) (32)), (59, .r .i64 (0) (32))])) (mkM y [] [mT 2 3, rowW, mP 4, rowT, mO] 0)).OK (lfP (pe E) Try.f4 (endR ([] : List MB).length [] (.c .b) (fun z y => y.b 90000 = true) z) (headR ([] : List MB).length Try.f4.ntmps (some ((fun y => (33 - y.n 91059).toNat) y)) (law_hs E a n m z)))) := by
  refine loopP_lfH ⟨?_⟩
  rw [law_r2]
  have hf : True ∧ (0 ≤ y.n 91004 ∧ True) ∧ (0 ≤ y.n 91057 ∧ True) ∧ (((0) ≤ y.n 91058 ∧ y.n 91058 ≤ (32)) ∧ True) ∧ (((0) ≤ y.n 91059 ∧ y.n 91059 ≤ (32)) ∧ True) ∧ True := hy2
  obtain ⟨_, ⟨g4, _⟩, ⟨g57, _⟩, ⟨g58, _⟩, ⟨g59, _⟩, _⟩ := hf
  obtain ⟨⟨hW, h33, h57, h58⟩, h73, h74, hLn, hle⟩ := hy3
  obtain ⟨u33, u34, u73, u74, _⟩ : (0 ≤ y.n 33 ∧ y.n 33 ≤ 32) ∧ (-128 ≤ y.n 34 ∧ y.n 34 ≤ 127) ∧ (0 ≤ y.n 73 ∧ y.n 73 ≤ 10000000) ∧ 0 ≤ y.n 74 ∧ True := hy1.1
  have hRW : Row [.i .i8] (y.l 1) := hy1.2.1.2
  have hP : (0 ≤ y.n 200000 ∧ y.n 200000 ≤ 10000000) ∧ True := hy1.2.2.1
  have hR : Row [.i .i16, .i .i16] (y.l 3) := hy1.2.2.2.1.2
  have T1 : ((y.n 74).toNat : Int) = y.n 74 := Int.toNat_of_nonneg u74
  have T4 : ((y.n 91004).toNat : Int) = y.n 91004 := Int.toNat_of_nonneg g4
  have hf : flat [Sp.i .i16, Sp.i .i16] = true := rfl
  have hfw : flat [Sp.i .i8] = true := rfl
  have hl := hLn.e
  have T5 : ((y.n 91057).toNat : Int) = y.n 91057 := Int.toNat_of_nonneg g57
  have w1 : IntKind.i64.wrap (y.n 91059 + 1) = y.n 91059 + 1 := by rw [wi64]; omega
  have w2 : IntKind.i64.wrap (512 * y.n 91059) = 512 * y.n 91059 := by rw [wi64]; omega
  have w3 : IntKind.i64.wrap (512 * (y.n 91059 + 1)) = 512 * (y.n 91059 + 1) := by rw [wi64]; omega
  have w4 : IntKind.i64.wrap (IntKind.i64.wrap (y.n 91004 - y.n 91059) - 1) = y.n 91004 - y.n 91059 - 1 := by rw [wi64, wi64]; omega
  simp only [T1, T4, T5, w1, w2, w3, w4]
  refine ⟨fun h => ?_, fun h => ⟨by trivial, by trivial, by trivial⟩⟩
  have h := of_decide_eq_true h
  have hinB : inB (y.n 91059) (y.n 91057).toNat = true := by simp only [inB, Bool.and_eq_true, decide_eq_true_eq]; omega
  have hro : rOk (y.l 1) (y.n 91059).toNat (EK.i .i8) = true := hRW.rOk (q := .i .i8) (by omega) (by simp [Nat.mod_one]) rfl
  refine ⟨hinB, hro, by ((repeat' (first | exact trivial | with_reducible rfl | assumption | exact decide_eq_true rfl | exact sameB_self _ | exact rfl | apply And.intro)) <;> omega), ?_⟩
  rintro y1 ⟨⟨hx1, hx2, ⟨_, hx3⟩, _⟩, _, ⟨hS, e33, e34⟩, e73, e74, e9⟩
  obtain ⟨u33b, u34b, u73b, u74b, _⟩ : (0 ≤ y1.n 33 ∧ y1.n 33 ≤ 32) ∧ (-128 ≤ y1.n 34 ∧ y1.n 34 ≤ 127) ∧ (0 ≤ y1.n 73 ∧ y1.n 73 ≤ 10000000) ∧ 0 ≤ y1.n 74 ∧ True := hx1
  have T1b : ((y1.n 74).toNat : Int) = y1.n 74 := Int.toNat_of_nonneg u74b
  obtain ⟨b0, b1, b2, b3, b4, b5, b6, b7, b8, b9, b10, b11, b12, b13, b14, b15, b16, b17, b18, b19, b20, b21, b22, b23, b24, b25, b26, b27, b28, b29, b30, b31, _⟩ := hW
  obtain ⟨s0, s1, s2, s3, s4, s5, s6, s7, s8, s9, s10, s11, s12, s13, s14, s15, s16, s17, s18, s19, s20, s21, s22, s23, s24, s25, s26, s27, s28, s29, s30, s31, _⟩ := hS
  have hcur : IntKind.i8.wrap (y.n 1) = rI (y.l 1) (y.n 91059).toNat := by
    have e0 : (y.n 91059 + ((0 : Nat) : Int)).toNat = (y.n 91059).toNat := by congr 1; omega
    have := b0 (show ((0 : Nat) : Int) < y.n 33 by omega)
    rw [← e0]; exact this
  have hchk : (true ^^ (bits .and .i64 (y1.n 90000) 1 == 1) == decide (y.n 91004 - y.n 91059 - 1 ≤ 16)) = false := by
    rw [e9]
    by_cases c : y.n 33 - 1 ≤ 16
    · rw [if_pos c, decide_eq_true (by omega)]; rfl
    · rw [if_neg c, decide_eq_false (by omega)]; rfl
  rw [hchk]
  refine ⟨fun h9 => (by cases h9), fun _ => ?_⟩
  simp only [T1b]
  refine ⟨by ((repeat' (first | exact trivial | with_reducible rfl | assumption | exact decide_eq_true rfl | exact sameB_self _ | exact rfl | apply And.intro)) <;> omega), ?_⟩
  rintro y2 ⟨⟨hz1, hz2, ⟨_, hz3⟩, _⟩, _, ⟨hE, f33, f34, f73⟩, f0, f1⟩
  obtain ⟨u33c, u34c, u73c, u74c, _⟩ : (0 ≤ y2.n 33 ∧ y2.n 33 ≤ 32) ∧ (-128 ≤ y2.n 34 ∧ y2.n 34 ≤ 127) ∧ (0 ≤ y2.n 73 ∧ y2.n 73 ≤ 10000000) ∧ 0 ≤ y2.n 74 ∧ True := hz1
  obtain ⟨q0, q1, q2, q3, q4, q5, q6, q7, q8, q9, q10, q11, q12, q13, q14, q15, q16, q17, q18, q19, q20, q21, q22, q23, q24, q25, q26, q27, q28, q29, q30, q31, _⟩ := hE
  obtain ⟨n1, hsa, hsb, hsc⟩ := f1 (by omega)
  have n1' : (y2.n 74).toNat = 1 := by omega
  have hWD : WD (y.l 1) (y.n 91059 + 1) (y2.n 33) [y2.n 1, y2.n 2, y2.n 3, y2.n 4, y2.n 5, y2.n 6, y2.n 7, y2.n 8, y2.n 9, y2.n 10, y2.n 11, y2.n 12, y2.n 13, y2.n 14, y2.n 15, y2.n 16, y2.n 17, y2.n 18, y2.n 19, y2.n 20, y2.n 21, y2.n 22, y2.n 23, y2.n 24, y2.n 25, y2.n 26, y2.n 27, y2.n 28, y2.n 29, y2.n 30, y2.n 31, y2.n 32] := by
    rw [f33, e33]
    exact And.intro (wd_1 (j := 0) b1 s0 q0) <| And.intro (wd_1 (j := 1) b2 s1 q1) <| And.intro (wd_1 (j := 2) b3 s2 q2) <| And.intro (wd_1 (j := 3) b4 s3 q3) <| And.intro (wd_1 (j := 4) b5 s4 q4) <| And.intro (wd_1 (j := 5) b6 s5 q5) <| And.intro (wd_1 (j := 6) b7 s6 q6) <| And.intro (wd_1 (j := 7) b8 s7 q7) <| And.intro (wd_1 (j := 8) b9 s8 q8) <| And.intro (wd_1 (j := 9) b10 s9 q9) <| And.intro (wd_1 (j := 10) b11 s10 q10) <| And.intro (wd_1 (j := 11) b12 s11 q11) <| And.intro (wd_1 (j := 12) b13 s12 q12) <| And.intro (wd_1 (j := 13) b14 s13 q13) <| And.intro (wd_1 (j := 14) b15 s14 q14) <| And.intro (wd_1 (j := 15) b16 s15 q15) <| And.intro (wd_1 (j := 16) b17 s16 q16) <| And.intro (wd_1 (j := 17) b18 s17 q17) <| And.intro (wd_1 (j := 18) b19 s18 q18) <| And.intro (wd_1 (j := 19) b20 s19 q19) <| And.intro (wd_1 (j := 20) b21 s20 q20) <| And.intro (wd_1 (j := 21) b22 s21 q21) <| And.intro (wd_1 (j := 22) b23 s22 q22) <| And.intro (wd_1 (j := 23) b24 s23 q23) <| And.intro (wd_1 (j := 24) b25 s24 q24) <| And.intro (wd_1 (j := 25) b26 s25 q25) <| And.intro (wd_1 (j := 26) b27 s26 q26) <| And.intro (wd_1 (j := 27) b28 s27 q27) <| And.intro (wd_1 (j := 28) b29 s28 q28) <| And.intro (wd_1 (j := 29) b30 s29 q29) <| And.intro (wd_1 (j := 30) b31 s30 q30) <| And.intro (wd_e (j := 31) u33.2 (by decide)) <| trivial
  have k0 : rOk (y2.l 4) 0 (EK.i .i16) = true := hz3.rOk (q := .i .i16) (by omega) rfl rfl
  have k1 : rOk (y2.l 4) 1 (EK.i .i16) = true := hz3.rOk (q := .i .i16) (by omega) rfl rfl
  have hx : -128 ≤ rI (y.l 1) (y.n 91059).toNat ∧ rI (y.l 1) (y.n 91059).toNat ≤ 127 := by rw [← hcur]; exact i8r _
  have hval : rI (y2.l 4) 0 = 128 * rI (y.l 1) (y.n 91059).toNat := by rw [hsa, f34, e34, hcur]
  have hval1 : rI (y2.l 4) 1 = 128 * rI (y.l 1) (y.n 91059).toNat := by rw [hsb, f34, e34, hcur]
  have ec : IntKind.i16.wrap (IntKind.i64.wrap (128 * if (if IntKind.i64.wrap (rI (y.l 1) (y.n 91059).toNat) < 127 then IntKind.i64.wrap (rI (y.l 1) (y.n 91059).toNat) else 127) > -128 then if IntKind.i64.wrap (rI (y.l 1) (y.n 91059).toNat) < 127 then IntKind.i64.wrap (rI (y.l 1) (y.n 91059).toNat) else 127 else -128)) = 128 * rI (y.l 1) (y.n 91059).toNat := by
    revert hx
    generalize rI (y.l 1) (y.n 91059).toNat = x
    intro hx
    have e1 : IntKind.i64.wrap x = x := by rw [wi64]; omega
    rw [e1]
    have e2 : (if (if x < 127 then x else 127) > -128 then if x < 127 then x else 127 else -128) = x := by repeat' split <;> omega
    rw [e2, wi64, wi16]; omega
  rw [ec, n1', hval, hval1, k0, k1]
  have eb : (((1 : Nat) : Int) != 1) = false := rfl
  have eb2 : (128 * rI (y.l 1) (y.n 91059).toNat != 128 * rI (y.l 1) (y.n 91059).toNat) = false := bne_self_eq_false _
  simp only [eb, eb2, cond_false]
  refine ⟨rfl, rfl, fun h9 => (by cases h9), fun _ => ?_⟩
  have hRT0 : Row [.i .i16, .i .i16] [] := Row.nil
  ((repeat' (first | exact trivial | with_reducible rfl | assumption | exact decide_eq_true rfl | exact sameB_self _ | exact rfl | apply And.intro)) <;> omega)
end Go.Proofs.Ytkeinfmfkcgkhaa

