import Derived.Test.YtkeinfmfkcgkhaaB
set_option linter.unusedVariables false
set_option linter.unusedSimpArgs false
namespace Go.Proofs.Ytkeinfmfkcgkhaa
open Go Go.Proofs Go.Proofs.Ytkeinfmfkcgkhaa.Ev Go.Proofs.Ytkeinfmfkcgkhaa.Ev.Ho
set_option maxRecDepth 100000
noncomputable def rv_h0 (E : World) (w : Int) (z : PX) : Hd := ⟨4, anyH, (rv_td E), [(0, .c (.p 0 0)), (1, .q (.i false .i64 w)), (4, .r .i64 (0) (10001000))], [mV 1 4, mP 3, .g HOLE, mO, rowS], fun y => (Len2 (y.l 4) (y.n 74) ∧ y.n 74 * 512 + 512 ≤ y.n 91004) ∧ y.n 91004 ≤ w + 512, fun y => (10002000 - y.n 91004).toNat⟩
noncomputable def rv_hs (E : World) (w : Int) (z : PX) : List Hd := [rv_h0 E w z]
theorem rv_r0 (E : World) (w : Int) (z : PX) (y : PX) :
    (loopP (pe E) Try.f12 (endR ([mV 1 2, mP 3, rowS, mO] : List MB).length [mV 1 4, mP 3, .g HOLE, mO, rowS] (.t []) (fun z y => Len2 (y.l 4) (y.n 74) ∧ y.n 74 * 512 ≤ y.n 73) z) (headR ([mV 1 2, mP 3, rowS, mO] : List MB).length Try.f12.ntmps (some ((fun y => (10002000 - y.n 91004).toNat) y)) (rv_hs E w z))  (run (pe E) (orcA E) (tabL fns) 20000 (2 ^ 2) (rv_td E) (mkL Try.f12.ntmps (slC y [(0, .c (.p 0 0)), (1, .q (.i false .i64 w)), (4, .r .i64 (0) (10001000))])) (mkM y [] [mV 1 4, mP 3, .g HOLE, mO, rowS] 0))) =
    ((decide (y.n (91004 : Nat) ≤ w) = true → ((bif decide (y.n (91004 : Nat) ≤ y.n (100000 : Nat)) then true else decide (y.n (91004 : Nat) > (2199023255552 : Int))) = true →
      decide (y.n (1 : Nat) = y.n (1 : Nat)) = true ∧ decide (y.n (2 : Nat) = y.n (2 : Nat)) = true ∧ decide (y.n (3 : Nat) = y.n (3 : Nat)) = true ∧ decide (y.n (4 : Nat) = y.n
      (4 : Nat)) = true ∧ decide (y.n (5 : Nat) = y.n (5 : Nat)) = true ∧ decide (y.n (6 : Nat) = y.n (6 : Nat)) = true ∧ decide (y.n (7 : Nat) = y.n (7 : Nat)) = true ∧ decide
      (y.n (8 : Nat) = y.n (8 : Nat)) = true ∧ decide (y.n (9 : Nat) = y.n (9 : Nat)) = true ∧ decide (y.n (10 : Nat) = y.n (10 : Nat)) = true ∧ decide (y.n (11 : Nat) = y.n (11
      : Nat)) = true ∧ decide (y.n (12 : Nat) = y.n (12 : Nat)) = true ∧ decide (y.n (13 : Nat) = y.n (13 : Nat)) = true ∧ decide (y.n (14 : Nat) = y.n (14 : Nat)) = true ∧
      decide (y.n (15 : Nat) = y.n (15 : Nat)) = true ∧ decide (y.n (16 : Nat) = y.n (16 : Nat)) = true ∧ decide (y.n (17 : Nat) = y.n (17 : Nat)) = true ∧ decide (y.n (18 :
      Nat) = y.n (18 : Nat)) = true ∧ decide (y.n (19 : Nat) = y.n (19 : Nat)) = true ∧ decide (y.n (20 : Nat) = y.n (20 : Nat)) = true ∧ decide (y.n (21 : Nat) = y.n (21 :
      Nat)) = true ∧ decide (y.n (22 : Nat) = y.n (22 : Nat)) = true ∧ decide (y.n (23 : Nat) = y.n (23 : Nat)) = true ∧ decide (y.n (24 : Nat) = y.n (24 : Nat)) = true ∧ decide
      (y.n (25 : Nat) = y.n (25 : Nat)) = true ∧ decide (y.n (26 : Nat) = y.n (26 : Nat)) = true ∧ decide (y.n (27 : Nat) = y.n (27 : Nat)) = true ∧ decide (y.n (28 : Nat) = y.n
      (28 : Nat)) = true ∧ decide (y.n (29 : Nat) = y.n (29 : Nat)) = true ∧ decide (y.n (30 : Nat) = y.n (30 : Nat)) = true ∧ decide (y.n (31 : Nat) = y.n (31 : Nat)) = true ∧
      decide (y.n (32 : Nat) = y.n (32 : Nat)) = true ∧ decide (y.n (33 : Nat) = y.n (33 : Nat)) = true ∧ decide (y.n (34 : Nat) = y.n (34 : Nat)) = true ∧ decide (y.n (35 :
      Nat) = y.n (35 : Nat)) = true ∧ decide (y.n (36 : Nat) = y.n (36 : Nat)) = true ∧ decide (y.n (37 : Nat) = y.n (37 : Nat)) = true ∧ decide (y.n (38 : Nat) = y.n (38 :
      Nat)) = true ∧ decide (y.n (39 : Nat) = y.n (39 : Nat)) = true ∧ decide (y.n (40 : Nat) = y.n (40 : Nat)) = true ∧ decide (y.n (41 : Nat) = y.n (41 : Nat)) = true ∧ decide
      (y.n (42 : Nat) = y.n (42 : Nat)) = true ∧ decide (y.n (43 : Nat) = y.n (43 : Nat)) = true ∧ decide (y.n (44 : Nat) = y.n (44 : Nat)) = true ∧ decide (y.n (45 : Nat) = y.n
      (45 : Nat)) = true ∧ decide (y.n (46 : Nat) = y.n (46 : Nat)) = true ∧ decide (y.n (47 : Nat) = y.n (47 : Nat)) = true ∧ decide (y.n (48 : Nat) = y.n (48 : Nat)) = true ∧
      decide (y.n (49 : Nat) = y.n (49 : Nat)) = true ∧ decide (y.n (50 : Nat) = y.n (50 : Nat)) = true ∧ decide (y.n (51 : Nat) = y.n (51 : Nat)) = true ∧ decide (y.n (52 :
      Nat) = y.n (52 : Nat)) = true ∧ decide (y.n (53 : Nat) = y.n (53 : Nat)) = true ∧ decide (y.n (54 : Nat) = y.n (54 : Nat)) = true ∧ decide (y.n (55 : Nat) = y.n (55 :
      Nat)) = true ∧ decide (y.n (56 : Nat) = y.n (56 : Nat)) = true ∧ decide (y.n (57 : Nat) = y.n (57 : Nat)) = true ∧ decide (y.n (58 : Nat) = y.n (58 : Nat)) = true ∧ decide
      (y.n (59 : Nat) = y.n (59 : Nat)) = true ∧ decide (y.n (60 : Nat) = y.n (60 : Nat)) = true ∧ decide (y.n (61 : Nat) = y.n (61 : Nat)) = true ∧ decide (y.n (62 : Nat) = y.n
      (62 : Nat)) = true ∧ decide (y.n (63 : Nat) = y.n (63 : Nat)) = true ∧ decide (y.n (64 : Nat) = y.n (64 : Nat)) = true ∧ decide (y.n (65 : Nat) = y.n (65 : Nat)) = true ∧
      decide (y.n (66 : Nat) = y.n (66 : Nat)) = true ∧ decide (y.n (67 : Nat) = y.n (67 : Nat)) = true ∧ decide (y.n (68 : Nat) = y.n (68 : Nat)) = true ∧ decide (y.n (72 :
      Nat) = y.n (72 : Nat)) = true ∧ decide (y.n (73 : Nat) = y.n (73 : Nat)) = true ∧ decide ((y.n (74 : Nat)).toNat = (y.n (74 : Nat)).toNat) = true ∧ decide (y.n (100000 :
      Nat) = y.n (100000 : Nat)) = true ∧ sameB (Bl.mk (y.l (4 : Nat)) (60 : Nat)) (Bl.mk (y.l (4 : Nat)) (60 : Nat)) = true ∧ sameB (Bl.mk [C.i true IntKind.i16 (0 : Int), C.i
      true IntKind.i16 (0 : Int)] (60 : Nat)) (Bl.mk [C.i true IntKind.i16 (0 : Int), C.i true IntKind.i16 (0 : Int)] (60 : Nat)) = true ∧ decide (y.n (1 : Nat) = y.n (1 : Nat))
      = true ∧ decide (y.n (2 : Nat) = y.n (2 : Nat)) = true ∧ decide (y.n (3 : Nat) = y.n (3 : Nat)) = true ∧ decide (y.n (4 : Nat) = y.n (4 : Nat)) = true ∧ decide (y.n (5 :
      Nat) = y.n (5 : Nat)) = true ∧ decide (y.n (6 : Nat) = y.n (6 : Nat)) = true ∧ decide (y.n (7 : Nat) = y.n (7 : Nat)) = true ∧ decide (y.n (8 : Nat) = y.n (8 : Nat)) =
      true ∧ decide (y.n (9 : Nat) = y.n (9 : Nat)) = true ∧ decide (y.n (10 : Nat) = y.n (10 : Nat)) = true ∧ decide (y.n (11 : Nat) = y.n (11 : Nat)) = true ∧ decide (y.n (12
      : Nat) = y.n (12 : Nat)) = true ∧ decide (y.n (13 : Nat) = y.n (13 : Nat)) = true ∧ decide (y.n (14 : Nat) = y.n (14 : Nat)) = true ∧ decide (y.n (15 : Nat) = y.n (15 :
      Nat)) = true ∧ decide (y.n (16 : Nat) = y.n (16 : Nat)) = true ∧ decide (y.n (17 : Nat) = y.n (17 : Nat)) = true ∧ decide (y.n (18 : Nat) = y.n (18 : Nat)) = true ∧ decide
      (y.n (19 : Nat) = y.n (19 : Nat)) = true ∧ decide (y.n (20 : Nat) = y.n (20 : Nat)) = true ∧ decide (y.n (21 : Nat) = y.n (21 : Nat)) = true ∧ decide (y.n (22 : Nat) = y.n
      (22 : Nat)) = true ∧ decide (y.n (23 : Nat) = y.n (23 : Nat)) = true ∧ decide (y.n (24 : Nat) = y.n (24 : Nat)) = true ∧ decide (y.n (25 : Nat) = y.n (25 : Nat)) = true ∧
      decide (y.n (26 : Nat) = y.n (26 : Nat)) = true ∧ decide (y.n (27 : Nat) = y.n (27 : Nat)) = true ∧ decide (y.n (28 : Nat) = y.n (28 : Nat)) = true ∧ decide (y.n (29 :
      Nat) = y.n (29 : Nat)) = true ∧ decide (y.n (30 : Nat) = y.n (30 : Nat)) = true ∧ decide (y.n (31 : Nat) = y.n (31 : Nat)) = true ∧ decide (y.n (32 : Nat) = y.n (32 :
      Nat)) = true ∧ decide (y.n (33 : Nat) = y.n (33 : Nat)) = true ∧ decide (y.n (34 : Nat) = y.n (34 : Nat)) = true ∧ decide (y.n (35 : Nat) = y.n (35 : Nat)) = true ∧ decide
      (y.n (36 : Nat) = y.n (36 : Nat)) = true ∧ decide (y.n (37 : Nat) = y.n (37 : Nat)) = true ∧ decide (y.n (38 : Nat) = y.n (38 : Nat)) = true ∧ decide (y.n (39 : Nat) = y.n
      (39 : Nat)) = true ∧ decide (y.n (40 : Nat) = y.n (40 : Nat)) = true ∧ decide (y.n (41 : Nat) = y.n (41 : Nat)) = true ∧ decide (y.n (42 : Nat) = y.n (42 : Nat)) = true ∧
      decide (y.n (43 : Nat) = y.n (43 : Nat)) = true ∧ decide (y.n (44 : Nat) = y.n (44 : Nat)) = true ∧ decide (y.n (45 : Nat) = y.n (45 : Nat)) = true ∧ decide (y.n (46 :
      Nat) = y.n (46 : Nat)) = true ∧ decide (y.n (47 : Nat) = y.n (47 : Nat)) = true ∧ decide (y.n (48 : Nat) = y.n (48 : Nat)) = true ∧ decide (y.n (49 : Nat) = y.n (49 :
      Nat)) = true ∧ decide (y.n (50 : Nat) = y.n (50 : Nat)) = true ∧ decide (y.n (51 : Nat) = y.n (51 : Nat)) = true ∧ decide (y.n (52 : Nat) = y.n (52 : Nat)) = true ∧ decide
      (y.n (53 : Nat) = y.n (53 : Nat)) = true ∧ decide (y.n (54 : Nat) = y.n (54 : Nat)) = true ∧ decide (y.n (55 : Nat) = y.n (55 : Nat)) = true ∧ decide (y.n (56 : Nat) = y.n
      (56 : Nat)) = true ∧ decide (y.n (57 : Nat) = y.n (57 : Nat)) = true ∧ decide (y.n (58 : Nat) = y.n (58 : Nat)) = true ∧ decide (y.n (59 : Nat) = y.n (59 : Nat)) = true ∧
      decide (y.n (60 : Nat) = y.n (60 : Nat)) = true ∧ decide (y.n (61 : Nat) = y.n (61 : Nat)) = true ∧ decide (y.n (62 : Nat) = y.n (62 : Nat)) = true ∧ decide (y.n (63 :
      Nat) = y.n (63 : Nat)) = true ∧ decide (y.n (64 : Nat) = y.n (64 : Nat)) = true ∧ decide (y.n (65 : Nat) = y.n (65 : Nat)) = true ∧ decide (y.n (66 : Nat) = y.n (66 :
      Nat)) = true ∧ decide (y.n (67 : Nat) = y.n (67 : Nat)) = true ∧ decide (y.n (68 : Nat) = y.n (68 : Nat)) = true ∧ decide (y.n (72 : Nat) = y.n (72 : Nat)) = true ∧ decide
      (y.n (73 : Nat) = y.n (73 : Nat)) = true ∧ decide ((y.n (74 : Nat)).toNat = (y.n (74 : Nat)).toNat) = true ∧ decide (y.n (100000 : Nat) = y.n (100000 : Nat)) = true ∧
      sameB (Bl.mk (y.l (4 : Nat)) (60 : Nat)) (Bl.mk (y.l (4 : Nat)) (60 : Nat)) = true ∧ sameB (Bl.mk [C.i true IntKind.i16 (0 : Int), C.i true IntKind.i16 (0 : Int)] (60 :
      Nat)) (Bl.mk [C.i true IntKind.i16 (0 : Int), C.i true IntKind.i16 (0 : Int)] (60 : Nat)) = true ∧ decide (y.n (1 : Nat) = y.n (1 : Nat)) = true ∧ decide (y.n (2 : Nat) =
      y.n (2 : Nat)) = true ∧ decide (y.n (3 : Nat) = y.n (3 : Nat)) = true ∧ decide (y.n (4 : Nat) = y.n (4 : Nat)) = true ∧ decide (y.n (5 : Nat) = y.n (5 : Nat)) = true ∧
      decide (y.n (6 : Nat) = y.n (6 : Nat)) = true ∧ decide (y.n (7 : Nat) = y.n (7 : Nat)) = true ∧ decide (y.n (8 : Nat) = y.n (8 : Nat)) = true ∧ decide (y.n (9 : Nat) = y.n
      (9 : Nat)) = true ∧ decide (y.n (10 : Nat) = y.n (10 : Nat)) = true ∧ decide (y.n (11 : Nat) = y.n (11 : Nat)) = true ∧ decide (y.n (12 : Nat) = y.n (12 : Nat)) = true ∧
      decide (y.n (13 : Nat) = y.n (13 : Nat)) = true ∧ decide (y.n (14 : Nat) = y.n (14 : Nat)) = true ∧ decide (y.n (15 : Nat) = y.n (15 : Nat)) = true ∧ decide (y.n (16 :
      Nat) = y.n (16 : Nat)) = true ∧ decide (y.n (17 : Nat) = y.n (17 : Nat)) = true ∧ decide (y.n (18 : Nat) = y.n (18 : Nat)) = true ∧ decide (y.n (19 : Nat) = y.n (19 :
      Nat)) = true ∧ decide (y.n (20 : Nat) = y.n (20 : Nat)) = true ∧ decide (y.n (21 : Nat) = y.n (21 : Nat)) = true ∧ decide (y.n (22 : Nat) = y.n (22 : Nat)) = true ∧ decide
      (y.n (23 : Nat) = y.n (23 : Nat)) = true ∧ decide (y.n (24 : Nat) = y.n (24 : Nat)) = true ∧ decide (y.n (25 : Nat) = y.n (25 : Nat)) = true ∧ decide (y.n (26 : Nat) = y.n
      (26 : Nat)) = true ∧ decide (y.n (27 : Nat) = y.n (27 : Nat)) = true ∧ decide (y.n (28 : Nat) = y.n (28 : Nat)) = true ∧ decide (y.n (29 : Nat) = y.n (29 : Nat)) = true ∧
      decide (y.n (30 : Nat) = y.n (30 : Nat)) = true ∧ decide (y.n (31 : Nat) = y.n (31 : Nat)) = true ∧ decide (y.n (32 : Nat) = y.n (32 : Nat)) = true ∧ decide (y.n (33 :
      Nat) = y.n (33 : Nat)) = true ∧ decide (y.n (34 : Nat) = y.n (34 : Nat)) = true ∧ decide (y.n (35 : Nat) = y.n (35 : Nat)) = true ∧ decide (y.n (36 : Nat) = y.n (36 :
      Nat)) = true ∧ decide (y.n (37 : Nat) = y.n (37 : Nat)) = true ∧ decide (y.n (38 : Nat) = y.n (38 : Nat)) = true ∧ decide (y.n (39 : Nat) = y.n (39 : Nat)) = true ∧ decide
      (y.n (40 : Nat) = y.n (40 : Nat)) = true ∧ decide (y.n (41 : Nat) = y.n (41 : Nat)) = true ∧ decide (y.n (42 : Nat) = y.n (42 : Nat)) = true ∧ decide (y.n (43 : Nat) = y.n
      (43 : Nat)) = true ∧ decide (y.n (44 : Nat) = y.n (44 : Nat)) = true ∧ decide (y.n (45 : Nat) = y.n (45 : Nat)) = true ∧ decide (y.n (46 : Nat) = y.n (46 : Nat)) = true ∧
      decide (y.n (47 : Nat) = y.n (47 : Nat)) = true ∧ decide (y.n (48 : Nat) = y.n (48 : Nat)) = true ∧ decide (y.n (49 : Nat) = y.n (49 : Nat)) = true ∧ decide (y.n (50 :
      Nat) = y.n (50 : Nat)) = true ∧ decide (y.n (51 : Nat) = y.n (51 : Nat)) = true ∧ decide (y.n (52 : Nat) = y.n (52 : Nat)) = true ∧ decide (y.n (53 : Nat) = y.n (53 :
      Nat)) = true ∧ decide (y.n (54 : Nat) = y.n (54 : Nat)) = true ∧ decide (y.n (55 : Nat) = y.n (55 : Nat)) = true ∧ decide (y.n (56 : Nat) = y.n (56 : Nat)) = true ∧ decide
      (y.n (57 : Nat) = y.n (57 : Nat)) = true ∧ decide (y.n (58 : Nat) = y.n (58 : Nat)) = true ∧ decide (y.n (59 : Nat) = y.n (59 : Nat)) = true ∧ decide (y.n (60 : Nat) = y.n
      (60 : Nat)) = true ∧ decide (y.n (61 : Nat) = y.n (61 : Nat)) = true ∧ decide (y.n (62 : Nat) = y.n (62 : Nat)) = true ∧ decide (y.n (63 : Nat) = y.n (63 : Nat)) = true ∧
      decide (y.n (64 : Nat) = y.n (64 : Nat)) = true ∧ decide (y.n (65 : Nat) = y.n (65 : Nat)) = true ∧ decide (y.n (66 : Nat) = y.n (66 : Nat)) = true ∧ decide (y.n (67 :
      Nat) = y.n (67 : Nat)) = true ∧ decide (y.n (68 : Nat) = y.n (68 : Nat)) = true ∧ decide (y.n (72 : Nat) = y.n (72 : Nat)) = true ∧ decide (y.n (73 : Nat) = y.n (73 :
      Nat)) = true ∧ decide ((y.n (74 : Nat)).toNat = (y.n (74 : Nat)).toNat) = true ∧ decide (y.n (100000 : Nat) = y.n (100000 : Nat)) = true ∧ sameB (Bl.mk (y.l (4 : Nat)) (60
      : Nat)) (Bl.mk (y.l (4 : Nat)) (60 : Nat)) = true ∧ decide ((y.n (74 : Nat)).toNat * (2 : Nat) ≤ (y.l (4 : Nat)).length) = true ∧ decide ((y.n (74 : Nat)).toNat + (1 :
      Nat) ≤ (1099511627776 : Nat)) = true ∧ decide (((y.n (74 : Nat)).toNat + (1 : Nat)) * (4 : Nat) ≤ (1099511627776 : Nat)) = true ∧ rv_td E = rv_td E ∧ (58 : Nat) = (58 :
      Nat) ∧ (True ∧ (renC (posN [(0 : Nat), (1 : Nat), (1000000000002 : Nat), (3 : Nat), (6 : Nat)]) (C.i false IntKind.i64 w) = C.i false IntKind.i64 w ∧ True) ∧ (((0 : Int) ≤
      IntKind.i64.wrap (y.n (91004 : Nat) + (512 : Int)) ∧ IntKind.i64.wrap (y.n (91004 : Nat) + (512 : Int)) ≤ (10001000 : Int)) ∧ True) ∧ True) ∧ ((68 : Nat) = (68 : Nat) ∧
      (((0 : Int) ≤ y.n (33 : Nat) ∧ y.n (33 : Nat) ≤ (32 : Int)) ∧ ((0 : Int) ≤ y.n (67 : Nat) ∧ y.n (67 : Nat) ≤ (32 : Int)) ∧ ((0 : Int) ≤ y.n (72 : Nat) ∧ y.n (72 : Nat) ≤
      (1022 : Int)) ∧ ((0 : Int) ≤ y.n (73 : Nat) ∧ y.n (73 : Nat) ≤ (10000000 : Int)) ∧ True) ∧ (84 : Nat) = (84 : Nat) ∧ (((0 : Int) ≤ y.n (100000 : Nat) ∧ y.n (100000 : Nat)
      ≤ (10000000 : Int)) ∧ True) ∧ (4294967295 : Nat) = (4294967295 : Nat) ∧
      (741991204937588471353107210173517385893522847741378461052633880361214601735917472982278721692919759636892846595991201096475255940853038949688016010326287086087990634635853824
      : Nat) =
      (741991204937588471353107210173517385893522847741378461052633880361214601735917472982278721692919759636892846595991201096475255940853038949688016010326287086087990634635853824
      : Nat) ∧ (60 : Nat) = (60 : Nat) ∧ (flat [Sp.r IntKind.i16 (0 : Int) (0 : Int), Sp.r IntKind.i16 (0 : Int) (0 : Int)] = true ∧ Row [Sp.r IntKind.i16 (0 : Int) (0 : Int),
      Sp.r IntKind.i16 (0 : Int) (0 : Int)] (rApp (y.l (4 : Nat)) ((y.n (74 : Nat)).toNat * (2 : Nat)) [C.i false IntKind.i16 (IntKind.i16.wrap (IntKind.i64.wrap
      (IntKind.i64.wrap ((if (1023 : Int) < if (0 : Int) > IntKind.i64.wrap ((0 : Int) + y.n (72 : Nat)) then (0 : Int) else IntKind.i64.wrap ((0 : Int) + y.n (72 : Nat)) then
      (1023 : Int) else if (0 : Int) > IntKind.i64.wrap ((0 : Int) + y.n (72 : Nat)) then (0 : Int) else IntKind.i64.wrap ((0 : Int) + y.n (72 : Nat))) - y.n (72 : Nat)) * (32 :
      Int)))), C.i false IntKind.i16 (IntKind.i16.wrap (IntKind.i64.wrap (IntKind.i64.wrap ((if (1023 : Int) < if (0 : Int) > IntKind.i64.wrap ((0 : Int) + y.n (72 : Nat)) then
      (0 : Int) else IntKind.i64.wrap ((0 : Int) + y.n (72 : Nat)) then (1023 : Int) else if (0 : Int) > IntKind.i64.wrap ((0 : Int) + y.n (72 : Nat)) then (0 : Int) else
      IntKind.i64.wrap ((0 : Int) + y.n (72 : Nat))) - y.n (72 : Nat)) * (32 : Int))))])) ∧ ([] : SW) = []) ∧ ((Len2 (rApp (y.l (4 : Nat)) ((y.n (74 : Nat)).toNat * (2 : Nat))
      [C.i false IntKind.i16 (IntKind.i16.wrap (IntKind.i64.wrap (IntKind.i64.wrap ((if (1023 : Int) < if (0 : Int) > IntKind.i64.wrap ((0 : Int) + y.n (72 : Nat)) then (0 :
      Int) else IntKind.i64.wrap ((0 : Int) + y.n (72 : Nat)) then (1023 : Int) else if (0 : Int) > IntKind.i64.wrap ((0 : Int) + y.n (72 : Nat)) then (0 : Int) else
      IntKind.i64.wrap ((0 : Int) + y.n (72 : Nat))) - y.n (72 : Nat)) * (32 : Int)))), C.i false IntKind.i16 (IntKind.i16.wrap (IntKind.i64.wrap (IntKind.i64.wrap ((if (1023 :
      Int) < if (0 : Int) > IntKind.i64.wrap ((0 : Int) + y.n (72 : Nat)) then (0 : Int) else IntKind.i64.wrap ((0 : Int) + y.n (72 : Nat)) then (1023 : Int) else if (0 : Int) >
      IntKind.i64.wrap ((0 : Int) + y.n (72 : Nat)) then (0 : Int) else IntKind.i64.wrap ((0 : Int) + y.n (72 : Nat))) - y.n (72 : Nat)) * (32 : Int))))]) (↑((y.n (74 :
      Nat)).toNat + (1 : Nat)) : Int) ∧ (↑((y.n (74 : Nat)).toNat + (1 : Nat)) : Int) * (512 : Int) + (512 : Int) ≤ IntKind.i64.wrap (y.n (91004 : Nat) + (512 : Int))) ∧
      IntKind.i64.wrap (y.n (91004 : Nat) + (512 : Int)) ≤ w + (512 : Int)) ∧ ((10002000 : Int) - IntKind.i64.wrap (y.n (91004 : Nat) + (512 : Int))).toNat < ((10002000 : Int) -
      y.n (91004 : Nat)).toNat ∧ True) ∧ ((bif decide (y.n (91004 : Nat) ≤ y.n (100000 : Nat)) then true else decide (y.n (91004 : Nat) > (2199023255552 : Int))) = false →
      (decide (y.n (100000 : Nat) < y.n (91004 : Nat)) = true → decide (y.n (1 : Nat) = y.n (1 : Nat)) = true ∧ decide (y.n (2 : Nat) = y.n (2 : Nat)) = true ∧ decide (y.n (3 :
      Nat) = y.n (3 : Nat)) = true ∧ decide (y.n (4 : Nat) = y.n (4 : Nat)) = true ∧ decide (y.n (5 : Nat) = y.n (5 : Nat)) = true ∧ decide (y.n (6 : Nat) = y.n (6 : Nat)) =
      true ∧ decide (y.n (7 : Nat) = y.n (7 : Nat)) = true ∧ decide (y.n (8 : Nat) = y.n (8 : Nat)) = true ∧ decide (y.n (9 : Nat) = y.n (9 : Nat)) = true ∧ decide (y.n (10 :
      Nat) = y.n (10 : Nat)) = true ∧ decide (y.n (11 : Nat) = y.n (11 : Nat)) = true ∧ decide (y.n (12 : Nat) = y.n (12 : Nat)) = true ∧ decide (y.n (13 : Nat) = y.n (13 :
      Nat)) = true ∧ decide (y.n (14 : Nat) = y.n (14 : Nat)) = true ∧ decide (y.n (15 : Nat) = y.n (15 : Nat)) = true ∧ decide (y.n (16 : Nat) = y.n (16 : Nat)) = true ∧ decide
      (y.n (17 : Nat) = y.n (17 : Nat)) = true ∧ decide (y.n (18 : Nat) = y.n (18 : Nat)) = true ∧ decide (y.n (19 : Nat) = y.n (19 : Nat)) = true ∧ decide (y.n (20 : Nat) = y.n
      (20 : Nat)) = true ∧ decide (y.n (21 : Nat) = y.n (21 : Nat)) = true ∧ decide (y.n (22 : Nat) = y.n (22 : Nat)) = true ∧ decide (y.n (23 : Nat) = y.n (23 : Nat)) = true ∧
      decide (y.n (24 : Nat) = y.n (24 : Nat)) = true ∧ decide (y.n (25 : Nat) = y.n (25 : Nat)) = true ∧ decide (y.n (26 : Nat) = y.n (26 : Nat)) = true ∧ decide (y.n (27 :
      Nat) = y.n (27 : Nat)) = true ∧ decide (y.n (28 : Nat) = y.n (28 : Nat)) = true ∧ decide (y.n (29 : Nat) = y.n (29 : Nat)) = true ∧ decide (y.n (30 : Nat) = y.n (30 :
      Nat)) = true ∧ decide (y.n (31 : Nat) = y.n (31 : Nat)) = true ∧ decide (y.n (32 : Nat) = y.n (32 : Nat)) = true ∧ decide (y.n (33 : Nat) = y.n (33 : Nat)) = true ∧ decide
      (y.n (34 : Nat) = y.n (34 : Nat)) = true ∧ decide (y.n (35 : Nat) = y.n (35 : Nat)) = true ∧ decide (y.n (36 : Nat) = y.n (36 : Nat)) = true ∧ decide (y.n (37 : Nat) = y.n
      (37 : Nat)) = true ∧ decide (y.n (38 : Nat) = y.n (38 : Nat)) = true ∧ decide (y.n (39 : Nat) = y.n (39 : Nat)) = true ∧ decide (y.n (40 : Nat) = y.n (40 : Nat)) = true ∧
      decide (y.n (41 : Nat) = y.n (41 : Nat)) = true ∧ decide (y.n (42 : Nat) = y.n (42 : Nat)) = true ∧ decide (y.n (43 : Nat) = y.n (43 : Nat)) = true ∧ decide (y.n (44 :
      Nat) = y.n (44 : Nat)) = true ∧ decide (y.n (45 : Nat) = y.n (45 : Nat)) = true ∧ decide (y.n (46 : Nat) = y.n (46 : Nat)) = true ∧ decide (y.n (47 : Nat) = y.n (47 :
      Nat)) = true ∧ decide (y.n (48 : Nat) = y.n (48 : Nat)) = true ∧ decide (y.n (49 : Nat) = y.n (49 : Nat)) = true ∧ decide (y.n (50 : Nat) = y.n (50 : Nat)) = true ∧ decide
      (y.n (51 : Nat) = y.n (51 : Nat)) = true ∧ decide (y.n (52 : Nat) = y.n (52 : Nat)) = true ∧ decide (y.n (53 : Nat) = y.n (53 : Nat)) = true ∧ decide (y.n (54 : Nat) = y.n
      (54 : Nat)) = true ∧ decide (y.n (55 : Nat) = y.n (55 : Nat)) = true ∧ decide (y.n (56 : Nat) = y.n (56 : Nat)) = true ∧ decide (y.n (57 : Nat) = y.n (57 : Nat)) = true ∧
      decide (y.n (58 : Nat) = y.n (58 : Nat)) = true ∧ decide (y.n (59 : Nat) = y.n (59 : Nat)) = true ∧ decide (y.n (60 : Nat) = y.n (60 : Nat)) = true ∧ decide (y.n (61 :
      Nat) = y.n (61 : Nat)) = true ∧ decide (y.n (62 : Nat) = y.n (62 : Nat)) = true ∧ decide (y.n (63 : Nat) = y.n (63 : Nat)) = true ∧ decide (y.n (64 : Nat) = y.n (64 :
      Nat)) = true ∧ decide (y.n (65 : Nat) = y.n (65 : Nat)) = true ∧ decide (y.n (66 : Nat) = y.n (66 : Nat)) = true ∧ decide (y.n (67 : Nat) = y.n (67 : Nat)) = true ∧ decide
      (y.n (68 : Nat) = y.n (68 : Nat)) = true ∧ decide (y.n (72 : Nat) = y.n (72 : Nat)) = true ∧ decide (y.n (73 : Nat) = y.n (73 : Nat)) = true ∧ decide ((y.n (74 :
      Nat)).toNat = (y.n (74 : Nat)).toNat) = true ∧ decide (y.n (91004 : Nat) = y.n (91004 : Nat)) = true ∧ sameB (Bl.mk (y.l (4 : Nat)) (60 : Nat)) (Bl.mk (y.l (4 : Nat)) (60
      : Nat)) = true ∧ sameB (Bl.mk [C.i true IntKind.i16 (0 : Int), C.i true IntKind.i16 (0 : Int)] (60 : Nat)) (Bl.mk [C.i true IntKind.i16 (0 : Int), C.i true IntKind.i16 (0
      : Int)] (60 : Nat)) = true ∧ decide (y.n (1 : Nat) = y.n (1 : Nat)) = true ∧ decide (y.n (2 : Nat) = y.n (2 : Nat)) = true ∧ decide (y.n (3 : Nat) = y.n (3 : Nat)) = true
      ∧ decide (y.n (4 : Nat) = y.n (4 : Nat)) = true ∧ decide (y.n (5 : Nat) = y.n (5 : Nat)) = true ∧ decide (y.n (6 : Nat) = y.n (6 : Nat)) = true ∧ decide (y.n (7 : Nat) =
      y.n (7 : Nat)) = true ∧ decide (y.n (8 : Nat) = y.n (8 : Nat)) = true ∧ decide (y.n (9 : Nat) = y.n (9 : Nat)) = true ∧ decide (y.n (10 : Nat) = y.n (10 : Nat)) = true ∧
      decide (y.n (11 : Nat) = y.n (11 : Nat)) = true ∧ decide (y.n (12 : Nat) = y.n (12 : Nat)) = true ∧ decide (y.n (13 : Nat) = y.n (13 : Nat)) = true ∧ decide (y.n (14 :
      Nat) = y.n (14 : Nat)) = true ∧ decide (y.n (15 : Nat) = y.n (15 : Nat)) = true ∧ decide (y.n (16 : Nat) = y.n (16 : Nat)) = true ∧ decide (y.n (17 : Nat) = y.n (17 :
      Nat)) = true ∧ decide (y.n (18 : Nat) = y.n (18 : Nat)) = true ∧ decide (y.n (19 : Nat) = y.n (19 : Nat)) = true ∧ decide (y.n (20 : Nat) = y.n (20 : Nat)) = true ∧ decide
      (y.n (21 : Nat) = y.n (21 : Nat)) = true ∧ decide (y.n (22 : Nat) = y.n (22 : Nat)) = true ∧ decide (y.n (23 : Nat) = y.n (23 : Nat)) = true ∧ decide (y.n (24 : Nat) = y.n
      (24 : Nat)) = true ∧ decide (y.n (25 : Nat) = y.n (25 : Nat)) = true ∧ decide (y.n (26 : Nat) = y.n (26 : Nat)) = true ∧ decide (y.n (27 : Nat) = y.n (27 : Nat)) = true ∧
      decide (y.n (28 : Nat) = y.n (28 : Nat)) = true ∧ decide (y.n (29 : Nat) = y.n (29 : Nat)) = true ∧ decide (y.n (30 : Nat) = y.n (30 : Nat)) = true ∧ decide (y.n (31 :
      Nat) = y.n (31 : Nat)) = true ∧ decide (y.n (32 : Nat) = y.n (32 : Nat)) = true ∧ decide (y.n (33 : Nat) = y.n (33 : Nat)) = true ∧ decide (y.n (34 : Nat) = y.n (34 :
      Nat)) = true ∧ decide (y.n (35 : Nat) = y.n (35 : Nat)) = true ∧ decide (y.n (36 : Nat) = y.n (36 : Nat)) = true ∧ decide (y.n (37 : Nat) = y.n (37 : Nat)) = true ∧ decide
      (y.n (38 : Nat) = y.n (38 : Nat)) = true ∧ decide (y.n (39 : Nat) = y.n (39 : Nat)) = true ∧ decide (y.n (40 : Nat) = y.n (40 : Nat)) = true ∧ decide (y.n (41 : Nat) = y.n
      (41 : Nat)) = true ∧ decide (y.n (42 : Nat) = y.n (42 : Nat)) = true ∧ decide (y.n (43 : Nat) = y.n (43 : Nat)) = true ∧ decide (y.n (44 : Nat) = y.n (44 : Nat)) = true ∧
      decide (y.n (45 : Nat) = y.n (45 : Nat)) = true ∧ decide (y.n (46 : Nat) = y.n (46 : Nat)) = true ∧ decide (y.n (47 : Nat) = y.n (47 : Nat)) = true ∧ decide (y.n (48 :
      Nat) = y.n (48 : Nat)) = true ∧ decide (y.n (49 : Nat) = y.n (49 : Nat)) = true ∧ decide (y.n (50 : Nat) = y.n (50 : Nat)) = true ∧ decide (y.n (51 : Nat) = y.n (51 :
      Nat)) = true ∧ decide (y.n (52 : Nat) = y.n (52 : Nat)) = true ∧ decide (y.n (53 : Nat) = y.n (53 : Nat)) = true ∧ decide (y.n (54 : Nat) = y.n (54 : Nat)) = true ∧ decide
      (y.n (55 : Nat) = y.n (55 : Nat)) = true ∧ decide (y.n (56 : Nat) = y.n (56 : Nat)) = true ∧ decide (y.n (57 : Nat) = y.n (57 : Nat)) = true ∧ decide (y.n (58 : Nat) = y.n
      (58 : Nat)) = true ∧ decide (y.n (59 : Nat) = y.n (59 : Nat)) = true ∧ decide (y.n (60 : Nat) = y.n (60 : Nat)) = true ∧ decide (y.n (61 : Nat) = y.n (61 : Nat)) = true ∧
      decide (y.n (62 : Nat) = y.n (62 : Nat)) = true ∧ decide (y.n (63 : Nat) = y.n (63 : Nat)) = true ∧ decide (y.n (64 : Nat) = y.n (64 : Nat)) = true ∧ decide (y.n (65 :
      Nat) = y.n (65 : Nat)) = true ∧ decide (y.n (66 : Nat) = y.n (66 : Nat)) = true ∧ decide (y.n (67 : Nat) = y.n (67 : Nat)) = true ∧ decide (y.n (68 : Nat) = y.n (68 :
      Nat)) = true ∧ decide (y.n (72 : Nat) = y.n (72 : Nat)) = true ∧ decide (y.n (73 : Nat) = y.n (73 : Nat)) = true ∧ decide ((y.n (74 : Nat)).toNat = (y.n (74 : Nat)).toNat)
      = true ∧ decide (y.n (91004 : Nat) = y.n (91004 : Nat)) = true ∧ sameB (Bl.mk (y.l (4 : Nat)) (60 : Nat)) (Bl.mk (y.l (4 : Nat)) (60 : Nat)) = true ∧ sameB (Bl.mk [C.i
      true IntKind.i16 (0 : Int), C.i true IntKind.i16 (0 : Int)] (60 : Nat)) (Bl.mk [C.i true IntKind.i16 (0 : Int), C.i true IntKind.i16 (0 : Int)] (60 : Nat)) = true ∧ decide
      (y.n (1 : Nat) = y.n (1 : Nat)) = true ∧ decide (y.n (2 : Nat) = y.n (2 : Nat)) = true ∧ decide (y.n (3 : Nat) = y.n (3 : Nat)) = true ∧ decide (y.n (4 : Nat) = y.n (4 :
      Nat)) = true ∧ decide (y.n (5 : Nat) = y.n (5 : Nat)) = true ∧ decide (y.n (6 : Nat) = y.n (6 : Nat)) = true ∧ decide (y.n (7 : Nat) = y.n (7 : Nat)) = true ∧ decide (y.n
      (8 : Nat) = y.n (8 : Nat)) = true ∧ decide (y.n (9 : Nat) = y.n (9 : Nat)) = true ∧ decide (y.n (10 : Nat) = y.n (10 : Nat)) = true ∧ decide (y.n (11 : Nat) = y.n (11 :
      Nat)) = true ∧ decide (y.n (12 : Nat) = y.n (12 : Nat)) = true ∧ decide (y.n (13 : Nat) = y.n (13 : Nat)) = true ∧ decide (y.n (14 : Nat) = y.n (14 : Nat)) = true ∧ decide
      (y.n (15 : Nat) = y.n (15 : Nat)) = true ∧ decide (y.n (16 : Nat) = y.n (16 : Nat)) = true ∧ decide (y.n (17 : Nat) = y.n (17 : Nat)) = true ∧ decide (y.n (18 : Nat) = y.n
      (18 : Nat)) = true ∧ decide (y.n (19 : Nat) = y.n (19 : Nat)) = true ∧ decide (y.n (20 : Nat) = y.n (20 : Nat)) = true ∧ decide (y.n (21 : Nat) = y.n (21 : Nat)) = true ∧
      decide (y.n (22 : Nat) = y.n (22 : Nat)) = true ∧ decide (y.n (23 : Nat) = y.n (23 : Nat)) = true ∧ decide (y.n (24 : Nat) = y.n (24 : Nat)) = true ∧ decide (y.n (25 :
      Nat) = y.n (25 : Nat)) = true ∧ decide (y.n (26 : Nat) = y.n (26 : Nat)) = true ∧ decide (y.n (27 : Nat) = y.n (27 : Nat)) = true ∧ decide (y.n (28 : Nat) = y.n (28 :
      Nat)) = true ∧ decide (y.n (29 : Nat) = y.n (29 : Nat)) = true ∧ decide (y.n (30 : Nat) = y.n (30 : Nat)) = true ∧ decide (y.n (31 : Nat) = y.n (31 : Nat)) = true ∧ decide
      (y.n (32 : Nat) = y.n (32 : Nat)) = true ∧ decide (y.n (33 : Nat) = y.n (33 : Nat)) = true ∧ decide (y.n (34 : Nat) = y.n (34 : Nat)) = true ∧ decide (y.n (35 : Nat) = y.n
      (35 : Nat)) = true ∧ decide (y.n (36 : Nat) = y.n (36 : Nat)) = true ∧ decide (y.n (37 : Nat) = y.n (37 : Nat)) = true ∧ decide (y.n (38 : Nat) = y.n (38 : Nat)) = true ∧
      decide (y.n (39 : Nat) = y.n (39 : Nat)) = true ∧ decide (y.n (40 : Nat) = y.n (40 : Nat)) = true ∧ decide (y.n (41 : Nat) = y.n (41 : Nat)) = true ∧ decide (y.n (42 :
      Nat) = y.n (42 : Nat)) = true ∧ decide (y.n (43 : Nat) = y.n (43 : Nat)) = true ∧ decide (y.n (44 : Nat) = y.n (44 : Nat)) = true ∧ decide (y.n (45 : Nat) = y.n (45 :
      Nat)) = true ∧ decide (y.n (46 : Nat) = y.n (46 : Nat)) = true ∧ decide (y.n (47 : Nat) = y.n (47 : Nat)) = true ∧ decide (y.n (48 : Nat) = y.n (48 : Nat)) = true ∧ decide
      (y.n (49 : Nat) = y.n (49 : Nat)) = true ∧ decide (y.n (50 : Nat) = y.n (50 : Nat)) = true ∧ decide (y.n (51 : Nat) = y.n (51 : Nat)) = true ∧ decide (y.n (52 : Nat) = y.n
      (52 : Nat)) = true ∧ decide (y.n (53 : Nat) = y.n (53 : Nat)) = true ∧ decide (y.n (54 : Nat) = y.n (54 : Nat)) = true ∧ decide (y.n (55 : Nat) = y.n (55 : Nat)) = true ∧
      decide (y.n (56 : Nat) = y.n (56 : Nat)) = true ∧ decide (y.n (57 : Nat) = y.n (57 : Nat)) = true ∧ decide (y.n (58 : Nat) = y.n (58 : Nat)) = true ∧ decide (y.n (59 :
      Nat) = y.n (59 : Nat)) = true ∧ decide (y.n (60 : Nat) = y.n (60 : Nat)) = true ∧ decide (y.n (61 : Nat) = y.n (61 : Nat)) = true ∧ decide (y.n (62 : Nat) = y.n (62 :
      Nat)) = true ∧ decide (y.n (63 : Nat) = y.n (63 : Nat)) = true ∧ decide (y.n (64 : Nat) = y.n (64 : Nat)) = true ∧ decide (y.n (65 : Nat) = y.n (65 : Nat)) = true ∧ decide
      (y.n (66 : Nat) = y.n (66 : Nat)) = true ∧ decide (y.n (67 : Nat) = y.n (67 : Nat)) = true ∧ decide (y.n (68 : Nat) = y.n (68 : Nat)) = true ∧ decide (y.n (72 : Nat) = y.n
      (72 : Nat)) = true ∧ decide (y.n (73 : Nat) = y.n (73 : Nat)) = true ∧ decide ((y.n (74 : Nat)).toNat = (y.n (74 : Nat)).toNat) = true ∧ decide (y.n (91004 : Nat) = y.n
      (91004 : Nat)) = true ∧ sameB (Bl.mk (y.l (4 : Nat)) (60 : Nat)) (Bl.mk (y.l (4 : Nat)) (60 : Nat)) = true ∧ decide ((y.n (74 : Nat)).toNat * (2 : Nat) ≤ (y.l (4 :
      Nat)).length) = true ∧ decide ((y.n (74 : Nat)).toNat + (1 : Nat) ≤ (1099511627776 : Nat)) = true ∧ decide (((y.n (74 : Nat)).toNat + (1 : Nat)) * (4 : Nat) ≤
      (1099511627776 : Nat)) = true ∧ rv_td E = rv_td E ∧ (58 : Nat) = (58 : Nat) ∧ (True ∧ (renC (posN [(0 : Nat), (1 : Nat), (1000000000002 : Nat), (3 : Nat), (6 : Nat)]) (C.i
      false IntKind.i64 w) = C.i false IntKind.i64 w ∧ True) ∧ (((0 : Int) ≤ IntKind.i64.wrap (y.n (91004 : Nat) + (512 : Int)) ∧ IntKind.i64.wrap (y.n (91004 : Nat) + (512 :
      Int)) ≤ (10001000 : Int)) ∧ True) ∧ True) ∧ ((68 : Nat) = (68 : Nat) ∧ (((0 : Int) ≤ y.n (33 : Nat) ∧ y.n (33 : Nat) ≤ (32 : Int)) ∧ ((0 : Int) ≤ y.n (67 : Nat) ∧ y.n (67
      : Nat) ≤ (32 : Int)) ∧ ((0 : Int) ≤ y.n (72 : Nat) ∧ y.n (72 : Nat) ≤ (1022 : Int)) ∧ ((0 : Int) ≤ y.n (73 : Nat) ∧ y.n (73 : Nat) ≤ (10000000 : Int)) ∧ True) ∧ (84 : Nat)
      = (84 : Nat) ∧ (((0 : Int) ≤ y.n (91004 : Nat) ∧ y.n (91004 : Nat) ≤ (10000000 : Int)) ∧ True) ∧ (4294967295 : Nat) = (4294967295 : Nat) ∧
      (741991204937588471353107210173517385893522847741378461052633880361214601735917472982278721692919759636892846595991201096475255940853038949688016010326287086087990634635853824
      : Nat) =
      (741991204937588471353107210173517385893522847741378461052633880361214601735917472982278721692919759636892846595991201096475255940853038949688016010326287086087990634635853824
      : Nat) ∧ (60 : Nat) = (60 : Nat) ∧ (flat [Sp.r IntKind.i16 (0 : Int) (0 : Int), Sp.r IntKind.i16 (0 : Int) (0 : Int)] = true ∧ Row [Sp.r IntKind.i16 (0 : Int) (0 : Int),
      Sp.r IntKind.i16 (0 : Int) (0 : Int)] (rApp (y.l (4 : Nat)) ((y.n (74 : Nat)).toNat * (2 : Nat)) [C.i false IntKind.i16 (IntKind.i16.wrap (IntKind.i64.wrap
      (IntKind.i64.wrap ((if (1023 : Int) < if (0 : Int) > IntKind.i64.wrap ((0 : Int) + y.n (72 : Nat)) then (0 : Int) else IntKind.i64.wrap ((0 : Int) + y.n (72 : Nat)) then
      (1023 : Int) else if (0 : Int) > IntKind.i64.wrap ((0 : Int) + y.n (72 : Nat)) then (0 : Int) else IntKind.i64.wrap ((0 : Int) + y.n (72 : Nat))) - y.n (72 : Nat)) * (32 :
      Int)))), C.i false IntKind.i16 (IntKind.i16.wrap (IntKind.i64.wrap (IntKind.i64.wrap ((if (1023 : Int) < if (0 : Int) > IntKind.i64.wrap ((0 : Int) + y.n (72 : Nat)) then
      (0 : Int) else IntKind.i64.wrap ((0 : Int) + y.n (72 : Nat)) then (1023 : Int) else if (0 : Int) > IntKind.i64.wrap ((0 : Int) + y.n (72 : Nat)) then (0 : Int) else
      IntKind.i64.wrap ((0 : Int) + y.n (72 : Nat))) - y.n (72 : Nat)) * (32 : Int))))])) ∧ ([] : SW) = []) ∧ ((Len2 (rApp (y.l (4 : Nat)) ((y.n (74 : Nat)).toNat * (2 : Nat))
      [C.i false IntKind.i16 (IntKind.i16.wrap (IntKind.i64.wrap (IntKind.i64.wrap ((if (1023 : Int) < if (0 : Int) > IntKind.i64.wrap ((0 : Int) + y.n (72 : Nat)) then (0 :
      Int) else IntKind.i64.wrap ((0 : Int) + y.n (72 : Nat)) then (1023 : Int) else if (0 : Int) > IntKind.i64.wrap ((0 : Int) + y.n (72 : Nat)) then (0 : Int) else
      IntKind.i64.wrap ((0 : Int) + y.n (72 : Nat))) - y.n (72 : Nat)) * (32 : Int)))), C.i false IntKind.i16 (IntKind.i16.wrap (IntKind.i64.wrap (IntKind.i64.wrap ((if (1023 :
      Int) < if (0 : Int) > IntKind.i64.wrap ((0 : Int) + y.n (72 : Nat)) then (0 : Int) else IntKind.i64.wrap ((0 : Int) + y.n (72 : Nat)) then (1023 : Int) else if (0 : Int) >
      IntKind.i64.wrap ((0 : Int) + y.n (72 : Nat)) then (0 : Int) else IntKind.i64.wrap ((0 : Int) + y.n (72 : Nat))) - y.n (72 : Nat)) * (32 : Int))))]) (↑((y.n (74 :
      Nat)).toNat + (1 : Nat)) : Int) ∧ (↑((y.n (74 : Nat)).toNat + (1 : Nat)) : Int) * (512 : Int) + (512 : Int) ≤ IntKind.i64.wrap (y.n (91004 : Nat) + (512 : Int))) ∧
      IntKind.i64.wrap (y.n (91004 : Nat) + (512 : Int)) ≤ w + (512 : Int)) ∧ ((10002000 : Int) - IntKind.i64.wrap (y.n (91004 : Nat) + (512 : Int))).toNat < ((10002000 : Int) -
      y.n (91004 : Nat)).toNat ∧ True) ∧ (decide (y.n (100000 : Nat) < y.n (91004 : Nat)) = false → decide (y.n (1 : Nat) = y.n (1 : Nat)) = true ∧ decide (y.n (2 : Nat) = y.n
      (2 : Nat)) = true ∧ decide (y.n (3 : Nat) = y.n (3 : Nat)) = true ∧ decide (y.n (4 : Nat) = y.n (4 : Nat)) = true ∧ decide (y.n (5 : Nat) = y.n (5 : Nat)) = true ∧ decide
      (y.n (6 : Nat) = y.n (6 : Nat)) = true ∧ decide (y.n (7 : Nat) = y.n (7 : Nat)) = true ∧ decide (y.n (8 : Nat) = y.n (8 : Nat)) = true ∧ decide (y.n (9 : Nat) = y.n (9 :
      Nat)) = true ∧ decide (y.n (10 : Nat) = y.n (10 : Nat)) = true ∧ decide (y.n (11 : Nat) = y.n (11 : Nat)) = true ∧ decide (y.n (12 : Nat) = y.n (12 : Nat)) = true ∧ decide
      (y.n (13 : Nat) = y.n (13 : Nat)) = true ∧ decide (y.n (14 : Nat) = y.n (14 : Nat)) = true ∧ decide (y.n (15 : Nat) = y.n (15 : Nat)) = true ∧ decide (y.n (16 : Nat) = y.n
      (16 : Nat)) = true ∧ decide (y.n (17 : Nat) = y.n (17 : Nat)) = true ∧ decide (y.n (18 : Nat) = y.n (18 : Nat)) = true ∧ decide (y.n (19 : Nat) = y.n (19 : Nat)) = true ∧
      decide (y.n (20 : Nat) = y.n (20 : Nat)) = true ∧ decide (y.n (21 : Nat) = y.n (21 : Nat)) = true ∧ decide (y.n (22 : Nat) = y.n (22 : Nat)) = true ∧ decide (y.n (23 :
      Nat) = y.n (23 : Nat)) = true ∧ decide (y.n (24 : Nat) = y.n (24 : Nat)) = true ∧ decide (y.n (25 : Nat) = y.n (25 : Nat)) = true ∧ decide (y.n (26 : Nat) = y.n (26 :
      Nat)) = true ∧ decide (y.n (27 : Nat) = y.n (27 : Nat)) = true ∧ decide (y.n (28 : Nat) = y.n (28 : Nat)) = true ∧ decide (y.n (29 : Nat) = y.n (29 : Nat)) = true ∧ decide
      (y.n (30 : Nat) = y.n (30 : Nat)) = true ∧ decide (y.n (31 : Nat) = y.n (31 : Nat)) = true ∧ decide (y.n (32 : Nat) = y.n (32 : Nat)) = true ∧ decide (y.n (33 : Nat) = y.n
      (33 : Nat)) = true ∧ decide (y.n (34 : Nat) = y.n (34 : Nat)) = true ∧ decide (y.n (35 : Nat) = y.n (35 : Nat)) = true ∧ decide (y.n (36 : Nat) = y.n (36 : Nat)) = true ∧
      decide (y.n (37 : Nat) = y.n (37 : Nat)) = true ∧ decide (y.n (38 : Nat) = y.n (38 : Nat)) = true ∧ decide (y.n (39 : Nat) = y.n (39 : Nat)) = true ∧ decide (y.n (40 :
      Nat) = y.n (40 : Nat)) = true ∧ decide (y.n (41 : Nat) = y.n (41 : Nat)) = true ∧ decide (y.n (42 : Nat) = y.n (42 : Nat)) = true ∧ decide (y.n (43 : Nat) = y.n (43 :
      Nat)) = true ∧ decide (y.n (44 : Nat) = y.n (44 : Nat)) = true ∧ decide (y.n (45 : Nat) = y.n (45 : Nat)) = true ∧ decide (y.n (46 : Nat) = y.n (46 : Nat)) = true ∧ decide
      (y.n (47 : Nat) = y.n (47 : Nat)) = true ∧ decide (y.n (48 : Nat) = y.n (48 : Nat)) = true ∧ decide (y.n (49 : Nat) = y.n (49 : Nat)) = true ∧ decide (y.n (50 : Nat) = y.n
      (50 : Nat)) = true ∧ decide (y.n (51 : Nat) = y.n (51 : Nat)) = true ∧ decide (y.n (52 : Nat) = y.n (52 : Nat)) = true ∧ decide (y.n (53 : Nat) = y.n (53 : Nat)) = true ∧
      decide (y.n (54 : Nat) = y.n (54 : Nat)) = true ∧ decide (y.n (55 : Nat) = y.n (55 : Nat)) = true ∧ decide (y.n (56 : Nat) = y.n (56 : Nat)) = true ∧ decide (y.n (57 :
      Nat) = y.n (57 : Nat)) = true ∧ decide (y.n (58 : Nat) = y.n (58 : Nat)) = true ∧ decide (y.n (59 : Nat) = y.n (59 : Nat)) = true ∧ decide (y.n (60 : Nat) = y.n (60 :
      Nat)) = true ∧ decide (y.n (61 : Nat) = y.n (61 : Nat)) = true ∧ decide (y.n (62 : Nat) = y.n (62 : Nat)) = true ∧ decide (y.n (63 : Nat) = y.n (63 : Nat)) = true ∧ decide
      (y.n (64 : Nat) = y.n (64 : Nat)) = true ∧ decide (y.n (65 : Nat) = y.n (65 : Nat)) = true ∧ decide (y.n (66 : Nat) = y.n (66 : Nat)) = true ∧ decide (y.n (67 : Nat) = y.n
      (67 : Nat)) = true ∧ decide (y.n (68 : Nat) = y.n (68 : Nat)) = true ∧ decide (y.n (72 : Nat) = y.n (72 : Nat)) = true ∧ decide (y.n (73 : Nat) = y.n (73 : Nat)) = true ∧
      decide ((y.n (74 : Nat)).toNat = (y.n (74 : Nat)).toNat) = true ∧ decide (y.n (91004 : Nat) = y.n (91004 : Nat)) = true ∧ sameB (Bl.mk (y.l (4 : Nat)) (60 : Nat)) (Bl.mk
      (y.l (4 : Nat)) (60 : Nat)) = true ∧ sameB (Bl.mk [C.i true IntKind.i16 (0 : Int), C.i true IntKind.i16 (0 : Int)] (60 : Nat)) (Bl.mk [C.i true IntKind.i16 (0 : Int), C.i
      true IntKind.i16 (0 : Int)] (60 : Nat)) = true ∧ decide (y.n (1 : Nat) = y.n (1 : Nat)) = true ∧ decide (y.n (2 : Nat) = y.n (2 : Nat)) = true ∧ decide (y.n (3 : Nat) =
      y.n (3 : Nat)) = true ∧ decide (y.n (4 : Nat) = y.n (4 : Nat)) = true ∧ decide (y.n (5 : Nat) = y.n (5 : Nat)) = true ∧ decide (y.n (6 : Nat) = y.n (6 : Nat)) = true ∧
      decide (y.n (7 : Nat) = y.n (7 : Nat)) = true ∧ decide (y.n (8 : Nat) = y.n (8 : Nat)) = true ∧ decide (y.n (9 : Nat) = y.n (9 : Nat)) = true ∧ decide (y.n (10 : Nat) =
      y.n (10 : Nat)) = true ∧ decide (y.n (11 : Nat) = y.n (11 : Nat)) = true ∧ decide (y.n (12 : Nat) = y.n (12 : Nat)) = true ∧ decide (y.n (13 : Nat) = y.n (13 : Nat)) =
      true ∧ decide (y.n (14 : Nat) = y.n (14 : Nat)) = true ∧ decide (y.n (15 : Nat) = y.n (15 : Nat)) = true ∧ decide (y.n (16 : Nat) = y.n (16 : Nat)) = true ∧ decide (y.n
      (17 : Nat) = y.n (17 : Nat)) = true ∧ decide (y.n (18 : Nat) = y.n (18 : Nat)) = true ∧ decide (y.n (19 : Nat) = y.n (19 : Nat)) = true ∧ decide (y.n (20 : Nat) = y.n (20
      : Nat)) = true ∧ decide (y.n (21 : Nat) = y.n (21 : Nat)) = true ∧ decide (y.n (22 : Nat) = y.n (22 : Nat)) = true ∧ decide (y.n (23 : Nat) = y.n (23 : Nat)) = true ∧
      decide (y.n (24 : Nat) = y.n (24 : Nat)) = true ∧ decide (y.n (25 : Nat) = y.n (25 : Nat)) = true ∧ decide (y.n (26 : Nat) = y.n (26 : Nat)) = true ∧ decide (y.n (27 :
      Nat) = y.n (27 : Nat)) = true ∧ decide (y.n (28 : Nat) = y.n (28 : Nat)) = true ∧ decide (y.n (29 : Nat) = y.n (29 : Nat)) = true ∧ decide (y.n (30 : Nat) = y.n (30 :
      Nat)) = true ∧ decide (y.n (31 : Nat) = y.n (31 : Nat)) = true ∧ decide (y.n (32 : Nat) = y.n (32 : Nat)) = true ∧ decide (y.n (33 : Nat) = y.n (33 : Nat)) = true ∧ decide
      (y.n (34 : Nat) = y.n (34 : Nat)) = true ∧ decide (y.n (35 : Nat) = y.n (35 : Nat)) = true ∧ decide (y.n (36 : Nat) = y.n (36 : Nat)) = true ∧ decide (y.n (37 : Nat) = y.n
      (37 : Nat)) = true ∧ decide (y.n (38 : Nat) = y.n (38 : Nat)) = true ∧ decide (y.n (39 : Nat) = y.n (39 : Nat)) = true ∧ decide (y.n (40 : Nat) = y.n (40 : Nat)) = true ∧
      decide (y.n (41 : Nat) = y.n (41 : Nat)) = true ∧ decide (y.n (42 : Nat) = y.n (42 : Nat)) = true ∧ decide (y.n (43 : Nat) = y.n (43 : Nat)) = true ∧ decide (y.n (44 :
      Nat) = y.n (44 : Nat)) = true ∧ decide (y.n (45 : Nat) = y.n (45 : Nat)) = true ∧ decide (y.n (46 : Nat) = y.n (46 : Nat)) = true ∧ decide (y.n (47 : Nat) = y.n (47 :
      Nat)) = true ∧ decide (y.n (48 : Nat) = y.n (48 : Nat)) = true ∧ decide (y.n (49 : Nat) = y.n (49 : Nat)) = true ∧ decide (y.n (50 : Nat) = y.n (50 : Nat)) = true ∧ decide
      (y.n (51 : Nat) = y.n (51 : Nat)) = true ∧ decide (y.n (52 : Nat) = y.n (52 : Nat)) = true ∧ decide (y.n (53 : Nat) = y.n (53 : Nat)) = true ∧ decide (y.n (54 : Nat) = y.n
      (54 : Nat)) = true ∧ decide (y.n (55 : Nat) = y.n (55 : Nat)) = true ∧ decide (y.n (56 : Nat) = y.n (56 : Nat)) = true ∧ decide (y.n (57 : Nat) = y.n (57 : Nat)) = true ∧
      decide (y.n (58 : Nat) = y.n (58 : Nat)) = true ∧ decide (y.n (59 : Nat) = y.n (59 : Nat)) = true ∧ decide (y.n (60 : Nat) = y.n (60 : Nat)) = true ∧ decide (y.n (61 :
      Nat) = y.n (61 : Nat)) = true ∧ decide (y.n (62 : Nat) = y.n (62 : Nat)) = true ∧ decide (y.n (63 : Nat) = y.n (63 : Nat)) = true ∧ decide (y.n (64 : Nat) = y.n (64 :
      Nat)) = true ∧ decide (y.n (65 : Nat) = y.n (65 : Nat)) = true ∧ decide (y.n (66 : Nat) = y.n (66 : Nat)) = true ∧ decide (y.n (67 : Nat) = y.n (67 : Nat)) = true ∧ decide
      (y.n (68 : Nat) = y.n (68 : Nat)) = true ∧ decide (y.n (72 : Nat) = y.n (72 : Nat)) = true ∧ decide (y.n (73 : Nat) = y.n (73 : Nat)) = true ∧ decide ((y.n (74 :
      Nat)).toNat = (y.n (74 : Nat)).toNat) = true ∧ decide (y.n (91004 : Nat) = y.n (91004 : Nat)) = true ∧ sameB (Bl.mk (y.l (4 : Nat)) (60 : Nat)) (Bl.mk (y.l (4 : Nat)) (60
      : Nat)) = true ∧ sameB (Bl.mk [C.i true IntKind.i16 (0 : Int), C.i true IntKind.i16 (0 : Int)] (60 : Nat)) (Bl.mk [C.i true IntKind.i16 (0 : Int), C.i true IntKind.i16 (0
      : Int)] (60 : Nat)) = true ∧ decide (y.n (1 : Nat) = y.n (1 : Nat)) = true ∧ decide (y.n (2 : Nat) = y.n (2 : Nat)) = true ∧ decide (y.n (3 : Nat) = y.n (3 : Nat)) = true
      ∧ decide (y.n (4 : Nat) = y.n (4 : Nat)) = true ∧ decide (y.n (5 : Nat) = y.n (5 : Nat)) = true ∧ decide (y.n (6 : Nat) = y.n (6 : Nat)) = true ∧ decide (y.n (7 : Nat) =
      y.n (7 : Nat)) = true ∧ decide (y.n (8 : Nat) = y.n (8 : Nat)) = true ∧ decide (y.n (9 : Nat) = y.n (9 : Nat)) = true ∧ decide (y.n (10 : Nat) = y.n (10 : Nat)) = true ∧
      decide (y.n (11 : Nat) = y.n (11 : Nat)) = true ∧ decide (y.n (12 : Nat) = y.n (12 : Nat)) = true ∧ decide (y.n (13 : Nat) = y.n (13 : Nat)) = true ∧ decide (y.n (14 :
      Nat) = y.n (14 : Nat)) = true ∧ decide (y.n (15 : Nat) = y.n (15 : Nat)) = true ∧ decide (y.n (16 : Nat) = y.n (16 : Nat)) = true ∧ decide (y.n (17 : Nat) = y.n (17 :
      Nat)) = true ∧ decide (y.n (18 : Nat) = y.n (18 : Nat)) = true ∧ decide (y.n (19 : Nat) = y.n (19 : Nat)) = true ∧ decide (y.n (20 : Nat) = y.n (20 : Nat)) = true ∧ decide
      (y.n (21 : Nat) = y.n (21 : Nat)) = true ∧ decide (y.n (22 : Nat) = y.n (22 : Nat)) = true ∧ decide (y.n (23 : Nat) = y.n (23 : Nat)) = true ∧ decide (y.n (24 : Nat) = y.n
      (24 : Nat)) = true ∧ decide (y.n (25 : Nat) = y.n (25 : Nat)) = true ∧ decide (y.n (26 : Nat) = y.n (26 : Nat)) = true ∧ decide (y.n (27 : Nat) = y.n (27 : Nat)) = true ∧
      decide (y.n (28 : Nat) = y.n (28 : Nat)) = true ∧ decide (y.n (29 : Nat) = y.n (29 : Nat)) = true ∧ decide (y.n (30 : Nat) = y.n (30 : Nat)) = true ∧ decide (y.n (31 :
      Nat) = y.n (31 : Nat)) = true ∧ decide (y.n (32 : Nat) = y.n (32 : Nat)) = true ∧ decide (y.n (33 : Nat) = y.n (33 : Nat)) = true ∧ decide (y.n (34 : Nat) = y.n (34 :
      Nat)) = true ∧ decide (y.n (35 : Nat) = y.n (35 : Nat)) = true ∧ decide (y.n (36 : Nat) = y.n (36 : Nat)) = true ∧ decide (y.n (37 : Nat) = y.n (37 : Nat)) = true ∧ decide
      (y.n (38 : Nat) = y.n (38 : Nat)) = true ∧ decide (y.n (39 : Nat) = y.n (39 : Nat)) = true ∧ decide (y.n (40 : Nat) = y.n (40 : Nat)) = true ∧ decide (y.n (41 : Nat) = y.n
      (41 : Nat)) = true ∧ decide (y.n (42 : Nat) = y.n (42 : Nat)) = true ∧ decide (y.n (43 : Nat) = y.n (43 : Nat)) = true ∧ decide (y.n (44 : Nat) = y.n (44 : Nat)) = true ∧
      decide (y.n (45 : Nat) = y.n (45 : Nat)) = true ∧ decide (y.n (46 : Nat) = y.n (46 : Nat)) = true ∧ decide (y.n (47 : Nat) = y.n (47 : Nat)) = true ∧ decide (y.n (48 :
      Nat) = y.n (48 : Nat)) = true ∧ decide (y.n (49 : Nat) = y.n (49 : Nat)) = true ∧ decide (y.n (50 : Nat) = y.n (50 : Nat)) = true ∧ decide (y.n (51 : Nat) = y.n (51 :
      Nat)) = true ∧ decide (y.n (52 : Nat) = y.n (52 : Nat)) = true ∧ decide (y.n (53 : Nat) = y.n (53 : Nat)) = true ∧ decide (y.n (54 : Nat) = y.n (54 : Nat)) = true ∧ decide
      (y.n (55 : Nat) = y.n (55 : Nat)) = true ∧ decide (y.n (56 : Nat) = y.n (56 : Nat)) = true ∧ decide (y.n (57 : Nat) = y.n (57 : Nat)) = true ∧ decide (y.n (58 : Nat) = y.n
      (58 : Nat)) = true ∧ decide (y.n (59 : Nat) = y.n (59 : Nat)) = true ∧ decide (y.n (60 : Nat) = y.n (60 : Nat)) = true ∧ decide (y.n (61 : Nat) = y.n (61 : Nat)) = true ∧
      decide (y.n (62 : Nat) = y.n (62 : Nat)) = true ∧ decide (y.n (63 : Nat) = y.n (63 : Nat)) = true ∧ decide (y.n (64 : Nat) = y.n (64 : Nat)) = true ∧ decide (y.n (65 :
      Nat) = y.n (65 : Nat)) = true ∧ decide (y.n (66 : Nat) = y.n (66 : Nat)) = true ∧ decide (y.n (67 : Nat) = y.n (67 : Nat)) = true ∧ decide (y.n (68 : Nat) = y.n (68 :
      Nat)) = true ∧ decide (y.n (72 : Nat) = y.n (72 : Nat)) = true ∧ decide (y.n (73 : Nat) = y.n (73 : Nat)) = true ∧ decide ((y.n (74 : Nat)).toNat = (y.n (74 : Nat)).toNat)
      = true ∧ decide (y.n (91004 : Nat) = y.n (91004 : Nat)) = true ∧ sameB (Bl.mk (y.l (4 : Nat)) (60 : Nat)) (Bl.mk (y.l (4 : Nat)) (60 : Nat)) = true ∧ decide ((y.n (74 :
      Nat)).toNat * (2 : Nat) ≤ (y.l (4 : Nat)).length) = true ∧ decide ((y.n (74 : Nat)).toNat + (1 : Nat) ≤ (1099511627776 : Nat)) = true ∧ decide (((y.n (74 : Nat)).toNat +
      (1 : Nat)) * (4 : Nat) ≤ (1099511627776 : Nat)) = true ∧ rv_td E = rv_td E ∧ (58 : Nat) = (58 : Nat) ∧ (True ∧ (renC (posN [(0 : Nat), (1 : Nat), (1000000000002 : Nat), (3
      : Nat), (6 : Nat)]) (C.i false IntKind.i64 w) = C.i false IntKind.i64 w ∧ True) ∧ (((0 : Int) ≤ IntKind.i64.wrap (y.n (91004 : Nat) + (512 : Int)) ∧ IntKind.i64.wrap (y.n
      (91004 : Nat) + (512 : Int)) ≤ (10001000 : Int)) ∧ True) ∧ True) ∧ ((68 : Nat) = (68 : Nat) ∧ (((0 : Int) ≤ y.n (33 : Nat) ∧ y.n (33 : Nat) ≤ (32 : Int)) ∧ ((0 : Int) ≤
      y.n (67 : Nat) ∧ y.n (67 : Nat) ≤ (32 : Int)) ∧ ((0 : Int) ≤ y.n (72 : Nat) ∧ y.n (72 : Nat) ≤ (1022 : Int)) ∧ ((0 : Int) ≤ y.n (73 : Nat) ∧ y.n (73 : Nat) ≤ (10000000 :
      Int)) ∧ True) ∧ (84 : Nat) = (84 : Nat) ∧ (((0 : Int) ≤ y.n (91004 : Nat) ∧ y.n (91004 : Nat) ≤ (10000000 : Int)) ∧ True) ∧ (4294967295 : Nat) = (4294967295 : Nat) ∧
      (741991204937588471353107210173517385893522847741378461052633880361214601735917472982278721692919759636892846595991201096475255940853038949688016010326287086087990634635853824
      : Nat) =
      (741991204937588471353107210173517385893522847741378461052633880361214601735917472982278721692919759636892846595991201096475255940853038949688016010326287086087990634635853824
      : Nat) ∧ (60 : Nat) = (60 : Nat) ∧ (flat [Sp.r IntKind.i16 (0 : Int) (0 : Int), Sp.r IntKind.i16 (0 : Int) (0 : Int)] = true ∧ Row [Sp.r IntKind.i16 (0 : Int) (0 : Int),
      Sp.r IntKind.i16 (0 : Int) (0 : Int)] (rApp (y.l (4 : Nat)) ((y.n (74 : Nat)).toNat * (2 : Nat)) [C.i false IntKind.i16 (IntKind.i16.wrap (IntKind.i64.wrap
      (IntKind.i64.wrap ((if (1023 : Int) < if (0 : Int) > IntKind.i64.wrap ((0 : Int) + y.n (72 : Nat)) then (0 : Int) else IntKind.i64.wrap ((0 : Int) + y.n (72 : Nat)) then
      (1023 : Int) else if (0 : Int) > IntKind.i64.wrap ((0 : Int) + y.n (72 : Nat)) then (0 : Int) else IntKind.i64.wrap ((0 : Int) + y.n (72 : Nat))) - y.n (72 : Nat)) * (32 :
      Int)))), C.i false IntKind.i16 (IntKind.i16.wrap (IntKind.i64.wrap (IntKind.i64.wrap ((if (1023 : Int) < if (0 : Int) > IntKind.i64.wrap ((0 : Int) + y.n (72 : Nat)) then
      (0 : Int) else IntKind.i64.wrap ((0 : Int) + y.n (72 : Nat)) then (1023 : Int) else if (0 : Int) > IntKind.i64.wrap ((0 : Int) + y.n (72 : Nat)) then (0 : Int) else
      IntKind.i64.wrap ((0 : Int) + y.n (72 : Nat))) - y.n (72 : Nat)) * (32 : Int))))])) ∧ ([] : SW) = []) ∧ ((Len2 (rApp (y.l (4 : Nat)) ((y.n (74 : Nat)).toNat * (2 : Nat))
      [C.i false IntKind.i16 (IntKind.i16.wrap (IntKind.i64.wrap (IntKind.i64.wrap ((if (1023 : Int) < if (0 : Int) > IntKind.i64.wrap ((0 : Int) + y.n (72 : Nat)) then (0 :
      Int) else IntKind.i64.wrap ((0 : Int) + y.n (72 : Nat)) then (1023 : Int) else if (0 : Int) > IntKind.i64.wrap ((0 : Int) + y.n (72 : Nat)) then (0 : Int) else
      IntKind.i64.wrap ((0 : Int) + y.n (72 : Nat))) - y.n (72 : Nat)) * (32 : Int)))), C.i false IntKind.i16 (IntKind.i16.wrap (IntKind.i64.wrap (IntKind.i64.wrap ((if (1023 :
      Int) < if (0 : Int) > IntKind.i64.wrap ((0 : Int) + y.n (72 : Nat)) then (0 : Int) else IntKind.i64.wrap ((0 : Int) + y.n (72 : Nat)) then (1023 : Int) else if (0 : Int) >
      IntKind.i64.wrap ((0 : Int) + y.n (72 : Nat)) then (0 : Int) else IntKind.i64.wrap ((0 : Int) + y.n (72 : Nat))) - y.n (72 : Nat)) * (32 : Int))))]) (↑((y.n (74 :
      Nat)).toNat + (1 : Nat)) : Int) ∧ (↑((y.n (74 : Nat)).toNat + (1 : Nat)) : Int) * (512 : Int) + (512 : Int) ≤ IntKind.i64.wrap (y.n (91004 : Nat) + (512 : Int))) ∧
      IntKind.i64.wrap (y.n (91004 : Nat) + (512 : Int)) ≤ w + (512 : Int)) ∧ ((10002000 : Int) - IntKind.i64.wrap (y.n (91004 : Nat) + (512 : Int))).toNat < ((10002000 : Int) -
      y.n (91004 : Nat)).toNat ∧ True))) ∧ (decide (y.n (91004 : Nat) ≤ w) = false → ((bif decide (w ≤ y.n (100000 : Nat)) then true else decide (w > (2199023255552 : Int))) =
      true → ((68 : Nat) = (68 : Nat) ∧ (((0 : Int) ≤ y.n (33 : Nat) ∧ y.n (33 : Nat) ≤ (32 : Int)) ∧ ((0 : Int) ≤ y.n (67 : Nat) ∧ y.n (67 : Nat) ≤ (32 : Int)) ∧ ((0 : Int) ≤
      y.n (72 : Nat) ∧ y.n (72 : Nat) ≤ (1022 : Int)) ∧ ((0 : Int) ≤ w ∧ w ≤ (10000000 : Int)) ∧ True) ∧ (84 : Nat) = (84 : Nat) ∧ (((0 : Int) ≤ y.n (100000 : Nat) ∧ y.n (100000
      : Nat) ≤ (10000000 : Int)) ∧ True) ∧ (4294967295 : Nat) = (4294967295 : Nat) ∧
      (741991204937588471353107210173517385893522847741378461052633880361214601735917472982278721692919759636892846595991201096475255940853038949688016010326287086087990634635853824
      : Nat) =
      (741991204937588471353107210173517385893522847741378461052633880361214601735917472982278721692919759636892846595991201096475255940853038949688016010326287086087990634635853824
      : Nat) ∧ (60 : Nat) = (60 : Nat) ∧ (flat [Sp.r IntKind.i16 (0 : Int) (0 : Int), Sp.r IntKind.i16 (0 : Int) (0 : Int)] = true ∧ Row [Sp.r IntKind.i16 (0 : Int) (0 : Int),
      Sp.r IntKind.i16 (0 : Int) (0 : Int)] (y.l (4 : Nat))) ∧ ([] : SW) = []) ∧ True ∧ Len2 (y.l (4 : Nat)) (↑(y.n (74 : Nat)).toNat : Int) ∧ (↑(y.n (74 : Nat)).toNat : Int) *
      (512 : Int) ≤ w) ∧ ((bif decide (w ≤ y.n (100000 : Nat)) then true else decide (w > (2199023255552 : Int))) = false → (decide (y.n (100000 : Nat) < w) = true → ((68 : Nat)
      = (68 : Nat) ∧ (((0 : Int) ≤ y.n (33 : Nat) ∧ y.n (33 : Nat) ≤ (32 : Int)) ∧ ((0 : Int) ≤ y.n (67 : Nat) ∧ y.n (67 : Nat) ≤ (32 : Int)) ∧ ((0 : Int) ≤ y.n (72 : Nat) ∧ y.n
      (72 : Nat) ≤ (1022 : Int)) ∧ ((0 : Int) ≤ w ∧ w ≤ (10000000 : Int)) ∧ True) ∧ (84 : Nat) = (84 : Nat) ∧ (((0 : Int) ≤ w ∧ w ≤ (10000000 : Int)) ∧ True) ∧ (4294967295 :
      Nat) = (4294967295 : Nat) ∧
      (741991204937588471353107210173517385893522847741378461052633880361214601735917472982278721692919759636892846595991201096475255940853038949688016010326287086087990634635853824
      : Nat) =
      (741991204937588471353107210173517385893522847741378461052633880361214601735917472982278721692919759636892846595991201096475255940853038949688016010326287086087990634635853824
      : Nat) ∧ (60 : Nat) = (60 : Nat) ∧ (flat [Sp.r IntKind.i16 (0 : Int) (0 : Int), Sp.r IntKind.i16 (0 : Int) (0 : Int)] = true ∧ Row [Sp.r IntKind.i16 (0 : Int) (0 : Int),
      Sp.r IntKind.i16 (0 : Int) (0 : Int)] (y.l (4 : Nat))) ∧ ([] : SW) = []) ∧ True ∧ Len2 (y.l (4 : Nat)) (↑(y.n (74 : Nat)).toNat : Int) ∧ (↑(y.n (74 : Nat)).toNat : Int) *
      (512 : Int) ≤ w) ∧ (decide (y.n (100000 : Nat) < w) = false → ((68 : Nat) = (68 : Nat) ∧ (((0 : Int) ≤ y.n (33 : Nat) ∧ y.n (33 : Nat) ≤ (32 : Int)) ∧ ((0 : Int) ≤ y.n (67
      : Nat) ∧ y.n (67 : Nat) ≤ (32 : Int)) ∧ ((0 : Int) ≤ y.n (72 : Nat) ∧ y.n (72 : Nat) ≤ (1022 : Int)) ∧ ((0 : Int) ≤ w ∧ w ≤ (10000000 : Int)) ∧ True) ∧ (84 : Nat) = (84 :
      Nat) ∧ (((0 : Int) ≤ w ∧ w ≤ (10000000 : Int)) ∧ True) ∧ (4294967295 : Nat) = (4294967295 : Nat) ∧
      (741991204937588471353107210173517385893522847741378461052633880361214601735917472982278721692919759636892846595991201096475255940853038949688016010326287086087990634635853824
      : Nat) =
      (741991204937588471353107210173517385893522847741378461052633880361214601735917472982278721692919759636892846595991201096475255940853038949688016010326287086087990634635853824
      : Nat) ∧ (60 : Nat) = (60 : Nat) ∧ (flat [Sp.r IntKind.i16 (0 : Int) (0 : Int), Sp.r IntKind.i16 (0 : Int) (0 : Int)] = true ∧ Row [Sp.r IntKind.i16 (0 : Int) (0 : Int),
      Sp.r IntKind.i16 (0 : Int) (0 : Int)] (y.l (4 : Nat))) ∧ ([] : SW) = []) ∧ True ∧ Len2 (y.l (4 : Nat)) (↑(y.n (74 : Nat)).toNat : Int) ∧ (↑(y.n (74 : Nat)).toNat : Int) *
      (512 : Int) ≤ w)))) := by kernel_rfl
set_option maxHeartbeats 8000000 in
theorem rv_q0 (E : World) (w : Int) (z : PX) (hp : (fun z => Len2 (z.l 2) (z.n 74) ∧ z.n 74 * 512 ≤ z.n 73 ∧ w ≤ 10000000) z) (y : PX) (hy1 : rgM y [mV 1 4, mP 3, .g HOLE, mO, rowS] 0) (hy2 : rgF y [(0, .c (.p 0 0)), (1, .q (.i false .i64 w)), (4, .r .i64 (0) (10001000))]) (hy3 : (fun y => (Len2 (y.l 4) (y.n 74) ∧ y.n 74 * 512 + 512 ≤ y.n 91004) ∧ y.n 91004 ≤ w + 512) y) : Holds ((run (pe E) (orcA E) (tabL fns) 20000 (2 ^ 2) (rv_td E) (mkL Try.f12.ntmps (slC y [(0, .c (.p 0 0)), (1, .q (.i false .i64 w)), (4, .r .i64 (0) (10001000))])) (mkM y [] [mV 1 4, mP 3, .g HOLE, mO, rowS] 0)).OK (lfP (pe E) Try.f12 (endR ([mV 1 2, mP 3, rowS, mO] : List MB).length [mV 1 4, mP 3, .g HOLE, mO, rowS] (.t []) (fun z y => Len2 (y.l 4) (y.n 74) ∧ y.n 74 * 512 ≤ y.n 73) z) (headR ([mV 1 2, mP 3, rowS, mO] : List MB).length Try.f12.ntmps (some ((fun y => (10002000 - y.n 91004).toNat) y)) (rv_hs E w z)))) := by
  refine loopP_lfH ⟨?_⟩
  rw [rv_r0]
  have hf : True ∧ True ∧ (((0) ≤ y.n 91004 ∧ y.n 91004 ≤ (10001000)) ∧ True) ∧ True := hy2
  obtain ⟨_, _, ⟨g4, _⟩, _⟩ := hf
  obtain ⟨⟨hL, hn⟩, hle⟩ := hy3
  obtain ⟨_, hw⟩ := hp
  obtain ⟨u33, u67, u72, u73, u74, _⟩ : (0 ≤ y.n 33 ∧ y.n 33 ≤ 32) ∧ (0 ≤ y.n 67 ∧ y.n 67 ≤ 32) ∧ (0 ≤ y.n 72 ∧ y.n 72 ≤ 1022) ∧ (0 ≤ y.n 73 ∧ y.n 73 ≤ 10000000) ∧ 0 ≤ y.n 74 ∧ True  := hy1.1
  have hR : Row [.r .i16 0 0, .r .i16 0 0] (y.l 4) := hy1.2.2.1.2
  have hP : (0 ≤ y.n 100000 ∧ y.n 100000 ≤ 10000000) ∧ True := hy1.2.1
  have hf : flat [Sp.r .i16 0 0, Sp.r .i16 0 0] = true := rfl
  have T1 : ((y.n 74).toNat : Int) = y.n 74 := Int.toNat_of_nonneg u74
  have T2 : (((y.n 74).toNat + 1 : Nat) : Int) = y.n 74 + 1 := by omega
  have w1 : IntKind.i64.wrap (y.n 91004 + 512) = y.n 91004 + 512 := by rw [wi64]; omega
  have hm : (y.n 74).toNat * 2 ≤ (y.l 4).length := by rw [hL.e]; exact Nat.le_refl _
  have hA := Row.app (vs := [C.i false .i16 0, C.i false .i16 0]) (m := (y.n 74).toNat * 2) hR zrow2 hm (by show _ % 2 = 0; omega)
  have hL2 : Len2 (rApp (y.l 4) ((y.n 74).toNat * 2) [C.i false .i16 0, C.i false .i16 0]) (y.n 74 + 1) := ⟨by rw [len_app hm]; show _ + 2 = _; omega⟩
  have d1 : decide ((y.n 74).toNat * 2 ≤ (y.l 4).length) = true := decide_eq_true hm
  have d2 : decide ((y.n 74).toNat + 1 ≤ 1099511627776) = true := decide_eq_true (by omega)
  have d3 : decide (((y.n 74).toNat + 1) * 4 ≤ 1099511627776) = true := decide_eq_true (by omega)
  simp only [T1, T2, w1, bias0 _ u72]
  refine ⟨fun hl => ?_, fun hl => ?_⟩
  · have hl := of_decide_eq_true hl
    ((repeat' (first | exact trivial | with_reducible rfl | assumption | exact decide_eq_true rfl | exact sameB_self _ | exact rfl | apply And.intro | intro _)) <;> omega)
  · have hl := of_decide_eq_false hl
    refine ⟨fun h => ?_, fun h => ?_⟩
    · ((repeat' (first | exact trivial | with_reducible rfl | assumption | exact decide_eq_true rfl | exact sameB_self _ | exact rfl | apply And.intro | intro _)) <;> omega)
    · simp only [Bool.cond_eq_ite] at h
      ((repeat' (first | exact trivial | with_reducible rfl | assumption | exact decide_eq_true rfl | exact sameB_self _ | exact rfl | apply And.intro | intro _)) <;> omega)
theorem rv_pro (E : World) (w : Int) (z : PX) :
    (loopP (pe E) Try.f12 (endR ([mV 1 2, mP 3, rowS, mO] : List MB).length [mV 1 4, mP 3, .g HOLE, mO, rowS] (.t []) (fun z y => Len2 (y.l 4) (y.n 74) ∧ y.n 74 * 512 ≤ y.n 73) z) (headR ([mV 1 2, mP 3, rowS, mO] : List MB).length Try.f12.ntmps none (rv_hs E w z)) (run (pe E) (orcA E) (tabL fns) 20000 (2 ^ 2) [.code (Try.f12.body.getD .skip)] ⟨Try.f12.ntmps, mkFrGo (Tr.mk 12) 0 [.c (.p 0 0), .c (.i false .i64 w)]⟩ (mkM z [] [mV 1 2, mP 3, rowS, mO] 0))) =
    (((bif decide (w ≤ z.n (73 : Nat)) then true else decide (w > (2199023255552 : Int))) = true → ((68 : Nat) = (68 : Nat) ∧ (((0 : Int) ≤ z.n (33 : Nat) ∧ z.n (33 : Nat) ≤
      (32 : Int)) ∧ ((0 : Int) ≤ z.n (67 : Nat) ∧ z.n (67 : Nat) ≤ (32 : Int)) ∧ ((0 : Int) ≤ z.n (72 : Nat) ∧ z.n (72 : Nat) ≤ (1022 : Int)) ∧ ((0 : Int) ≤ z.n (73 : Nat) ∧ z.n
      (73 : Nat) ≤ (10000000 : Int)) ∧ True) ∧ (84 : Nat) = (84 : Nat) ∧ (((0 : Int) ≤ z.n (100000 : Nat) ∧ z.n (100000 : Nat) ≤ (10000000 : Int)) ∧ True) ∧ (4294967295 : Nat) =
      (4294967295 : Nat) ∧
      (741991204937588471353107210173517385893522847741378461052633880361214601735917472982278721692919759636892846595991201096475255940853038949688016010326287086087990634635853824
      : Nat) =
      (741991204937588471353107210173517385893522847741378461052633880361214601735917472982278721692919759636892846595991201096475255940853038949688016010326287086087990634635853824
      : Nat) ∧ (60 : Nat) = (60 : Nat) ∧ (flat [Sp.r IntKind.i16 (0 : Int) (0 : Int), Sp.r IntKind.i16 (0 : Int) (0 : Int)] = true ∧ Row [Sp.r IntKind.i16 (0 : Int) (0 : Int),
      Sp.r IntKind.i16 (0 : Int) (0 : Int)] (z.l (2 : Nat))) ∧ ([] : SW) = []) ∧ True ∧ Len2 (z.l (2 : Nat)) (↑(z.n (74 : Nat)).toNat : Int) ∧ (↑(z.n (74 : Nat)).toNat : Int) *
      (512 : Int) ≤ z.n (73 : Nat)) ∧ ((bif decide (w ≤ z.n (73 : Nat)) then true else decide (w > (2199023255552 : Int))) = false → rv_td E = rv_td E ∧ (58 : Nat) = (58 : Nat)
      ∧ (True ∧ (renC (posN [(0 : Nat), (1 : Nat), (1000000000002 : Nat), (3 : Nat), (2 : Nat)]) (C.i false IntKind.i64 w) = C.i false IntKind.i64 w ∧ True) ∧ (((0 : Int) ≤
      IntKind.i64.wrap (IntKind.i64.wrap (IntKind.i64.wrap ((z.n (73 : Nat)).tdiv (512 : Int)) + (1 : Int)) * (512 : Int)) ∧ IntKind.i64.wrap (IntKind.i64.wrap (IntKind.i64.wrap
      ((z.n (73 : Nat)).tdiv (512 : Int)) + (1 : Int)) * (512 : Int)) ≤ (10001000 : Int)) ∧ True) ∧ True) ∧ ((68 : Nat) = (68 : Nat) ∧ (((0 : Int) ≤ z.n (33 : Nat) ∧ z.n (33 :
      Nat) ≤ (32 : Int)) ∧ ((0 : Int) ≤ z.n (67 : Nat) ∧ z.n (67 : Nat) ≤ (32 : Int)) ∧ ((0 : Int) ≤ z.n (72 : Nat) ∧ z.n (72 : Nat) ≤ (1022 : Int)) ∧ ((0 : Int) ≤ z.n (73 :
      Nat) ∧ z.n (73 : Nat) ≤ (10000000 : Int)) ∧ True) ∧ (84 : Nat) = (84 : Nat) ∧ (((0 : Int) ≤ z.n (100000 : Nat) ∧ z.n (100000 : Nat) ≤ (10000000 : Int)) ∧ True) ∧
      (4294967295 : Nat) = (4294967295 : Nat) ∧
      (741991204937588471353107210173517385893522847741378461052633880361214601735917472982278721692919759636892846595991201096475255940853038949688016010326287086087990634635853824
      : Nat) =
      (741991204937588471353107210173517385893522847741378461052633880361214601735917472982278721692919759636892846595991201096475255940853038949688016010326287086087990634635853824
      : Nat) ∧ (60 : Nat) = (60 : Nat) ∧ (flat [Sp.r IntKind.i16 (0 : Int) (0 : Int), Sp.r IntKind.i16 (0 : Int) (0 : Int)] = true ∧ Row [Sp.r IntKind.i16 (0 : Int) (0 : Int),
      Sp.r IntKind.i16 (0 : Int) (0 : Int)] (z.l (2 : Nat))) ∧ ([] : SW) = []) ∧ ((Len2 (z.l (2 : Nat)) (↑(z.n (74 : Nat)).toNat : Int) ∧ (↑(z.n (74 : Nat)).toNat : Int) * (512
      : Int) + (512 : Int) ≤ IntKind.i64.wrap (IntKind.i64.wrap (IntKind.i64.wrap ((z.n (73 : Nat)).tdiv (512 : Int)) + (1 : Int)) * (512 : Int))) ∧ IntKind.i64.wrap
      (IntKind.i64.wrap (IntKind.i64.wrap ((z.n (73 : Nat)).tdiv (512 : Int)) + (1 : Int)) * (512 : Int)) ≤ w + (512 : Int)) ∧ True)) := by kernel_rfl
set_option maxHeartbeats 8000000 in
theorem rv_c (E : World) (w : Int) (z : PX) (hz : rgM z [mV 1 2, mP 3, rowS, mO] 0) (hp : (fun z => Len2 (z.l 2) (z.n 74) ∧ z.n 74 * 512 ≤ z.n 73 ∧ w ≤ 10000000) z) : HD (pe E) 12 [.c (.p 0 0), .c (.i false .i64 w)] [mV 1 2, mP 3, rowS, mO] [mV 1 4, mP 3, .g HOLE, mO, rowS] (.t []) (fun z y => Len2 (y.l 4) (y.n 74) ∧ y.n 74 * 512 ≤ y.n 73) z := by
  refine HD.loop (P := pe E) orcA_ok tab_ok tab_sz mixed Try.func12 (c := Try.f12.body.getD .skip) rfl (by decide) (Nat.le_of_ble_eq_true rfl) (by rfl) 20000 (2 ^ 2) (rv_hs E w z) (by rfl) (loopP_lfH ⟨?_⟩) ?_
  · rw [rv_pro]
    obtain ⟨hL, hn, hw⟩ := hp
    obtain ⟨u33, u67, u72, u73, u74, _⟩ : (0 ≤ z.n 33 ∧ z.n 33 ≤ 32) ∧ (0 ≤ z.n 67 ∧ z.n 67 ≤ 32) ∧ (0 ≤ z.n 72 ∧ z.n 72 ≤ 1022) ∧ (0 ≤ z.n 73 ∧ z.n 73 ≤ 10000000) ∧ 0 ≤ z.n 74 ∧ True  := hz.1
    have hR : Row [.r .i16 0 0, .r .i16 0 0] (z.l 2) := hz.2.2.1.2
    have hP : (0 ≤ z.n 100000 ∧ z.n 100000 ≤ 10000000) ∧ True := hz.2.1
    have hf : flat [Sp.r .i16 0 0, Sp.r .i16 0 0] = true := rfl
    have T1 : ((z.n 74).toNat : Int) = z.n 74 := Int.toNat_of_nonneg u74
    have e1 : (z.n 73).tdiv 512 = z.n 73 / 512 := Int.tdiv_eq_ediv_of_nonneg u73.1
    have w0 : IntKind.i64.wrap (z.n 73 / 512) = z.n 73 / 512 := by rw [wi64]; omega
    have w1 : IntKind.i64.wrap (z.n 73 / 512 + 1) = z.n 73 / 512 + 1 := by rw [wi64]; omega
    have w2 : IntKind.i64.wrap ((z.n 73 / 512 + 1) * 512) = (z.n 73 / 512 + 1) * 512 := by rw [wi64]; omega
    simp only [T1, e1, w0, w1, w2]
    refine ⟨fun h => ?_, fun h => ?_⟩
    · ((repeat' (first | exact trivial | with_reducible rfl | assumption | exact decide_eq_true rfl | exact sameB_self _ | exact rfl | apply And.intro | intro _)) <;> omega)
    · have h1 : z.n 73 < w := by
        by_cases h2 : w ≤ z.n 73
        · exfalso; simp [h2] at h
        · omega
      ((repeat' (first | exact trivial | with_reducible rfl | assumption | exact decide_eq_true rfl | exact sameB_self _ | exact rfl | apply And.intro | intro _)) <;> omega)
  · intro h hmem y hy1 hy2 hy3
    simp only [rv_hs, List.mem_cons, List.not_mem_nil, or_false] at hmem
    rcases hmem with rfl
    · exact rv_q0 E w z hp y hy1 hy2 hy3
end Go.Proofs.Ytkeinfmfkcgkhaa

