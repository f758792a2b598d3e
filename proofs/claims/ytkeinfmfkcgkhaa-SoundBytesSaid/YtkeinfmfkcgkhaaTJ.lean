import Derived.Test.YtkeinfmfkcgkhaaTH
set_option linter.unusedVariables false
set_option linter.unusedSimpArgs false
namespace Go.Proofs.Ytkeinfmfkcgkhaa
open Go Go.Proofs Go.Proofs.Ytkeinfmfkcgkhaa.Ev Go.Proofs.Ytkeinfmfkcgkhaa.Ev.Ho
set_option maxRecDepth 100000
theorem law_r1 (E : World) (a : Option Addr) (n m : Nat) (z : PX) (y : PX) :
    (loopP (pe E) Try.f4 (endR ([] : List MB).length [] (.c .b) (fun z y => y.b 90000 = true) z) (headR ([] : List MB).length Try.f4.ntmps (some ((fun y => (199 - y.n 91024 * 6 - y.n 91031).toNat + 1000) y)) (law_hs E a n m z))  (run (pe E) (orcQ E) (tabL fns) 20000 (2 ^ 200 - 1) (t2_td E) (mkL Try.f4.ntmps (slC y [(0, .q (.es a n m)), (3, .c (.p 0 0)), (4, .v 1 1), (22, .q (.es a n m)), (23, .q (.i false .i64 (n : Int))), (24, .r .i64 (0) (20)), (6, .r .u32 (0) (4294967295)), (31, .r .i64 (0) (4))])) (mkM y [] [mT 2 3, rowW, mP 4, rowT, mO] 0))) =
    ((decide (y.n (91031 : Nat) < (4 : Int)) = true → (decide ((↑(y.n (91004 : Nat)).toNat : Int) < (32 : Int)) = true → decide ((0 : Int) ≤ IntKind.i64.wrap ((8 : Int) * y.n
      (91031 : Nat))) = true ∧ decide ((y.n (91004 : Nat)).toNat * (1 : Nat) ≤ (y.l (1 : Nat)).length) = true ∧ decide ((y.n (91004 : Nat)).toNat + (1 : Nat) ≤ (1099511627776 :
      Nat)) = true ∧ decide (((y.n (91004 : Nat)).toNat + (1 : Nat)) * (1 : Nat) ≤ (1099511627776 : Nat)) = true ∧ t2_td E = t2_td E ∧ (111 : Nat) = (111 : Nat) ∧ ((renC (posN
      [(0 : Nat), (6 : Nat), (2 : Nat), (3 : Nat), (4 : Nat)]) (C.es a n m) = C.es a n m ∧ True) ∧ True ∧ True ∧ (renC (posN [(0 : Nat), (6 : Nat), (2 : Nat), (3 : Nat), (4 :
      Nat)]) (C.es a n m) = C.es a n m ∧ True) ∧ (renC (posN [(0 : Nat), (6 : Nat), (2 : Nat), (3 : Nat), (4 : Nat)]) (C.i false IntKind.i64 (↑n : Int)) = C.i false IntKind.i64
      (↑n : Int) ∧ True) ∧ (((0 : Int) ≤ y.n (91024 : Nat) ∧ y.n (91024 : Nat) ≤ (20 : Int)) ∧ True) ∧ (((0 : Int) ≤ y.n (91006 : Nat) ∧ y.n (91006 : Nat) ≤ (4294967295 : Int))
      ∧ True) ∧ (((0 : Int) ≤ IntKind.i64.wrap (y.n (91031 : Nat) + (1 : Int)) ∧ IntKind.i64.wrap (y.n (91031 : Nat) + (1 : Int)) ≤ (4 : Int)) ∧ True) ∧ True) ∧ ((68 : Nat) =
      (68 : Nat) ∧ (((0 : Int) ≤ y.n (33 : Nat) ∧ y.n (33 : Nat) ≤ (32 : Int)) ∧ ((-128 : Int) ≤ y.n (34 : Nat) ∧ y.n (34 : Nat) ≤ (127 : Int)) ∧ ((0 : Int) ≤ y.n (73 : Nat) ∧
      y.n (73 : Nat) ≤ (10000000 : Int)) ∧ True) ∧ (57 : Nat) = (57 : Nat) ∧ (flat [Sp.i IntKind.i8] = true ∧ Row [Sp.i IntKind.i8] (rApp (y.l (1 : Nat)) ((y.n (91004 :
      Nat)).toNat * (1 : Nat)) [C.i false IntKind.i8 (IntKind.i8.wrap ((y.n (91006 : Nat)).fdiv ((2 : Int) ^ min (IntKind.i64.wrap ((8 : Int) * y.n (91031 : Nat))).toNat (32 :
      Nat))))])) ∧ (84 : Nat) = (84 : Nat) ∧ (((0 : Int) ≤ y.n (200000 : Nat) ∧ y.n (200000 : Nat) ≤ (10000000 : Int)) ∧ True) ∧ (60 : Nat) = (60 : Nat) ∧ (flat [Sp.i
      IntKind.i16, Sp.i IntKind.i16] = true ∧ Row [Sp.i IntKind.i16, Sp.i IntKind.i16] (y.l (3 : Nat))) ∧
      (741991204937588471353107210173517385893522847741378461052633880361214601735917472982278721692919759636892846595991201096475255940853038949688016010326287086087990634635853824
      : Nat) =
      (741991204937588471353107210173517385893522847741378461052633880361214601735917472982278721692919759636892846595991201096475255940853038949688016010326287086087990634635853824
      : Nat) ∧ ([] : SW) = []) ∧ ((WC (rApp (y.l (1 : Nat)) ((y.n (91004 : Nat)).toNat * (1 : Nat)) [C.i false IntKind.i8 (IntKind.i8.wrap ((y.n (91006 : Nat)).fdiv ((2 : Int) ^
      min (IntKind.i64.wrap ((8 : Int) * y.n (91031 : Nat))).toNat (32 : Nat))))]) (↑((y.n (91004 : Nat)).toNat + (1 : Nat)) : Int) (y.n (33 : Nat)) ((4 : Int) * y.n (91024 :
      Nat)) (y.n (91006 : Nat)) [y.n (1 : Nat), y.n (2 : Nat), y.n (3 : Nat), y.n (4 : Nat), y.n (5 : Nat), y.n (6 : Nat), y.n (7 : Nat), y.n (8 : Nat), y.n (9 : Nat), y.n (10 :
      Nat), y.n (11 : Nat), y.n (12 : Nat), y.n (13 : Nat), y.n (14 : Nat), y.n (15 : Nat), y.n (16 : Nat), y.n (17 : Nat), y.n (18 : Nat), y.n (19 : Nat), y.n (20 : Nat), y.n
      (21 : Nat), y.n (22 : Nat), y.n (23 : Nat), y.n (24 : Nat), y.n (25 : Nat), y.n (26 : Nat), y.n (27 : Nat), y.n (28 : Nat), y.n (29 : Nat), y.n (30 : Nat), y.n (31 : Nat),
      y.n (32 : Nat)] ∧ (↑((y.n (91004 : Nat)).toNat + (1 : Nat)) : Int) = m5 ((4 : Int) * y.n (91024 : Nat) + IntKind.i64.wrap (y.n (91031 : Nat) + (1 : Int))) ∧ y.n (33 : Nat)
      = m5 ((4 : Int) * y.n (91024 : Nat) + (4 : Int))) ∧ (y.n (73 : Nat) = (0 : Int) ∧ (↑(y.n (74 : Nat)).toNat : Int) = (0 : Int) ∧ Ln (rApp (y.l (1 : Nat)) ((y.n (91004 :
      Nat)).toNat * (1 : Nat)) [C.i false IntKind.i8 (IntKind.i8.wrap ((y.n (91006 : Nat)).fdiv ((2 : Int) ^ min (IntKind.i64.wrap ((8 : Int) * y.n (91031 : Nat))).toNat (32 :
      Nat))))]) (↑((y.n (91004 : Nat)).toNat + (1 : Nat)) : Int)) ∧ y.n (91024 : Nat) < (↑n : Int) ∧ (↑n : Int) ≤ (20 : Int)) ∧ ((199 : Int) - y.n (91024 : Nat) * (6 : Int) -
      IntKind.i64.wrap (y.n (91031 : Nat) + (1 : Int))).toNat + (1000 : Nat) < ((199 : Int) - y.n (91024 : Nat) * (6 : Int) - y.n (91031 : Nat)).toNat + (1000 : Nat) ∧ True) ∧
      (decide ((↑(y.n (91004 : Nat)).toNat : Int) < (32 : Int)) = false → t2_td E = t2_td E ∧ (111 : Nat) = (111 : Nat) ∧ ((renC (posN [(0 : Nat), (1 : Nat), (2 : Nat), (3 :
      Nat), (4 : Nat)]) (C.es a n m) = C.es a n m ∧ True) ∧ True ∧ True ∧ (renC (posN [(0 : Nat), (1 : Nat), (2 : Nat), (3 : Nat), (4 : Nat)]) (C.es a n m) = C.es a n m ∧ True)
      ∧ (renC (posN [(0 : Nat), (1 : Nat), (2 : Nat), (3 : Nat), (4 : Nat)]) (C.i false IntKind.i64 (↑n : Int)) = C.i false IntKind.i64 (↑n : Int) ∧ True) ∧ (((0 : Int) ≤ y.n
      (91024 : Nat) ∧ y.n (91024 : Nat) ≤ (20 : Int)) ∧ True) ∧ (((0 : Int) ≤ y.n (91006 : Nat) ∧ y.n (91006 : Nat) ≤ (4294967295 : Int)) ∧ True) ∧ (((0 : Int) ≤
      IntKind.i64.wrap (y.n (91031 : Nat) + (1 : Int)) ∧ IntKind.i64.wrap (y.n (91031 : Nat) + (1 : Int)) ≤ (4 : Int)) ∧ True) ∧ True) ∧ ((68 : Nat) = (68 : Nat) ∧ (((0 : Int) ≤
      y.n (33 : Nat) ∧ y.n (33 : Nat) ≤ (32 : Int)) ∧ ((-128 : Int) ≤ y.n (34 : Nat) ∧ y.n (34 : Nat) ≤ (127 : Int)) ∧ ((0 : Int) ≤ y.n (73 : Nat) ∧ y.n (73 : Nat) ≤ (10000000 :
      Int)) ∧ True) ∧ (57 : Nat) = (57 : Nat) ∧ (flat [Sp.i IntKind.i8] = true ∧ Row [Sp.i IntKind.i8] (y.l (1 : Nat))) ∧ (84 : Nat) = (84 : Nat) ∧ (((0 : Int) ≤ y.n (200000 :
      Nat) ∧ y.n (200000 : Nat) ≤ (10000000 : Int)) ∧ True) ∧ (60 : Nat) = (60 : Nat) ∧ (flat [Sp.i IntKind.i16, Sp.i IntKind.i16] = true ∧ Row [Sp.i IntKind.i16, Sp.i
      IntKind.i16] (y.l (3 : Nat))) ∧
      (741991204937588471353107210173517385893522847741378461052633880361214601735917472982278721692919759636892846595991201096475255940853038949688016010326287086087990634635853824
      : Nat) =
      (741991204937588471353107210173517385893522847741378461052633880361214601735917472982278721692919759636892846595991201096475255940853038949688016010326287086087990634635853824
      : Nat) ∧ ([] : SW) = []) ∧ ((WC (y.l (1 : Nat)) (↑(y.n (91004 : Nat)).toNat : Int) (y.n (33 : Nat)) ((4 : Int) * y.n (91024 : Nat)) (y.n (91006 : Nat)) [y.n (1 : Nat), y.n
      (2 : Nat), y.n (3 : Nat), y.n (4 : Nat), y.n (5 : Nat), y.n (6 : Nat), y.n (7 : Nat), y.n (8 : Nat), y.n (9 : Nat), y.n (10 : Nat), y.n (11 : Nat), y.n (12 : Nat), y.n (13
      : Nat), y.n (14 : Nat), y.n (15 : Nat), y.n (16 : Nat), y.n (17 : Nat), y.n (18 : Nat), y.n (19 : Nat), y.n (20 : Nat), y.n (21 : Nat), y.n (22 : Nat), y.n (23 : Nat), y.n
      (24 : Nat), y.n (25 : Nat), y.n (26 : Nat), y.n (27 : Nat), y.n (28 : Nat), y.n (29 : Nat), y.n (30 : Nat), y.n (31 : Nat), y.n (32 : Nat)] ∧ (↑(y.n (91004 : Nat)).toNat :
      Int) = m5 ((4 : Int) * y.n (91024 : Nat) + IntKind.i64.wrap (y.n (91031 : Nat) + (1 : Int))) ∧ y.n (33 : Nat) = m5 ((4 : Int) * y.n (91024 : Nat) + (4 : Int))) ∧ (y.n (73
      : Nat) = (0 : Int) ∧ (↑(y.n (74 : Nat)).toNat : Int) = (0 : Int) ∧ Ln (y.l (1 : Nat)) (↑(y.n (91004 : Nat)).toNat : Int)) ∧ y.n (91024 : Nat) < (↑n : Int) ∧ (↑n : Int) ≤
      (20 : Int)) ∧ ((199 : Int) - y.n (91024 : Nat) * (6 : Int) - IntKind.i64.wrap (y.n (91031 : Nat) + (1 : Int))).toNat + (1000 : Nat) < ((199 : Int) - y.n (91024 : Nat) * (6
      : Int) - y.n (91031 : Nat)).toNat + (1000 : Nat) ∧ True)) ∧ (decide (y.n (91031 : Nat) < (4 : Int)) = false → t1_td E = t1_td E ∧ (111 : Nat) = (111 : Nat) ∧ ((renC (posN
      [(0 : Nat), (1 : Nat), (2 : Nat), (3 : Nat), (4 : Nat)]) (C.es a n m) = C.es a n m ∧ True) ∧ True ∧ True ∧ (renC (posN [(0 : Nat), (1 : Nat), (2 : Nat), (3 : Nat), (4 :
      Nat)]) (C.es a n m) = C.es a n m ∧ True) ∧ (renC (posN [(0 : Nat), (1 : Nat), (2 : Nat), (3 : Nat), (4 : Nat)]) (C.i false IntKind.i64 (↑n : Int)) = C.i false IntKind.i64
      (↑n : Int) ∧ True) ∧ (((0 : Int) ≤ IntKind.i64.wrap (y.n (91024 : Nat) + (1 : Int)) ∧ IntKind.i64.wrap (y.n (91024 : Nat) + (1 : Int)) ≤ (20 : Int)) ∧ True) ∧ True) ∧ ((68
      : Nat) = (68 : Nat) ∧ (((0 : Int) ≤ y.n (33 : Nat) ∧ y.n (33 : Nat) ≤ (32 : Int)) ∧ ((-128 : Int) ≤ y.n (34 : Nat) ∧ y.n (34 : Nat) ≤ (127 : Int)) ∧ ((0 : Int) ≤ y.n (73 :
      Nat) ∧ y.n (73 : Nat) ≤ (10000000 : Int)) ∧ True) ∧ (57 : Nat) = (57 : Nat) ∧ (flat [Sp.i IntKind.i8] = true ∧ Row [Sp.i IntKind.i8] (y.l (1 : Nat))) ∧ (84 : Nat) = (84 :
      Nat) ∧ (((0 : Int) ≤ y.n (200000 : Nat) ∧ y.n (200000 : Nat) ≤ (10000000 : Int)) ∧ True) ∧ (60 : Nat) = (60 : Nat) ∧ (flat [Sp.i IntKind.i16, Sp.i IntKind.i16] = true ∧
      Row [Sp.i IntKind.i16, Sp.i IntKind.i16] (y.l (3 : Nat))) ∧
      (741991204937588471353107210173517385893522847741378461052633880361214601735917472982278721692919759636892846595991201096475255940853038949688016010326287086087990634635853824
      : Nat) =
      (741991204937588471353107210173517385893522847741378461052633880361214601735917472982278721692919759636892846595991201096475255940853038949688016010326287086087990634635853824
      : Nat) ∧ ([] : SW) = []) ∧ ((WB (y.l (1 : Nat)) (y.n (33 : Nat)) [y.n (1 : Nat), y.n (2 : Nat), y.n (3 : Nat), y.n (4 : Nat), y.n (5 : Nat), y.n (6 : Nat), y.n (7 : Nat),
      y.n (8 : Nat), y.n (9 : Nat), y.n (10 : Nat), y.n (11 : Nat), y.n (12 : Nat), y.n (13 : Nat), y.n (14 : Nat), y.n (15 : Nat), y.n (16 : Nat), y.n (17 : Nat), y.n (18 :
      Nat), y.n (19 : Nat), y.n (20 : Nat), y.n (21 : Nat), y.n (22 : Nat), y.n (23 : Nat), y.n (24 : Nat), y.n (25 : Nat), y.n (26 : Nat), y.n (27 : Nat), y.n (28 : Nat), y.n
      (29 : Nat), y.n (30 : Nat), y.n (31 : Nat), y.n (32 : Nat)] ∧ (↑(y.n (91004 : Nat)).toNat : Int) = m5 ((4 : Int) * IntKind.i64.wrap (y.n (91024 : Nat) + (1 : Int))) ∧ y.n
      (33 : Nat) = m5 ((4 : Int) * IntKind.i64.wrap (y.n (91024 : Nat) + (1 : Int)))) ∧ (y.n (73 : Nat) = (0 : Int) ∧ (↑(y.n (74 : Nat)).toNat : Int) = (0 : Int) ∧ Ln (y.l (1 :
      Nat)) (↑(y.n (91004 : Nat)).toNat : Int)) ∧ IntKind.i64.wrap (y.n (91024 : Nat) + (1 : Int)) ≤ (↑n : Int) ∧ (↑n : Int) ≤ (20 : Int)) ∧ ((200 : Int) - IntKind.i64.wrap (y.n
      (91024 : Nat) + (1 : Int)) * (6 : Int)).toNat + (1000 : Nat) < ((199 : Int) - y.n (91024 : Nat) * (6 : Int) - y.n (91031 : Nat)).toNat + (1000 : Nat) ∧ True)) := by kernel_rfl
set_option maxHeartbeats 8000000 in
theorem law_q1 (E : World) (a : Option Addr) (n m : Nat) (z : PX) (hp : (fun _ => eRows E a n 1 [.i .u32] = true ∧ (n = 0 ∨ a.isSome = true)) z) (y : PX) (hy1 : rgM y [mT 2 3, rowW, mP 4, rowT, mO] 0) (hy2 : rgF y [(0, .q (.es a n m)), (3, .c (.p 0 0)), (4, .v 1 1), (22, .q (.es a n m)), (23, .q (.i false .i64 (n : Int))), (24, .r .i64 (0) (20)), (6, .r .u32 (0) (4294967295)), (31, .r .i64 (0) (4))]) (hy3 : (fun y => (WC (y.l 1) (y.n 91004) (y.n 33) (4 * y.n 91024) (y.n 91006) [y.n 1, y.n 2, y.n 3, y.n 4, y.n 5, y.n 6, y.n 7, y.n 8, y.n 9, y.n 10, y.n 11, y.n 12, y.n 13, y.n 14, y.n 15, y.n 16, y.n 17, y.n 18, y.n 19, y.n 20, y.n 21, y.n 22, y.n 23, y.n 24, y.n 25, y.n 26, y.n 27, y.n 28, y.n 29, y.n 30, y.n 31, y.n 32] ∧ y.n 91004 = m5 (4 * y.n 91024 + y.n 91031) ∧ y.n 33 = m5 (4 * y.n 91024 + 4)) ∧ (y.n 73 = 0 ∧ y.n 74 = 0 ∧ Ln (y.l 1) (y.n 91004)) ∧ y.n 91024 < (n : Int) ∧ (n : Int) ≤ 20) y) : Holds ((run (pe E) (orcQ E) (tabL fns) 20000 (2 ^ 200 - 1) (t2_td E) (mkL Try.f4.ntmps (slC y [(0, .q (.es a n m)), (3, .c (.p 0 0)), (4, .v 1 1), (22, .q (.es a n m)), (23, .q (.i false .i64 (n : Int))), (24, .r .i64 (0) (20)), (6, .r .u32 (0) (4294967295)), (31, .r .i64 (0) (4))])) (mkM y [] [mT 2 3, rowW, mP 4, rowT, mO] 0)).OK (lfP (pe E) Try.f4 (endR ([] : List MB).length [] (.c .b) (fun z y => y.b 90000 = true) z) (headR ([] : List MB).length Try.f4.ntmps (some ((fun y => (199 - y.n 91024 * 6 - y.n 91031).toNat + 1000) y)) (law_hs E a n m z)))) := by
  refine loopP_lfH ⟨?_⟩
  rw [law_r1]
  have hf : True ∧ True ∧ (0 ≤ y.n 91004 ∧ True) ∧ True ∧ True ∧ (((0) ≤ y.n 91024 ∧ y.n 91024 ≤ (20)) ∧ True) ∧ (((0) ≤ y.n 91006 ∧ y.n 91006 ≤ (4294967295)) ∧ True) ∧ (((0) ≤ y.n 91031 ∧ y.n 91031 ≤ (4)) ∧ True) ∧ True := hy2
  obtain ⟨_, _, ⟨g4, _⟩, _, _, ⟨g24, _⟩, ⟨g6, _⟩, ⟨g31, _⟩, _⟩ := hf
  obtain ⟨⟨hW, hL1, h33⟩, ⟨h73, h74, hLn⟩, hin, hn20⟩ := hy3
  obtain ⟨u33, u34, u73, u74, _⟩ : (0 ≤ y.n 33 ∧ y.n 33 ≤ 32) ∧ (-128 ≤ y.n 34 ∧ y.n 34 ≤ 127) ∧ (0 ≤ y.n 73 ∧ y.n 73 ≤ 10000000) ∧ 0 ≤ y.n 74 ∧ True := hy1.1
  have hRW : Row [.i .i8] (y.l 1) := hy1.2.1.2
  have hP : (0 ≤ y.n 200000 ∧ y.n 200000 ≤ 10000000) ∧ True := hy1.2.2.1
  have hR : Row [.i .i16, .i .i16] (y.l 3) := hy1.2.2.2.1.2
  have T1 : ((y.n 74).toNat : Int) = y.n 74 := Int.toNat_of_nonneg u74
  have T4 : ((y.n 91004).toNat : Int) = y.n 91004 := Int.toNat_of_nonneg g4
  have hf : flat [Sp.i .i16, Sp.i .i16] = true := rfl
  have hfw : flat [Sp.i .i8] = true := rfl
  have hl := hLn.e
  have w1 : IntKind.i64.wrap (8 * y.n 91031) = 8 * y.n 91031 := by rw [wi64]; omega
  have w2 : IntKind.i64.wrap (y.n 91031 + 1) = y.n 91031 + 1 := by rw [wi64]; omega
  have w3 : IntKind.i64.wrap (y.n 91024 + 1) = y.n 91024 + 1 := by rw [wi64]; omega
  have T5 : (((y.n 91004).toNat + 1 : Nat) : Int) = y.n 91004 + 1 := by omega
  simp only [T1, T4, T5, w1, w2, w3]
  refine ⟨fun hk => ⟨fun h => ?_, fun h => ?_⟩, fun hk => ?_⟩
  · have hk := of_decide_eq_true hk
    have h := of_decide_eq_true h
    have eL : y.n 91004 = 4 * y.n 91024 + y.n 91031 := by
      by_cases c : 4 * y.n 91024 + y.n 91031 ≤ 32
      · rw [hL1]; unfold m5; rw [if_pos c]
      · exfalso; rw [hL1] at h; unfold m5 at h; rw [if_neg c] at h; omega
    have eW : y.n 91004 < y.n 33 := by rw [h33]; unfold m5; split <;> omega
    have em : (y.n 91004).toNat * 1 = (y.n 91004).toNat := Nat.mul_one _
    have hv : IntKind.i8.wrap ((y.n 91006).fdiv (2 ^ min (8 * y.n 91031).toNat 32)) = IntKind.i8.wrap (y.n 91006 / (2 : Int) ^ (8 * y.n 91031).toNat) := by
      have e : min (8 * y.n 91031).toNat 32 = (8 * y.n 91031).toNat := by omega
      rw [e, Int.fdiv_eq_ediv_of_nonneg _ (Int.le_of_lt (Int.pow_pos (by decide)))]
    obtain ⟨b0, b1, b2, b3, b4, b5, b6, b7, b8, b9, b10, b11, b12, b13, b14, b15, b16, b17, b18, b19, b20, b21, b22, b23, b24, b25, b26, b27, b28, b29, b30, b31, _⟩ := hW
    have hWC : WC (rApp (y.l 1) ((y.n 91004).toNat * 1) [C.i false .i8 (IntKind.i8.wrap ((y.n 91006).fdiv (2 ^ min (8 * y.n 91031).toNat 32)))]) (y.n 91004 + 1) (y.n 33) (4 * y.n 91024) (y.n 91006) [y.n 1, y.n 2, y.n 3, y.n 4, y.n 5, y.n 6, y.n 7, y.n 8, y.n 9, y.n 10, y.n 11, y.n 12, y.n 13, y.n 14, y.n 15, y.n 16, y.n 17, y.n 18, y.n 19, y.n 20, y.n 21, y.n 22, y.n 23, y.n 24, y.n 25, y.n 26, y.n 27, y.n 28, y.n 29, y.n 30, y.n 31, y.n 32] := And.intro (wc_2 (j := 0) b0 eL eW em hl g4 hv) <| And.intro (wc_2 (j := 1) b1 eL eW em hl g4 hv) <| And.intro (wc_2 (j := 2) b2 eL eW em hl g4 hv) <| And.intro (wc_2 (j := 3) b3 eL eW em hl g4 hv) <| And.intro (wc_2 (j := 4) b4 eL eW em hl g4 hv) <| And.intro (wc_2 (j := 5) b5 eL eW em hl g4 hv) <| And.intro (wc_2 (j := 6) b6 eL eW em hl g4 hv) <| And.intro (wc_2 (j := 7) b7 eL eW em hl g4 hv) <| And.intro (wc_2 (j := 8) b8 eL eW em hl g4 hv) <| And.intro (wc_2 (j := 9) b9 eL eW em hl g4 hv) <| And.intro (wc_2 (j := 10) b10 eL eW em hl g4 hv) <| And.intro (wc_2 (j := 11) b11 eL eW em hl g4 hv) <| And.intro (wc_2 (j := 12) b12 eL eW em hl g4 hv) <| And.intro (wc_2 (j := 13) b13 eL eW em hl g4 hv) <| And.intro (wc_2 (j := 14) b14 eL eW em hl g4 hv) <| And.intro (wc_2 (j := 15) b15 eL eW em hl g4 hv) <| And.intro (wc_2 (j := 16) b16 eL eW em hl g4 hv) <| And.intro (wc_2 (j := 17) b17 eL eW em hl g4 hv) <| And.intro (wc_2 (j := 18) b18 eL eW em hl g4 hv) <| And.intro (wc_2 (j := 19) b19 eL eW em hl g4 hv) <| And.intro (wc_2 (j := 20) b20 eL eW em hl g4 hv) <| And.intro (wc_2 (j := 21) b21 eL eW em hl g4 hv) <| And.intro (wc_2 (j := 22) b22 eL eW em hl g4 hv) <| And.intro (wc_2 (j := 23) b23 eL eW em hl g4 hv) <| And.intro (wc_2 (j := 24) b24 eL eW em hl g4 hv) <| And.intro (wc_2 (j := 25) b25 eL eW em hl g4 hv) <| And.intro (wc_2 (j := 26) b26 eL eW em hl g4 hv) <| And.intro (wc_2 (j := 27) b27 eL eW em hl g4 hv) <| And.intro (wc_2 (j := 28) b28 eL eW em hl g4 hv) <| And.intro (wc_2 (j := 29) b29 eL eW em hl g4 hv) <| And.intro (wc_2 (j := 30) b30 eL eW em hl g4 hv) <| And.intro (wc_2 (j := 31) b31 eL eW em hl g4 hv) <| trivial
    have hm0 : (y.n 91004).toNat * 1 ≤ (y.l 1).length := by omega
    have hA := Row.app (vs := [C.i false .i8 (IntKind.i8.wrap ((y.n 91006).fdiv (2 ^ min (8 * y.n 91031).toNat 32)))]) (m := (y.n 91004).toNat * 1) hRW (Row.one (ps := [Sp.i .i8]) trivial) hm0 (Nat.mod_one _)
    have hLn2 : Ln (rApp (y.l 1) ((y.n 91004).toNat * 1) [C.i false .i8 (IntKind.i8.wrap ((y.n 91006).fdiv (2 ^ min (8 * y.n 91031).toNat 32)))]) (y.n 91004 + 1) := ⟨by rw [len_app hm0]; show _ + 1 = _; omega⟩
    have hL2 : y.n 91004 + 1 = m5 (4 * y.n 91024 + (y.n 91031 + 1)) := by unfold m5; rw [if_pos (by omega)]; omega
    have d0 : decide (0 ≤ 8 * y.n 91031) = true := decide_eq_true (by omega)
    have d1 : decide ((y.n 91004).toNat * 1 ≤ (y.l 1).length) = true := decide_eq_true hm0
    have d2 : decide ((y.n 91004).toNat + 1 ≤ 1099511627776) = true := decide_eq_true (by omega)
    have d3 : decide (((y.n 91004).toNat + 1) * 1 ≤ 1099511627776) = true := decide_eq_true (by omega)
    ((repeat' (first | exact trivial | with_reducible rfl | assumption | exact decide_eq_true rfl | exact sameB_self _ | exact rfl | apply And.intro)) <;> omega)
  · have hk := of_decide_eq_true hk
    have h := of_decide_eq_false h
    have hL2 : y.n 91004 = m5 (4 * y.n 91024 + (y.n 91031 + 1)) := by unfold m5 at hL1 ⊢; split at hL1 <;> split <;> omega
    ((repeat' (first | exact trivial | with_reducible rfl | assumption | exact decide_eq_true rfl | exact sameB_self _ | exact rfl | apply And.intro)) <;> omega)
  · have hk := of_decide_eq_false hk
    have ek : y.n 91031 = 4 := by omega
    rw [ek] at hL1
    have eL : y.n 91004 = y.n 33 := by rw [h33]; exact hL1
    have e4 : 4 * (y.n 91024 + 1) = 4 * y.n 91024 + 4 := by omega
    obtain ⟨b0, b1, b2, b3, b4, b5, b6, b7, b8, b9, b10, b11, b12, b13, b14, b15, b16, b17, b18, b19, b20, b21, b22, b23, b24, b25, b26, b27, b28, b29, b30, b31, _⟩ := hW
    have hWB : WB (y.l 1) (y.n 33) [y.n 1, y.n 2, y.n 3, y.n 4, y.n 5, y.n 6, y.n 7, y.n 8, y.n 9, y.n 10, y.n 11, y.n 12, y.n 13, y.n 14, y.n 15, y.n 16, y.n 17, y.n 18, y.n 19, y.n 20, y.n 21, y.n 22, y.n 23, y.n 24, y.n 25, y.n 26, y.n 27, y.n 28, y.n 29, y.n 30, y.n 31, y.n 32] := And.intro (fun h => b0.1 (by rw [eL]; exact h)) <| And.intro (fun h => b1.1 (by rw [eL]; exact h)) <| And.intro (fun h => b2.1 (by rw [eL]; exact h)) <| And.intro (fun h => b3.1 (by rw [eL]; exact h)) <| And.intro (fun h => b4.1 (by rw [eL]; exact h)) <| And.intro (fun h => b5.1 (by rw [eL]; exact h)) <| And.intro (fun h => b6.1 (by rw [eL]; exact h)) <| And.intro (fun h => b7.1 (by rw [eL]; exact h)) <| And.intro (fun h => b8.1 (by rw [eL]; exact h)) <| And.intro (fun h => b9.1 (by rw [eL]; exact h)) <| And.intro (fun h => b10.1 (by rw [eL]; exact h)) <| And.intro (fun h => b11.1 (by rw [eL]; exact h)) <| And.intro (fun h => b12.1 (by rw [eL]; exact h)) <| And.intro (fun h => b13.1 (by rw [eL]; exact h)) <| And.intro (fun h => b14.1 (by rw [eL]; exact h)) <| And.intro (fun h => b15.1 (by rw [eL]; exact h)) <| And.intro (fun h => b16.1 (by rw [eL]; exact h)) <| And.intro (fun h => b17.1 (by rw [eL]; exact h)) <| And.intro (fun h => b18.1 (by rw [eL]; exact h)) <| And.intro (fun h => b19.1 (by rw [eL]; exact h)) <| And.intro (fun h => b20.1 (by rw [eL]; exact h)) <| And.intro (fun h => b21.1 (by rw [eL]; exact h)) <| And.intro (fun h => b22.1 (by rw [eL]; exact h)) <| And.intro (fun h => b23.1 (by rw [eL]; exact h)) <| And.intro (fun h => b24.1 (by rw [eL]; exact h)) <| And.intro (fun h => b25.1 (by rw [eL]; exact h)) <| And.intro (fun h => b26.1 (by rw [eL]; exact h)) <| And.intro (fun h => b27.1 (by rw [eL]; exact h)) <| And.intro (fun h => b28.1 (by rw [eL]; exact h)) <| And.intro (fun h => b29.1 (by rw [eL]; exact h)) <| And.intro (fun h => b30.1 (by rw [eL]; exact h)) <| And.intro (fun h => b31.1 (by rw [eL]; exact h)) <| trivial
    simp only [e4]
    ((repeat' (first | exact trivial | with_reducible rfl | assumption | exact decide_eq_true rfl | exact sameB_self _ | exact rfl | apply And.intro)) <;> omega)
end Go.Proofs.Ytkeinfmfkcgkhaa

