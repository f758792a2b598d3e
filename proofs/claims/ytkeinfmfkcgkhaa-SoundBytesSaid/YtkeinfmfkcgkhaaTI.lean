import Derived.Test.YtkeinfmfkcgkhaaTH
set_option linter.unusedVariables false
set_option linter.unusedSimpArgs false
namespace Go.Proofs.Ytkeinfmfkcgkhaa
open Go Go.Proofs Go.Proofs.Ytkeinfmfkcgkhaa.Ev Go.Proofs.Ytkeinfmfkcgkhaa.Ev.Ho
set_option maxRecDepth 100000
theorem law_r0 (E : World) (a : Option Addr) (n m : Nat) (z : PX) (y : PX) :
    (loopP (pe E) Try.f4 (endR ([] : List MB).length [] (.c .b) (fun z y => y.b 90000 = true) z) (headR ([] : List MB).length Try.f4.ntmps (some ((fun y => (200 - y.n 91024 * 6).toNat + 1000) y)) (law_hs E a n m z))  (run (pe E) (orcQ E) (tabL fns) 20000 (2 ^ 200 - 1) (t1_td E) (mkL Try.f4.ntmps (slC y [(0, .q (.es a n m)), (3, .c (.p 0 0)), (4, .v 1 1), (22, .q (.es a n m)), (23, .q (.i false .i64 (n : Int))), (24, .r .i64 (0) (20))])) (mkM y [] [mT 2 3, rowW, mP 4, rowT, mO] 0))) =
    ((decide (y.n (91024 : Nat) < (↑n : Int)) = true → inB (y.n (91024 : Nat)) n = true ∧ a.isSome = true ∧ eRow E a ((y.n (91024 : Nat)).toNat * (1 : Nat) + (0 : Nat)) [EK.i
      IntKind.u32] = true ∧ (((68 : Nat) = (68 : Nat) ∧ (((0 : Int) ≤ y.n (33 : Nat) ∧ y.n (33 : Nat) ≤ (32 : Int)) ∧ ((-128 : Int) ≤ y.n (34 : Nat) ∧ y.n (34 : Nat) ≤ (127 :
      Int)) ∧ ((0 : Int) ≤ y.n (73 : Nat) ∧ y.n (73 : Nat) ≤ (10000000 : Int)) ∧ True) ∧ (84 : Nat) = (84 : Nat) ∧ (((0 : Int) ≤ y.n (200000 : Nat) ∧ y.n (200000 : Nat) ≤
      (10000000 : Int)) ∧ True) ∧ (60 : Nat) = (60 : Nat) ∧ (flat [Sp.i IntKind.i16, Sp.i IntKind.i16] = true ∧ Row [Sp.i IntKind.i16, Sp.i IntKind.i16] (y.l (3 : Nat))) ∧
      (741991204937588471353107210173517385893522847741378461052633880361214601735917472982278721692919759636892846595991201096475255940853038949688016010326287086087990634635853824
      : Nat) =
      (741991204937588471353107210173517385893522847741378461052633880361214601735917472982278721692919759636892846595991201096475255940853038949688016010326287086087990634635853824
      : Nat) ∧ ([] : SW) = []) ∧ (0 : Int) ≤ eI E a ((y.n (91024 : Nat)).toNat * (1 : Nat) + (0 : Nat)) ∧ eI E a ((y.n (91024 : Nat)).toNat * (1 : Nat) + (0 : Nat)) ≤
      (4294967295 : Int)) ∧ ∀ (y_1 : PX), ((((0 : Int) ≤ y_1.n (33 : Nat) ∧ y_1.n (33 : Nat) ≤ (32 : Int)) ∧ ((-128 : Int) ≤ y_1.n (34 : Nat) ∧ y_1.n (34 : Nat) ≤ (127 : Int)) ∧
      ((0 : Int) ≤ y_1.n (73 : Nat) ∧ y_1.n (73 : Nat) ≤ (10000000 : Int)) ∧ (0 : Int) ≤ y_1.n (74 : Nat) ∧ True) ∧ (((0 : Int) ≤ y_1.n (100000 : Nat) ∧ y_1.n (100000 : Nat) ≤
      (10000000 : Int)) ∧ True) ∧ (flat [Sp.i IntKind.i16, Sp.i IntKind.i16] = true ∧ Row [Sp.i IntKind.i16, Sp.i IntKind.i16] (y_1.l (2 : Nat))) ∧ True) ∧ True ∧ (FD (y.n (33 :
      Nat)) (4 : Int) (eI E a ((y.n (91024 : Nat)).toNat * (1 : Nat) + (0 : Nat))) [y.n (1 : Nat), y.n (2 : Nat), y.n (3 : Nat), y.n (4 : Nat), y.n (5 : Nat), y.n (6 : Nat), y.n
      (7 : Nat), y.n (8 : Nat), y.n (9 : Nat), y.n (10 : Nat), y.n (11 : Nat), y.n (12 : Nat), y.n (13 : Nat), y.n (14 : Nat), y.n (15 : Nat), y.n (16 : Nat), y.n (17 : Nat),
      y.n (18 : Nat), y.n (19 : Nat), y.n (20 : Nat), y.n (21 : Nat), y.n (22 : Nat), y.n (23 : Nat), y.n (24 : Nat), y.n (25 : Nat), y.n (26 : Nat), y.n (27 : Nat), y.n (28 :
      Nat), y.n (29 : Nat), y.n (30 : Nat), y.n (31 : Nat), y.n (32 : Nat)] [y_1.n (1 : Nat), y_1.n (2 : Nat), y_1.n (3 : Nat), y_1.n (4 : Nat), y_1.n (5 : Nat), y_1.n (6 :
      Nat), y_1.n (7 : Nat), y_1.n (8 : Nat), y_1.n (9 : Nat), y_1.n (10 : Nat), y_1.n (11 : Nat), y_1.n (12 : Nat), y_1.n (13 : Nat), y_1.n (14 : Nat), y_1.n (15 : Nat), y_1.n
      (16 : Nat), y_1.n (17 : Nat), y_1.n (18 : Nat), y_1.n (19 : Nat), y_1.n (20 : Nat), y_1.n (21 : Nat), y_1.n (22 : Nat), y_1.n (23 : Nat), y_1.n (24 : Nat), y_1.n (25 :
      Nat), y_1.n (26 : Nat), y_1.n (27 : Nat), y_1.n (28 : Nat), y_1.n (29 : Nat), y_1.n (30 : Nat), y_1.n (31 : Nat), y_1.n (32 : Nat)] ∧ y_1.n (33 : Nat) = if y.n (33 : Nat)
      + (4 : Int) ≤ (32 : Int) then y.n (33 : Nat) + (4 : Int) else (32 : Int)) ∧ y_1.n (34 : Nat) = y.n (34 : Nat) ∧ y_1.n (73 : Nat) = y.n (73 : Nat) ∧ y_1.n (74 : Nat) =
      (↑(y.n (74 : Nat)).toNat : Int) → t2_td E = t2_td E ∧ (111 : Nat) = (111 : Nat) ∧ ((renC (posN [(0 : Nat), (1 : Nat), (2 : Nat), (3 : Nat), (4 : Nat)]) (C.es a n m) = C.es
      a n m ∧ True) ∧ True ∧ True ∧ (renC (posN [(0 : Nat), (1 : Nat), (2 : Nat), (3 : Nat), (4 : Nat)]) (C.es a n m) = C.es a n m ∧ True) ∧ (renC (posN [(0 : Nat), (1 : Nat),
      (2 : Nat), (3 : Nat), (4 : Nat)]) (C.i false IntKind.i64 (↑n : Int)) = C.i false IntKind.i64 (↑n : Int) ∧ True) ∧ (((0 : Int) ≤ y.n (91024 : Nat) ∧ y.n (91024 : Nat) ≤ (20
      : Int)) ∧ True) ∧ (((0 : Int) ≤ eI E a ((y.n (91024 : Nat)).toNat * (1 : Nat) + (0 : Nat)) ∧ eI E a ((y.n (91024 : Nat)).toNat * (1 : Nat) + (0 : Nat)) ≤ (4294967295 :
      Int)) ∧ True) ∧ (((0 : Int) ≤ (0 : Int) ∧ (0 : Int) ≤ (4 : Int)) ∧ True) ∧ True) ∧ ((68 : Nat) = (68 : Nat) ∧ (((0 : Int) ≤ y_1.n (33 : Nat) ∧ y_1.n (33 : Nat) ≤ (32 :
      Int)) ∧ ((-128 : Int) ≤ y_1.n (34 : Nat) ∧ y_1.n (34 : Nat) ≤ (127 : Int)) ∧ ((0 : Int) ≤ y_1.n (73 : Nat) ∧ y_1.n (73 : Nat) ≤ (10000000 : Int)) ∧ True) ∧ (57 : Nat) =
      (57 : Nat) ∧ (flat [Sp.i IntKind.i8] = true ∧ Row [Sp.i IntKind.i8] (y.l (1 : Nat))) ∧ (84 : Nat) = (84 : Nat) ∧ (((0 : Int) ≤ y_1.n (100000 : Nat) ∧ y_1.n (100000 : Nat)
      ≤ (10000000 : Int)) ∧ True) ∧ (60 : Nat) = (60 : Nat) ∧ (flat [Sp.i IntKind.i16, Sp.i IntKind.i16] = true ∧ Row [Sp.i IntKind.i16, Sp.i IntKind.i16] (y_1.l (2 : Nat))) ∧
      (741991204937588471353107210173517385893522847741378461052633880361214601735917472982278721692919759636892846595991201096475255940853038949688016010326287086087990634635853824
      : Nat) =
      (741991204937588471353107210173517385893522847741378461052633880361214601735917472982278721692919759636892846595991201096475255940853038949688016010326287086087990634635853824
      : Nat) ∧ ([] : SW) = []) ∧ ((WC (y.l (1 : Nat)) (↑(y.n (91004 : Nat)).toNat : Int) (y_1.n (33 : Nat)) ((4 : Int) * y.n (91024 : Nat)) (eI E a ((y.n (91024 : Nat)).toNat *
      (1 : Nat) + (0 : Nat))) [y_1.n (1 : Nat), y_1.n (2 : Nat), y_1.n (3 : Nat), y_1.n (4 : Nat), y_1.n (5 : Nat), y_1.n (6 : Nat), y_1.n (7 : Nat), y_1.n (8 : Nat), y_1.n (9 :
      Nat), y_1.n (10 : Nat), y_1.n (11 : Nat), y_1.n (12 : Nat), y_1.n (13 : Nat), y_1.n (14 : Nat), y_1.n (15 : Nat), y_1.n (16 : Nat), y_1.n (17 : Nat), y_1.n (18 : Nat),
      y_1.n (19 : Nat), y_1.n (20 : Nat), y_1.n (21 : Nat), y_1.n (22 : Nat), y_1.n (23 : Nat), y_1.n (24 : Nat), y_1.n (25 : Nat), y_1.n (26 : Nat), y_1.n (27 : Nat), y_1.n (28
      : Nat), y_1.n (29 : Nat), y_1.n (30 : Nat), y_1.n (31 : Nat), y_1.n (32 : Nat)] ∧ (↑(y.n (91004 : Nat)).toNat : Int) = m5 ((4 : Int) * y.n (91024 : Nat) + (0 : Int)) ∧
      y_1.n (33 : Nat) = m5 ((4 : Int) * y.n (91024 : Nat) + (4 : Int))) ∧ (y_1.n (73 : Nat) = (0 : Int) ∧ (↑(y_1.n (74 : Nat)).toNat : Int) = (0 : Int) ∧ Ln (y.l (1 : Nat))
      (↑(y.n (91004 : Nat)).toNat : Int)) ∧ y.n (91024 : Nat) < (↑n : Int) ∧ (↑n : Int) ≤ (20 : Int)) ∧ ((199 : Int) - y.n (91024 : Nat) * (6 : Int) - (0 : Int)).toNat + (1000 :
      Nat) < ((200 : Int) - y.n (91024 : Nat) * (6 : Int)).toNat + (1000 : Nat) ∧ True) ∧ (decide (y.n (91024 : Nat) < (↑n : Int)) = false → ((y.n (33 : Nat) != (↑(y.n (91004 :
      Nat)).toNat : Int)) = true → ([] : SW) = [] ∧ True ∧ false = true) ∧ ((y.n (33 : Nat) != (↑(y.n (91004 : Nat)).toNat : Int)) = false → t3_td E = t3_td E ∧ (111 : Nat) =
      (111 : Nat) ∧ (True ∧ True ∧ True ∧ (((0 : Int) ≤ (↑(y.n (91004 : Nat)).toNat : Int) ∧ (↑(y.n (91004 : Nat)).toNat : Int) ≤ (32 : Int)) ∧ True) ∧ (((0 : Int) ≤ (0 : Int) ∧
      (0 : Int) ≤ (32 : Int)) ∧ True) ∧ True) ∧ ((68 : Nat) = (68 : Nat) ∧ (((0 : Int) ≤ y.n (33 : Nat) ∧ y.n (33 : Nat) ≤ (32 : Int)) ∧ ((-128 : Int) ≤ y.n (34 : Nat) ∧ y.n (34
      : Nat) ≤ (127 : Int)) ∧ ((0 : Int) ≤ y.n (73 : Nat) ∧ y.n (73 : Nat) ≤ (10000000 : Int)) ∧ True) ∧ (57 : Nat) = (57 : Nat) ∧ (flat [Sp.i IntKind.i8] = true ∧ Row [Sp.i
      IntKind.i8] (y.l (1 : Nat))) ∧ (84 : Nat) = (84 : Nat) ∧ (((0 : Int) ≤ y.n (200000 : Nat) ∧ y.n (200000 : Nat) ≤ (10000000 : Int)) ∧ True) ∧ (60 : Nat) = (60 : Nat) ∧
      (flat [Sp.i IntKind.i16, Sp.i IntKind.i16] = true ∧ Row [Sp.i IntKind.i16, Sp.i IntKind.i16] (y.l (3 : Nat))) ∧
      (741991204937588471353107210173517385893522847741378461052633880361214601735917472982278721692919759636892846595991201096475255940853038949688016010326287086087990634635853824
      : Nat) =
      (741991204937588471353107210173517385893522847741378461052633880361214601735917472982278721692919759636892846595991201096475255940853038949688016010326287086087990634635853824
      : Nat) ∧ ([] : SW) = []) ∧ ((WD (y.l (1 : Nat)) (0 : Int) (y.n (33 : Nat)) [y.n (1 : Nat), y.n (2 : Nat), y.n (3 : Nat), y.n (4 : Nat), y.n (5 : Nat), y.n (6 : Nat), y.n
      (7 : Nat), y.n (8 : Nat), y.n (9 : Nat), y.n (10 : Nat), y.n (11 : Nat), y.n (12 : Nat), y.n (13 : Nat), y.n (14 : Nat), y.n (15 : Nat), y.n (16 : Nat), y.n (17 : Nat),
      y.n (18 : Nat), y.n (19 : Nat), y.n (20 : Nat), y.n (21 : Nat), y.n (22 : Nat), y.n (23 : Nat), y.n (24 : Nat), y.n (25 : Nat), y.n (26 : Nat), y.n (27 : Nat), y.n (28 :
      Nat), y.n (29 : Nat), y.n (30 : Nat), y.n (31 : Nat), y.n (32 : Nat)] ∧ y.n (33 : Nat) = (↑(y.n (91004 : Nat)).toNat : Int) - (0 : Int) ∧ (↑(y.n (91004 : Nat)).toNat :
      Int) = (↑(y.n (91004 : Nat)).toNat : Int) ∧ (↑(y.n (91004 : Nat)).toNat : Int) = (↑(y.n (91004 : Nat)).toNat : Int)) ∧ y.n (73 : Nat) = (512 : Int) * (0 : Int) ∧ (↑(y.n
      (74 : Nat)).toNat : Int) = (0 : Int) ∧ Ln (y.l (1 : Nat)) (↑(y.n (91004 : Nat)).toNat : Int) ∧ (0 : Int) ≤ (↑(y.n (91004 : Nat)).toNat : Int)) ∧ ((33 : Int) - (0 :
      Int)).toNat < ((200 : Int) - y.n (91024 : Nat) * (6 : Int)).toNat + (1000 : Nat) ∧ True))) := by kernel_rfl
set_option maxHeartbeats 8000000 in
theorem law_q0 (E : World) (a : Option Addr) (n m : Nat) (z : PX) (hp : (fun _ => eRows E a n 1 [.i .u32] = true ∧ (n = 0 ∨ a.isSome = true)) z) (y : PX) (hy1 : rgM y [mT 2 3, rowW, mP 4, rowT, mO] 0) (hy2 : rgF y [(0, .q (.es a n m)), (3, .c (.p 0 0)), (4, .v 1 1), (22, .q (.es a n m)), (23, .q (.i false .i64 (n : Int))), (24, .r .i64 (0) (20))]) (hy3 : (fun y => (WB (y.l 1) (y.n 33) [y.n 1, y.n 2, y.n 3, y.n 4, y.n 5, y.n 6, y.n 7, y.n 8, y.n 9, y.n 10, y.n 11, y.n 12, y.n 13, y.n 14, y.n 15, y.n 16, y.n 17, y.n 18, y.n 19, y.n 20, y.n 21, y.n 22, y.n 23, y.n 24, y.n 25, y.n 26, y.n 27, y.n 28, y.n 29, y.n 30, y.n 31, y.n 32] ∧ y.n 91004 = m5 (4 * y.n 91024) ∧ y.n 33 = m5 (4 * y.n 91024)) ∧ (y.n 73 = 0 ∧ y.n 74 = 0 ∧ Ln (y.l 1) (y.n 91004)) ∧ y.n 91024 ≤ (n : Int) ∧ (n : Int) ≤ 20) y) : Holds ((run (pe E) (orcQ E) (tabL fns) 20000 (2 ^ 200 - 1) (t1_td E) (mkL Try.f4.ntmps (slC y [(0, .q (.es a n m)), (3, .c (.p 0 0)), (4, .v 1 1), (22, .q (.es a n m)), (23, .q (.i false .i64 (n : Int))), (24, .r .i64 (0) (20))])) (mkM y [] [mT 2 3, rowW, mP 4, rowT, mO] 0)).OK (lfP (pe E) Try.f4 (endR ([] : List MB).length [] (.c .b) (fun z y => y.b 90000 = true) z) (headR ([] : List MB).length Try.f4.ntmps (some ((fun y => (200 - y.n 91024 * 6).toNat + 1000) y)) (law_hs E a n m z)))) := by
  refine loopP_lfH ⟨?_⟩
  rw [law_r0]
  have hf : True ∧ True ∧ (0 ≤ y.n 91004 ∧ True) ∧ True ∧ True ∧ (((0) ≤ y.n 91024 ∧ y.n 91024 ≤ (20)) ∧ True) ∧ True := hy2
  obtain ⟨_, _, ⟨g4, _⟩, _, _, ⟨g24, _⟩, _⟩ := hf
  obtain ⟨⟨hW, hL1, h33⟩, ⟨h73, h74, hLn⟩, hin, hn20⟩ := hy3
  obtain ⟨hr, hs⟩ := hp
  obtain ⟨u33, u34, u73, u74, _⟩ : (0 ≤ y.n 33 ∧ y.n 33 ≤ 32) ∧ (-128 ≤ y.n 34 ∧ y.n 34 ≤ 127) ∧ (0 ≤ y.n 73 ∧ y.n 73 ≤ 10000000) ∧ 0 ≤ y.n 74 ∧ True := hy1.1
  have hRW : Row [.i .i8] (y.l 1) := hy1.2.1.2
  have hP : (0 ≤ y.n 200000 ∧ y.n 200000 ≤ 10000000) ∧ True := hy1.2.2.1
  have hR : Row [.i .i16, .i .i16] (y.l 3) := hy1.2.2.2.1.2
  have T1 : ((y.n 74).toNat : Int) = y.n 74 := Int.toNat_of_nonneg u74
  have T4 : ((y.n 91004).toNat : Int) = y.n 91004 := Int.toNat_of_nonneg g4
  have hf : flat [Sp.i .i16, Sp.i .i16] = true := rfl
  have hfw : flat [Sp.i .i8] = true := rfl
  have hl := hLn.e
  simp only [T1, T4]
  refine ⟨fun h => ?_, fun h => ⟨fun h2 => ?_, fun h2 => ?_⟩⟩
  · have h := of_decide_eq_true h
    have hinB : inB (y.n 91024) n = true := by simp only [inB, Bool.and_eq_true, decide_eq_true_eq]; omega
    have hsm : a.isSome = true := by rcases hs with hs | hs
                                     · exfalso; omega
                                     · exact hs
    have her : eRow E a ((y.n 91024).toNat * 1 + 0) [EK.i .u32] = true := List.all_eq_true.1 hr (y.n 91024).toNat (List.mem_range.2 (by omega))
    have hx := bounds_u32 (eOk_int (eRow_get _ _ 0 (EK.i .u32) her rfl))
    have hx : 0 ≤ eI E a ((y.n 91024).toNat * 1 + 0) ∧ eI E a ((y.n 91024).toNat * 1 + 0) ≤ 4294967295 := hx
    refine ⟨hinB, hsm, her, by ((repeat' (first | exact trivial | with_reducible rfl | assumption | exact decide_eq_true rfl | exact sameB_self _ | exact rfl | apply And.intro)) <;> omega), ?_⟩
    rintro y1 ⟨⟨hx1, hx2, ⟨_, hx3⟩, _⟩, _, ⟨hFD, e33⟩, e34, e73, e74⟩
    obtain ⟨u33b, u34b, u73b, u74b, _⟩ : (0 ≤ y1.n 33 ∧ y1.n 33 ≤ 32) ∧ (-128 ≤ y1.n 34 ∧ y1.n 34 ≤ 127) ∧ (0 ≤ y1.n 73 ∧ y1.n 73 ≤ 10000000) ∧ 0 ≤ y1.n 74 ∧ True := hx1
    have T1b : ((y1.n 74).toNat : Int) = y1.n 74 := Int.toNat_of_nonneg u74b
    have e33' : y1.n 33 = m5 (4 * y.n 91024 + 4) := by rw [m5_4, ← h33]; exact e33
    obtain ⟨f0, f1, f2, f3, f4, f5, f6, f7, f8, f9, f10, f11, f12, f13, f14, f15, f16, f17, f18, f19, f20, f21, f22, f23, f24, f25, f26, f27, f28, f29, f30, f31, _⟩ := hFD
    obtain ⟨b0, b1, b2, b3, b4, b5, b6, b7, b8, b9, b10, b11, b12, b13, b14, b15, b16, b17, b18, b19, b20, b21, b22, b23, b24, b25, b26, b27, b28, b29, b30, b31, _⟩ := hW
    have hle : y1.n 33 ≤ y.n 33 + 4 := by rw [e33]; split <;> omega
    have hWC : WC (y.l 1) (y.n 91004) (y1.n 33) (4 * y.n 91024) (eI E a ((y.n 91024).toNat * 1 + 0)) [y1.n 1, y1.n 2, y1.n 3, y1.n 4, y1.n 5, y1.n 6, y1.n 7, y1.n 8, y1.n 9, y1.n 10, y1.n 11, y1.n 12, y1.n 13, y1.n 14, y1.n 15, y1.n 16, y1.n 17, y1.n 18, y1.n 19, y1.n 20, y1.n 21, y1.n 22, y1.n 23, y1.n 24, y1.n 25, y1.n 26, y1.n 27, y1.n 28, y1.n 29, y1.n 30, y1.n 31, y1.n 32] := And.intro (wc_1 (j := 0) b0 f0 (hL1.trans h33.symm) h33 hle (by decide)) <| And.intro (wc_1 (j := 1) b1 f1 (hL1.trans h33.symm) h33 hle (by decide)) <| And.intro (wc_1 (j := 2) b2 f2 (hL1.trans h33.symm) h33 hle (by decide)) <| And.intro (wc_1 (j := 3) b3 f3 (hL1.trans h33.symm) h33 hle (by decide)) <| And.intro (wc_1 (j := 4) b4 f4 (hL1.trans h33.symm) h33 hle (by decide)) <| And.intro (wc_1 (j := 5) b5 f5 (hL1.trans h33.symm) h33 hle (by decide)) <| And.intro (wc_1 (j := 6) b6 f6 (hL1.trans h33.symm) h33 hle (by decide)) <| And.intro (wc_1 (j := 7) b7 f7 (hL1.trans h33.symm) h33 hle (by decide)) <| And.intro (wc_1 (j := 8) b8 f8 (hL1.trans h33.symm) h33 hle (by decide)) <| And.intro (wc_1 (j := 9) b9 f9 (hL1.trans h33.symm) h33 hle (by decide)) <| And.intro (wc_1 (j := 10) b10 f10 (hL1.trans h33.symm) h33 hle (by decide)) <| And.intro (wc_1 (j := 11) b11 f11 (hL1.trans h33.symm) h33 hle (by decide)) <| And.intro (wc_1 (j := 12) b12 f12 (hL1.trans h33.symm) h33 hle (by decide)) <| And.intro (wc_1 (j := 13) b13 f13 (hL1.trans h33.symm) h33 hle (by decide)) <| And.intro (wc_1 (j := 14) b14 f14 (hL1.trans h33.symm) h33 hle (by decide)) <| And.intro (wc_1 (j := 15) b15 f15 (hL1.trans h33.symm) h33 hle (by decide)) <| And.intro (wc_1 (j := 16) b16 f16 (hL1.trans h33.symm) h33 hle (by decide)) <| And.intro (wc_1 (j := 17) b17 f17 (hL1.trans h33.symm) h33 hle (by decide)) <| And.intro (wc_1 (j := 18) b18 f18 (hL1.trans h33.symm) h33 hle (by decide)) <| And.intro (wc_1 (j := 19) b19 f19 (hL1.trans h33.symm) h33 hle (by decide)) <| And.intro (wc_1 (j := 20) b20 f20 (hL1.trans h33.symm) h33 hle (by decide)) <| And.intro (wc_1 (j := 21) b21 f21 (hL1.trans h33.symm) h33 hle (by decide)) <| And.intro (wc_1 (j := 22) b22 f22 (hL1.trans h33.symm) h33 hle (by decide)) <| And.intro (wc_1 (j := 23) b23 f23 (hL1.trans h33.symm) h33 hle (by decide)) <| And.intro (wc_1 (j := 24) b24 f24 (hL1.trans h33.symm) h33 hle (by decide)) <| And.intro (wc_1 (j := 25) b25 f25 (hL1.trans h33.symm) h33 hle (by decide)) <| And.intro (wc_1 (j := 26) b26 f26 (hL1.trans h33.symm) h33 hle (by decide)) <| And.intro (wc_1 (j := 27) b27 f27 (hL1.trans h33.symm) h33 hle (by decide)) <| And.intro (wc_1 (j := 28) b28 f28 (hL1.trans h33.symm) h33 hle (by decide)) <| And.intro (wc_1 (j := 29) b29 f29 (hL1.trans h33.symm) h33 hle (by decide)) <| And.intro (wc_1 (j := 30) b30 f30 (hL1.trans h33.symm) h33 hle (by decide)) <| And.intro (wc_1 (j := 31) b31 f31 (hL1.trans h33.symm) h33 hle (by decide)) <| trivial
    have hL0 : y.n 91004 = m5 (4 * y.n 91024 + 0) := by rw [Int.add_zero]; exact hL1
    simp only [T1b]
    ((repeat' (first | exact trivial | with_reducible rfl | assumption | exact decide_eq_true rfl | exact sameB_self _ | exact rfl | apply And.intro)) <;> omega)
  · exfalso; rw [hL1, ← h33] at h2; simp at h2
  · have h := of_decide_eq_false h
    obtain ⟨b0, b1, b2, b3, b4, b5, b6, b7, b8, b9, b10, b11, b12, b13, b14, b15, b16, b17, b18, b19, b20, b21, b22, b23, b24, b25, b26, b27, b28, b29, b30, b31, _⟩ := hW
    have hWD : WD (y.l 1) 0 (y.n 33) [y.n 1, y.n 2, y.n 3, y.n 4, y.n 5, y.n 6, y.n 7, y.n 8, y.n 9, y.n 10, y.n 11, y.n 12, y.n 13, y.n 14, y.n 15, y.n 16, y.n 17, y.n 18, y.n 19, y.n 20, y.n 21, y.n 22, y.n 23, y.n 24, y.n 25, y.n 26, y.n 27, y.n 28, y.n 29, y.n 30, y.n 31, y.n 32] := And.intro (wd_0 (j := 0) b0) <| And.intro (wd_0 (j := 1) b1) <| And.intro (wd_0 (j := 2) b2) <| And.intro (wd_0 (j := 3) b3) <| And.intro (wd_0 (j := 4) b4) <| And.intro (wd_0 (j := 5) b5) <| And.intro (wd_0 (j := 6) b6) <| And.intro (wd_0 (j := 7) b7) <| And.intro (wd_0 (j := 8) b8) <| And.intro (wd_0 (j := 9) b9) <| And.intro (wd_0 (j := 10) b10) <| And.intro (wd_0 (j := 11) b11) <| And.intro (wd_0 (j := 12) b12) <| And.intro (wd_0 (j := 13) b13) <| And.intro (wd_0 (j := 14) b14) <| And.intro (wd_0 (j := 15) b15) <| And.intro (wd_0 (j := 16) b16) <| And.intro (wd_0 (j := 17) b17) <| And.intro (wd_0 (j := 18) b18) <| And.intro (wd_0 (j := 19) b19) <| And.intro (wd_0 (j := 20) b20) <| And.intro (wd_0 (j := 21) b21) <| And.intro (wd_0 (j := 22) b22) <| And.intro (wd_0 (j := 23) b23) <| And.intro (wd_0 (j := 24) b24) <| And.intro (wd_0 (j := 25) b25) <| And.intro (wd_0 (j := 26) b26) <| And.intro (wd_0 (j := 27) b27) <| And.intro (wd_0 (j := 28) b28) <| And.intro (wd_0 (j := 29) b29) <| And.intro (wd_0 (j := 30) b30) <| And.intro (wd_0 (j := 31) b31) <| trivial
    have hm : y.n 91004 ≤ 32 := by rw [hL1]; unfold m5; split <;> omega
    have he : y.n 33 = y.n 91004 := by rw [h33, hL1]
    ((repeat' (first | exact trivial | with_reducible rfl | assumption | exact decide_eq_true rfl | exact sameB_self _ | exact rfl | apply And.intro)) <;> omega)
end Go.Proofs.Ytkeinfmfkcgkhaa

