import Derived.Test.YtkeinfmfkcgkhaaTE
set_option linter.unusedVariables false
set_option linter.unusedSimpArgs false
namespace Go.Proofs.Ytkeinfmfkcgkhaa
open Go Go.Proofs Go.Proofs.Ytkeinfmfkcgkhaa.Ev Go.Proofs.Ytkeinfmfkcgkhaa.Ev.Ho
set_option maxRecDepth 100000
theorem ovt_p (E : World) (z : PX) (w : Int) :
    (hdP ([mT 1 2, mP 3, rowT, mO] : List MB).length [mT 1 4, mP 3, .g HOLE, mO, rowT] (.c (.r .i64 2 3)) (fun z y => (SH (z.n 33) [z.n 1, z.n 2, z.n 3, z.n 4, z.n 5, z.n 6, z.n 7, z.n 8, z.n 9, z.n 10, z.n 11, z.n 12, z.n 13, z.n 14, z.n 15, z.n 16, z.n 17, z.n 18, z.n 19, z.n 20, z.n 21, z.n 22, z.n 23, z.n 24, z.n 25, z.n 26, z.n 27, z.n 28, z.n 29, z.n 30, z.n 31, z.n 32] [y.n 1, y.n 2, y.n 3, y.n 4, y.n 5, y.n 6, y.n 7, y.n 8, y.n 9, y.n 10, y.n 11, y.n 12, y.n 13, y.n 14, y.n 15, y.n 16, y.n 17, y.n 18, y.n 19, y.n 20, y.n 21, y.n 22, y.n 23, y.n 24, y.n 25, y.n 26, y.n 27, y.n 28, y.n 29, y.n 30, y.n 31, y.n 32] ∧ y.n 33 = z.n 33 - 1 ∧ y.n 34 = IntKind.i8.wrap (z.n 1)) ∧ y.n 73 = z.n 73 ∧ y.n 74 = 0 ∧ y.n 90000 = if z.n 33 - 1 ≤ 16 then 3 else 2) z (fnTree (pe E) (orcP E) (tabL fns) 20000 Try.f19 [.c (.p 0 0), .c (.i false .i64 w), .c (.i true .i64 0)] (mkM z [] [mT 1 2, mP 3, rowT, mO] 0))) =
    ((((68 : Nat) = (68 : Nat) ∧ (((0 : Int) ≤ z.n (33 : Nat) ∧ z.n (33 : Nat) ≤ (32 : Int)) ∧ ((-128 : Int) ≤ z.n (34 : Nat) ∧ z.n (34 : Nat) ≤ (127 : Int)) ∧ ((0 : Int) ≤ z.n
      (73 : Nat) ∧ z.n (73 : Nat) ≤ (10000000 : Int)) ∧ True) ∧ (84 : Nat) = (84 : Nat) ∧ (((0 : Int) ≤ z.n (100000 : Nat) ∧ z.n (100000 : Nat) ≤ (10000000 : Int)) ∧ True) ∧ (60
      : Nat) = (60 : Nat) ∧ (flat [Sp.i IntKind.i16, Sp.i IntKind.i16] = true ∧ Row [Sp.i IntKind.i16, Sp.i IntKind.i16] (z.l (2 : Nat))) ∧
      (741991204937588471353107210173517385893522847741378461052633880361214601735917472982278721692919759636892846595991201096475255940853038949688016010326287086087990634635853824
      : Nat) =
      (741991204937588471353107210173517385893522847741378461052633880361214601735917472982278721692919759636892846595991201096475255940853038949688016010326287086087990634635853824
      : Nat) ∧ ([] : SW) = []) ∧ (↑(z.n (74 : Nat)).toNat : Int) = (0 : Int) ∧ (w ≤ z.n (73 : Nat) + (512 : Int) ∧ z.n (73 : Nat) ≤ w ∧ (w - z.n (73 : Nat)) % (512 : Int) = (0 :
      Int)) ∧ z.n (73 : Nat) % (512 : Int) = (0 : Int) ∧ w ≤ (1000000 : Int)) ∧ ∀ (y : PX), ((((0 : Int) ≤ y.n (33 : Nat) ∧ y.n (33 : Nat) ≤ (32 : Int)) ∧ ((-128 : Int) ≤ y.n
      (34 : Nat) ∧ y.n (34 : Nat) ≤ (127 : Int)) ∧ ((0 : Int) ≤ y.n (73 : Nat) ∧ y.n (73 : Nat) ≤ (10000000 : Int)) ∧ (0 : Int) ≤ y.n (74 : Nat) ∧ True) ∧ (((0 : Int) ≤ y.n
      (100000 : Nat) ∧ y.n (100000 : Nat) ≤ (10000000 : Int)) ∧ True) ∧ (flat [Sp.i IntKind.i16, Sp.i IntKind.i16] = true ∧ Row [Sp.i IntKind.i16, Sp.i IntKind.i16] (y.l (4 :
      Nat))) ∧ True) ∧ True ∧ (EQ [z.n (1 : Nat), z.n (2 : Nat), z.n (3 : Nat), z.n (4 : Nat), z.n (5 : Nat), z.n (6 : Nat), z.n (7 : Nat), z.n (8 : Nat), z.n (9 : Nat), z.n (10
      : Nat), z.n (11 : Nat), z.n (12 : Nat), z.n (13 : Nat), z.n (14 : Nat), z.n (15 : Nat), z.n (16 : Nat), z.n (17 : Nat), z.n (18 : Nat), z.n (19 : Nat), z.n (20 : Nat), z.n
      (21 : Nat), z.n (22 : Nat), z.n (23 : Nat), z.n (24 : Nat), z.n (25 : Nat), z.n (26 : Nat), z.n (27 : Nat), z.n (28 : Nat), z.n (29 : Nat), z.n (30 : Nat), z.n (31 : Nat),
      z.n (32 : Nat)] [y.n (1 : Nat), y.n (2 : Nat), y.n (3 : Nat), y.n (4 : Nat), y.n (5 : Nat), y.n (6 : Nat), y.n (7 : Nat), y.n (8 : Nat), y.n (9 : Nat), y.n (10 : Nat), y.n
      (11 : Nat), y.n (12 : Nat), y.n (13 : Nat), y.n (14 : Nat), y.n (15 : Nat), y.n (16 : Nat), y.n (17 : Nat), y.n (18 : Nat), y.n (19 : Nat), y.n (20 : Nat), y.n (21 : Nat),
      y.n (22 : Nat), y.n (23 : Nat), y.n (24 : Nat), y.n (25 : Nat), y.n (26 : Nat), y.n (27 : Nat), y.n (28 : Nat), y.n (29 : Nat), y.n (30 : Nat), y.n (31 : Nat), y.n (32 :
      Nat)] ∧ y.n (33 : Nat) = z.n (33 : Nat) ∧ y.n (34 : Nat) = z.n (34 : Nat) ∧ y.n (73 : Nat) = w) ∧ (w = z.n (73 : Nat) → y.n (74 : Nat) = (0 : Int)) ∧ (w = z.n (73 : Nat) +
      (512 : Int) → y.n (74 : Nat) = (1 : Int) ∧ Smp (y.l (4 : Nat)) ((128 : Int) * y.n (34 : Nat))) → (((68 : Nat) = (68 : Nat) ∧ (((0 : Int) ≤ y.n (33 : Nat) ∧ y.n (33 : Nat)
      ≤ (32 : Int)) ∧ ((-128 : Int) ≤ y.n (34 : Nat) ∧ y.n (34 : Nat) ≤ (127 : Int)) ∧ ((0 : Int) ≤ y.n (73 : Nat) ∧ y.n (73 : Nat) ≤ (10000000 : Int)) ∧ True) ∧ (84 : Nat) =
      (84 : Nat) ∧ (((0 : Int) ≤ y.n (100000 : Nat) ∧ y.n (100000 : Nat) ≤ (10000000 : Int)) ∧ True) ∧ (60 : Nat) = (60 : Nat) ∧ (flat [Sp.i IntKind.i16, Sp.i IntKind.i16] =
      true ∧ Row [Sp.i IntKind.i16, Sp.i IntKind.i16] (y.l (4 : Nat))) ∧
      (741991204937588471353107210173517385893522847741378461052633880361214601735917472982278721692919759636892846595991201096475255940853038949688016010326287086087990634635853824
      : Nat) =
      (741991204937588471353107210173517385893522847741378461052633880361214601735917472982278721692919759636892846595991201096475255940853038949688016010326287086087990634635853824
      : Nat) ∧ ([] : SW) = []) ∧ True) ∧ ∀ (y_1 : PX), ((((0 : Int) ≤ y_1.n (33 : Nat) ∧ y_1.n (33 : Nat) ≤ (32 : Int)) ∧ ((-128 : Int) ≤ y_1.n (34 : Nat) ∧ y_1.n (34 : Nat) ≤
      (127 : Int)) ∧ ((0 : Int) ≤ y_1.n (73 : Nat) ∧ y_1.n (73 : Nat) ≤ (10000000 : Int)) ∧ (0 : Int) ≤ y_1.n (74 : Nat) ∧ True) ∧ (((0 : Int) ≤ y_1.n (100000 : Nat) ∧ y_1.n
      (100000 : Nat) ≤ (10000000 : Int)) ∧ True) ∧ (flat [Sp.i IntKind.i16, Sp.i IntKind.i16] = true ∧ Row [Sp.i IntKind.i16, Sp.i IntKind.i16] (y_1.l (2 : Nat))) ∧ True) ∧ True
      ∧ (SH (y.n (33 : Nat)) [y.n (1 : Nat), y.n (2 : Nat), y.n (3 : Nat), y.n (4 : Nat), y.n (5 : Nat), y.n (6 : Nat), y.n (7 : Nat), y.n (8 : Nat), y.n (9 : Nat), y.n (10 :
      Nat), y.n (11 : Nat), y.n (12 : Nat), y.n (13 : Nat), y.n (14 : Nat), y.n (15 : Nat), y.n (16 : Nat), y.n (17 : Nat), y.n (18 : Nat), y.n (19 : Nat), y.n (20 : Nat), y.n
      (21 : Nat), y.n (22 : Nat), y.n (23 : Nat), y.n (24 : Nat), y.n (25 : Nat), y.n (26 : Nat), y.n (27 : Nat), y.n (28 : Nat), y.n (29 : Nat), y.n (30 : Nat), y.n (31 : Nat),
      y.n (32 : Nat)] [y_1.n (1 : Nat), y_1.n (2 : Nat), y_1.n (3 : Nat), y_1.n (4 : Nat), y_1.n (5 : Nat), y_1.n (6 : Nat), y_1.n (7 : Nat), y_1.n (8 : Nat), y_1.n (9 : Nat),
      y_1.n (10 : Nat), y_1.n (11 : Nat), y_1.n (12 : Nat), y_1.n (13 : Nat), y_1.n (14 : Nat), y_1.n (15 : Nat), y_1.n (16 : Nat), y_1.n (17 : Nat), y_1.n (18 : Nat), y_1.n (19
      : Nat), y_1.n (20 : Nat), y_1.n (21 : Nat), y_1.n (22 : Nat), y_1.n (23 : Nat), y_1.n (24 : Nat), y_1.n (25 : Nat), y_1.n (26 : Nat), y_1.n (27 : Nat), y_1.n (28 : Nat),
      y_1.n (29 : Nat), y_1.n (30 : Nat), y_1.n (31 : Nat), y_1.n (32 : Nat)] ∧ (y_1.n (33 : Nat) = if y.n (33 : Nat) = (0 : Int) then (0 : Int) else y.n (33 : Nat) - (1 : Int))
      ∧ y_1.n (34 : Nat) = if y.n (33 : Nat) = (0 : Int) then y.n (34 : Nat) else IntKind.i8.wrap (y.n (1 : Nat))) ∧ y_1.n (73 : Nat) = y.n (73 : Nat) ∧ y_1.n (74 : Nat) =
      (↑(y.n (74 : Nat)).toNat : Int) → ((68 : Nat) = (68 : Nat) ∧ (((0 : Int) ≤ y_1.n (33 : Nat) ∧ y_1.n (33 : Nat) ≤ (32 : Int)) ∧ ((-128 : Int) ≤ y_1.n (34 : Nat) ∧ y_1.n (34
      : Nat) ≤ (127 : Int)) ∧ ((0 : Int) ≤ y_1.n (73 : Nat) ∧ y_1.n (73 : Nat) ≤ (10000000 : Int)) ∧ True) ∧ (84 : Nat) = (84 : Nat) ∧ (((0 : Int) ≤ y_1.n (100000 : Nat) ∧ y_1.n
      (100000 : Nat) ≤ (10000000 : Int)) ∧ True) ∧ (4294967295 : Nat) = (4294967295 : Nat) ∧
      (741991204937588471353107210173517385893522847741378461052633880361214601735917472982278721692919759636892846595991201096475255940853038949688016010326287086087990634635853824
      : Nat) =
      (741991204937588471353107210173517385893522847741378461052633880361214601735917472982278721692919759636892846595991201096475255940853038949688016010326287086087990634635853824
      : Nat) ∧ (60 : Nat) = (60 : Nat) ∧ (flat [Sp.i IntKind.i16, Sp.i IntKind.i16] = true ∧ Row [Sp.i IntKind.i16, Sp.i IntKind.i16] (y_1.l (2 : Nat))) ∧ ([] : SW) = []) ∧ (((2
      : Int) ≤ bits BinOp.or IntKind.i64 (bif decide (y_1.n (33 : Nat) ≤ (16 : Int)) then (1 : Int) else (0 : Int)) (2 : Int) ∧ bits BinOp.or IntKind.i64 (bif decide (y_1.n (33
      : Nat) ≤ (16 : Int)) then (1 : Int) else (0 : Int)) (2 : Int) ≤ (3 : Int)) ∧ True) ∧ (SH (z.n (33 : Nat)) [z.n (1 : Nat), z.n (2 : Nat), z.n (3 : Nat), z.n (4 : Nat), z.n
      (5 : Nat), z.n (6 : Nat), z.n (7 : Nat), z.n (8 : Nat), z.n (9 : Nat), z.n (10 : Nat), z.n (11 : Nat), z.n (12 : Nat), z.n (13 : Nat), z.n (14 : Nat), z.n (15 : Nat), z.n
      (16 : Nat), z.n (17 : Nat), z.n (18 : Nat), z.n (19 : Nat), z.n (20 : Nat), z.n (21 : Nat), z.n (22 : Nat), z.n (23 : Nat), z.n (24 : Nat), z.n (25 : Nat), z.n (26 : Nat),
      z.n (27 : Nat), z.n (28 : Nat), z.n (29 : Nat), z.n (30 : Nat), z.n (31 : Nat), z.n (32 : Nat)] [y_1.n (1 : Nat), y_1.n (2 : Nat), y_1.n (3 : Nat), y_1.n (4 : Nat), y_1.n
      (5 : Nat), y_1.n (6 : Nat), y_1.n (7 : Nat), y_1.n (8 : Nat), y_1.n (9 : Nat), y_1.n (10 : Nat), y_1.n (11 : Nat), y_1.n (12 : Nat), y_1.n (13 : Nat), y_1.n (14 : Nat),
      y_1.n (15 : Nat), y_1.n (16 : Nat), y_1.n (17 : Nat), y_1.n (18 : Nat), y_1.n (19 : Nat), y_1.n (20 : Nat), y_1.n (21 : Nat), y_1.n (22 : Nat), y_1.n (23 : Nat), y_1.n (24
      : Nat), y_1.n (25 : Nat), y_1.n (26 : Nat), y_1.n (27 : Nat), y_1.n (28 : Nat), y_1.n (29 : Nat), y_1.n (30 : Nat), y_1.n (31 : Nat), y_1.n (32 : Nat)] ∧ y_1.n (33 : Nat)
      = z.n (33 : Nat) - (1 : Int) ∧ y_1.n (34 : Nat) = IntKind.i8.wrap (z.n (1 : Nat))) ∧ y_1.n (73 : Nat) = z.n (73 : Nat) ∧ (↑(y_1.n (74 : Nat)).toNat : Int) = (0 : Int) ∧
      bits BinOp.or IntKind.i64 (bif decide (y_1.n (33 : Nat) ≤ (16 : Int)) then (1 : Int) else (0 : Int)) (2 : Int) = if z.n (33 : Nat) - (1 : Int) ≤ (16 : Int) then (3 : Int)
      else (2 : Int)) := by kernel_rfl
set_option maxHeartbeats 4000000 in
theorem ovt_c (E : World) (w : Int) (z : PX) (hz : rgM z [mT 1 2, mP 3, rowT, mO] 0) (hp : (fun z => z.n 74 = 0 ∧ w = z.n 73 ∧ z.n 73 % 512 = 0 ∧ w ≤ 1000000 ∧ 1 ≤ z.n 33) z) : HD (pe E) 19 [.c (.p 0 0), .c (.i false .i64 w), .c (.i true .i64 0)] [mT 1 2, mP 3, rowT, mO] [mT 1 4, mP 3, .g HOLE, mO, rowT] (.c (.r .i64 2 3)) (fun z y => (SH (z.n 33) [z.n 1, z.n 2, z.n 3, z.n 4, z.n 5, z.n 6, z.n 7, z.n 8, z.n 9, z.n 10, z.n 11, z.n 12, z.n 13, z.n 14, z.n 15, z.n 16, z.n 17, z.n 18, z.n 19, z.n 20, z.n 21, z.n 22, z.n 23, z.n 24, z.n 25, z.n 26, z.n 27, z.n 28, z.n 29, z.n 30, z.n 31, z.n 32] [y.n 1, y.n 2, y.n 3, y.n 4, y.n 5, y.n 6, y.n 7, y.n 8, y.n 9, y.n 10, y.n 11, y.n 12, y.n 13, y.n 14, y.n 15, y.n 16, y.n 17, y.n 18, y.n 19, y.n 20, y.n 21, y.n 22, y.n 23, y.n 24, y.n 25, y.n 26, y.n 27, y.n 28, y.n 29, y.n 30, y.n 31, y.n 32] ∧ y.n 33 = z.n 33 - 1 ∧ y.n 34 = IntKind.i8.wrap (z.n 1)) ∧ y.n 73 = z.n 73 ∧ y.n 74 = 0 ∧ y.n 90000 = if z.n 33 - 1 ≤ 16 then 3 else 2) z := by
  refine HD.mk (by rfl) (fnTree_sound (P := pe E) orcP_ok tab_ok tab_sz mixed 20000 Try.func19 (by decide) [.c (.p 0 0), .c (.i false .i64 w), .c (.i true .i64 0)] _) ⟨?_⟩
  rw [ovt_p]
  obtain ⟨n0, hw, hm, hw1, h33⟩ := hp
  obtain ⟨u33, u34, u73, u74, _⟩ : (0 ≤ z.n 33 ∧ z.n 33 ≤ 32) ∧ (-128 ≤ z.n 34 ∧ z.n 34 ≤ 127) ∧ (0 ≤ z.n 73 ∧ z.n 73 ≤ 10000000) ∧ 0 ≤ z.n 74 ∧ True := hz.1
  have hP : (0 ≤ z.n 100000 ∧ z.n 100000 ≤ 10000000) ∧ True := hz.2.1
  have hR : Row [.i .i16, .i .i16] (z.l 2) := hz.2.2.1.2
  have T1 : ((z.n 74).toNat : Int) = z.n 74 := Int.toNat_of_nonneg u74
  have hf : flat [Sp.i .i16, Sp.i .i16] = true := rfl
  simp only [T1]
  refine ⟨by ((repeat' (first | exact trivial | with_reducible rfl | assumption | exact decide_eq_true rfl | exact sameB_self _ | exact rfl | apply And.intro | intro _)) <;> omega), ?_⟩
  rintro y ⟨⟨hy1, hy2, ⟨_, hy3⟩, _⟩, _, ⟨hE, e33, e34, e73⟩, hy0, _⟩
  obtain ⟨u33y, u34y, u73y, u74y, _⟩ : (0 ≤ y.n 33 ∧ y.n 33 ≤ 32) ∧ (-128 ≤ y.n 34 ∧ y.n 34 ≤ 127) ∧ (0 ≤ y.n 73 ∧ y.n 73 ≤ 10000000) ∧ 0 ≤ y.n 74 ∧ True := hy1
  obtain ⟨q0, q1, q2, q3, q4, q5, q6, q7, q8, q9, q10, q11, q12, q13, q14, q15, q16, q17, q18, q19, q20, q21, q22, q23, q24, q25, q26, q27, q28, q29, q30, q31, _⟩ : (y.n 1 = z.n 1 ∧ y.n 2 = z.n 2 ∧ y.n 3 = z.n 3 ∧ y.n 4 = z.n 4 ∧ y.n 5 = z.n 5 ∧ y.n 6 = z.n 6 ∧ y.n 7 = z.n 7 ∧ y.n 8 = z.n 8 ∧ y.n 9 = z.n 9 ∧ y.n 10 = z.n 10 ∧ y.n 11 = z.n 11 ∧ y.n 12 = z.n 12 ∧ y.n 13 = z.n 13 ∧ y.n 14 = z.n 14 ∧ y.n 15 = z.n 15 ∧ y.n 16 = z.n 16 ∧ y.n 17 = z.n 17 ∧ y.n 18 = z.n 18 ∧ y.n 19 = z.n 19 ∧ y.n 20 = z.n 20 ∧ y.n 21 = z.n 21 ∧ y.n 22 = z.n 22 ∧ y.n 23 = z.n 23 ∧ y.n 24 = z.n 24 ∧ y.n 25 = z.n 25 ∧ y.n 26 = z.n 26 ∧ y.n 27 = z.n 27 ∧ y.n 28 = z.n 28 ∧ y.n 29 = z.n 29 ∧ y.n 30 = z.n 30 ∧ y.n 31 = z.n 31 ∧ y.n 32 = z.n 32 ∧ True) := hE
  have T1y : ((y.n 74).toNat : Int) = y.n 74 := Int.toNat_of_nonneg u74y
  have ny := hy0 hw
  simp only [T1y]
  refine ⟨by ((repeat' (first | exact trivial | with_reducible rfl | assumption | exact decide_eq_true rfl | exact sameB_self _ | exact rfl | apply And.intro | intro _)) <;> omega), ?_⟩
  rintro x ⟨⟨hx1, hx2, ⟨_, hx3⟩, _⟩, _, ⟨hS, f33, f34⟩, f73, f74⟩
  obtain ⟨u33x, u34x, u73x, u74x, _⟩ : (0 ≤ x.n 33 ∧ x.n 33 ≤ 32) ∧ (-128 ≤ x.n 34 ∧ x.n 34 ≤ 127) ∧ (0 ≤ x.n 73 ∧ x.n 73 ≤ 10000000) ∧ 0 ≤ x.n 74 ∧ True := hx1
  have T1x : ((x.n 74).toNat : Int) = x.n 74 := Int.toNat_of_nonneg u74x
  have ne : ¬ z.n 33 = 0 := by omega
  simp only [q0, q1, q2, q3, q4, q5, q6, q7, q8, q9, q10, q11, q12, q13, q14, q15, q16, q17, q18, q19, q20, q21, q22, q23, q24, q25, q26, q27, q28, q29, q30, q31, e33, if_neg ne] at hS f33 f34
  have i8 := i8r (z.n 1)
  simp only [T1x]
  have ew : w = z.n 73 := hw
  by_cases c : x.n 33 ≤ 16
  · have eb : bits .or .i64 (bif decide (x.n 33 ≤ 16) then 1 else 0) 2 = 3 := by rw [decide_eq_true c]; rfl
    have ec : (if z.n 33 - 1 ≤ 16 then 3 else 2 : Int) = 3 := if_pos (by omega)
    rw [eb, ec]
    ((repeat' (first | exact trivial | with_reducible rfl | assumption | exact decide_eq_true rfl | exact sameB_self _ | exact rfl | apply And.intro | intro _)) <;> omega)
  · have eb : bits .or .i64 (bif decide (x.n 33 ≤ 16) then 1 else 0) 2 = 2 := by rw [decide_eq_false c]; rfl
    have ec : (if z.n 33 - 1 ≤ 16 then 3 else 2 : Int) = 2 := if_neg (by omega)
    rw [eb, ec]
    ((repeat' (first | exact trivial | with_reducible rfl | assumption | exact decide_eq_true rfl | exact sameB_self _ | exact rfl | apply And.intro | intro _)) <;> omega)
end Go.Proofs.Ytkeinfmfkcgkhaa

