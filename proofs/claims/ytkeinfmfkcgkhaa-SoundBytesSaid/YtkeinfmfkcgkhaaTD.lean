import Derived.Test.YtkeinfmfkcgkhaaTA
set_option linter.unusedVariables false
set_option linter.unusedSimpArgs false
namespace Go.Proofs.Ytkeinfmfkcgkhaa
open Go Go.Proofs Go.Proofs.Ytkeinfmfkcgkhaa.Ev Go.Proofs.Ytkeinfmfkcgkhaa.Ev.Ho
set_option maxRecDepth 100000
structure Len2 (l : List C) (n : Int) : Prop where
  e : l.length = n.toNat * 2
structure Smp (l : List C) (s : Int) : Prop where
  a : rI l 0 = s
  b : rI l 1 = s
  c : l.length = 2
theorem smp_e (c : Int) (h : -128 ≤ c ∧ c ≤ 127) : IntKind.i16.wrap (IntKind.i64.wrap (IntKind.i64.wrap ((if 1023 < (if 0 > IntKind.i64.wrap (IntKind.i64.wrap (0 + IntKind.i64.wrap (4 * IntKind.i64.wrap (c))) + 512) then 0 else IntKind.i64.wrap (IntKind.i64.wrap (0 + IntKind.i64.wrap (4 * IntKind.i64.wrap (c))) + 512)) then 1023 else (if 0 > IntKind.i64.wrap (IntKind.i64.wrap (0 + IntKind.i64.wrap (4 * IntKind.i64.wrap (c))) + 512) then 0 else IntKind.i64.wrap (IntKind.i64.wrap (0 + IntKind.i64.wrap (4 * IntKind.i64.wrap (c))) + 512))) - 512) * 32)) = 128 * c := by
  have e : IntKind.i64.wrap (IntKind.i64.wrap (0 + IntKind.i64.wrap (4 * IntKind.i64.wrap c)) + 512) = 4 * c + 512 := by rw [wi64, wi64, wi64, wi64]; omega
  rw [e]
  have e2 : (if 1023 < (if 0 > 4 * c + 512 then 0 else 4 * c + 512) then 1023 else (if 0 > 4 * c + 512 then 0 else 4 * c + 512)) = 4 * c + 512 := by repeat' split <;> omega
  rw [e2, wi64, wi64, wi16]; omega
theorem row2 {a b : Int} : Row [.i .i16, .i .i16] [C.i false .i16 a, C.i false .i16 b] := by
  refine ⟨(show (2 : Nat) % 2 = 0 from rfl), fun p c h => ?_⟩
  match p with
  | 0 => cases h; exact ⟨.i .i16, rfl, trivial⟩
  | 1 => cases h; exact ⟨.i .i16, rfl, trivial⟩
  | n + 2 => simp at h
theorem smp_0 {l : List C} {s : Int} : Smp (rApp l 0 [C.i false .i16 s, C.i false .i16 s]) s := ⟨by rw [rI_app_ge (Nat.zero_le _) (Nat.zero_le _)]; rfl, by rw [rI_app_ge (Nat.zero_le _) (Nat.zero_le _)]; rfl, by rw [len_app (Nat.zero_le _)]; rfl⟩
noncomputable def rn_h0 (E : World) (w : Int) (z : PX) : Hd := ⟨4, anyH, (rt_td E), [(0, .c (.p 0 0)), (1, .q (.i false .i64 w)), (4, .r .i64 (0) (10001000))], [mT 1 4, mP 3, .g HOLE, mO, rowT], fun y => (EQ [z.n 1, z.n 2, z.n 3, z.n 4, z.n 5, z.n 6, z.n 7, z.n 8, z.n 9, z.n 10, z.n 11, z.n 12, z.n 13, z.n 14, z.n 15, z.n 16, z.n 17, z.n 18, z.n 19, z.n 20, z.n 21, z.n 22, z.n 23, z.n 24, z.n 25, z.n 26, z.n 27, z.n 28, z.n 29, z.n 30, z.n 31, z.n 32] [y.n 1, y.n 2, y.n 3, y.n 4, y.n 5, y.n 6, y.n 7, y.n 8, y.n 9, y.n 10, y.n 11, y.n 12, y.n 13, y.n 14, y.n 15, y.n 16, y.n 17, y.n 18, y.n 19, y.n 20, y.n 21, y.n 22, y.n 23, y.n 24, y.n 25, y.n 26, y.n 27, y.n 28, y.n 29, y.n 30, y.n 31, y.n 32] ∧ y.n 33 = z.n 33 ∧ y.n 34 = z.n 34 ∧ y.n 73 = z.n 73 ∧ w = z.n 73 + 512) ∧ (y.n 74 = 0 → y.n 91004 = w) ∧ (y.n 74 = 1 → y.n 91004 = w + 512 ∧ Smp (y.l 4) (128 * y.n 34)) ∧ y.n 74 ≤ 1, fun y => (10002000 - y.n 91004).toNat⟩
noncomputable def rn_hs (E : World) (w : Int) (z : PX) : List Hd := [rn_h0 E w z]
theorem rn_pro (E : World) (w : Int) (z : PX) :
    (loopP (pe E) Try.f12 (endR ([mT 1 2, mP 3, rowT, mO] : List MB).length [mT 1 4, mP 3, .g HOLE, mO, rowT] (.t []) (fun z y => (EQ [z.n 1, z.n 2, z.n 3, z.n 4, z.n 5, z.n 6, z.n 7, z.n 8, z.n 9, z.n 10, z.n 11, z.n 12, z.n 13, z.n 14, z.n 15, z.n 16, z.n 17, z.n 18, z.n 19, z.n 20, z.n 21, z.n 22, z.n 23, z.n 24, z.n 25, z.n 26, z.n 27, z.n 28, z.n 29, z.n 30, z.n 31, z.n 32] [y.n 1, y.n 2, y.n 3, y.n 4, y.n 5, y.n 6, y.n 7, y.n 8, y.n 9, y.n 10, y.n 11, y.n 12, y.n 13, y.n 14, y.n 15, y.n 16, y.n 17, y.n 18, y.n 19, y.n 20, y.n 21, y.n 22, y.n 23, y.n 24, y.n 25, y.n 26, y.n 27, y.n 28, y.n 29, y.n 30, y.n 31, y.n 32] ∧ y.n 33 = z.n 33 ∧ y.n 34 = z.n 34 ∧ y.n 73 = w) ∧ (w = z.n 73 → y.n 74 = 0) ∧ (w = z.n 73 + 512 → y.n 74 = 1 ∧ Smp (y.l 4) (128 * y.n 34))) z) (headR ([mT 1 2, mP 3, rowT, mO] : List MB).length Try.f12.ntmps none (rn_hs E w z)) (run (pe E) (orcA E) (tabL fns) 20000 (2 ^ 2) [.code (Try.f12.body.getD .skip)] ⟨Try.f12.ntmps, mkFrGo (Tr.mk 12) 0 [.c (.p 0 0), .c (.i false .i64 w)]⟩ (mkM z [] [mT 1 2, mP 3, rowT, mO] 0))) =
    (((bif decide (w ≤ z.n (73 : Nat)) then true else decide (w > (2199023255552 : Int))) = true → ((68 : Nat) = (68 : Nat) ∧ (((0 : Int) ≤ z.n (33 : Nat) ∧ z.n (33 : Nat) ≤
      (32 : Int)) ∧ ((-128 : Int) ≤ z.n (34 : Nat) ∧ z.n (34 : Nat) ≤ (127 : Int)) ∧ ((0 : Int) ≤ z.n (73 : Nat) ∧ z.n (73 : Nat) ≤ (10000000 : Int)) ∧ True) ∧ (84 : Nat) = (84
      : Nat) ∧ (((0 : Int) ≤ z.n (100000 : Nat) ∧ z.n (100000 : Nat) ≤ (10000000 : Int)) ∧ True) ∧ (4294967295 : Nat) = (4294967295 : Nat) ∧
      (741991204937588471353107210173517385893522847741378461052633880361214601735917472982278721692919759636892846595991201096475255940853038949688016010326287086087990634635853824
      : Nat) =
      (741991204937588471353107210173517385893522847741378461052633880361214601735917472982278721692919759636892846595991201096475255940853038949688016010326287086087990634635853824
      : Nat) ∧ (60 : Nat) = (60 : Nat) ∧ (flat [Sp.i IntKind.i16, Sp.i IntKind.i16] = true ∧ Row [Sp.i IntKind.i16, Sp.i IntKind.i16] (z.l (2 : Nat))) ∧ ([] : SW) = []) ∧ True ∧
      (EQ [z.n (1 : Nat), z.n (2 : Nat), z.n (3 : Nat), z.n (4 : Nat), z.n (5 : Nat), z.n (6 : Nat), z.n (7 : Nat), z.n (8 : Nat), z.n (9 : Nat), z.n (10 : Nat), z.n (11 : Nat),
      z.n (12 : Nat), z.n (13 : Nat), z.n (14 : Nat), z.n (15 : Nat), z.n (16 : Nat), z.n (17 : Nat), z.n (18 : Nat), z.n (19 : Nat), z.n (20 : Nat), z.n (21 : Nat), z.n (22 :
      Nat), z.n (23 : Nat), z.n (24 : Nat), z.n (25 : Nat), z.n (26 : Nat), z.n (27 : Nat), z.n (28 : Nat), z.n (29 : Nat), z.n (30 : Nat), z.n (31 : Nat), z.n (32 : Nat)] [z.n
      (1 : Nat), z.n (2 : Nat), z.n (3 : Nat), z.n (4 : Nat), z.n (5 : Nat), z.n (6 : Nat), z.n (7 : Nat), z.n (8 : Nat), z.n (9 : Nat), z.n (10 : Nat), z.n (11 : Nat), z.n (12
      : Nat), z.n (13 : Nat), z.n (14 : Nat), z.n (15 : Nat), z.n (16 : Nat), z.n (17 : Nat), z.n (18 : Nat), z.n (19 : Nat), z.n (20 : Nat), z.n (21 : Nat), z.n (22 : Nat), z.n
      (23 : Nat), z.n (24 : Nat), z.n (25 : Nat), z.n (26 : Nat), z.n (27 : Nat), z.n (28 : Nat), z.n (29 : Nat), z.n (30 : Nat), z.n (31 : Nat), z.n (32 : Nat)] ∧ z.n (33 :
      Nat) = z.n (33 : Nat) ∧ z.n (34 : Nat) = z.n (34 : Nat) ∧ z.n (73 : Nat) = w) ∧ (w = z.n (73 : Nat) → (↑(z.n (74 : Nat)).toNat : Int) = (0 : Int)) ∧ (w = z.n (73 : Nat) +
      (512 : Int) → (↑(z.n (74 : Nat)).toNat : Int) = (1 : Int) ∧ Smp (z.l (2 : Nat)) ((128 : Int) * z.n (34 : Nat)))) ∧ ((bif decide (w ≤ z.n (73 : Nat)) then true else decide
      (w > (2199023255552 : Int))) = false → rt_td E = rt_td E ∧ (58 : Nat) = (58 : Nat) ∧ (True ∧ (renC (posN [(0 : Nat), (1 : Nat), (1000000000002 : Nat), (3 : Nat), (2 :
      Nat)]) (C.i false IntKind.i64 w) = C.i false IntKind.i64 w ∧ True) ∧ (((0 : Int) ≤ IntKind.i64.wrap (IntKind.i64.wrap (IntKind.i64.wrap ((z.n (73 : Nat)).tdiv (512 : Int))
      + (1 : Int)) * (512 : Int)) ∧ IntKind.i64.wrap (IntKind.i64.wrap (IntKind.i64.wrap ((z.n (73 : Nat)).tdiv (512 : Int)) + (1 : Int)) * (512 : Int)) ≤ (10001000 : Int)) ∧
      True) ∧ True) ∧ ((68 : Nat) = (68 : Nat) ∧ (((0 : Int) ≤ z.n (33 : Nat) ∧ z.n (33 : Nat) ≤ (32 : Int)) ∧ ((-128 : Int) ≤ z.n (34 : Nat) ∧ z.n (34 : Nat) ≤ (127 : Int)) ∧
      ((0 : Int) ≤ z.n (73 : Nat) ∧ z.n (73 : Nat) ≤ (10000000 : Int)) ∧ True) ∧ (84 : Nat) = (84 : Nat) ∧ (((0 : Int) ≤ z.n (100000 : Nat) ∧ z.n (100000 : Nat) ≤ (10000000 :
      Int)) ∧ True) ∧ (4294967295 : Nat) = (4294967295 : Nat) ∧
      (741991204937588471353107210173517385893522847741378461052633880361214601735917472982278721692919759636892846595991201096475255940853038949688016010326287086087990634635853824
      : Nat) =
      (741991204937588471353107210173517385893522847741378461052633880361214601735917472982278721692919759636892846595991201096475255940853038949688016010326287086087990634635853824
      : Nat) ∧ (60 : Nat) = (60 : Nat) ∧ (flat [Sp.i IntKind.i16, Sp.i IntKind.i16] = true ∧ Row [Sp.i IntKind.i16, Sp.i IntKind.i16] (z.l (2 : Nat))) ∧ ([] : SW) = []) ∧ ((EQ
      [z.n (1 : Nat), z.n (2 : Nat), z.n (3 : Nat), z.n (4 : Nat), z.n (5 : Nat), z.n (6 : Nat), z.n (7 : Nat), z.n (8 : Nat), z.n (9 : Nat), z.n (10 : Nat), z.n (11 : Nat), z.n
      (12 : Nat), z.n (13 : Nat), z.n (14 : Nat), z.n (15 : Nat), z.n (16 : Nat), z.n (17 : Nat), z.n (18 : Nat), z.n (19 : Nat), z.n (20 : Nat), z.n (21 : Nat), z.n (22 : Nat),
      z.n (23 : Nat), z.n (24 : Nat), z.n (25 : Nat), z.n (26 : Nat), z.n (27 : Nat), z.n (28 : Nat), z.n (29 : Nat), z.n (30 : Nat), z.n (31 : Nat), z.n (32 : Nat)] [z.n (1 :
      Nat), z.n (2 : Nat), z.n (3 : Nat), z.n (4 : Nat), z.n (5 : Nat), z.n (6 : Nat), z.n (7 : Nat), z.n (8 : Nat), z.n (9 : Nat), z.n (10 : Nat), z.n (11 : Nat), z.n (12 :
      Nat), z.n (13 : Nat), z.n (14 : Nat), z.n (15 : Nat), z.n (16 : Nat), z.n (17 : Nat), z.n (18 : Nat), z.n (19 : Nat), z.n (20 : Nat), z.n (21 : Nat), z.n (22 : Nat), z.n
      (23 : Nat), z.n (24 : Nat), z.n (25 : Nat), z.n (26 : Nat), z.n (27 : Nat), z.n (28 : Nat), z.n (29 : Nat), z.n (30 : Nat), z.n (31 : Nat), z.n (32 : Nat)] ∧ z.n (33 :
      Nat) = z.n (33 : Nat) ∧ z.n (34 : Nat) = z.n (34 : Nat) ∧ z.n (73 : Nat) = z.n (73 : Nat) ∧ w = z.n (73 : Nat) + (512 : Int)) ∧ ((↑(z.n (74 : Nat)).toNat : Int) = (0 :
      Int) → IntKind.i64.wrap (IntKind.i64.wrap (IntKind.i64.wrap ((z.n (73 : Nat)).tdiv (512 : Int)) + (1 : Int)) * (512 : Int)) = w) ∧ ((↑(z.n (74 : Nat)).toNat : Int) = (1 :
      Int) → IntKind.i64.wrap (IntKind.i64.wrap (IntKind.i64.wrap ((z.n (73 : Nat)).tdiv (512 : Int)) + (1 : Int)) * (512 : Int)) = w + (512 : Int) ∧ Smp (z.l (2 : Nat)) ((128 :
      Int) * z.n (34 : Nat))) ∧ (↑(z.n (74 : Nat)).toNat : Int) ≤ (1 : Int)) ∧ True)) := by kernel_rfl
theorem rn_r0 (E : World) (w : Int) (z : PX) (y : PX) :
    (loopP (pe E) Try.f12 (endR ([mT 1 2, mP 3, rowT, mO] : List MB).length [mT 1 4, mP 3, .g HOLE, mO, rowT] (.t []) (fun z y => (EQ [z.n 1, z.n 2, z.n 3, z.n 4, z.n 5, z.n 6, z.n 7, z.n 8, z.n 9, z.n 10, z.n 11, z.n 12, z.n 13, z.n 14, z.n 15, z.n 16, z.n 17, z.n 18, z.n 19, z.n 20, z.n 21, z.n 22, z.n 23, z.n 24, z.n 25, z.n 26, z.n 27, z.n 28, z.n 29, z.n 30, z.n 31, z.n 32] [y.n 1, y.n 2, y.n 3, y.n 4, y.n 5, y.n 6, y.n 7, y.n 8, y.n 9, y.n 10, y.n 11, y.n 12, y.n 13, y.n 14, y.n 15, y.n 16, y.n 17, y.n 18, y.n 19, y.n 20, y.n 21, y.n 22, y.n 23, y.n 24, y.n 25, y.n 26, y.n 27, y.n 28, y.n 29, y.n 30, y.n 31, y.n 32] ∧ y.n 33 = z.n 33 ∧ y.n 34 = z.n 34 ∧ y.n 73 = w) ∧ (w = z.n 73 → y.n 74 = 0) ∧ (w = z.n 73 + 512 → y.n 74 = 1 ∧ Smp (y.l 4) (128 * y.n 34))) z) (headR ([mT 1 2, mP 3, rowT, mO] : List MB).length Try.f12.ntmps (some ((fun y => (10002000 - y.n 91004).toNat) y)) (rn_hs E w z))  (run (pe E) (orcA E) (tabL fns) 20000 (2 ^ 2) (rt_td E) (mkL Try.f12.ntmps (slC y [(0, .c (.p 0 0)), (1, .q (.i false .i64 w)), (4, .r .i64 (0) (10001000))])) (mkM y [] [mT 1 4, mP 3, .g HOLE, mO, rowT] 0))) =
    ((decide (y.n (91004 : Nat) ≤ w) = true → ((bif decide (y.n (91004 : Nat) ≤ y.n (100000 : Nat)) then true else decide (y.n (91004 : Nat) > (2199023255552 : Int))) = true →
      decide (y.n (1 : Nat) = y.n (1 : Nat)) = true ∧ decide (y.n (2 : Nat) = y.n (2 : Nat)) = true ∧ decide (y.n (3 : Nat) = y.n (3 : Nat)) = true ∧ decide (y.n (4 : Nat) = y.n
      (4 : Nat)) = true ∧ decide (y.n (5 : Nat) = y.n (5 : Nat)) = true ∧ decide (y.n (6 : Nat) = y.n (6 : Nat)) = true ∧ decide (y.n (7 : Nat) = y.n (7 : Nat)) = true ∧ decide
      (y.n (8 : Nat) = y.n (8 : Nat)) = true ∧ decide (y.n (9 : Nat) = y.n (9 : Nat)) = true ∧ decide (y.n (10 : Nat) = y.n (10 : Nat)) = true ∧ decide (y.n (11 : Nat) = y.n (11
      : Nat)) = true ∧ decide (y.n (12 : Nat) = y.n (12 : Nat)) = true ∧ decide (y.n (13 : Nat) = y.n (13 : Nat)) = true ∧ decide (y.n (14 : Nat) = y.n (14 : Nat)) = true ∧
      decide (y.n (15 : Nat) = y.n (15 : Nat)) = true ∧ decide (y.n (16 : Nat) = y.n (16 : Nat)) = true ∧ decide (y.n (17 : Nat) = y.n (17 : Nat)) = true ∧ decide (y.n (18 :
      Nat) = y.n (18 : Nat)) = true ∧ decide (y.n (19 : Nat) = y.n (19 : Nat)) = true ∧ decide (y.n (20 : Nat) = y.n (20 : Nat)) = true ∧ decide (y.n (21 : Nat) = y.n (21 :
      Nat)) = true ∧ decide (y.n (22 : Nat) = y.n (22 : Nat)) = true ∧ decide (y.n (23 : Nat) = y.n (23 : Nat)) = true ∧ decide (y.n (24 : Nat) = y.n (24 : Nat)) = true ∧ decide
      (y.n (25 : Nat) = y.n (25 : Nat)) = true ∧ decide (y.n (26 : Nat) = y.n (26 : Nat)) = true ∧ decide (y.n (27 : Nat) = y.n (27 : Nat)) = true ∧ decide (y.n (28 : Nat) = y.n
      (28 : Nat)) = true ∧ decide (y.n (29 : Nat) = y.n (29 : Nat)) = true ∧ decide (y.n (30 : Nat) = y.n (30 : Nat)) = true ∧ decide (y.n (31 : Nat) = y.n (31 : Nat)) = true ∧
      decide (y.n (32 : Nat) = y.n (32 : Nat)) = true ∧ decide (y.n (33 : Nat) = y.n (33 : Nat)) = true ∧ decide (y.n (34 : Nat) = y.n (34 : Nat)) = true ∧ decide (y.n (73 :
      Nat) = y.n (73 : Nat)) = true ∧ decide ((y.n (74 : Nat)).toNat = (y.n (74 : Nat)).toNat) = true ∧ decide (y.n (100000 : Nat) = y.n (100000 : Nat)) = true ∧ sameB (Bl.mk
      (y.l (4 : Nat)) (60 : Nat)) (Bl.mk (y.l (4 : Nat)) (60 : Nat)) = true ∧ sameB (Bl.mk [C.i true IntKind.i16 (0 : Int), C.i true IntKind.i16 (0 : Int)] (60 : Nat)) (Bl.mk
      [C.i true IntKind.i16 (0 : Int), C.i true IntKind.i16 (0 : Int)] (60 : Nat)) = true ∧ decide (y.n (1 : Nat) = y.n (1 : Nat)) = true ∧ decide (y.n (2 : Nat) = y.n (2 :
      Nat)) = true ∧ decide (y.n (3 : Nat) = y.n (3 : Nat)) = true ∧ decide (y.n (4 : Nat) = y.n (4 : Nat)) = true ∧ decide (y.n (5 : Nat) = y.n (5 : Nat)) = true ∧ decide (y.n
      (6 : Nat) = y.n (6 : Nat)) = true ∧ decide (y.n (7 : Nat) = y.n (7 : Nat)) = true ∧ decide (y.n (8 : Nat) = y.n (8 : Nat)) = true ∧ decide (y.n (9 : Nat) = y.n (9 : Nat))
      = true ∧ decide (y.n (10 : Nat) = y.n (10 : Nat)) = true ∧ decide (y.n (11 : Nat) = y.n (11 : Nat)) = true ∧ decide (y.n (12 : Nat) = y.n (12 : Nat)) = true ∧ decide (y.n
      (13 : Nat) = y.n (13 : Nat)) = true ∧ decide (y.n (14 : Nat) = y.n (14 : Nat)) = true ∧ decide (y.n (15 : Nat) = y.n (15 : Nat)) = true ∧ decide (y.n (16 : Nat) = y.n (16
      : Nat)) = true ∧ decide (y.n (17 : Nat) = y.n (17 : Nat)) = true ∧ decide (y.n (18 : Nat) = y.n (18 : Nat)) = true ∧ decide (y.n (19 : Nat) = y.n (19 : Nat)) = true ∧
      decide (y.n (20 : Nat) = y.n (20 : Nat)) = true ∧ decide (y.n (21 : Nat) = y.n (21 : Nat)) = true ∧ decide (y.n (22 : Nat) = y.n (22 : Nat)) = true ∧ decide (y.n (23 :
      Nat) = y.n (23 : Nat)) = true ∧ decide (y.n (24 : Nat) = y.n (24 : Nat)) = true ∧ decide (y.n (25 : Nat) = y.n (25 : Nat)) = true ∧ decide (y.n (26 : Nat) = y.n (26 :
      Nat)) = true ∧ decide (y.n (27 : Nat) = y.n (27 : Nat)) = true ∧ decide (y.n (28 : Nat) = y.n (28 : Nat)) = true ∧ decide (y.n (29 : Nat) = y.n (29 : Nat)) = true ∧ decide
      (y.n (30 : Nat) = y.n (30 : Nat)) = true ∧ decide (y.n (31 : Nat) = y.n (31 : Nat)) = true ∧ decide (y.n (32 : Nat) = y.n (32 : Nat)) = true ∧ decide (y.n (33 : Nat) = y.n
      (33 : Nat)) = true ∧ decide (y.n (34 : Nat) = y.n (34 : Nat)) = true ∧ decide (y.n (73 : Nat) = y.n (73 : Nat)) = true ∧ decide ((y.n (74 : Nat)).toNat = (y.n (74 :
      Nat)).toNat) = true ∧ decide (y.n (100000 : Nat) = y.n (100000 : Nat)) = true ∧ sameB (Bl.mk (y.l (4 : Nat)) (60 : Nat)) (Bl.mk (y.l (4 : Nat)) (60 : Nat)) = true ∧ sameB
      (Bl.mk [C.i true IntKind.i16 (0 : Int), C.i true IntKind.i16 (0 : Int)] (60 : Nat)) (Bl.mk [C.i true IntKind.i16 (0 : Int), C.i true IntKind.i16 (0 : Int)] (60 : Nat)) =
      true ∧ decide (y.n (1 : Nat) = y.n (1 : Nat)) = true ∧ decide (y.n (2 : Nat) = y.n (2 : Nat)) = true ∧ decide (y.n (3 : Nat) = y.n (3 : Nat)) = true ∧ decide (y.n (4 :
      Nat) = y.n (4 : Nat)) = true ∧ decide (y.n (5 : Nat) = y.n (5 : Nat)) = true ∧ decide (y.n (6 : Nat) = y.n (6 : Nat)) = true ∧ decide (y.n (7 : Nat) = y.n (7 : Nat)) =
      true ∧ decide (y.n (8 : Nat) = y.n (8 : Nat)) = true ∧ decide (y.n (9 : Nat) = y.n (9 : Nat)) = true ∧ decide (y.n (10 : Nat) = y.n (10 : Nat)) = true ∧ decide (y.n (11 :
      Nat) = y.n (11 : Nat)) = true ∧ decide (y.n (12 : Nat) = y.n (12 : Nat)) = true ∧ decide (y.n (13 : Nat) = y.n (13 : Nat)) = true ∧ decide (y.n (14 : Nat) = y.n (14 :
      Nat)) = true ∧ decide (y.n (15 : Nat) = y.n (15 : Nat)) = true ∧ decide (y.n (16 : Nat) = y.n (16 : Nat)) = true ∧ decide (y.n (17 : Nat) = y.n (17 : Nat)) = true ∧ decide
      (y.n (18 : Nat) = y.n (18 : Nat)) = true ∧ decide (y.n (19 : Nat) = y.n (19 : Nat)) = true ∧ decide (y.n (20 : Nat) = y.n (20 : Nat)) = true ∧ decide (y.n (21 : Nat) = y.n
      (21 : Nat)) = true ∧ decide (y.n (22 : Nat) = y.n (22 : Nat)) = true ∧ decide (y.n (23 : Nat) = y.n (23 : Nat)) = true ∧ decide (y.n (24 : Nat) = y.n (24 : Nat)) = true ∧
      decide (y.n (25 : Nat) = y.n (25 : Nat)) = true ∧ decide (y.n (26 : Nat) = y.n (26 : Nat)) = true ∧ decide (y.n (27 : Nat) = y.n (27 : Nat)) = true ∧ decide (y.n (28 :
      Nat) = y.n (28 : Nat)) = true ∧ decide (y.n (29 : Nat) = y.n (29 : Nat)) = true ∧ decide (y.n (30 : Nat) = y.n (30 : Nat)) = true ∧ decide (y.n (31 : Nat) = y.n (31 :
      Nat)) = true ∧ decide (y.n (32 : Nat) = y.n (32 : Nat)) = true ∧ decide (y.n (33 : Nat) = y.n (33 : Nat)) = true ∧ decide (y.n (34 : Nat) = y.n (34 : Nat)) = true ∧ decide
      (y.n (73 : Nat) = y.n (73 : Nat)) = true ∧ decide ((y.n (74 : Nat)).toNat = (y.n (74 : Nat)).toNat) = true ∧ decide (y.n (100000 : Nat) = y.n (100000 : Nat)) = true ∧
      sameB (Bl.mk (y.l (4 : Nat)) (60 : Nat)) (Bl.mk (y.l (4 : Nat)) (60 : Nat)) = true ∧ decide ((y.n (74 : Nat)).toNat * (2 : Nat) ≤ (y.l (4 : Nat)).length) = true ∧ decide
      ((y.n (74 : Nat)).toNat + (1 : Nat) ≤ (1099511627776 : Nat)) = true ∧ decide (((y.n (74 : Nat)).toNat + (1 : Nat)) * (4 : Nat) ≤ (1099511627776 : Nat)) = true ∧ rt_td E =
      rt_td E ∧ (58 : Nat) = (58 : Nat) ∧ (True ∧ (renC (posN [(0 : Nat), (1 : Nat), (1000000000002 : Nat), (3 : Nat), (6 : Nat)]) (C.i false IntKind.i64 w) = C.i false
      IntKind.i64 w ∧ True) ∧ (((0 : Int) ≤ IntKind.i64.wrap (y.n (91004 : Nat) + (512 : Int)) ∧ IntKind.i64.wrap (y.n (91004 : Nat) + (512 : Int)) ≤ (10001000 : Int)) ∧ True) ∧
      True) ∧ ((68 : Nat) = (68 : Nat) ∧ (((0 : Int) ≤ y.n (33 : Nat) ∧ y.n (33 : Nat) ≤ (32 : Int)) ∧ ((-128 : Int) ≤ y.n (34 : Nat) ∧ y.n (34 : Nat) ≤ (127 : Int)) ∧ ((0 :
      Int) ≤ y.n (73 : Nat) ∧ y.n (73 : Nat) ≤ (10000000 : Int)) ∧ True) ∧ (84 : Nat) = (84 : Nat) ∧ (((0 : Int) ≤ y.n (100000 : Nat) ∧ y.n (100000 : Nat) ≤ (10000000 : Int)) ∧
      True) ∧ (4294967295 : Nat) = (4294967295 : Nat) ∧
      (741991204937588471353107210173517385893522847741378461052633880361214601735917472982278721692919759636892846595991201096475255940853038949688016010326287086087990634635853824
      : Nat) =
      (741991204937588471353107210173517385893522847741378461052633880361214601735917472982278721692919759636892846595991201096475255940853038949688016010326287086087990634635853824
      : Nat) ∧ (60 : Nat) = (60 : Nat) ∧ (flat [Sp.i IntKind.i16, Sp.i IntKind.i16] = true ∧ Row [Sp.i IntKind.i16, Sp.i IntKind.i16] (rApp (y.l (4 : Nat)) ((y.n (74 :
      Nat)).toNat * (2 : Nat)) [C.i false IntKind.i16 (IntKind.i16.wrap (IntKind.i64.wrap (IntKind.i64.wrap ((if (1023 : Int) < if (0 : Int) > IntKind.i64.wrap (IntKind.i64.wrap
      ((0 : Int) + IntKind.i64.wrap ((4 : Int) * IntKind.i64.wrap (y.n (34 : Nat)))) + (512 : Int)) then (0 : Int) else IntKind.i64.wrap (IntKind.i64.wrap ((0 : Int) +
      IntKind.i64.wrap ((4 : Int) * IntKind.i64.wrap (y.n (34 : Nat)))) + (512 : Int)) then (1023 : Int) else if (0 : Int) > IntKind.i64.wrap (IntKind.i64.wrap ((0 : Int) +
      IntKind.i64.wrap ((4 : Int) * IntKind.i64.wrap (y.n (34 : Nat)))) + (512 : Int)) then (0 : Int) else IntKind.i64.wrap (IntKind.i64.wrap ((0 : Int) + IntKind.i64.wrap ((4 :
      Int) * IntKind.i64.wrap (y.n (34 : Nat)))) + (512 : Int))) - (512 : Int)) * (32 : Int)))), C.i false IntKind.i16 (IntKind.i16.wrap (IntKind.i64.wrap (IntKind.i64.wrap ((if
      (1023 : Int) < if (0 : Int) > IntKind.i64.wrap (IntKind.i64.wrap ((0 : Int) + IntKind.i64.wrap ((4 : Int) * IntKind.i64.wrap (y.n (34 : Nat)))) + (512 : Int)) then (0 :
      Int) else IntKind.i64.wrap (IntKind.i64.wrap ((0 : Int) + IntKind.i64.wrap ((4 : Int) * IntKind.i64.wrap (y.n (34 : Nat)))) + (512 : Int)) then (1023 : Int) else if (0 :
      Int) > IntKind.i64.wrap (IntKind.i64.wrap ((0 : Int) + IntKind.i64.wrap ((4 : Int) * IntKind.i64.wrap (y.n (34 : Nat)))) + (512 : Int)) then (0 : Int) else
      IntKind.i64.wrap (IntKind.i64.wrap ((0 : Int) + IntKind.i64.wrap ((4 : Int) * IntKind.i64.wrap (y.n (34 : Nat)))) + (512 : Int))) - (512 : Int)) * (32 : Int))))])) ∧ ([] :
      SW) = []) ∧ ((EQ [z.n (1 : Nat), z.n (2 : Nat), z.n (3 : Nat), z.n (4 : Nat), z.n (5 : Nat), z.n (6 : Nat), z.n (7 : Nat), z.n (8 : Nat), z.n (9 : Nat), z.n (10 : Nat),
      z.n (11 : Nat), z.n (12 : Nat), z.n (13 : Nat), z.n (14 : Nat), z.n (15 : Nat), z.n (16 : Nat), z.n (17 : Nat), z.n (18 : Nat), z.n (19 : Nat), z.n (20 : Nat), z.n (21 :
      Nat), z.n (22 : Nat), z.n (23 : Nat), z.n (24 : Nat), z.n (25 : Nat), z.n (26 : Nat), z.n (27 : Nat), z.n (28 : Nat), z.n (29 : Nat), z.n (30 : Nat), z.n (31 : Nat), z.n
      (32 : Nat)] [y.n (1 : Nat), y.n (2 : Nat), y.n (3 : Nat), y.n (4 : Nat), y.n (5 : Nat), y.n (6 : Nat), y.n (7 : Nat), y.n (8 : Nat), y.n (9 : Nat), y.n (10 : Nat), y.n (11
      : Nat), y.n (12 : Nat), y.n (13 : Nat), y.n (14 : Nat), y.n (15 : Nat), y.n (16 : Nat), y.n (17 : Nat), y.n (18 : Nat), y.n (19 : Nat), y.n (20 : Nat), y.n (21 : Nat), y.n
      (22 : Nat), y.n (23 : Nat), y.n (24 : Nat), y.n (25 : Nat), y.n (26 : Nat), y.n (27 : Nat), y.n (28 : Nat), y.n (29 : Nat), y.n (30 : Nat), y.n (31 : Nat), y.n (32 : Nat)]
      ∧ y.n (33 : Nat) = z.n (33 : Nat) ∧ y.n (34 : Nat) = z.n (34 : Nat) ∧ y.n (73 : Nat) = z.n (73 : Nat) ∧ w = z.n (73 : Nat) + (512 : Int)) ∧ ((↑((y.n (74 : Nat)).toNat + (1
      : Nat)) : Int) = (0 : Int) → IntKind.i64.wrap (y.n (91004 : Nat) + (512 : Int)) = w) ∧ ((↑((y.n (74 : Nat)).toNat + (1 : Nat)) : Int) = (1 : Int) → IntKind.i64.wrap (y.n
      (91004 : Nat) + (512 : Int)) = w + (512 : Int) ∧ Smp (rApp (y.l (4 : Nat)) ((y.n (74 : Nat)).toNat * (2 : Nat)) [C.i false IntKind.i16 (IntKind.i16.wrap (IntKind.i64.wrap
      (IntKind.i64.wrap ((if (1023 : Int) < if (0 : Int) > IntKind.i64.wrap (IntKind.i64.wrap ((0 : Int) + IntKind.i64.wrap ((4 : Int) * IntKind.i64.wrap (y.n (34 : Nat)))) +
      (512 : Int)) then (0 : Int) else IntKind.i64.wrap (IntKind.i64.wrap ((0 : Int) + IntKind.i64.wrap ((4 : Int) * IntKind.i64.wrap (y.n (34 : Nat)))) + (512 : Int)) then
      (1023 : Int) else if (0 : Int) > IntKind.i64.wrap (IntKind.i64.wrap ((0 : Int) + IntKind.i64.wrap ((4 : Int) * IntKind.i64.wrap (y.n (34 : Nat)))) + (512 : Int)) then (0 :
      Int) else IntKind.i64.wrap (IntKind.i64.wrap ((0 : Int) + IntKind.i64.wrap ((4 : Int) * IntKind.i64.wrap (y.n (34 : Nat)))) + (512 : Int))) - (512 : Int)) * (32 : Int)))),
      C.i false IntKind.i16 (IntKind.i16.wrap (IntKind.i64.wrap (IntKind.i64.wrap ((if (1023 : Int) < if (0 : Int) > IntKind.i64.wrap (IntKind.i64.wrap ((0 : Int) +
      IntKind.i64.wrap ((4 : Int) * IntKind.i64.wrap (y.n (34 : Nat)))) + (512 : Int)) then (0 : Int) else IntKind.i64.wrap (IntKind.i64.wrap ((0 : Int) + IntKind.i64.wrap ((4 :
      Int) * IntKind.i64.wrap (y.n (34 : Nat)))) + (512 : Int)) then (1023 : Int) else if (0 : Int) > IntKind.i64.wrap (IntKind.i64.wrap ((0 : Int) + IntKind.i64.wrap ((4 : Int)
      * IntKind.i64.wrap (y.n (34 : Nat)))) + (512 : Int)) then (0 : Int) else IntKind.i64.wrap (IntKind.i64.wrap ((0 : Int) + IntKind.i64.wrap ((4 : Int) * IntKind.i64.wrap
      (y.n (34 : Nat)))) + (512 : Int))) - (512 : Int)) * (32 : Int))))]) ((128 : Int) * y.n (34 : Nat))) ∧ (↑((y.n (74 : Nat)).toNat + (1 : Nat)) : Int) ≤ (1 : Int)) ∧
      ((10002000 : Int) - IntKind.i64.wrap (y.n (91004 : Nat) + (512 : Int))).toNat < ((10002000 : Int) - y.n (91004 : Nat)).toNat ∧ True) ∧ ((bif decide (y.n (91004 : Nat) ≤
      y.n (100000 : Nat)) then true else decide (y.n (91004 : Nat) > (2199023255552 : Int))) = false → (decide (y.n (100000 : Nat) < y.n (91004 : Nat)) = true → decide (y.n (1 :
      Nat) = y.n (1 : Nat)) = true ∧ decide (y.n (2 : Nat) = y.n (2 : Nat)) = true ∧ decide (y.n (3 : Nat) = y.n (3 : Nat)) = true ∧ decide (y.n (4 : Nat) = y.n (4 : Nat)) =
      true ∧ decide (y.n (5 : Nat) = y.n (5 : Nat)) = true ∧ decide (y.n (6 : Nat) = y.n (6 : Nat)) = true ∧ decide (y.n (7 : Nat) = y.n (7 : Nat)) = true ∧ decide (y.n (8 :
      Nat) = y.n (8 : Nat)) = true ∧ decide (y.n (9 : Nat) = y.n (9 : Nat)) = true ∧ decide (y.n (10 : Nat) = y.n (10 : Nat)) = true ∧ decide (y.n (11 : Nat) = y.n (11 : Nat)) =
      true ∧ decide (y.n (12 : Nat) = y.n (12 : Nat)) = true ∧ decide (y.n (13 : Nat) = y.n (13 : Nat)) = true ∧ decide (y.n (14 : Nat) = y.n (14 : Nat)) = true ∧ decide (y.n
      (15 : Nat) = y.n (15 : Nat)) = true ∧ decide (y.n (16 : Nat) = y.n (16 : Nat)) = true ∧ decide (y.n (17 : Nat) = y.n (17 : Nat)) = true ∧ decide (y.n (18 : Nat) = y.n (18
      : Nat)) = true ∧ decide (y.n (19 : Nat) = y.n (19 : Nat)) = true ∧ decide (y.n (20 : Nat) = y.n (20 : Nat)) = true ∧ decide (y.n (21 : Nat) = y.n (21 : Nat)) = true ∧
      decide (y.n (22 : Nat) = y.n (22 : Nat)) = true ∧ decide (y.n (23 : Nat) = y.n (23 : Nat)) = true ∧ decide (y.n (24 : Nat) = y.n (24 : Nat)) = true ∧ decide (y.n (25 :
      Nat) = y.n (25 : Nat)) = true ∧ decide (y.n (26 : Nat) = y.n (26 : Nat)) = true ∧ decide (y.n (27 : Nat) = y.n (27 : Nat)) = true ∧ decide (y.n (28 : Nat) = y.n (28 :
      Nat)) = true ∧ decide (y.n (29 : Nat) = y.n (29 : Nat)) = true ∧ decide (y.n (30 : Nat) = y.n (30 : Nat)) = true ∧ decide (y.n (31 : Nat) = y.n (31 : Nat)) = true ∧ decide
      (y.n (32 : Nat) = y.n (32 : Nat)) = true ∧ decide (y.n (33 : Nat) = y.n (33 : Nat)) = true ∧ decide (y.n (34 : Nat) = y.n (34 : Nat)) = true ∧ decide (y.n (73 : Nat) = y.n
      (73 : Nat)) = true ∧ decide ((y.n (74 : Nat)).toNat = (y.n (74 : Nat)).toNat) = true ∧ decide (y.n (91004 : Nat) = y.n (91004 : Nat)) = true ∧ sameB (Bl.mk (y.l (4 : Nat))
      (60 : Nat)) (Bl.mk (y.l (4 : Nat)) (60 : Nat)) = true ∧ sameB (Bl.mk [C.i true IntKind.i16 (0 : Int), C.i true IntKind.i16 (0 : Int)] (60 : Nat)) (Bl.mk [C.i true
      IntKind.i16 (0 : Int), C.i true IntKind.i16 (0 : Int)] (60 : Nat)) = true ∧ decide (y.n (1 : Nat) = y.n (1 : Nat)) = true ∧ decide (y.n (2 : Nat) = y.n (2 : Nat)) = true ∧
      decide (y.n (3 : Nat) = y.n (3 : Nat)) = true ∧ decide (y.n (4 : Nat) = y.n (4 : Nat)) = true ∧ decide (y.n (5 : Nat) = y.n (5 : Nat)) = true ∧ decide (y.n (6 : Nat) = y.n
      (6 : Nat)) = true ∧ decide (y.n (7 : Nat) = y.n (7 : Nat)) = true ∧ decide (y.n (8 : Nat) = y.n (8 : Nat)) = true ∧ decide (y.n (9 : Nat) = y.n (9 : Nat)) = true ∧ decide
      (y.n (10 : Nat) = y.n (10 : Nat)) = true ∧ decide (y.n (11 : Nat) = y.n (11 : Nat)) = true ∧ decide (y.n (12 : Nat) = y.n (12 : Nat)) = true ∧ decide (y.n (13 : Nat) = y.n
      (13 : Nat)) = true ∧ decide (y.n (14 : Nat) = y.n (14 : Nat)) = true ∧ decide (y.n (15 : Nat) = y.n (15 : Nat)) = true ∧ decide (y.n (16 : Nat) = y.n (16 : Nat)) = true ∧
      decide (y.n (17 : Nat) = y.n (17 : Nat)) = true ∧ decide (y.n (18 : Nat) = y.n (18 : Nat)) = true ∧ decide (y.n (19 : Nat) = y.n (19 : Nat)) = true ∧ decide (y.n (20 :
      Nat) = y.n (20 : Nat)) = true ∧ decide (y.n (21 : Nat) = y.n (21 : Nat)) = true ∧ decide (y.n (22 : Nat) = y.n (22 : Nat)) = true ∧ decide (y.n (23 : Nat) = y.n (23 :
      Nat)) = true ∧ decide (y.n (24 : Nat) = y.n (24 : Nat)) = true ∧ decide (y.n (25 : Nat) = y.n (25 : Nat)) = true ∧ decide (y.n (26 : Nat) = y.n (26 : Nat)) = true ∧ decide
      (y.n (27 : Nat) = y.n (27 : Nat)) = true ∧ decide (y.n (28 : Nat) = y.n (28 : Nat)) = true ∧ decide (y.n (29 : Nat) = y.n (29 : Nat)) = true ∧ decide (y.n (30 : Nat) = y.n
      (30 : Nat)) = true ∧ decide (y.n (31 : Nat) = y.n (31 : Nat)) = true ∧ decide (y.n (32 : Nat) = y.n (32 : Nat)) = true ∧ decide (y.n (33 : Nat) = y.n (33 : Nat)) = true ∧
      decide (y.n (34 : Nat) = y.n (34 : Nat)) = true ∧ decide (y.n (73 : Nat) = y.n (73 : Nat)) = true ∧ decide ((y.n (74 : Nat)).toNat = (y.n (74 : Nat)).toNat) = true ∧
      decide (y.n (91004 : Nat) = y.n (91004 : Nat)) = true ∧ sameB (Bl.mk (y.l (4 : Nat)) (60 : Nat)) (Bl.mk (y.l (4 : Nat)) (60 : Nat)) = true ∧ sameB (Bl.mk [C.i true
      IntKind.i16 (0 : Int), C.i true IntKind.i16 (0 : Int)] (60 : Nat)) (Bl.mk [C.i true IntKind.i16 (0 : Int), C.i true IntKind.i16 (0 : Int)] (60 : Nat)) = true ∧ decide (y.n
      (1 : Nat) = y.n (1 : Nat)) = true ∧ decide (y.n (2 : Nat) = y.n (2 : Nat)) = true ∧ decide (y.n (3 : Nat) = y.n (3 : Nat)) = true ∧ decide (y.n (4 : Nat) = y.n (4 : Nat))
      = true ∧ decide (y.n (5 : Nat) = y.n (5 : Nat)) = true ∧ decide (y.n (6 : Nat) = y.n (6 : Nat)) = true ∧ decide (y.n (7 : Nat) = y.n (7 : Nat)) = true ∧ decide (y.n (8 :
      Nat) = y.n (8 : Nat)) = true ∧ decide (y.n (9 : Nat) = y.n (9 : Nat)) = true ∧ decide (y.n (10 : Nat) = y.n (10 : Nat)) = true ∧ decide (y.n (11 : Nat) = y.n (11 : Nat)) =
      true ∧ decide (y.n (12 : Nat) = y.n (12 : Nat)) = true ∧ decide (y.n (13 : Nat) = y.n (13 : Nat)) = true ∧ decide (y.n (14 : Nat) = y.n (14 : Nat)) = true ∧ decide (y.n
      (15 : Nat) = y.n (15 : Nat)) = true ∧ decide (y.n (16 : Nat) = y.n (16 : Nat)) = true ∧ decide (y.n (17 : Nat) = y.n (17 : Nat)) = true ∧ decide (y.n (18 : Nat) = y.n (18
      : Nat)) = true ∧ decide (y.n (19 : Nat) = y.n (19 : Nat)) = true ∧ decide (y.n (20 : Nat) = y.n (20 : Nat)) = true ∧ decide (y.n (21 : Nat) = y.n (21 : Nat)) = true ∧
      decide (y.n (22 : Nat) = y.n (22 : Nat)) = true ∧ decide (y.n (23 : Nat) = y.n (23 : Nat)) = true ∧ decide (y.n (24 : Nat) = y.n (24 : Nat)) = true ∧ decide (y.n (25 :
      Nat) = y.n (25 : Nat)) = true ∧ decide (y.n (26 : Nat) = y.n (26 : Nat)) = true ∧ decide (y.n (27 : Nat) = y.n (27 : Nat)) = true ∧ decide (y.n (28 : Nat) = y.n (28 :
      Nat)) = true ∧ decide (y.n (29 : Nat) = y.n (29 : Nat)) = true ∧ decide (y.n (30 : Nat) = y.n (30 : Nat)) = true ∧ decide (y.n (31 : Nat) = y.n (31 : Nat)) = true ∧ decide
      (y.n (32 : Nat) = y.n (32 : Nat)) = true ∧ decide (y.n (33 : Nat) = y.n (33 : Nat)) = true ∧ decide (y.n (34 : Nat) = y.n (34 : Nat)) = true ∧ decide (y.n (73 : Nat) = y.n
      (73 : Nat)) = true ∧ decide ((y.n (74 : Nat)).toNat = (y.n (74 : Nat)).toNat) = true ∧ decide (y.n (91004 : Nat) = y.n (91004 : Nat)) = true ∧ sameB (Bl.mk (y.l (4 : Nat))
      (60 : Nat)) (Bl.mk (y.l (4 : Nat)) (60 : Nat)) = true ∧ decide ((y.n (74 : Nat)).toNat * (2 : Nat) ≤ (y.l (4 : Nat)).length) = true ∧ decide ((y.n (74 : Nat)).toNat + (1 :
      Nat) ≤ (1099511627776 : Nat)) = true ∧ decide (((y.n (74 : Nat)).toNat + (1 : Nat)) * (4 : Nat) ≤ (1099511627776 : Nat)) = true ∧ rt_td E = rt_td E ∧ (58 : Nat) = (58 :
      Nat) ∧ (True ∧ (renC (posN [(0 : Nat), (1 : Nat), (1000000000002 : Nat), (3 : Nat), (6 : Nat)]) (C.i false IntKind.i64 w) = C.i false IntKind.i64 w ∧ True) ∧ (((0 : Int) ≤
      IntKind.i64.wrap (y.n (91004 : Nat) + (512 : Int)) ∧ IntKind.i64.wrap (y.n (91004 : Nat) + (512 : Int)) ≤ (10001000 : Int)) ∧ True) ∧ True) ∧ ((68 : Nat) = (68 : Nat) ∧
      (((0 : Int) ≤ y.n (33 : Nat) ∧ y.n (33 : Nat) ≤ (32 : Int)) ∧ ((-128 : Int) ≤ y.n (34 : Nat) ∧ y.n (34 : Nat) ≤ (127 : Int)) ∧ ((0 : Int) ≤ y.n (73 : Nat) ∧ y.n (73 : Nat)
      ≤ (10000000 : Int)) ∧ True) ∧ (84 : Nat) = (84 : Nat) ∧ (((0 : Int) ≤ y.n (91004 : Nat) ∧ y.n (91004 : Nat) ≤ (10000000 : Int)) ∧ True) ∧ (4294967295 : Nat) = (4294967295
      : Nat) ∧
      (741991204937588471353107210173517385893522847741378461052633880361214601735917472982278721692919759636892846595991201096475255940853038949688016010326287086087990634635853824
      : Nat) =
      (741991204937588471353107210173517385893522847741378461052633880361214601735917472982278721692919759636892846595991201096475255940853038949688016010326287086087990634635853824
      : Nat) ∧ (60 : Nat) = (60 : Nat) ∧ (flat [Sp.i IntKind.i16, Sp.i IntKind.i16] = true ∧ Row [Sp.i IntKind.i16, Sp.i IntKind.i16] (rApp (y.l (4 : Nat)) ((y.n (74 :
      Nat)).toNat * (2 : Nat)) [C.i false IntKind.i16 (IntKind.i16.wrap (IntKind.i64.wrap (IntKind.i64.wrap ((if (1023 : Int) < if (0 : Int) > IntKind.i64.wrap (IntKind.i64.wrap
      ((0 : Int) + IntKind.i64.wrap ((4 : Int) * IntKind.i64.wrap (y.n (34 : Nat)))) + (512 : Int)) then (0 : Int) else IntKind.i64.wrap (IntKind.i64.wrap ((0 : Int) +
      IntKind.i64.wrap ((4 : Int) * IntKind.i64.wrap (y.n (34 : Nat)))) + (512 : Int)) then (1023 : Int) else if (0 : Int) > IntKind.i64.wrap (IntKind.i64.wrap ((0 : Int) +
      IntKind.i64.wrap ((4 : Int) * IntKind.i64.wrap (y.n (34 : Nat)))) + (512 : Int)) then (0 : Int) else IntKind.i64.wrap (IntKind.i64.wrap ((0 : Int) + IntKind.i64.wrap ((4 :
      Int) * IntKind.i64.wrap (y.n (34 : Nat)))) + (512 : Int))) - (512 : Int)) * (32 : Int)))), C.i false IntKind.i16 (IntKind.i16.wrap (IntKind.i64.wrap (IntKind.i64.wrap ((if
      (1023 : Int) < if (0 : Int) > IntKind.i64.wrap (IntKind.i64.wrap ((0 : Int) + IntKind.i64.wrap ((4 : Int) * IntKind.i64.wrap (y.n (34 : Nat)))) + (512 : Int)) then (0 :
      Int) else IntKind.i64.wrap (IntKind.i64.wrap ((0 : Int) + IntKind.i64.wrap ((4 : Int) * IntKind.i64.wrap (y.n (34 : Nat)))) + (512 : Int)) then (1023 : Int) else if (0 :
      Int) > IntKind.i64.wrap (IntKind.i64.wrap ((0 : Int) + IntKind.i64.wrap ((4 : Int) * IntKind.i64.wrap (y.n (34 : Nat)))) + (512 : Int)) then (0 : Int) else
      IntKind.i64.wrap (IntKind.i64.wrap ((0 : Int) + IntKind.i64.wrap ((4 : Int) * IntKind.i64.wrap (y.n (34 : Nat)))) + (512 : Int))) - (512 : Int)) * (32 : Int))))])) ∧ ([] :
      SW) = []) ∧ ((EQ [z.n (1 : Nat), z.n (2 : Nat), z.n (3 : Nat), z.n (4 : Nat), z.n (5 : Nat), z.n (6 : Nat), z.n (7 : Nat), z.n (8 : Nat), z.n (9 : Nat), z.n (10 : Nat),
      z.n (11 : Nat), z.n (12 : Nat), z.n (13 : Nat), z.n (14 : Nat), z.n (15 : Nat), z.n (16 : Nat), z.n (17 : Nat), z.n (18 : Nat), z.n (19 : Nat), z.n (20 : Nat), z.n (21 :
      Nat), z.n (22 : Nat), z.n (23 : Nat), z.n (24 : Nat), z.n (25 : Nat), z.n (26 : Nat), z.n (27 : Nat), z.n (28 : Nat), z.n (29 : Nat), z.n (30 : Nat), z.n (31 : Nat), z.n
      (32 : Nat)] [y.n (1 : Nat), y.n (2 : Nat), y.n (3 : Nat), y.n (4 : Nat), y.n (5 : Nat), y.n (6 : Nat), y.n (7 : Nat), y.n (8 : Nat), y.n (9 : Nat), y.n (10 : Nat), y.n (11
      : Nat), y.n (12 : Nat), y.n (13 : Nat), y.n (14 : Nat), y.n (15 : Nat), y.n (16 : Nat), y.n (17 : Nat), y.n (18 : Nat), y.n (19 : Nat), y.n (20 : Nat), y.n (21 : Nat), y.n
      (22 : Nat), y.n (23 : Nat), y.n (24 : Nat), y.n (25 : Nat), y.n (26 : Nat), y.n (27 : Nat), y.n (28 : Nat), y.n (29 : Nat), y.n (30 : Nat), y.n (31 : Nat), y.n (32 : Nat)]
      ∧ y.n (33 : Nat) = z.n (33 : Nat) ∧ y.n (34 : Nat) = z.n (34 : Nat) ∧ y.n (73 : Nat) = z.n (73 : Nat) ∧ w = z.n (73 : Nat) + (512 : Int)) ∧ ((↑((y.n (74 : Nat)).toNat + (1
      : Nat)) : Int) = (0 : Int) → IntKind.i64.wrap (y.n (91004 : Nat) + (512 : Int)) = w) ∧ ((↑((y.n (74 : Nat)).toNat + (1 : Nat)) : Int) = (1 : Int) → IntKind.i64.wrap (y.n
      (91004 : Nat) + (512 : Int)) = w + (512 : Int) ∧ Smp (rApp (y.l (4 : Nat)) ((y.n (74 : Nat)).toNat * (2 : Nat)) [C.i false IntKind.i16 (IntKind.i16.wrap (IntKind.i64.wrap
      (IntKind.i64.wrap ((if (1023 : Int) < if (0 : Int) > IntKind.i64.wrap (IntKind.i64.wrap ((0 : Int) + IntKind.i64.wrap ((4 : Int) * IntKind.i64.wrap (y.n (34 : Nat)))) +
      (512 : Int)) then (0 : Int) else IntKind.i64.wrap (IntKind.i64.wrap ((0 : Int) + IntKind.i64.wrap ((4 : Int) * IntKind.i64.wrap (y.n (34 : Nat)))) + (512 : Int)) then
      (1023 : Int) else if (0 : Int) > IntKind.i64.wrap (IntKind.i64.wrap ((0 : Int) + IntKind.i64.wrap ((4 : Int) * IntKind.i64.wrap (y.n (34 : Nat)))) + (512 : Int)) then (0 :
      Int) else IntKind.i64.wrap (IntKind.i64.wrap ((0 : Int) + IntKind.i64.wrap ((4 : Int) * IntKind.i64.wrap (y.n (34 : Nat)))) + (512 : Int))) - (512 : Int)) * (32 : Int)))),
      C.i false IntKind.i16 (IntKind.i16.wrap (IntKind.i64.wrap (IntKind.i64.wrap ((if (1023 : Int) < if (0 : Int) > IntKind.i64.wrap (IntKind.i64.wrap ((0 : Int) +
      IntKind.i64.wrap ((4 : Int) * IntKind.i64.wrap (y.n (34 : Nat)))) + (512 : Int)) then (0 : Int) else IntKind.i64.wrap (IntKind.i64.wrap ((0 : Int) + IntKind.i64.wrap ((4 :
      Int) * IntKind.i64.wrap (y.n (34 : Nat)))) + (512 : Int)) then (1023 : Int) else if (0 : Int) > IntKind.i64.wrap (IntKind.i64.wrap ((0 : Int) + IntKind.i64.wrap ((4 : Int)
      * IntKind.i64.wrap (y.n (34 : Nat)))) + (512 : Int)) then (0 : Int) else IntKind.i64.wrap (IntKind.i64.wrap ((0 : Int) + IntKind.i64.wrap ((4 : Int) * IntKind.i64.wrap
      (y.n (34 : Nat)))) + (512 : Int))) - (512 : Int)) * (32 : Int))))]) ((128 : Int) * y.n (34 : Nat))) ∧ (↑((y.n (74 : Nat)).toNat + (1 : Nat)) : Int) ≤ (1 : Int)) ∧
      ((10002000 : Int) - IntKind.i64.wrap (y.n (91004 : Nat) + (512 : Int))).toNat < ((10002000 : Int) - y.n (91004 : Nat)).toNat ∧ True) ∧ (decide (y.n (100000 : Nat) < y.n
      (91004 : Nat)) = false → decide (y.n (1 : Nat) = y.n (1 : Nat)) = true ∧ decide (y.n (2 : Nat) = y.n (2 : Nat)) = true ∧ decide (y.n (3 : Nat) = y.n (3 : Nat)) = true ∧
      decide (y.n (4 : Nat) = y.n (4 : Nat)) = true ∧ decide (y.n (5 : Nat) = y.n (5 : Nat)) = true ∧ decide (y.n (6 : Nat) = y.n (6 : Nat)) = true ∧ decide (y.n (7 : Nat) = y.n
      (7 : Nat)) = true ∧ decide (y.n (8 : Nat) = y.n (8 : Nat)) = true ∧ decide (y.n (9 : Nat) = y.n (9 : Nat)) = true ∧ decide (y.n (10 : Nat) = y.n (10 : Nat)) = true ∧
      decide (y.n (11 : Nat) = y.n (11 : Nat)) = true ∧ decide (y.n (12 : Nat) = y.n (12 : Nat)) = true ∧ decide (y.n (13 : Nat) = y.n (13 : Nat)) = true ∧ decide (y.n (14 :
      Nat) = y.n (14 : Nat)) = true ∧ decide (y.n (15 : Nat) = y.n (15 : Nat)) = true ∧ decide (y.n (16 : Nat) = y.n (16 : Nat)) = true ∧ decide (y.n (17 : Nat) = y.n (17 :
      Nat)) = true ∧ decide (y.n (18 : Nat) = y.n (18 : Nat)) = true ∧ decide (y.n (19 : Nat) = y.n (19 : Nat)) = true ∧ decide (y.n (20 : Nat) = y.n (20 : Nat)) = true ∧ decide
      (y.n (21 : Nat) = y.n (21 : Nat)) = true ∧ decide (y.n (22 : Nat) = y.n (22 : Nat)) = true ∧ decide (y.n (23 : Nat) = y.n (23 : Nat)) = true ∧ decide (y.n (24 : Nat) = y.n
      (24 : Nat)) = true ∧ decide (y.n (25 : Nat) = y.n (25 : Nat)) = true ∧ decide (y.n (26 : Nat) = y.n (26 : Nat)) = true ∧ decide (y.n (27 : Nat) = y.n (27 : Nat)) = true ∧
      decide (y.n (28 : Nat) = y.n (28 : Nat)) = true ∧ decide (y.n (29 : Nat) = y.n (29 : Nat)) = true ∧ decide (y.n (30 : Nat) = y.n (30 : Nat)) = true ∧ decide (y.n (31 :
      Nat) = y.n (31 : Nat)) = true ∧ decide (y.n (32 : Nat) = y.n (32 : Nat)) = true ∧ decide (y.n (33 : Nat) = y.n (33 : Nat)) = true ∧ decide (y.n (34 : Nat) = y.n (34 :
      Nat)) = true ∧ decide (y.n (73 : Nat) = y.n (73 : Nat)) = true ∧ decide ((y.n (74 : Nat)).toNat = (y.n (74 : Nat)).toNat) = true ∧ decide (y.n (91004 : Nat) = y.n (91004 :
      Nat)) = true ∧ sameB (Bl.mk (y.l (4 : Nat)) (60 : Nat)) (Bl.mk (y.l (4 : Nat)) (60 : Nat)) = true ∧ sameB (Bl.mk [C.i true IntKind.i16 (0 : Int), C.i true IntKind.i16 (0 :
      Int)] (60 : Nat)) (Bl.mk [C.i true IntKind.i16 (0 : Int), C.i true IntKind.i16 (0 : Int)] (60 : Nat)) = true ∧ decide (y.n (1 : Nat) = y.n (1 : Nat)) = true ∧ decide (y.n
      (2 : Nat) = y.n (2 : Nat)) = true ∧ decide (y.n (3 : Nat) = y.n (3 : Nat)) = true ∧ decide (y.n (4 : Nat) = y.n (4 : Nat)) = true ∧ decide (y.n (5 : Nat) = y.n (5 : Nat))
      = true ∧ decide (y.n (6 : Nat) = y.n (6 : Nat)) = true ∧ decide (y.n (7 : Nat) = y.n (7 : Nat)) = true ∧ decide (y.n (8 : Nat) = y.n (8 : Nat)) = true ∧ decide (y.n (9 :
      Nat) = y.n (9 : Nat)) = true ∧ decide (y.n (10 : Nat) = y.n (10 : Nat)) = true ∧ decide (y.n (11 : Nat) = y.n (11 : Nat)) = true ∧ decide (y.n (12 : Nat) = y.n (12 : Nat))
      = true ∧ decide (y.n (13 : Nat) = y.n (13 : Nat)) = true ∧ decide (y.n (14 : Nat) = y.n (14 : Nat)) = true ∧ decide (y.n (15 : Nat) = y.n (15 : Nat)) = true ∧ decide (y.n
      (16 : Nat) = y.n (16 : Nat)) = true ∧ decide (y.n (17 : Nat) = y.n (17 : Nat)) = true ∧ decide (y.n (18 : Nat) = y.n (18 : Nat)) = true ∧ decide (y.n (19 : Nat) = y.n (19
      : Nat)) = true ∧ decide (y.n (20 : Nat) = y.n (20 : Nat)) = true ∧ decide (y.n (21 : Nat) = y.n (21 : Nat)) = true ∧ decide (y.n (22 : Nat) = y.n (22 : Nat)) = true ∧
      decide (y.n (23 : Nat) = y.n (23 : Nat)) = true ∧ decide (y.n (24 : Nat) = y.n (24 : Nat)) = true ∧ decide (y.n (25 : Nat) = y.n (25 : Nat)) = true ∧ decide (y.n (26 :
      Nat) = y.n (26 : Nat)) = true ∧ decide (y.n (27 : Nat) = y.n (27 : Nat)) = true ∧ decide (y.n (28 : Nat) = y.n (28 : Nat)) = true ∧ decide (y.n (29 : Nat) = y.n (29 :
      Nat)) = true ∧ decide (y.n (30 : Nat) = y.n (30 : Nat)) = true ∧ decide (y.n (31 : Nat) = y.n (31 : Nat)) = true ∧ decide (y.n (32 : Nat) = y.n (32 : Nat)) = true ∧ decide
      (y.n (33 : Nat) = y.n (33 : Nat)) = true ∧ decide (y.n (34 : Nat) = y.n (34 : Nat)) = true ∧ decide (y.n (73 : Nat) = y.n (73 : Nat)) = true ∧ decide ((y.n (74 :
      Nat)).toNat = (y.n (74 : Nat)).toNat) = true ∧ decide (y.n (91004 : Nat) = y.n (91004 : Nat)) = true ∧ sameB (Bl.mk (y.l (4 : Nat)) (60 : Nat)) (Bl.mk (y.l (4 : Nat)) (60
      : Nat)) = true ∧ sameB (Bl.mk [C.i true IntKind.i16 (0 : Int), C.i true IntKind.i16 (0 : Int)] (60 : Nat)) (Bl.mk [C.i true IntKind.i16 (0 : Int), C.i true IntKind.i16 (0
      : Int)] (60 : Nat)) = true ∧ decide (y.n (1 : Nat) = y.n (1 : Nat)) = true ∧ decide (y.n (2 : Nat) = y.n (2 : Nat)) = true ∧ decide (y.n (3 : Nat) = y.n (3 : Nat)) = true
      ∧ decide (y.n (4 : Nat) = y.n (4 : Nat)) = true ∧ decide (y.n (5 : Nat) = y.n (5 : Nat)) = true ∧ decide (y.n (6 : Nat) = y.n (6 : Nat)) = true ∧ decide (y.n (7 : Nat) =
      y.n (7 : Nat)) = true ∧ decide (y.n (8 : Nat) = y.n (8 : Nat)) = true ∧ decide (y.n (9 : Nat) = y.n (9 : Nat)) = true ∧ decide (y.n (10 : Nat) = y.n (10 : Nat)) = true ∧
      decide (y.n (11 : Nat) = y.n (11 : Nat)) = true ∧ decide (y.n (12 : Nat) = y.n (12 : Nat)) = true ∧ decide (y.n (13 : Nat) = y.n (13 : Nat)) = true ∧ decide (y.n (14 :
      Nat) = y.n (14 : Nat)) = true ∧ decide (y.n (15 : Nat) = y.n (15 : Nat)) = true ∧ decide (y.n (16 : Nat) = y.n (16 : Nat)) = true ∧ decide (y.n (17 : Nat) = y.n (17 :
      Nat)) = true ∧ decide (y.n (18 : Nat) = y.n (18 : Nat)) = true ∧ decide (y.n (19 : Nat) = y.n (19 : Nat)) = true ∧ decide (y.n (20 : Nat) = y.n (20 : Nat)) = true ∧ decide
      (y.n (21 : Nat) = y.n (21 : Nat)) = true ∧ decide (y.n (22 : Nat) = y.n (22 : Nat)) = true ∧ decide (y.n (23 : Nat) = y.n (23 : Nat)) = true ∧ decide (y.n (24 : Nat) = y.n
      (24 : Nat)) = true ∧ decide (y.n (25 : Nat) = y.n (25 : Nat)) = true ∧ decide (y.n (26 : Nat) = y.n (26 : Nat)) = true ∧ decide (y.n (27 : Nat) = y.n (27 : Nat)) = true ∧
      decide (y.n (28 : Nat) = y.n (28 : Nat)) = true ∧ decide (y.n (29 : Nat) = y.n (29 : Nat)) = true ∧ decide (y.n (30 : Nat) = y.n (30 : Nat)) = true ∧ decide (y.n (31 :
      Nat) = y.n (31 : Nat)) = true ∧ decide (y.n (32 : Nat) = y.n (32 : Nat)) = true ∧ decide (y.n (33 : Nat) = y.n (33 : Nat)) = true ∧ decide (y.n (34 : Nat) = y.n (34 :
      Nat)) = true ∧ decide (y.n (73 : Nat) = y.n (73 : Nat)) = true ∧ decide ((y.n (74 : Nat)).toNat = (y.n (74 : Nat)).toNat) = true ∧ decide (y.n (91004 : Nat) = y.n (91004 :
      Nat)) = true ∧ sameB (Bl.mk (y.l (4 : Nat)) (60 : Nat)) (Bl.mk (y.l (4 : Nat)) (60 : Nat)) = true ∧ decide ((y.n (74 : Nat)).toNat * (2 : Nat) ≤ (y.l (4 : Nat)).length) =
      true ∧ decide ((y.n (74 : Nat)).toNat + (1 : Nat) ≤ (1099511627776 : Nat)) = true ∧ decide (((y.n (74 : Nat)).toNat + (1 : Nat)) * (4 : Nat) ≤ (1099511627776 : Nat)) =
      true ∧ rt_td E = rt_td E ∧ (58 : Nat) = (58 : Nat) ∧ (True ∧ (renC (posN [(0 : Nat), (1 : Nat), (1000000000002 : Nat), (3 : Nat), (6 : Nat)]) (C.i false IntKind.i64 w) =
      C.i false IntKind.i64 w ∧ True) ∧ (((0 : Int) ≤ IntKind.i64.wrap (y.n (91004 : Nat) + (512 : Int)) ∧ IntKind.i64.wrap (y.n (91004 : Nat) + (512 : Int)) ≤ (10001000 : Int))
      ∧ True) ∧ True) ∧ ((68 : Nat) = (68 : Nat) ∧ (((0 : Int) ≤ y.n (33 : Nat) ∧ y.n (33 : Nat) ≤ (32 : Int)) ∧ ((-128 : Int) ≤ y.n (34 : Nat) ∧ y.n (34 : Nat) ≤ (127 : Int)) ∧
      ((0 : Int) ≤ y.n (73 : Nat) ∧ y.n (73 : Nat) ≤ (10000000 : Int)) ∧ True) ∧ (84 : Nat) = (84 : Nat) ∧ (((0 : Int) ≤ y.n (91004 : Nat) ∧ y.n (91004 : Nat) ≤ (10000000 :
      Int)) ∧ True) ∧ (4294967295 : Nat) = (4294967295 : Nat) ∧
      (741991204937588471353107210173517385893522847741378461052633880361214601735917472982278721692919759636892846595991201096475255940853038949688016010326287086087990634635853824
      : Nat) =
      (741991204937588471353107210173517385893522847741378461052633880361214601735917472982278721692919759636892846595991201096475255940853038949688016010326287086087990634635853824
      : Nat) ∧ (60 : Nat) = (60 : Nat) ∧ (flat [Sp.i IntKind.i16, Sp.i IntKind.i16] = true ∧ Row [Sp.i IntKind.i16, Sp.i IntKind.i16] (rApp (y.l (4 : Nat)) ((y.n (74 :
      Nat)).toNat * (2 : Nat)) [C.i false IntKind.i16 (IntKind.i16.wrap (IntKind.i64.wrap (IntKind.i64.wrap ((if (1023 : Int) < if (0 : Int) > IntKind.i64.wrap (IntKind.i64.wrap
      ((0 : Int) + IntKind.i64.wrap ((4 : Int) * IntKind.i64.wrap (y.n (34 : Nat)))) + (512 : Int)) then (0 : Int) else IntKind.i64.wrap (IntKind.i64.wrap ((0 : Int) +
      IntKind.i64.wrap ((4 : Int) * IntKind.i64.wrap (y.n (34 : Nat)))) + (512 : Int)) then (1023 : Int) else if (0 : Int) > IntKind.i64.wrap (IntKind.i64.wrap ((0 : Int) +
      IntKind.i64.wrap ((4 : Int) * IntKind.i64.wrap (y.n (34 : Nat)))) + (512 : Int)) then (0 : Int) else IntKind.i64.wrap (IntKind.i64.wrap ((0 : Int) + IntKind.i64.wrap ((4 :
      Int) * IntKind.i64.wrap (y.n (34 : Nat)))) + (512 : Int))) - (512 : Int)) * (32 : Int)))), C.i false IntKind.i16 (IntKind.i16.wrap (IntKind.i64.wrap (IntKind.i64.wrap ((if
      (1023 : Int) < if (0 : Int) > IntKind.i64.wrap (IntKind.i64.wrap ((0 : Int) + IntKind.i64.wrap ((4 : Int) * IntKind.i64.wrap (y.n (34 : Nat)))) + (512 : Int)) then (0 :
      Int) else IntKind.i64.wrap (IntKind.i64.wrap ((0 : Int) + IntKind.i64.wrap ((4 : Int) * IntKind.i64.wrap (y.n (34 : Nat)))) + (512 : Int)) then (1023 : Int) else if (0 :
      Int) > IntKind.i64.wrap (IntKind.i64.wrap ((0 : Int) + IntKind.i64.wrap ((4 : Int) * IntKind.i64.wrap (y.n (34 : Nat)))) + (512 : Int)) then (0 : Int) else
      IntKind.i64.wrap (IntKind.i64.wrap ((0 : Int) + IntKind.i64.wrap ((4 : Int) * IntKind.i64.wrap (y.n (34 : Nat)))) + (512 : Int))) - (512 : Int)) * (32 : Int))))])) ∧ ([] :
      SW) = []) ∧ ((EQ [z.n (1 : Nat), z.n (2 : Nat), z.n (3 : Nat), z.n (4 : Nat), z.n (5 : Nat), z.n (6 : Nat), z.n (7 : Nat), z.n (8 : Nat), z.n (9 : Nat), z.n (10 : Nat),
      z.n (11 : Nat), z.n (12 : Nat), z.n (13 : Nat), z.n (14 : Nat), z.n (15 : Nat), z.n (16 : Nat), z.n (17 : Nat), z.n (18 : Nat), z.n (19 : Nat), z.n (20 : Nat), z.n (21 :
      Nat), z.n (22 : Nat), z.n (23 : Nat), z.n (24 : Nat), z.n (25 : Nat), z.n (26 : Nat), z.n (27 : Nat), z.n (28 : Nat), z.n (29 : Nat), z.n (30 : Nat), z.n (31 : Nat), z.n
      (32 : Nat)] [y.n (1 : Nat), y.n (2 : Nat), y.n (3 : Nat), y.n (4 : Nat), y.n (5 : Nat), y.n (6 : Nat), y.n (7 : Nat), y.n (8 : Nat), y.n (9 : Nat), y.n (10 : Nat), y.n (11
      : Nat), y.n (12 : Nat), y.n (13 : Nat), y.n (14 : Nat), y.n (15 : Nat), y.n (16 : Nat), y.n (17 : Nat), y.n (18 : Nat), y.n (19 : Nat), y.n (20 : Nat), y.n (21 : Nat), y.n
      (22 : Nat), y.n (23 : Nat), y.n (24 : Nat), y.n (25 : Nat), y.n (26 : Nat), y.n (27 : Nat), y.n (28 : Nat), y.n (29 : Nat), y.n (30 : Nat), y.n (31 : Nat), y.n (32 : Nat)]
      ∧ y.n (33 : Nat) = z.n (33 : Nat) ∧ y.n (34 : Nat) = z.n (34 : Nat) ∧ y.n (73 : Nat) = z.n (73 : Nat) ∧ w = z.n (73 : Nat) + (512 : Int)) ∧ ((↑((y.n (74 : Nat)).toNat + (1
      : Nat)) : Int) = (0 : Int) → IntKind.i64.wrap (y.n (91004 : Nat) + (512 : Int)) = w) ∧ ((↑((y.n (74 : Nat)).toNat + (1 : Nat)) : Int) = (1 : Int) → IntKind.i64.wrap (y.n
      (91004 : Nat) + (512 : Int)) = w + (512 : Int) ∧ Smp (rApp (y.l (4 : Nat)) ((y.n (74 : Nat)).toNat * (2 : Nat)) [C.i false IntKind.i16 (IntKind.i16.wrap (IntKind.i64.wrap
      (IntKind.i64.wrap ((if (1023 : Int) < if (0 : Int) > IntKind.i64.wrap (IntKind.i64.wrap ((0 : Int) + IntKind.i64.wrap ((4 : Int) * IntKind.i64.wrap (y.n (34 : Nat)))) +
      (512 : Int)) then (0 : Int) else IntKind.i64.wrap (IntKind.i64.wrap ((0 : Int) + IntKind.i64.wrap ((4 : Int) * IntKind.i64.wrap (y.n (34 : Nat)))) + (512 : Int)) then
      (1023 : Int) else if (0 : Int) > IntKind.i64.wrap (IntKind.i64.wrap ((0 : Int) + IntKind.i64.wrap ((4 : Int) * IntKind.i64.wrap (y.n (34 : Nat)))) + (512 : Int)) then (0 :
      Int) else IntKind.i64.wrap (IntKind.i64.wrap ((0 : Int) + IntKind.i64.wrap ((4 : Int) * IntKind.i64.wrap (y.n (34 : Nat)))) + (512 : Int))) - (512 : Int)) * (32 : Int)))),
      C.i false IntKind.i16 (IntKind.i16.wrap (IntKind.i64.wrap (IntKind.i64.wrap ((if (1023 : Int) < if (0 : Int) > IntKind.i64.wrap (IntKind.i64.wrap ((0 : Int) +
      IntKind.i64.wrap ((4 : Int) * IntKind.i64.wrap (y.n (34 : Nat)))) + (512 : Int)) then (0 : Int) else IntKind.i64.wrap (IntKind.i64.wrap ((0 : Int) + IntKind.i64.wrap ((4 :
      Int) * IntKind.i64.wrap (y.n (34 : Nat)))) + (512 : Int)) then (1023 : Int) else if (0 : Int) > IntKind.i64.wrap (IntKind.i64.wrap ((0 : Int) + IntKind.i64.wrap ((4 : Int)
      * IntKind.i64.wrap (y.n (34 : Nat)))) + (512 : Int)) then (0 : Int) else IntKind.i64.wrap (IntKind.i64.wrap ((0 : Int) + IntKind.i64.wrap ((4 : Int) * IntKind.i64.wrap
      (y.n (34 : Nat)))) + (512 : Int))) - (512 : Int)) * (32 : Int))))]) ((128 : Int) * y.n (34 : Nat))) ∧ (↑((y.n (74 : Nat)).toNat + (1 : Nat)) : Int) ≤ (1 : Int)) ∧
      ((10002000 : Int) - IntKind.i64.wrap (y.n (91004 : Nat) + (512 : Int))).toNat < ((10002000 : Int) - y.n (91004 : Nat)).toNat ∧ True))) ∧ (decide (y.n (91004 : Nat) ≤ w) =
      false → ((bif decide (w ≤ y.n (100000 : Nat)) then true else decide (w > (2199023255552 : Int))) = true → ((68 : Nat) = (68 : Nat) ∧ (((0 : Int) ≤ y.n (33 : Nat) ∧ y.n (33
      : Nat) ≤ (32 : Int)) ∧ ((-128 : Int) ≤ y.n (34 : Nat) ∧ y.n (34 : Nat) ≤ (127 : Int)) ∧ ((0 : Int) ≤ w ∧ w ≤ (10000000 : Int)) ∧ True) ∧ (84 : Nat) = (84 : Nat) ∧ (((0 :
      Int) ≤ y.n (100000 : Nat) ∧ y.n (100000 : Nat) ≤ (10000000 : Int)) ∧ True) ∧ (4294967295 : Nat) = (4294967295 : Nat) ∧
      (741991204937588471353107210173517385893522847741378461052633880361214601735917472982278721692919759636892846595991201096475255940853038949688016010326287086087990634635853824
      : Nat) =
      (741991204937588471353107210173517385893522847741378461052633880361214601735917472982278721692919759636892846595991201096475255940853038949688016010326287086087990634635853824
      : Nat) ∧ (60 : Nat) = (60 : Nat) ∧ (flat [Sp.i IntKind.i16, Sp.i IntKind.i16] = true ∧ Row [Sp.i IntKind.i16, Sp.i IntKind.i16] (y.l (4 : Nat))) ∧ ([] : SW) = []) ∧ True ∧
      (EQ [z.n (1 : Nat), z.n (2 : Nat), z.n (3 : Nat), z.n (4 : Nat), z.n (5 : Nat), z.n (6 : Nat), z.n (7 : Nat), z.n (8 : Nat), z.n (9 : Nat), z.n (10 : Nat), z.n (11 : Nat),
      z.n (12 : Nat), z.n (13 : Nat), z.n (14 : Nat), z.n (15 : Nat), z.n (16 : Nat), z.n (17 : Nat), z.n (18 : Nat), z.n (19 : Nat), z.n (20 : Nat), z.n (21 : Nat), z.n (22 :
      Nat), z.n (23 : Nat), z.n (24 : Nat), z.n (25 : Nat), z.n (26 : Nat), z.n (27 : Nat), z.n (28 : Nat), z.n (29 : Nat), z.n (30 : Nat), z.n (31 : Nat), z.n (32 : Nat)] [y.n
      (1 : Nat), y.n (2 : Nat), y.n (3 : Nat), y.n (4 : Nat), y.n (5 : Nat), y.n (6 : Nat), y.n (7 : Nat), y.n (8 : Nat), y.n (9 : Nat), y.n (10 : Nat), y.n (11 : Nat), y.n (12
      : Nat), y.n (13 : Nat), y.n (14 : Nat), y.n (15 : Nat), y.n (16 : Nat), y.n (17 : Nat), y.n (18 : Nat), y.n (19 : Nat), y.n (20 : Nat), y.n (21 : Nat), y.n (22 : Nat), y.n
      (23 : Nat), y.n (24 : Nat), y.n (25 : Nat), y.n (26 : Nat), y.n (27 : Nat), y.n (28 : Nat), y.n (29 : Nat), y.n (30 : Nat), y.n (31 : Nat), y.n (32 : Nat)] ∧ y.n (33 :
      Nat) = z.n (33 : Nat) ∧ y.n (34 : Nat) = z.n (34 : Nat) ∧ w = w) ∧ (w = z.n (73 : Nat) → (↑(y.n (74 : Nat)).toNat : Int) = (0 : Int)) ∧ (w = z.n (73 : Nat) + (512 : Int) →
      (↑(y.n (74 : Nat)).toNat : Int) = (1 : Int) ∧ Smp (y.l (4 : Nat)) ((128 : Int) * y.n (34 : Nat)))) ∧ ((bif decide (w ≤ y.n (100000 : Nat)) then true else decide (w >
      (2199023255552 : Int))) = false → (decide (y.n (100000 : Nat) < w) = true → ((68 : Nat) = (68 : Nat) ∧ (((0 : Int) ≤ y.n (33 : Nat) ∧ y.n (33 : Nat) ≤ (32 : Int)) ∧ ((-128
      : Int) ≤ y.n (34 : Nat) ∧ y.n (34 : Nat) ≤ (127 : Int)) ∧ ((0 : Int) ≤ w ∧ w ≤ (10000000 : Int)) ∧ True) ∧ (84 : Nat) = (84 : Nat) ∧ (((0 : Int) ≤ w ∧ w ≤ (10000000 :
      Int)) ∧ True) ∧ (4294967295 : Nat) = (4294967295 : Nat) ∧
      (741991204937588471353107210173517385893522847741378461052633880361214601735917472982278721692919759636892846595991201096475255940853038949688016010326287086087990634635853824
      : Nat) =
      (741991204937588471353107210173517385893522847741378461052633880361214601735917472982278721692919759636892846595991201096475255940853038949688016010326287086087990634635853824
      : Nat) ∧ (60 : Nat) = (60 : Nat) ∧ (flat [Sp.i IntKind.i16, Sp.i IntKind.i16] = true ∧ Row [Sp.i IntKind.i16, Sp.i IntKind.i16] (y.l (4 : Nat))) ∧ ([] : SW) = []) ∧ True ∧
      (EQ [z.n (1 : Nat), z.n (2 : Nat), z.n (3 : Nat), z.n (4 : Nat), z.n (5 : Nat), z.n (6 : Nat), z.n (7 : Nat), z.n (8 : Nat), z.n (9 : Nat), z.n (10 : Nat), z.n (11 : Nat),
      z.n (12 : Nat), z.n (13 : Nat), z.n (14 : Nat), z.n (15 : Nat), z.n (16 : Nat), z.n (17 : Nat), z.n (18 : Nat), z.n (19 : Nat), z.n (20 : Nat), z.n (21 : Nat), z.n (22 :
      Nat), z.n (23 : Nat), z.n (24 : Nat), z.n (25 : Nat), z.n (26 : Nat), z.n (27 : Nat), z.n (28 : Nat), z.n (29 : Nat), z.n (30 : Nat), z.n (31 : Nat), z.n (32 : Nat)] [y.n
      (1 : Nat), y.n (2 : Nat), y.n (3 : Nat), y.n (4 : Nat), y.n (5 : Nat), y.n (6 : Nat), y.n (7 : Nat), y.n (8 : Nat), y.n (9 : Nat), y.n (10 : Nat), y.n (11 : Nat), y.n (12
      : Nat), y.n (13 : Nat), y.n (14 : Nat), y.n (15 : Nat), y.n (16 : Nat), y.n (17 : Nat), y.n (18 : Nat), y.n (19 : Nat), y.n (20 : Nat), y.n (21 : Nat), y.n (22 : Nat), y.n
      (23 : Nat), y.n (24 : Nat), y.n (25 : Nat), y.n (26 : Nat), y.n (27 : Nat), y.n (28 : Nat), y.n (29 : Nat), y.n (30 : Nat), y.n (31 : Nat), y.n (32 : Nat)] ∧ y.n (33 :
      Nat) = z.n (33 : Nat) ∧ y.n (34 : Nat) = z.n (34 : Nat) ∧ w = w) ∧ (w = z.n (73 : Nat) → (↑(y.n (74 : Nat)).toNat : Int) = (0 : Int)) ∧ (w = z.n (73 : Nat) + (512 : Int) →
      (↑(y.n (74 : Nat)).toNat : Int) = (1 : Int) ∧ Smp (y.l (4 : Nat)) ((128 : Int) * y.n (34 : Nat)))) ∧ (decide (y.n (100000 : Nat) < w) = false → ((68 : Nat) = (68 : Nat) ∧
      (((0 : Int) ≤ y.n (33 : Nat) ∧ y.n (33 : Nat) ≤ (32 : Int)) ∧ ((-128 : Int) ≤ y.n (34 : Nat) ∧ y.n (34 : Nat) ≤ (127 : Int)) ∧ ((0 : Int) ≤ w ∧ w ≤ (10000000 : Int)) ∧
      True) ∧ (84 : Nat) = (84 : Nat) ∧ (((0 : Int) ≤ w ∧ w ≤ (10000000 : Int)) ∧ True) ∧ (4294967295 : Nat) = (4294967295 : Nat) ∧
      (741991204937588471353107210173517385893522847741378461052633880361214601735917472982278721692919759636892846595991201096475255940853038949688016010326287086087990634635853824
      : Nat) =
      (741991204937588471353107210173517385893522847741378461052633880361214601735917472982278721692919759636892846595991201096475255940853038949688016010326287086087990634635853824
      : Nat) ∧ (60 : Nat) = (60 : Nat) ∧ (flat [Sp.i IntKind.i16, Sp.i IntKind.i16] = true ∧ Row [Sp.i IntKind.i16, Sp.i IntKind.i16] (y.l (4 : Nat))) ∧ ([] : SW) = []) ∧ True ∧
      (EQ [z.n (1 : Nat), z.n (2 : Nat), z.n (3 : Nat), z.n (4 : Nat), z.n (5 : Nat), z.n (6 : Nat), z.n (7 : Nat), z.n (8 : Nat), z.n (9 : Nat), z.n (10 : Nat), z.n (11 : Nat),
      z.n (12 : Nat), z.n (13 : Nat), z.n (14 : Nat), z.n (15 : Nat), z.n (16 : Nat), z.n (17 : Nat), z.n (18 : Nat), z.n (19 : Nat), z.n (20 : Nat), z.n (21 : Nat), z.n (22 :
      Nat), z.n (23 : Nat), z.n (24 : Nat), z.n (25 : Nat), z.n (26 : Nat), z.n (27 : Nat), z.n (28 : Nat), z.n (29 : Nat), z.n (30 : Nat), z.n (31 : Nat), z.n (32 : Nat)] [y.n
      (1 : Nat), y.n (2 : Nat), y.n (3 : Nat), y.n (4 : Nat), y.n (5 : Nat), y.n (6 : Nat), y.n (7 : Nat), y.n (8 : Nat), y.n (9 : Nat), y.n (10 : Nat), y.n (11 : Nat), y.n (12
      : Nat), y.n (13 : Nat), y.n (14 : Nat), y.n (15 : Nat), y.n (16 : Nat), y.n (17 : Nat), y.n (18 : Nat), y.n (19 : Nat), y.n (20 : Nat), y.n (21 : Nat), y.n (22 : Nat), y.n
      (23 : Nat), y.n (24 : Nat), y.n (25 : Nat), y.n (26 : Nat), y.n (27 : Nat), y.n (28 : Nat), y.n (29 : Nat), y.n (30 : Nat), y.n (31 : Nat), y.n (32 : Nat)] ∧ y.n (33 :
      Nat) = z.n (33 : Nat) ∧ y.n (34 : Nat) = z.n (34 : Nat) ∧ w = w) ∧ (w = z.n (73 : Nat) → (↑(y.n (74 : Nat)).toNat : Int) = (0 : Int)) ∧ (w = z.n (73 : Nat) + (512 : Int) →
      (↑(y.n (74 : Nat)).toNat : Int) = (1 : Int) ∧ Smp (y.l (4 : Nat)) ((128 : Int) * y.n (34 : Nat))))))) := by kernel_rfl
set_option maxHeartbeats 8000000 in
theorem rn_q0 (E : World) (w : Int) (z : PX) (hp : (fun z => z.n 74 = 0 ∧ (w ≤ z.n 73 + 512 ∧ z.n 73 ≤ w ∧ (w - z.n 73) % 512 = 0) ∧ z.n 73 % 512 = 0 ∧ w ≤ 1000000) z) (y : PX) (hy1 : rgM y [mT 1 4, mP 3, .g HOLE, mO, rowT] 0) (hy2 : rgF y [(0, .c (.p 0 0)), (1, .q (.i false .i64 w)), (4, .r .i64 (0) (10001000))]) (hy3 : (fun y => (EQ [z.n 1, z.n 2, z.n 3, z.n 4, z.n 5, z.n 6, z.n 7, z.n 8, z.n 9, z.n 10, z.n 11, z.n 12, z.n 13, z.n 14, z.n 15, z.n 16, z.n 17, z.n 18, z.n 19, z.n 20, z.n 21, z.n 22, z.n 23, z.n 24, z.n 25, z.n 26, z.n 27, z.n 28, z.n 29, z.n 30, z.n 31, z.n 32] [y.n 1, y.n 2, y.n 3, y.n 4, y.n 5, y.n 6, y.n 7, y.n 8, y.n 9, y.n 10, y.n 11, y.n 12, y.n 13, y.n 14, y.n 15, y.n 16, y.n 17, y.n 18, y.n 19, y.n 20, y.n 21, y.n 22, y.n 23, y.n 24, y.n 25, y.n 26, y.n 27, y.n 28, y.n 29, y.n 30, y.n 31, y.n 32] ∧ y.n 33 = z.n 33 ∧ y.n 34 = z.n 34 ∧ y.n 73 = z.n 73 ∧ w = z.n 73 + 512) ∧ (y.n 74 = 0 → y.n 91004 = w) ∧ (y.n 74 = 1 → y.n 91004 = w + 512 ∧ Smp (y.l 4) (128 * y.n 34)) ∧ y.n 74 ≤ 1) y) : Holds ((run (pe E) (orcA E) (tabL fns) 20000 (2 ^ 2) (rt_td E) (mkL Try.f12.ntmps (slC y [(0, .c (.p 0 0)), (1, .q (.i false .i64 w)), (4, .r .i64 (0) (10001000))])) (mkM y [] [mT 1 4, mP 3, .g HOLE, mO, rowT] 0)).OK (lfP (pe E) Try.f12 (endR ([mT 1 2, mP 3, rowT, mO] : List MB).length [mT 1 4, mP 3, .g HOLE, mO, rowT] (.t []) (fun z y => (EQ [z.n 1, z.n 2, z.n 3, z.n 4, z.n 5, z.n 6, z.n 7, z.n 8, z.n 9, z.n 10, z.n 11, z.n 12, z.n 13, z.n 14, z.n 15, z.n 16, z.n 17, z.n 18, z.n 19, z.n 20, z.n 21, z.n 22, z.n 23, z.n 24, z.n 25, z.n 26, z.n 27, z.n 28, z.n 29, z.n 30, z.n 31, z.n 32] [y.n 1, y.n 2, y.n 3, y.n 4, y.n 5, y.n 6, y.n 7, y.n 8, y.n 9, y.n 10, y.n 11, y.n 12, y.n 13, y.n 14, y.n 15, y.n 16, y.n 17, y.n 18, y.n 19, y.n 20, y.n 21, y.n 22, y.n 23, y.n 24, y.n 25, y.n 26, y.n 27, y.n 28, y.n 29, y.n 30, y.n 31, y.n 32] ∧ y.n 33 = z.n 33 ∧ y.n 34 = z.n 34 ∧ y.n 73 = w) ∧ (w = z.n 73 → y.n 74 = 0) ∧ (w = z.n 73 + 512 → y.n 74 = 1 ∧ Smp (y.l 4) (128 * y.n 34))) z) (headR ([mT 1 2, mP 3, rowT, mO] : List MB).length Try.f12.ntmps (some ((fun y => (10002000 - y.n 91004).toNat) y)) (rn_hs E w z)))) := by
  refine loopP_lfH ⟨?_⟩
  rw [rn_r0]
  have hf : True ∧ True ∧ (((0) ≤ y.n 91004 ∧ y.n 91004 ≤ (10001000)) ∧ True) ∧ True := hy2
  obtain ⟨_, _, ⟨g4, _⟩, _⟩ := hf
  obtain ⟨⟨hE, e33, e34, e73, hw⟩, h0, h1, hle⟩ := hy3
  obtain ⟨_, _, hm, hw1⟩ := hp
  obtain ⟨u33, u34, u73, u74, _⟩ : (0 ≤ y.n 33 ∧ y.n 33 ≤ 32) ∧ (-128 ≤ y.n 34 ∧ y.n 34 ≤ 127) ∧ (0 ≤ y.n 73 ∧ y.n 73 ≤ 10000000) ∧ 0 ≤ y.n 74 ∧ True := hy1.1
  have hP : (0 ≤ y.n 100000 ∧ y.n 100000 ≤ 10000000) ∧ True := hy1.2.1
  have hR : Row [.i .i16, .i .i16] (y.l 4) := hy1.2.2.1.2
  have T1 : ((y.n 74).toNat : Int) = y.n 74 := Int.toNat_of_nonneg u74
  have hf : flat [Sp.i .i16, Sp.i .i16] = true := rfl
  have w1 : IntKind.i64.wrap (y.n 91004 + 512) = y.n 91004 + 512 := by rw [wi64]; omega
  simp only [T1, w1, smp_e _ u34]
  refine ⟨fun hl => ?_, fun hl => ?_⟩
  · have hl := of_decide_eq_true hl
    have n0 : y.n 74 = 0 := by
      by_cases c : y.n 74 = 1
      · have := (h1 c).1; omega
      · omega
    have hat := h0 n0
    have m0 : (y.n 74).toNat * 2 = 0 := by omega
    have T2 : (((y.n 74).toNat + 1 : Nat) : Int) = 1 := by omega
    have hm0 : 0 ≤ (y.l 4).length := Nat.zero_le _
    have hA := Row.app (vs := [C.i false .i16 (128 * y.n 34), C.i false .i16 (128 * y.n 34)]) (m := 0) hR row2 hm0 rfl
    have hS := smp_0 (l := y.l 4) (s := 128 * y.n 34)
    have d1 : decide (0 ≤ (y.l 4).length) = true := decide_eq_true hm0
    have d2 : decide ((y.n 74).toNat + 1 ≤ 1099511627776) = true := decide_eq_true (by omega)
    have d3 : decide (((y.n 74).toNat + 1) * 4 ≤ 1099511627776) = true := decide_eq_true (by omega)
    have q10 : ¬ (1 : Int) = 0 := by decide
    simp only [m0, T2]
    refine ⟨fun _ => ?_, fun _ => ⟨fun _ => ?_, fun _ => ?_⟩⟩
    · ((repeat' (first | exact trivial | with_reducible rfl | assumption | exact decide_eq_true rfl | exact sameB_self _ | exact rfl | apply And.intro | intro _)) <;> omega)
    · ((repeat' (first | exact trivial | with_reducible rfl | assumption | exact decide_eq_true rfl | exact sameB_self _ | exact rfl | apply And.intro | intro _)) <;> omega)
    · ((repeat' (first | exact trivial | with_reducible rfl | assumption | exact decide_eq_true rfl | exact sameB_self _ | exact rfl | apply And.intro | intro _)) <;> omega)
  · have hl := of_decide_eq_false hl
    have n1 : y.n 74 = 1 := by
      by_cases c : y.n 74 = 0
      · have := h0 c; omega
      · omega
    have hS := (h1 n1).2
    ((repeat' (first | exact trivial | with_reducible rfl | assumption | exact decide_eq_true rfl | exact sameB_self _ | exact rfl | apply And.intro | intro _)) <;> omega)
set_option maxHeartbeats 8000000 in
theorem rn_c (E : World) (w : Int) (z : PX) (hz : rgM z [mT 1 2, mP 3, rowT, mO] 0) (hp : (fun z => z.n 74 = 0 ∧ (w ≤ z.n 73 + 512 ∧ z.n 73 ≤ w ∧ (w - z.n 73) % 512 = 0) ∧ z.n 73 % 512 = 0 ∧ w ≤ 1000000) z) : HD (pe E) 12 [.c (.p 0 0), .c (.i false .i64 w)] [mT 1 2, mP 3, rowT, mO] [mT 1 4, mP 3, .g HOLE, mO, rowT] (.t []) (fun z y => (EQ [z.n 1, z.n 2, z.n 3, z.n 4, z.n 5, z.n 6, z.n 7, z.n 8, z.n 9, z.n 10, z.n 11, z.n 12, z.n 13, z.n 14, z.n 15, z.n 16, z.n 17, z.n 18, z.n 19, z.n 20, z.n 21, z.n 22, z.n 23, z.n 24, z.n 25, z.n 26, z.n 27, z.n 28, z.n 29, z.n 30, z.n 31, z.n 32] [y.n 1, y.n 2, y.n 3, y.n 4, y.n 5, y.n 6, y.n 7, y.n 8, y.n 9, y.n 10, y.n 11, y.n 12, y.n 13, y.n 14, y.n 15, y.n 16, y.n 17, y.n 18, y.n 19, y.n 20, y.n 21, y.n 22, y.n 23, y.n 24, y.n 25, y.n 26, y.n 27, y.n 28, y.n 29, y.n 30, y.n 31, y.n 32] ∧ y.n 33 = z.n 33 ∧ y.n 34 = z.n 34 ∧ y.n 73 = w) ∧ (w = z.n 73 → y.n 74 = 0) ∧ (w = z.n 73 + 512 → y.n 74 = 1 ∧ Smp (y.l 4) (128 * y.n 34))) z := by
  refine HD.loop (P := pe E) orcA_ok tab_ok tab_sz mixed Try.func12 (c := Try.f12.body.getD .skip) rfl (by decide) (Nat.le_of_ble_eq_true rfl) (by rfl) 20000 (2 ^ 2) (rn_hs E w z) (by rfl) (loopP_lfH ⟨?_⟩) ?_
  · rw [rn_pro]
    obtain ⟨n0, hw, hm, hw1⟩ := hp
    obtain ⟨u33, u34, u73, u74, _⟩ : (0 ≤ z.n 33 ∧ z.n 33 ≤ 32) ∧ (-128 ≤ z.n 34 ∧ z.n 34 ≤ 127) ∧ (0 ≤ z.n 73 ∧ z.n 73 ≤ 10000000) ∧ 0 ≤ z.n 74 ∧ True := hz.1
    have hP : (0 ≤ z.n 100000 ∧ z.n 100000 ≤ 10000000) ∧ True := hz.2.1
    have hR : Row [.i .i16, .i .i16] (z.l 2) := hz.2.2.1.2
    have T1 : ((z.n 74).toNat : Int) = z.n 74 := Int.toNat_of_nonneg u74
    have hf : flat [Sp.i .i16, Sp.i .i16] = true := rfl
    have hE : EQ [z.n 1, z.n 2, z.n 3, z.n 4, z.n 5, z.n 6, z.n 7, z.n 8, z.n 9, z.n 10, z.n 11, z.n 12, z.n 13, z.n 14, z.n 15, z.n 16, z.n 17, z.n 18, z.n 19, z.n 20, z.n 21, z.n 22, z.n 23, z.n 24, z.n 25, z.n 26, z.n 27, z.n 28, z.n 29, z.n 30, z.n 31, z.n 32] [z.n 1, z.n 2, z.n 3, z.n 4, z.n 5, z.n 6, z.n 7, z.n 8, z.n 9, z.n 10, z.n 11, z.n 12, z.n 13, z.n 14, z.n 15, z.n 16, z.n 17, z.n 18, z.n 19, z.n 20, z.n 21, z.n 22, z.n 23, z.n 24, z.n 25, z.n 26, z.n 27, z.n 28, z.n 29, z.n 30, z.n 31, z.n 32] := And.intro (rfl) <| And.intro (rfl) <| And.intro (rfl) <| And.intro (rfl) <| And.intro (rfl) <| And.intro (rfl) <| And.intro (rfl) <| And.intro (rfl) <| And.intro (rfl) <| And.intro (rfl) <| And.intro (rfl) <| And.intro (rfl) <| And.intro (rfl) <| And.intro (rfl) <| And.intro (rfl) <| And.intro (rfl) <| And.intro (rfl) <| And.intro (rfl) <| And.intro (rfl) <| And.intro (rfl) <| And.intro (rfl) <| And.intro (rfl) <| And.intro (rfl) <| And.intro (rfl) <| And.intro (rfl) <| And.intro (rfl) <| And.intro (rfl) <| And.intro (rfl) <| And.intro (rfl) <| And.intro (rfl) <| And.intro (rfl) <| And.intro (rfl) <| trivial
    have e1 : IntKind.i64.wrap (IntKind.i64.wrap (IntKind.i64.wrap ((z.n 73).tdiv 512) + 1) * 512) = z.n 73 + 512 := by
      rw [show (z.n 73).tdiv 512 = z.n 73 / 512 from Int.tdiv_eq_ediv_of_nonneg u73.1, wi64, wi64, wi64]; omega
    simp only [T1, e1]
    refine ⟨fun h => ?_, fun h => ?_⟩
    · have hle : w ≤ z.n 73 := by
        by_cases c : w ≤ z.n 73
        · exact c
        · exfalso; simp [c] at h; omega
      have hew : z.n 73 = w := by omega
      ((repeat' (first | exact trivial | with_reducible rfl | assumption | exact decide_eq_true rfl | exact sameB_self _ | exact rfl | apply And.intro | intro _)) <;> omega)
    · have hgt : z.n 73 < w := by
        by_cases c : w ≤ z.n 73
        · exfalso; simp [c] at h
        · omega
      ((repeat' (first | exact trivial | with_reducible rfl | assumption | exact decide_eq_true rfl | exact sameB_self _ | exact rfl | apply And.intro | intro _)) <;> omega)
  · intro h hmem y hy1 hy2 hy3
    simp only [rn_hs, List.mem_cons, List.not_mem_nil, or_false] at hmem
    rcases hmem with rfl
    · exact rn_q0 E w z hp y hy1 hy2 hy3
end Go.Proofs.Ytkeinfmfkcgkhaa

