import Derived.Test.YtabklphoccicmaaRA
set_option linter.unusedVariables false
set_option linter.unusedSimpArgs false
namespace Go.Proofs.Ytabklphoccicmaa
open Go Go.Proofs Go.Proofs.Ytabklphoccicmaa.Ev Go.Proofs.Ytabklphoccicmaa.Ev.Ho Go.IntKind
set_option maxRecDepth 100000
noncomputable def ru_h0 (E : World) (R : AU) (z : PX) : Hd := ⟨3, anyH, (ru_td E), [(0, .c (.p 0 0))], [mS 5, mN 3 6, .g HOLE, rowB, .g HOLE, rowB, rowN], fun y => RuI E (z.n 2) (z.n 3) (AU.mk (y.n 1) (OU.mk (Mm.mk (y.n 100000) (y.n 100001) (y.n 100002) (y.l 3) (y.l 6)) (vals (y.l 5)))) R ∧ (y.n 2 = z.n 2 ∧ y.n 3 = z.n 3) ∧ okM (Mm.mk (y.n 100000) (y.n 100001) (y.n 100002) (y.l 3) (y.l 6)) ∧ y.n 100002 + z.n 4 ≤ z.n 100002 + y.n 4 ∧ (y.l 5).length = (y.n 4).toNat ∧ y.n 4 ≤ y.n 3, fun y => ((y.n 3 - y.n 4) * 400 + 9).toNat⟩
noncomputable def ru_h1 (E : World) (R : AU) (z : PX) : Hd := ⟨8, anyH, (rutt E), [(0, .c (.p 0 0)), (3, .r .u8 (0) (255)), (16, .r .i64 (0) (200)), (17, .r .i64 (0) (200))], [mS 5, mN 3 6, .g HOLE, rowB, .g HOLE, rowB, rowN], fun y => (RuI E (z.n 2) (z.n 3) (AU.mk (y.n 1) (gvN E (z.n 2) (z.n 3) (y.n 91003) (y.n 91016 - y.n 91017).toNat (OU.mk (Mm.mk (y.n 100000) (y.n 100001) (y.n 100002) (y.l 3) (y.l 6)) (vals (y.l 5))))) R ∧ (y.n 91017 = 0 → y.n 4 < y.n 3) ∧ 3 ≤ y.n 91016 ∧ y.n 91016 ≤ 130 ∧ y.n 91017 ≤ y.n 91016) ∧ (y.n 2 = z.n 2 ∧ y.n 3 = z.n 3) ∧ okM (Mm.mk (y.n 100000) (y.n 100001) (y.n 100002) (y.l 3) (y.l 6)) ∧ y.n 100002 + z.n 4 ≤ z.n 100002 + y.n 4 ∧ (y.l 5).length = (y.n 4).toNat ∧ y.n 4 ≤ y.n 3, fun y => (if y.n 91017 = 0 then (y.n 3 - y.n 4) * 400 + 8 else (y.n 3 - y.n 4) * 400 + 11 + (y.n 91016 - y.n 91017)).toNat⟩
noncomputable def ru_h2 (E : World) (R : AU) (z : PX) : Hd := ⟨6, anyH, (rutf E), [(0, .c (.p 0 0)), (24, .r .i64 (0) (200)), (25, .r .i64 (0) (200))], [mS 5, mN 3 6, .g HOLE, rowB, .g HOLE, rowB, rowN], fun y => (RuI E (z.n 2) (z.n 3) (ltF E (z.n 2) (z.n 3) (y.n 91024 - y.n 91025).toNat (AU.mk (y.n 1) (OU.mk (Mm.mk (y.n 100000) (y.n 100001) (y.n 100002) (y.l 3) (y.l 6)) (vals (y.l 5))))) R ∧ (y.n 91025 = 0 → y.n 4 < y.n 3) ∧ 1 ≤ y.n 91024 ∧ y.n 91024 ≤ 128 ∧ y.n 91025 ≤ y.n 91024) ∧ (y.n 2 = z.n 2 ∧ y.n 3 = z.n 3) ∧ okM (Mm.mk (y.n 100000) (y.n 100001) (y.n 100002) (y.l 3) (y.l 6)) ∧ y.n 100002 + z.n 4 ≤ z.n 100002 + y.n 4 ∧ (y.l 5).length = (y.n 4).toNat ∧ y.n 4 ≤ y.n 3, fun y => (if y.n 91025 = 0 then (y.n 3 - y.n 4) * 400 + 8 else (y.n 3 - y.n 4) * 400 + 11 + (y.n 91024 - y.n 91025)).toNat⟩
noncomputable def ru_hs (E : World) (R : AU) (z : PX) : List Hd := [ru_h0 E R z, ru_h1 E R z, ru_h2 E R z]
theorem ru_pro (E : World) (R : AU) (z : PX) :
    (loopP (pe E) Try.f40 (endR ([mS 2, mN 3 4, rowB, rowB, rowN] : List MB).length [mS 5, mN 3 6, .g HOLE, rowB, .g HOLE, rowB, rowN] (.t []) (fun z y => (AU.mk (y.n 1) (OU.mk (Mm.mk (y.n 100000) (y.n 100001) (y.n 100002) (y.l 3) (y.l 6)) (vals (y.l 5)))) = R ∧ (y.n 2 = z.n 2 ∧ y.n 3 = z.n 3) ∧ okM (Mm.mk (y.n 100000) (y.n 100001) (y.n 100002) (y.l 3) (y.l 6)) ∧ y.n 100002 + z.n 4 ≤ z.n 100002 + y.n 4 ∧ (y.l 5).length = (y.n 4).toNat ∧ y.n 4 ≤ y.n 3) z) (headR ([mS 2, mN 3 4, rowB, rowB, rowN] : List MB).length Try.f40.ntmps none (ru_hs E R z)) (run (pe E) (orcG E) (tabL fns) 20000 (2 ^ 200 - 1) [.code (Try.f40.body.getD .skip)] ⟨Try.f40.ntmps, mkFrGo (Tr.mk 12) 0 [.c (.p 0 0)]⟩ (mkM z [] [mS 2, mN 3 4, rowB, rowB, rowN] 0))) =
     (ru_td E = ru_td E ∧ 34 = 34 ∧ (True ∧ True) ∧ (eP (z.n 3) (z.l 3) (z.l 2) (z.l 4)) ∧ (RuI E (z.n 2) (z.n 3) (AU.mk (z.n 1) (OU.mk (Mm.mk (z.n 100000) (↑(z.n 100001).toNat : Int) (↑(z.n 100002).toNat : Int) (z.l 3) (z.l 4)) (vals (z.l 2)))) R ∧ (z.n 2 = z.n 2 ∧ z.n 3 = z.n 3) ∧ okM (Mm.mk (z.n 100000) (↑(z.n 100001).toNat : Int) (↑(z.n 100002).toNat : Int) (z.l 3) (z.l 4)) ∧ (↑(z.n 100002).toNat : Int) + z.n 4 ≤ z.n 100002 + (↑(z.n 4).toNat : Int) ∧ (z.l 2).length = (↑(z.n 4).toNat : Int).toNat ∧ (↑(z.n 4).toNat : Int) ≤ z.n 3) ∧ True) := by kernel_rfl
theorem ru_r0 (E : World) (R : AU) (z : PX) (y : PX) :
    (loopP (pe E) Try.f40 (endR ([mS 2, mN 3 4, rowB, rowB, rowN] : List MB).length [mS 5, mN 3 6, .g HOLE, rowB, .g HOLE, rowB, rowN] (.t []) (fun z y => (AU.mk (y.n 1) (OU.mk (Mm.mk (y.n 100000) (y.n 100001) (y.n 100002) (y.l 3) (y.l 6)) (vals (y.l 5)))) = R ∧ (y.n 2 = z.n 2 ∧ y.n 3 = z.n 3) ∧ okM (Mm.mk (y.n 100000) (y.n 100001) (y.n 100002) (y.l 3) (y.l 6)) ∧ y.n 100002 + z.n 4 ≤ z.n 100002 + y.n 4 ∧ (y.l 5).length = (y.n 4).toNat ∧ y.n 4 ≤ y.n 3) z) (headR ([mS 2, mN 3 4, rowB, rowB, rowN] : List MB).length Try.f40.ntmps (some ((fun y => ((y.n 3 - y.n 4) * 400 + 9).toNat) y)) (ru_hs E R z))  (run (pe E) (orcG E) (tabL fns) 20000 (2 ^ 200 - 1) (ru_td E) (mkL Try.f40.ntmps (slC y [(0, .c (.p 0 0))])) (mkM y [] [mS 5, mN 3 6, .g HOLE, rowB, .g HOLE, rowB, rowN] 0))) =
     (((!(↑(y.n 4).toNat : Int) == y.n 3) = true → ((eM (y.l 3) (y.l 6)) ∧ okM (Mm.mk (y.n 100000) (↑(y.n 100001).toNat : Int) (↑(y.n 100002).toNat : Int) (y.l 3) (y.l 6))) ∧ ∀ (y_1 : PX), aM y_1 2 ∧ ((0 ≤ y_1.n 90000 ∧ y_1.n 90000 ≤ 255) ∧ True) ∧ Mm.mk (y_1.n 0) (y_1.n 1) (y_1.n 2) (y_1.l 1) (y_1.l 2) = Mm.mk (y.n 100000) (↑(y.n 100001).toNat : Int) (↑(y.n 100002).toNat : Int) (y.l 3) (y.l 6) ∧ y_1.n 90000 = rdv1 E (y.n 1) (Mm.mk (y.n 100000) (↑(y.n 100001).toNat : Int) (↑(y.n 100002).toNat : Int) (y.l 3) (y.l 6)) → (decide (i64.wrap (u8.wrap (y_1.n 90000)) ≥ 128) = true → ((eM (y_1.l 1) (y_1.l 2)) ∧ okM (Mm.mk (y_1.n 0) (↑(y_1.n 1).toNat : Int) (↑(y_1.n 2).toNat : Int) (y_1.l 1) (y_1.l 2))) ∧ ∀ (y_2 : PX), aM y_2 2 ∧ ((0 ≤ y_2.n 90000 ∧ y_2.n 90000 ≤ 255) ∧ True) ∧ Mm.mk (y_2.n 0) (y_2.n 1) (y_2.n 2) (y_2.l 1) (y_2.l 2) = Mm.mk (y_1.n 0) (↑(y_1.n 1).toNat : Int) (↑(y_1.n 2).toNat : Int) (y_1.l 1) (y_1.l 2) ∧ y_2.n 90000 = rdv1 E (u32.wrap (y.n 1 + 1)) (Mm.mk (y_1.n 0) (↑(y_1.n 1).toNat : Int) (↑(y_1.n 2).toNat : Int) (y_1.l 1) (y_1.l 2)) → rutt E = rutt E ∧ 34 = 34 ∧ (True ∧ ((0 ≤ u8.wrap (y_2.n 90000) ∧ u8.wrap (y_2.n 90000) ≤ 255) ∧ True) ∧ ((0 ≤ i64.wrap (i64.wrap (i64.wrap (u8.wrap (y_1.n 90000)) - 128) + 3) ∧ i64.wrap (i64.wrap (i64.wrap (u8.wrap (y_1.n 90000)) - 128) + 3) ≤ 200) ∧ True) ∧ (((0 : Int) ≤ (0 : Int) ∧ (0 : Int) ≤ 200) ∧ True) ∧ True) ∧ (eP (y.n 3) (y_2.l 1) (y.l 5) (y_2.l 2)) ∧ ((RuI E (z.n 2) (z.n 3) (AU.mk (u32.wrap (u32.wrap (y.n 1 + 1) + 1)) (gvN E (z.n 2) (z.n 3) (u8.wrap (y_2.n 90000)) (i64.wrap (i64.wrap (i64.wrap (u8.wrap (y_1.n 90000)) - 128) + 3) - 0).toNat (OU.mk (Mm.mk (y_2.n 0) (↑(y_2.n 1).toNat : Int) (↑(y_2.n 2).toNat : Int) (y_2.l 1) (y_2.l 2)) (vals (y.l 5))))) R ∧ ((0 : Int) = 0 → (↑(y.n 4).toNat : Int) < y.n 3) ∧ 3 ≤ i64.wrap (i64.wrap (i64.wrap (u8.wrap (y_1.n 90000)) - 128) + 3) ∧ i64.wrap (i64.wrap (i64.wrap (u8.wrap (y_1.n 90000)) - 128) + 3) ≤ (130 : Int) ∧ 0 ≤ i64.wrap (i64.wrap (i64.wrap (u8.wrap (y_1.n 90000)) - 128) + 3)) ∧ (y.n 2 = z.n 2 ∧ y.n 3 = z.n 3) ∧ okM (Mm.mk (y_2.n 0) (↑(y_2.n 1).toNat : Int) (↑(y_2.n 2).toNat : Int) (y_2.l 1) (y_2.l 2)) ∧ (↑(y_2.n 2).toNat : Int) + z.n 4 ≤ z.n 100002 + (↑(y.n 4).toNat : Int) ∧ (y.l 5).length = (↑(y.n 4).toNat : Int).toNat ∧ (↑(y.n 4).toNat : Int) ≤ y.n 3) ∧ (if (0 : Int) = 0 then (y.n 3 - (↑(y.n 4).toNat : Int)) * (400 : Int) + 8 else (y.n 3 - (↑(y.n 4).toNat : Int)) * (400 : Int) + 11 + (i64.wrap (i64.wrap (i64.wrap (u8.wrap (y_1.n 90000)) - 128) + 3) - 0)).toNat < ((y.n 3 - y.n 4) * (400 : Int) + 9).toNat ∧ True) ∧ (decide (i64.wrap (u8.wrap (y_1.n 90000)) ≥ 128) = false → rutf E = rutf E ∧ 34 = 34 ∧ (True ∧ ((0 ≤ i64.wrap (i64.wrap (u8.wrap (y_1.n 90000)) + 1) ∧ i64.wrap (i64.wrap (u8.wrap (y_1.n 90000)) + 1) ≤ 200) ∧ True) ∧ (((0 : Int) ≤ (0 : Int) ∧ (0 : Int) ≤ 200) ∧ True) ∧ True) ∧ (eP (y.n 3) (y_1.l 1) (y.l 5) (y_1.l 2)) ∧ ((RuI E (z.n 2) (z.n 3) (ltF E (z.n 2) (z.n 3) (i64.wrap (i64.wrap (u8.wrap (y_1.n 90000)) + 1) - 0).toNat (AU.mk (u32.wrap (y.n 1 + 1)) (OU.mk (Mm.mk (y_1.n 0) (↑(y_1.n 1).toNat : Int) (↑(y_1.n 2).toNat : Int) (y_1.l 1) (y_1.l 2)) (vals (y.l 5))))) R ∧ ((0 : Int) = 0 → (↑(y.n 4).toNat : Int) < y.n 3) ∧ 1 ≤ i64.wrap (i64.wrap (u8.wrap (y_1.n 90000)) + 1) ∧ i64.wrap (i64.wrap (u8.wrap (y_1.n 90000)) + 1) ≤ (128 : Int) ∧ 0 ≤ i64.wrap (i64.wrap (u8.wrap (y_1.n 90000)) + 1)) ∧ (y.n 2 = z.n 2 ∧ y.n 3 = z.n 3) ∧ okM (Mm.mk (y_1.n 0) (↑(y_1.n 1).toNat : Int) (↑(y_1.n 2).toNat : Int) (y_1.l 1) (y_1.l 2)) ∧ (↑(y_1.n 2).toNat : Int) + z.n 4 ≤ z.n 100002 + (↑(y.n 4).toNat : Int) ∧ (y.l 5).length = (↑(y.n 4).toNat : Int).toNat ∧ (↑(y.n 4).toNat : Int) ≤ y.n 3) ∧ (if (0 : Int) = 0 then (y.n 3 - (↑(y.n 4).toNat : Int)) * (400 : Int) + 8 else (y.n 3 - (↑(y.n 4).toNat : Int)) * (400 : Int) + 11 + (i64.wrap (i64.wrap (u8.wrap (y_1.n 90000)) + 1) - 0)).toNat < ((y.n 3 - y.n 4) * (400 : Int) + 9).toNat ∧ True)) ∧ ((!(↑(y.n 4).toNat : Int) == y.n 3) = false → (eP (y.n 3) (y.l 3) (y.l 5) (y.l 6)) ∧ True ∧ AU.mk (y.n 1) (OU.mk (Mm.mk (y.n 100000) (↑(y.n 100001).toNat : Int) (↑(y.n 100002).toNat : Int) (y.l 3) (y.l 6)) (vals (y.l 5))) = R ∧ (y.n 2 = z.n 2 ∧ y.n 3 = z.n 3) ∧ okM (Mm.mk (y.n 100000) (↑(y.n 100001).toNat : Int) (↑(y.n 100002).toNat : Int) (y.l 3) (y.l 6)) ∧ (↑(y.n 100002).toNat : Int) + z.n 4 ≤ z.n 100002 + (↑(y.n 4).toNat : Int) ∧ (y.l 5).length = (↑(y.n 4).toNat : Int).toNat ∧ (↑(y.n 4).toNat : Int) ≤ y.n 3)) := by kernel_rfl
set_option maxHeartbeats 8000000 in
theorem ru_q0 (E : World) (R : AU) (z : PX) (hp : (fun z => okM (Mm.mk (z.n 100000) (z.n 100001) (z.n 100002) (z.l 3) (z.l 4)) ∧ z.n 100002 ≤ 200000 + z.n 4 ∧ (z.l 2).length = (z.n 4).toNat ∧ z.n 4 ≤ z.n 3 ∧ 0 ≤ z.n 4 ∧ RuI E (z.n 2) (z.n 3) (AU.mk (z.n 1) (OU.mk (Mm.mk (z.n 100000) (z.n 100001) (z.n 100002) (z.l 3) (z.l 4)) (vals (z.l 2)))) R) z) (y : PX) (hy1 : rgM y [mS 5, mN 3 6, .g HOLE, rowB, .g HOLE, rowB, rowN] 0) (hy2 : rgF y [(0, .c (.p 0 0))]) (hy3 : (fun y => RuI E (z.n 2) (z.n 3) (AU.mk (y.n 1) (OU.mk (Mm.mk (y.n 100000) (y.n 100001) (y.n 100002) (y.l 3) (y.l 6)) (vals (y.l 5)))) R ∧ (y.n 2 = z.n 2 ∧ y.n 3 = z.n 3) ∧ okM (Mm.mk (y.n 100000) (y.n 100001) (y.n 100002) (y.l 3) (y.l 6)) ∧ y.n 100002 + z.n 4 ≤ z.n 100002 + y.n 4 ∧ (y.l 5).length = (y.n 4).toNat ∧ y.n 4 ≤ y.n 3) y) : Holds ((run (pe E) (orcG E) (tabL fns) 20000 (2 ^ 200 - 1) (ru_td E) (mkL Try.f40.ntmps (slC y [(0, .c (.p 0 0))])) (mkM y [] [mS 5, mN 3 6, .g HOLE, rowB, .g HOLE, rowB, rowN] 0)).OK (lfP (pe E) Try.f40 (endR ([mS 2, mN 3 4, rowB, rowB, rowN] : List MB).length [mS 5, mN 3 6, .g HOLE, rowB, .g HOLE, rowB, rowN] (.t []) (fun z y => (AU.mk (y.n 1) (OU.mk (Mm.mk (y.n 100000) (y.n 100001) (y.n 100002) (y.l 3) (y.l 6)) (vals (y.l 5)))) = R ∧ (y.n 2 = z.n 2 ∧ y.n 3 = z.n 3) ∧ okM (Mm.mk (y.n 100000) (y.n 100001) (y.n 100002) (y.l 3) (y.l 6)) ∧ y.n 100002 + z.n 4 ≤ z.n 100002 + y.n 4 ∧ (y.l 5).length = (y.n 4).toNat ∧ y.n 4 ≤ y.n 3) z) (headR ([mS 2, mN 3 4, rowB, rowB, rowN] : List MB).length Try.f40.ntmps (some ((fun y => ((y.n 3 - y.n 4) * 400 + 9).toNat) y)) (ru_hs E R z)))) := by
  refine loopP_lfH ⟨?_⟩
  rw [ru_r0]
  have hf : True ∧ True := hy2
  obtain ⟨_, _⟩ := hf
  obtain ⟨hP, ⟨h2, h3⟩, hK, hgr, hl, hle⟩ := hy3
  obtain ⟨hKz, hnz, hlz, hlez, hz0, hPz⟩ := hp
  have hf1 : flat [Sp.r .u8 0 255] = true := rfl
  have hf2 : flat [Sp.i .u32, Sp.i .i64, Sp.i .u32] = true := rfl
  have hf3 : flat [Sp.r .i64 0 255] = true := rfl
  obtain ⟨usy, u4y, _⟩ : (0 ≤ y.n 3 ∧ y.n 3 ≤ 65535) ∧ 0 ≤ y.n 4 ∧ True := hy1.1
  obtain ⟨b1y, b2y, _⟩ : 0 ≤ y.n 100001 ∧ 0 ≤ y.n 100002 ∧ True := hy1.2.1
  have T1y : ((y.n 100001).toNat : Int) = y.n 100001 := Int.toNat_of_nonneg b1y
  have T2y : ((y.n 100002).toNat : Int) = y.n 100002 := Int.toNat_of_nonneg b2y
  have T4y : ((y.n 4).toNat : Int) = y.n 4 := Int.toNat_of_nonneg u4y
  have roy : Row [.r .u8 0 255] (y.l 5) := hy1.2.2.2.1.2
  have rby : Row [.r .u8 0 255] (y.l 3) := hy1.2.2.1.2
  have rny : Row [.i .u32, .i .i64, .i .u32] (y.l 6) := hy1.2.2.2.2.1.2
  have vl : ((vals (y.l 5)).length : Int) = y.n 4 := by rw [vals_len]; omega
  simp only [T1y, T2y, T4y]
  refine ⟨fun h => ?_, fun h => ?_⟩
  · have h : y.n 4 < y.n 3 := by have h0 := h; simp at h0; omega
    refine ⟨⟨by ((repeat' (first | exact trivial | with_reducible rfl | assumption | exact rfl | apply And.intro)) <;> omega), hK⟩, ?_⟩
    rintro y1 ⟨⟨⟨p1y1, p2y1, _⟩, ⟨_, q3y1⟩, ⟨_, q6y1⟩, _⟩, ⟨g1y1, _⟩, q1y1, v1y1⟩
    have S1y1 : ((y1.n 1).toNat : Int) = y1.n 1 := Int.toNat_of_nonneg p1y1
    have S2y1 : ((y1.n 2).toNat : Int) = y1.n 2 := Int.toNat_of_nonneg p2y1
    have hKy1 : okM (Mm.mk (y1.n 0) (y1.n 1) (y1.n 2) (y1.l 1) (y1.l 2)) := by rw [q1y1]; exact hK
    have cy1 : y1.n 2 = y.n 100002 := congrArg Mm.nn q1y1
    have e8y1 : IntKind.u8.wrap (y1.n 90000) = y1.n 90000 := by rw [wu8]; omega
    have e64y1 : IntKind.i64.wrap (y1.n 90000) = y1.n 90000 := by rw [wi64]; omega
    simp only [S1y1, S2y1, e8y1, e64y1]
    have hI := hP.inv (show ((vals (y.l 5)).length : Int) ≠ z.n 3 by omega)
    refine ⟨fun hc => ?_, fun hc => ?_⟩
    · have hc : 128 ≤ y1.n 90000 := of_decide_eq_true hc
      refine ⟨⟨by ((repeat' (first | exact trivial | with_reducible rfl | assumption | exact rfl | apply And.intro)) <;> omega), hKy1⟩, ?_⟩
      rintro y2 ⟨⟨⟨p1y2, p2y2, _⟩, ⟨_, q3y2⟩, ⟨_, q6y2⟩, _⟩, ⟨g1y2, _⟩, q1y2, v1y2⟩
      have S1y2 : ((y2.n 1).toNat : Int) = y2.n 1 := Int.toNat_of_nonneg p1y2
      have S2y2 : ((y2.n 2).toNat : Int) = y2.n 2 := Int.toNat_of_nonneg p2y2
      rw [q1y1] at q1y2 v1y2
      have hKy2 : okM (Mm.mk (y2.n 0) (y2.n 1) (y2.n 2) (y2.l 1) (y2.l 2)) := by rw [q1y2]; exact hK
      have cy2 : y2.n 2 = y.n 100002 := congrArg Mm.nn q1y2
      have e8y2 : IntKind.u8.wrap (y2.n 90000) = y2.n 90000 := by rw [wu8]; omega
      have e64y2 : IntKind.i64.wrap (y2.n 90000) = y2.n 90000 := by rw [wi64]; omega
      simp only [S1y2, S2y2, e8y2, e64y2]
      rw [ruF_hi (s := (OU.mk (Mm.mk (y.n 100000) (y.n 100001) (y.n 100002) (y.l 3) (y.l 6)) (vals (y.l 5)))) (rdb_v v1y1 g1y1) (rdb_v v1y2 g1y2) hc] at hI
      have cw : IntKind.i64.wrap (IntKind.i64.wrap (y1.n 90000 - 128) + 3) = y1.n 90000 - 125 := by rw [wi64, wi64]; omega
      simp only [cw, uadd, Int.reduceAdd, q1y2, Int.sub_zero, h, implies_true, if_true]
      ((repeat' (first | exact trivial | with_reducible rfl | assumption | exact rfl | apply And.intro)) <;> first | omega | (intro h; omega) | (split <;> omega) | (split <;> split <;> omega))
    · have hc : ¬ 128 ≤ y1.n 90000 := of_decide_eq_false hc
      rw [ruF_lo (s := (OU.mk (Mm.mk (y.n 100000) (y.n 100001) (y.n 100002) (y.l 3) (y.l 6)) (vals (y.l 5)))) (rdb_v v1y1 g1y1) hc] at hI
      have cw : IntKind.i64.wrap (y1.n 90000 + 1) = y1.n 90000 + 1 := by rw [wi64]; omega
      simp only [cw, q1y1, Int.sub_zero, h, implies_true, if_true]
      ((repeat' (first | exact trivial | with_reducible rfl | assumption | exact rfl | apply And.intro)) <;> first | omega | (intro h; omega) | (split <;> omega) | (split <;> split <;> omega))
  · have h : y.n 4 = y.n 3 := by have h0 := h; simp at h0; omega
    have hR := hP.fin (show ((vals (y.l 5)).length : Int) = z.n 3 by omega)
    ((repeat' (first | exact trivial | with_reducible rfl | assumption | exact rfl | apply And.intro)) <;> omega)
theorem ru_r1 (E : World) (R : AU) (z : PX) (y : PX) :
    (loopP (pe E) Try.f40 (endR ([mS 2, mN 3 4, rowB, rowB, rowN] : List MB).length [mS 5, mN 3 6, .g HOLE, rowB, .g HOLE, rowB, rowN] (.t []) (fun z y => (AU.mk (y.n 1) (OU.mk (Mm.mk (y.n 100000) (y.n 100001) (y.n 100002) (y.l 3) (y.l 6)) (vals (y.l 5)))) = R ∧ (y.n 2 = z.n 2 ∧ y.n 3 = z.n 3) ∧ okM (Mm.mk (y.n 100000) (y.n 100001) (y.n 100002) (y.l 3) (y.l 6)) ∧ y.n 100002 + z.n 4 ≤ z.n 100002 + y.n 4 ∧ (y.l 5).length = (y.n 4).toNat ∧ y.n 4 ≤ y.n 3) z) (headR ([mS 2, mN 3 4, rowB, rowB, rowN] : List MB).length Try.f40.ntmps (some ((fun y => (if y.n 91017 = 0 then (y.n 3 - y.n 4) * 400 + 8 else (y.n 3 - y.n 4) * 400 + 11 + (y.n 91016 - y.n 91017)).toNat) y)) (ru_hs E R z))  (run (pe E) (orcG E) (tabL fns) 20000 (2 ^ 200 - 1) (rutt E) (mkL Try.f40.ntmps (slC y [(0, .c (.p 0 0)), (3, .r .u8 (0) (255)), (16, .r .i64 (0) (200)), (17, .r .i64 (0) (200))])) (mkM y [] [mS 5, mN 3 6, .g HOLE, rowB, .g HOLE, rowB, rowN] 0))) =
     ((decide (y.n 91017 < y.n 91016) = true → ((iP (y.n 3) (y.l 5) (y.l 3) (y.l 6)) ∧ okM (Mm.mk (y.n 100000) (↑(y.n 100001).toNat : Int) (↑(y.n 100002).toNat : Int) (y.l 3) (y.l 6)) ∧ (↑(y.n 100002).toNat : Int) ≤ 400000 ∧ (y.l 5).length = (↑(y.n 4).toNat : Int).toNat ∧ (↑(y.n 4).toNat : Int) ≤ y.n 3 ∧ 0 ≤ y.n 91003 ∧ y.n 91003 ≤ 255) ∧ ∀ (y_1 : PX), aP y_1 ∧ True ∧ OU.mk (Mm.mk (y_1.n 100000) (y_1.n 100001) (y_1.n 100002) (y_1.l 3) (y_1.l 6)) (vals (y_1.l 5)) = gvF E (y.n 2) (y.n 3) (y.n 91003) (OU.mk (Mm.mk (y.n 100000) (↑(y.n 100001).toNat : Int) (↑(y.n 100002).toNat : Int) (y.l 3) (y.l 6)) (vals (y.l 5))) ∧ (y_1.n 1 = y.n 1 ∧ y_1.n 2 = y.n 2 ∧ y_1.n 3 = y.n 3) ∧ okM (Mm.mk (y_1.n 100000) (y_1.n 100001) (y_1.n 100002) (y_1.l 3) (y_1.l 6)) ∧ y_1.n 100002 + (↑(y.n 4).toNat : Int) ≤ (↑(y.n 100002).toNat : Int) + y_1.n 4 ∧ (y_1.l 5).length = (y_1.n 4).toNat ∧ y_1.n 4 ≤ y_1.n 3 → rutt E = rutt E ∧ 34 = 34 ∧ (True ∧ ((0 ≤ y.n 91003 ∧ y.n 91003 ≤ 255) ∧ True) ∧ ((0 ≤ y.n 91016 ∧ y.n 91016 ≤ 200) ∧ True) ∧ ((0 ≤ i64.wrap (y.n 91017 + 1) ∧ i64.wrap (y.n 91017 + 1) ≤ 200) ∧ True) ∧ True) ∧ (eP (y_1.n 3) (y_1.l 3) (y_1.l 5) (y_1.l 6)) ∧ ((RuI E (z.n 2) (z.n 3) (AU.mk (y_1.n 1) (gvN E (z.n 2) (z.n 3) (y.n 91003) (y.n 91016 - i64.wrap (y.n 91017 + 1)).toNat (OU.mk (Mm.mk (y_1.n 100000) (↑(y_1.n 100001).toNat : Int) (↑(y_1.n 100002).toNat : Int) (y_1.l 3) (y_1.l 6)) (vals (y_1.l 5))))) R ∧ (i64.wrap (y.n 91017 + 1) = 0 → (↑(y_1.n 4).toNat : Int) < y_1.n 3) ∧ 3 ≤ y.n 91016 ∧ y.n 91016 ≤ 130 ∧ i64.wrap (y.n 91017 + 1) ≤ y.n 91016) ∧ (y_1.n 2 = z.n 2 ∧ y_1.n 3 = z.n 3) ∧ okM (Mm.mk (y_1.n 100000) (↑(y_1.n 100001).toNat : Int) (↑(y_1.n 100002).toNat : Int) (y_1.l 3) (y_1.l 6)) ∧ (↑(y_1.n 100002).toNat : Int) + z.n 4 ≤ z.n 100002 + (↑(y_1.n 4).toNat : Int) ∧ (y_1.l 5).length = (↑(y_1.n 4).toNat : Int).toNat ∧ (↑(y_1.n 4).toNat : Int) ≤ y_1.n 3) ∧ (if i64.wrap (y.n 91017 + 1) = 0 then (y_1.n 3 - (↑(y_1.n 4).toNat : Int)) * (400 : Int) + 8 else (y_1.n 3 - (↑(y_1.n 4).toNat : Int)) * (400 : Int) + 11 + (y.n 91016 - i64.wrap (y.n 91017 + 1))).toNat < (if y.n 91017 = 0 then (y.n 3 - y.n 4) * (400 : Int) + 8 else (y.n 3 - y.n 4) * (400 : Int) + 11 + (y.n 91016 - y.n 91017)).toNat ∧ True) ∧ (decide (y.n 91017 < y.n 91016) = false → ru_td E = ru_td E ∧ 34 = 34 ∧ (True ∧ True) ∧ (eP (y.n 3) (y.l 3) (y.l 5) (y.l 6)) ∧ (RuI E (z.n 2) (z.n 3) (AU.mk (y.n 1) (OU.mk (Mm.mk (y.n 100000) (↑(y.n 100001).toNat : Int) (↑(y.n 100002).toNat : Int) (y.l 3) (y.l 6)) (vals (y.l 5)))) R ∧ (y.n 2 = z.n 2 ∧ y.n 3 = z.n 3) ∧ okM (Mm.mk (y.n 100000) (↑(y.n 100001).toNat : Int) (↑(y.n 100002).toNat : Int) (y.l 3) (y.l 6)) ∧ (↑(y.n 100002).toNat : Int) + z.n 4 ≤ z.n 100002 + (↑(y.n 4).toNat : Int) ∧ (y.l 5).length = (↑(y.n 4).toNat : Int).toNat ∧ (↑(y.n 4).toNat : Int) ≤ y.n 3) ∧ ((y.n 3 - (↑(y.n 4).toNat : Int)) * (400 : Int) + 9).toNat < (if y.n 91017 = 0 then (y.n 3 - y.n 4) * (400 : Int) + 8 else (y.n 3 - y.n 4) * (400 : Int) + 11 + (y.n 91016 - y.n 91017)).toNat ∧ True)) := by kernel_rfl
set_option maxHeartbeats 8000000 in
theorem ru_q1 (E : World) (R : AU) (z : PX) (hp : (fun z => okM (Mm.mk (z.n 100000) (z.n 100001) (z.n 100002) (z.l 3) (z.l 4)) ∧ z.n 100002 ≤ 200000 + z.n 4 ∧ (z.l 2).length = (z.n 4).toNat ∧ z.n 4 ≤ z.n 3 ∧ 0 ≤ z.n 4 ∧ RuI E (z.n 2) (z.n 3) (AU.mk (z.n 1) (OU.mk (Mm.mk (z.n 100000) (z.n 100001) (z.n 100002) (z.l 3) (z.l 4)) (vals (z.l 2)))) R) z) (y : PX) (hy1 : rgM y [mS 5, mN 3 6, .g HOLE, rowB, .g HOLE, rowB, rowN] 0) (hy2 : rgF y [(0, .c (.p 0 0)), (3, .r .u8 (0) (255)), (16, .r .i64 (0) (200)), (17, .r .i64 (0) (200))]) (hy3 : (fun y => (RuI E (z.n 2) (z.n 3) (AU.mk (y.n 1) (gvN E (z.n 2) (z.n 3) (y.n 91003) (y.n 91016 - y.n 91017).toNat (OU.mk (Mm.mk (y.n 100000) (y.n 100001) (y.n 100002) (y.l 3) (y.l 6)) (vals (y.l 5))))) R ∧ (y.n 91017 = 0 → y.n 4 < y.n 3) ∧ 3 ≤ y.n 91016 ∧ y.n 91016 ≤ 130 ∧ y.n 91017 ≤ y.n 91016) ∧ (y.n 2 = z.n 2 ∧ y.n 3 = z.n 3) ∧ okM (Mm.mk (y.n 100000) (y.n 100001) (y.n 100002) (y.l 3) (y.l 6)) ∧ y.n 100002 + z.n 4 ≤ z.n 100002 + y.n 4 ∧ (y.l 5).length = (y.n 4).toNat ∧ y.n 4 ≤ y.n 3) y) : Holds ((run (pe E) (orcG E) (tabL fns) 20000 (2 ^ 200 - 1) (rutt E) (mkL Try.f40.ntmps (slC y [(0, .c (.p 0 0)), (3, .r .u8 (0) (255)), (16, .r .i64 (0) (200)), (17, .r .i64 (0) (200))])) (mkM y [] [mS 5, mN 3 6, .g HOLE, rowB, .g HOLE, rowB, rowN] 0)).OK (lfP (pe E) Try.f40 (endR ([mS 2, mN 3 4, rowB, rowB, rowN] : List MB).length [mS 5, mN 3 6, .g HOLE, rowB, .g HOLE, rowB, rowN] (.t []) (fun z y => (AU.mk (y.n 1) (OU.mk (Mm.mk (y.n 100000) (y.n 100001) (y.n 100002) (y.l 3) (y.l 6)) (vals (y.l 5)))) = R ∧ (y.n 2 = z.n 2 ∧ y.n 3 = z.n 3) ∧ okM (Mm.mk (y.n 100000) (y.n 100001) (y.n 100002) (y.l 3) (y.l 6)) ∧ y.n 100002 + z.n 4 ≤ z.n 100002 + y.n 4 ∧ (y.l 5).length = (y.n 4).toNat ∧ y.n 4 ≤ y.n 3) z) (headR ([mS 2, mN 3 4, rowB, rowB, rowN] : List MB).length Try.f40.ntmps (some ((fun y => (if y.n 91017 = 0 then (y.n 3 - y.n 4) * 400 + 8 else (y.n 3 - y.n 4) * 400 + 11 + (y.n 91016 - y.n 91017)).toNat) y)) (ru_hs E R z)))) := by
  refine loopP_lfH ⟨?_⟩
  rw [ru_r1]
  have hf : True ∧ (((0) ≤ y.n 91003 ∧ y.n 91003 ≤ (255)) ∧ True) ∧ (((0) ≤ y.n 91016 ∧ y.n 91016 ≤ (200)) ∧ True) ∧ (((0) ≤ y.n 91017 ∧ y.n 91017 ≤ (200)) ∧ True) ∧ True := hy2
  obtain ⟨_, ⟨g3, _⟩, ⟨g16, _⟩, ⟨g17, _⟩, _⟩ := hf
  obtain ⟨⟨hP, hf, hx⟩, ⟨h2, h3⟩, hK, hgr, hl, hle⟩ := hy3
  obtain ⟨hKz, hnz, hlz, hlez, hz0, hPz⟩ := hp
  have hf1 : flat [Sp.r .u8 0 255] = true := rfl
  have hf2 : flat [Sp.i .u32, Sp.i .i64, Sp.i .u32] = true := rfl
  have hf3 : flat [Sp.r .i64 0 255] = true := rfl
  obtain ⟨usy, u4y, _⟩ : (0 ≤ y.n 3 ∧ y.n 3 ≤ 65535) ∧ 0 ≤ y.n 4 ∧ True := hy1.1
  obtain ⟨b1y, b2y, _⟩ : 0 ≤ y.n 100001 ∧ 0 ≤ y.n 100002 ∧ True := hy1.2.1
  have T1y : ((y.n 100001).toNat : Int) = y.n 100001 := Int.toNat_of_nonneg b1y
  have T2y : ((y.n 100002).toNat : Int) = y.n 100002 := Int.toNat_of_nonneg b2y
  have T4y : ((y.n 4).toNat : Int) = y.n 4 := Int.toNat_of_nonneg u4y
  have roy : Row [.r .u8 0 255] (y.l 5) := hy1.2.2.2.1.2
  have rby : Row [.r .u8 0 255] (y.l 3) := hy1.2.2.1.2
  have rny : Row [.i .u32, .i .i64, .i .u32] (y.l 6) := hy1.2.2.2.2.1.2
  have vl : ((vals (y.l 5)).length : Int) = y.n 4 := by rw [vals_len]; omega
  have w : IntKind.i64.wrap (y.n 91017 + 1) = y.n 91017 + 1 := by rw [wi64]; omega
  have er : y.n 91016 - y.n 91017 - 1 = y.n 91016 - (y.n 91017 + 1) := by omega
  simp only [T1y, T2y, T4y, w]
  refine ⟨fun hb => ?_, fun hb => ?_⟩
  · have hb : 0 < (y.n 91016 - y.n 91017) := by have := of_decide_eq_true hb; omega
    rw [gvN_s hb] at hP
    refine ⟨by ((repeat' (first | exact trivial | with_reducible rfl | assumption | exact rfl | apply And.intro)) <;> omega), ?_⟩
    rintro y2 ⟨hu2, _, hq, ⟨e1, e2, e3⟩, hK2, hg2, hl2, hle2⟩
    obtain ⟨usy2, u4y2, _⟩ : (0 ≤ y2.n 3 ∧ y2.n 3 ≤ 65535) ∧ 0 ≤ y2.n 4 ∧ True := hu2.1
    obtain ⟨b1y2, b2y2, _⟩ : 0 ≤ y2.n 100001 ∧ 0 ≤ y2.n 100002 ∧ True := hu2.2.1
    have T1y2 : ((y2.n 100001).toNat : Int) = y2.n 100001 := Int.toNat_of_nonneg b1y2
    have T2y2 : ((y2.n 100002).toNat : Int) = y2.n 100002 := Int.toNat_of_nonneg b2y2
    have T4y2 : ((y2.n 4).toNat : Int) = y2.n 4 := Int.toNat_of_nonneg u4y2
    have roy2 : Row [.r .u8 0 255] (y2.l 5) := hu2.2.2.2.1.2
    have rby2 : Row [.r .u8 0 255] (y2.l 3) := hu2.2.2.1.2
    have rny2 : Row [.i .u32, .i .i64, .i .u32] (y2.l 6) := hu2.2.2.2.2.1.2
    simp only [T1y2, T2y2, T4y2]
    rw [h2, h3] at hq
    rw [← hq, ← e1, er] at hP
    have hlen : y.n 4 ≤ y2.n 4 ∧ (y.n 4 < y.n 3 → y2.n 4 = y.n 4 + 1) := by
      have hv : (vals (y2.l 5)).length = _ := congrArg (fun s : OU => s.o.length) hq
      rw [vals_len] at hv
      have vl' : ((OU.mk (Mm.mk (y.n 100000) (y.n 100001) (y.n 100002) (y.l 3) (y.l 6)) (vals (y.l 5))).o.length : Int) = y.n 4 := vl
      refine ⟨?_, fun hn => ?_⟩
      · have hg : (OU.mk (Mm.mk (y.n 100000) (y.n 100001) (y.n 100002) (y.l 3) (y.l 6)) (vals (y.l 5))).o.length ≤ _ := Nat.le_trans gvF_ge (Nat.le_of_eq hv.symm)
        omega
      · rw [gvF_len (by omega)] at hv; omega
    ((repeat' (first | exact trivial | with_reducible rfl | assumption | exact rfl | apply And.intro)) <;> first | omega | (intro h; omega) | (split <;> omega) | (split <;> split <;> omega))
  · have hb : (y.n 91016 - y.n 91017) ≤ 0 := by have := of_decide_eq_false hb; omega
    rw [gvN_0 hb] at hP
    ((repeat' (first | exact trivial | with_reducible rfl | assumption | exact rfl | apply And.intro)) <;> first | omega | (intro h; omega) | (split <;> omega) | (split <;> split <;> omega))
theorem ru_r2 (E : World) (R : AU) (z : PX) (y : PX) :
    (loopP (pe E) Try.f40 (endR ([mS 2, mN 3 4, rowB, rowB, rowN] : List MB).length [mS 5, mN 3 6, .g HOLE, rowB, .g HOLE, rowB, rowN] (.t []) (fun z y => (AU.mk (y.n 1) (OU.mk (Mm.mk (y.n 100000) (y.n 100001) (y.n 100002) (y.l 3) (y.l 6)) (vals (y.l 5)))) = R ∧ (y.n 2 = z.n 2 ∧ y.n 3 = z.n 3) ∧ okM (Mm.mk (y.n 100000) (y.n 100001) (y.n 100002) (y.l 3) (y.l 6)) ∧ y.n 100002 + z.n 4 ≤ z.n 100002 + y.n 4 ∧ (y.l 5).length = (y.n 4).toNat ∧ y.n 4 ≤ y.n 3) z) (headR ([mS 2, mN 3 4, rowB, rowB, rowN] : List MB).length Try.f40.ntmps (some ((fun y => (if y.n 91025 = 0 then (y.n 3 - y.n 4) * 400 + 8 else (y.n 3 - y.n 4) * 400 + 11 + (y.n 91024 - y.n 91025)).toNat) y)) (ru_hs E R z))  (run (pe E) (orcG E) (tabL fns) 20000 (2 ^ 200 - 1) (rutf E) (mkL Try.f40.ntmps (slC y [(0, .c (.p 0 0)), (24, .r .i64 (0) (200)), (25, .r .i64 (0) (200))])) (mkM y [] [mS 5, mN 3 6, .g HOLE, rowB, .g HOLE, rowB, rowN] 0))) =
     ((decide (y.n 91025 < y.n 91024) = true → (((↑(y.n 4).toNat : Int) == y.n 3) = true → (eP (y.n 3) (y.l 3) (y.l 5) (y.l 6)) ∧ True ∧ AU.mk (y.n 1) (OU.mk (Mm.mk (y.n 100000) (↑(y.n 100001).toNat : Int) (↑(y.n 100002).toNat : Int) (y.l 3) (y.l 6)) (vals (y.l 5))) = R ∧ (y.n 2 = z.n 2 ∧ y.n 3 = z.n 3) ∧ okM (Mm.mk (y.n 100000) (↑(y.n 100001).toNat : Int) (↑(y.n 100002).toNat : Int) (y.l 3) (y.l 6)) ∧ (↑(y.n 100002).toNat : Int) + z.n 4 ≤ z.n 100002 + (↑(y.n 4).toNat : Int) ∧ (y.l 5).length = (↑(y.n 4).toNat : Int).toNat ∧ (↑(y.n 4).toNat : Int) ≤ y.n 3) ∧ (((↑(y.n 4).toNat : Int) == y.n 3) = false → ((eM (y.l 3) (y.l 6)) ∧ okM (Mm.mk (y.n 100000) (↑(y.n 100001).toNat : Int) (↑(y.n 100002).toNat : Int) (y.l 3) (y.l 6))) ∧ ∀ (y_1 : PX), aM y_1 2 ∧ ((0 ≤ y_1.n 90000 ∧ y_1.n 90000 ≤ 255) ∧ True) ∧ Mm.mk (y_1.n 0) (y_1.n 1) (y_1.n 2) (y_1.l 1) (y_1.l 2) = Mm.mk (y.n 100000) (↑(y.n 100001).toNat : Int) (↑(y.n 100002).toNat : Int) (y.l 3) (y.l 6) ∧ y_1.n 90000 = rdv1 E (y.n 1) (Mm.mk (y.n 100000) (↑(y.n 100001).toNat : Int) (↑(y.n 100002).toNat : Int) (y.l 3) (y.l 6)) → ((iP (y.n 3) (y.l 5) (y_1.l 1) (y_1.l 2)) ∧ okM (Mm.mk (y_1.n 0) (↑(y_1.n 1).toNat : Int) (↑(y_1.n 2).toNat : Int) (y_1.l 1) (y_1.l 2)) ∧ (↑(y_1.n 2).toNat : Int) ≤ 400000 ∧ (y.l 5).length = (↑(y.n 4).toNat : Int).toNat ∧ (↑(y.n 4).toNat : Int) ≤ y.n 3 ∧ 0 ≤ u8.wrap (y_1.n 90000) ∧ u8.wrap (y_1.n 90000) ≤ 255) ∧ ∀ (y_2 : PX), aP y_2 ∧ True ∧ OU.mk (Mm.mk (y_2.n 100000) (y_2.n 100001) (y_2.n 100002) (y_2.l 3) (y_2.l 6)) (vals (y_2.l 5)) = gvF E (y.n 2) (y.n 3) (u8.wrap (y_1.n 90000)) (OU.mk (Mm.mk (y_1.n 0) (↑(y_1.n 1).toNat : Int) (↑(y_1.n 2).toNat : Int) (y_1.l 1) (y_1.l 2)) (vals (y.l 5))) ∧ (y_2.n 1 = u32.wrap (y.n 1 + 1) ∧ y_2.n 2 = y.n 2 ∧ y_2.n 3 = y.n 3) ∧ okM (Mm.mk (y_2.n 100000) (y_2.n 100001) (y_2.n 100002) (y_2.l 3) (y_2.l 6)) ∧ y_2.n 100002 + (↑(y.n 4).toNat : Int) ≤ (↑(y_1.n 2).toNat : Int) + y_2.n 4 ∧ (y_2.l 5).length = (y_2.n 4).toNat ∧ y_2.n 4 ≤ y_2.n 3 → rutf E = rutf E ∧ 34 = 34 ∧ (True ∧ ((0 ≤ y.n 91024 ∧ y.n 91024 ≤ 200) ∧ True) ∧ ((0 ≤ i64.wrap (y.n 91025 + 1) ∧ i64.wrap (y.n 91025 + 1) ≤ 200) ∧ True) ∧ True) ∧ (eP (y_2.n 3) (y_2.l 3) (y_2.l 5) (y_2.l 6)) ∧ ((RuI E (z.n 2) (z.n 3) (ltF E (z.n 2) (z.n 3) (y.n 91024 - i64.wrap (y.n 91025 + 1)).toNat (AU.mk (y_2.n 1) (OU.mk (Mm.mk (y_2.n 100000) (↑(y_2.n 100001).toNat : Int) (↑(y_2.n 100002).toNat : Int) (y_2.l 3) (y_2.l 6)) (vals (y_2.l 5))))) R ∧ (i64.wrap (y.n 91025 + 1) = 0 → (↑(y_2.n 4).toNat : Int) < y_2.n 3) ∧ 1 ≤ y.n 91024 ∧ y.n 91024 ≤ 128 ∧ i64.wrap (y.n 91025 + 1) ≤ y.n 91024) ∧ (y_2.n 2 = z.n 2 ∧ y_2.n 3 = z.n 3) ∧ okM (Mm.mk (y_2.n 100000) (↑(y_2.n 100001).toNat : Int) (↑(y_2.n 100002).toNat : Int) (y_2.l 3) (y_2.l 6)) ∧ (↑(y_2.n 100002).toNat : Int) + z.n 4 ≤ z.n 100002 + (↑(y_2.n 4).toNat : Int) ∧ (y_2.l 5).length = (↑(y_2.n 4).toNat : Int).toNat ∧ (↑(y_2.n 4).toNat : Int) ≤ y_2.n 3) ∧ (if i64.wrap (y.n 91025 + 1) = 0 then (y_2.n 3 - (↑(y_2.n 4).toNat : Int)) * (400 : Int) + 8 else (y_2.n 3 - (↑(y_2.n 4).toNat : Int)) * (400 : Int) + 11 + (y.n 91024 - i64.wrap (y.n 91025 + 1))).toNat < (if y.n 91025 = 0 then (y.n 3 - y.n 4) * (400 : Int) + 8 else (y.n 3 - y.n 4) * (400 : Int) + 11 + (y.n 91024 - y.n 91025)).toNat ∧ True)) ∧ (decide (y.n 91025 < y.n 91024) = false → ru_td E = ru_td E ∧ 34 = 34 ∧ (True ∧ True) ∧ (eP (y.n 3) (y.l 3) (y.l 5) (y.l 6)) ∧ (RuI E (z.n 2) (z.n 3) (AU.mk (y.n 1) (OU.mk (Mm.mk (y.n 100000) (↑(y.n 100001).toNat : Int) (↑(y.n 100002).toNat : Int) (y.l 3) (y.l 6)) (vals (y.l 5)))) R ∧ (y.n 2 = z.n 2 ∧ y.n 3 = z.n 3) ∧ okM (Mm.mk (y.n 100000) (↑(y.n 100001).toNat : Int) (↑(y.n 100002).toNat : Int) (y.l 3) (y.l 6)) ∧ (↑(y.n 100002).toNat : Int) + z.n 4 ≤ z.n 100002 + (↑(y.n 4).toNat : Int) ∧ (y.l 5).length = (↑(y.n 4).toNat : Int).toNat ∧ (↑(y.n 4).toNat : Int) ≤ y.n 3) ∧ ((y.n 3 - (↑(y.n 4).toNat : Int)) * (400 : Int) + 9).toNat < (if y.n 91025 = 0 then (y.n 3 - y.n 4) * (400 : Int) + 8 else (y.n 3 - y.n 4) * (400 : Int) + 11 + (y.n 91024 - y.n 91025)).toNat ∧ True)) := by kernel_rfl
set_option maxHeartbeats 8000000 in
theorem ru_q2 (E : World) (R : AU) (z : PX) (hp : (fun z => okM (Mm.mk (z.n 100000) (z.n 100001) (z.n 100002) (z.l 3) (z.l 4)) ∧ z.n 100002 ≤ 200000 + z.n 4 ∧ (z.l 2).length = (z.n 4).toNat ∧ z.n 4 ≤ z.n 3 ∧ 0 ≤ z.n 4 ∧ RuI E (z.n 2) (z.n 3) (AU.mk (z.n 1) (OU.mk (Mm.mk (z.n 100000) (z.n 100001) (z.n 100002) (z.l 3) (z.l 4)) (vals (z.l 2)))) R) z) (y : PX) (hy1 : rgM y [mS 5, mN 3 6, .g HOLE, rowB, .g HOLE, rowB, rowN] 0) (hy2 : rgF y [(0, .c (.p 0 0)), (24, .r .i64 (0) (200)), (25, .r .i64 (0) (200))]) (hy3 : (fun y => (RuI E (z.n 2) (z.n 3) (ltF E (z.n 2) (z.n 3) (y.n 91024 - y.n 91025).toNat (AU.mk (y.n 1) (OU.mk (Mm.mk (y.n 100000) (y.n 100001) (y.n 100002) (y.l 3) (y.l 6)) (vals (y.l 5))))) R ∧ (y.n 91025 = 0 → y.n 4 < y.n 3) ∧ 1 ≤ y.n 91024 ∧ y.n 91024 ≤ 128 ∧ y.n 91025 ≤ y.n 91024) ∧ (y.n 2 = z.n 2 ∧ y.n 3 = z.n 3) ∧ okM (Mm.mk (y.n 100000) (y.n 100001) (y.n 100002) (y.l 3) (y.l 6)) ∧ y.n 100002 + z.n 4 ≤ z.n 100002 + y.n 4 ∧ (y.l 5).length = (y.n 4).toNat ∧ y.n 4 ≤ y.n 3) y) : Holds ((run (pe E) (orcG E) (tabL fns) 20000 (2 ^ 200 - 1) (rutf E) (mkL Try.f40.ntmps (slC y [(0, .c (.p 0 0)), (24, .r .i64 (0) (200)), (25, .r .i64 (0) (200))])) (mkM y [] [mS 5, mN 3 6, .g HOLE, rowB, .g HOLE, rowB, rowN] 0)).OK (lfP (pe E) Try.f40 (endR ([mS 2, mN 3 4, rowB, rowB, rowN] : List MB).length [mS 5, mN 3 6, .g HOLE, rowB, .g HOLE, rowB, rowN] (.t []) (fun z y => (AU.mk (y.n 1) (OU.mk (Mm.mk (y.n 100000) (y.n 100001) (y.n 100002) (y.l 3) (y.l 6)) (vals (y.l 5)))) = R ∧ (y.n 2 = z.n 2 ∧ y.n 3 = z.n 3) ∧ okM (Mm.mk (y.n 100000) (y.n 100001) (y.n 100002) (y.l 3) (y.l 6)) ∧ y.n 100002 + z.n 4 ≤ z.n 100002 + y.n 4 ∧ (y.l 5).length = (y.n 4).toNat ∧ y.n 4 ≤ y.n 3) z) (headR ([mS 2, mN 3 4, rowB, rowB, rowN] : List MB).length Try.f40.ntmps (some ((fun y => (if y.n 91025 = 0 then (y.n 3 - y.n 4) * 400 + 8 else (y.n 3 - y.n 4) * 400 + 11 + (y.n 91024 - y.n 91025)).toNat) y)) (ru_hs E R z)))) := by
  refine loopP_lfH ⟨?_⟩
  rw [ru_r2]
  have hf : True ∧ (((0) ≤ y.n 91024 ∧ y.n 91024 ≤ (200)) ∧ True) ∧ (((0) ≤ y.n 91025 ∧ y.n 91025 ≤ (200)) ∧ True) ∧ True := hy2
  obtain ⟨_, ⟨g24, _⟩, ⟨g25, _⟩, _⟩ := hf
  obtain ⟨⟨hP, hf, hx⟩, ⟨h2, h3⟩, hK, hgr, hl, hle⟩ := hy3
  obtain ⟨hKz, hnz, hlz, hlez, hz0, hPz⟩ := hp
  have hf1 : flat [Sp.r .u8 0 255] = true := rfl
  have hf2 : flat [Sp.i .u32, Sp.i .i64, Sp.i .u32] = true := rfl
  have hf3 : flat [Sp.r .i64 0 255] = true := rfl
  obtain ⟨usy, u4y, _⟩ : (0 ≤ y.n 3 ∧ y.n 3 ≤ 65535) ∧ 0 ≤ y.n 4 ∧ True := hy1.1
  obtain ⟨b1y, b2y, _⟩ : 0 ≤ y.n 100001 ∧ 0 ≤ y.n 100002 ∧ True := hy1.2.1
  have T1y : ((y.n 100001).toNat : Int) = y.n 100001 := Int.toNat_of_nonneg b1y
  have T2y : ((y.n 100002).toNat : Int) = y.n 100002 := Int.toNat_of_nonneg b2y
  have T4y : ((y.n 4).toNat : Int) = y.n 4 := Int.toNat_of_nonneg u4y
  have roy : Row [.r .u8 0 255] (y.l 5) := hy1.2.2.2.1.2
  have rby : Row [.r .u8 0 255] (y.l 3) := hy1.2.2.1.2
  have rny : Row [.i .u32, .i .i64, .i .u32] (y.l 6) := hy1.2.2.2.2.1.2
  have vl : ((vals (y.l 5)).length : Int) = y.n 4 := by rw [vals_len]; omega
  have w : IntKind.i64.wrap (y.n 91025 + 1) = y.n 91025 + 1 := by rw [wi64]; omega
  have er : y.n 91024 - y.n 91025 - 1 = y.n 91024 - (y.n 91025 + 1) := by omega
  simp only [T1y, T2y, T4y, w]
  refine ⟨fun hb => ⟨fun h => ?_, fun h => ?_⟩, fun hb => ?_⟩
  · have h : y.n 4 = y.n 3 := by have h0 := h; simp at h0; omega
    rw [ltF_full (show ((vals (y.l 5)).length : Int) = z.n 3 by omega)] at hP
    have hR := hP.fin (show ((vals (y.l 5)).length : Int) = z.n 3 by omega)
    ((repeat' (first | exact trivial | with_reducible rfl | assumption | exact rfl | apply And.intro)) <;> first | omega | (intro h; omega) | (split <;> omega) | (split <;> split <;> omega))
  · have h : y.n 4 < y.n 3 := by have h0 := h; simp at h0; omega
    have hb : 0 < (y.n 91024 - y.n 91025) := by have := of_decide_eq_true hb; omega
    rw [ltF_s (show (((AU.mk (y.n 1) (OU.mk (Mm.mk (y.n 100000) (y.n 100001) (y.n 100002) (y.l 3) (y.l 6)) (vals (y.l 5)))).u.o).length : Int) ≠ z.n 3 by show ((vals (y.l 5)).length : Int) ≠ _; omega) hb] at hP
    refine ⟨⟨by ((repeat' (first | exact trivial | with_reducible rfl | assumption | exact rfl | apply And.intro)) <;> omega), hK⟩, ?_⟩
    rintro y1 ⟨⟨⟨p1y1, p2y1, _⟩, ⟨_, q3y1⟩, ⟨_, q6y1⟩, _⟩, ⟨g1y1, _⟩, q1y1, v1y1⟩
    have S1y1 : ((y1.n 1).toNat : Int) = y1.n 1 := Int.toNat_of_nonneg p1y1
    have S2y1 : ((y1.n 2).toNat : Int) = y1.n 2 := Int.toNat_of_nonneg p2y1
    have hKy1 : okM (Mm.mk (y1.n 0) (y1.n 1) (y1.n 2) (y1.l 1) (y1.l 2)) := by rw [q1y1]; exact hK
    have cy1 : y1.n 2 = y.n 100002 := congrArg Mm.nn q1y1
    have e8y1 : IntKind.u8.wrap (y1.n 90000) = y1.n 90000 := by rw [wu8]; omega
    have e64y1 : IntKind.i64.wrap (y1.n 90000) = y1.n 90000 := by rw [wi64]; omega
    simp only [S1y1, S2y1, e8y1, e64y1]
    refine ⟨by ((repeat' (first | exact trivial | with_reducible rfl | assumption | exact rfl | apply And.intro)) <;> omega), ?_⟩
    rintro y2 ⟨hu2, _, hq, ⟨e1, e2, e3⟩, hK2, hg2, hl2, hle2⟩
    obtain ⟨usy2, u4y2, _⟩ : (0 ≤ y2.n 3 ∧ y2.n 3 ≤ 65535) ∧ 0 ≤ y2.n 4 ∧ True := hu2.1
    obtain ⟨b1y2, b2y2, _⟩ : 0 ≤ y2.n 100001 ∧ 0 ≤ y2.n 100002 ∧ True := hu2.2.1
    have T1y2 : ((y2.n 100001).toNat : Int) = y2.n 100001 := Int.toNat_of_nonneg b1y2
    have T2y2 : ((y2.n 100002).toNat : Int) = y2.n 100002 := Int.toNat_of_nonneg b2y2
    have T4y2 : ((y2.n 4).toNat : Int) = y2.n 4 := Int.toNat_of_nonneg u4y2
    have roy2 : Row [.r .u8 0 255] (y2.l 5) := hu2.2.2.2.1.2
    have rby2 : Row [.r .u8 0 255] (y2.l 3) := hu2.2.2.1.2
    have rny2 : Row [.i .u32, .i .i64, .i .u32] (y2.l 6) := hu2.2.2.2.2.1.2
    simp only [T1y2, T2y2, T4y2]
    rw [q1y1, h2, h3] at hq
    have hP2 : RuI E (z.n 2) (z.n 3) (ltF E (z.n 2) (z.n 3) ((y.n 91024 - y.n 91025) - 1).toNat (AU.mk (IntKind.u32.wrap (y.n 1 + 1)) (gvF E (z.n 2) (z.n 3) (rdb E (y.n 1) (Mm.mk (y.n 100000) (y.n 100001) (y.n 100002) (y.l 3) (y.l 6))) (OU.mk (Mm.mk (y.n 100000) (y.n 100001) (y.n 100002) (y.l 3) (y.l 6)) (vals (y.l 5)))))) R := hP
    rw [rdb_v v1y1 g1y1, ← hq, ← e1, er] at hP2
    have hlen : y.n 4 ≤ y2.n 4 ∧ (y.n 4 < y.n 3 → y2.n 4 = y.n 4 + 1) := by
      have hv : (vals (y2.l 5)).length = _ := congrArg (fun s : OU => s.o.length) hq
      rw [vals_len] at hv
      have vl' : ((OU.mk (Mm.mk (y.n 100000) (y.n 100001) (y.n 100002) (y.l 3) (y.l 6)) (vals (y.l 5))).o.length : Int) = y.n 4 := vl
      refine ⟨?_, fun hn => ?_⟩
      · have hg : (OU.mk (Mm.mk (y.n 100000) (y.n 100001) (y.n 100002) (y.l 3) (y.l 6)) (vals (y.l 5))).o.length ≤ _ := Nat.le_trans gvF_ge (Nat.le_of_eq hv.symm)
        omega
      · rw [gvF_len (by omega)] at hv; omega
    ((repeat' (first | exact trivial | with_reducible rfl | assumption | exact rfl | apply And.intro)) <;> first | omega | (intro h; omega) | (split <;> omega) | (split <;> split <;> omega))
  · have hb : (y.n 91024 - y.n 91025) ≤ 0 := by have := of_decide_eq_false hb; omega
    rw [ltF_0 hb] at hP
    ((repeat' (first | exact trivial | with_reducible rfl | assumption | exact rfl | apply And.intro)) <;> first | omega | (intro h; omega) | (split <;> omega) | (split <;> split <;> omega))
set_option maxHeartbeats 8000000 in
theorem ru_c (E : World) (R : AU) (z : PX) (hz : rgM z [mS 2, mN 3 4, rowB, rowB, rowN] 0) (hp : (fun z => okM (Mm.mk (z.n 100000) (z.n 100001) (z.n 100002) (z.l 3) (z.l 4)) ∧ z.n 100002 ≤ 200000 + z.n 4 ∧ (z.l 2).length = (z.n 4).toNat ∧ z.n 4 ≤ z.n 3 ∧ 0 ≤ z.n 4 ∧ RuI E (z.n 2) (z.n 3) (AU.mk (z.n 1) (OU.mk (Mm.mk (z.n 100000) (z.n 100001) (z.n 100002) (z.l 3) (z.l 4)) (vals (z.l 2)))) R) z) : HD (pe E) 40 [.c (.p 0 0)] [mS 2, mN 3 4, rowB, rowB, rowN] [mS 5, mN 3 6, .g HOLE, rowB, .g HOLE, rowB, rowN] (.t []) (fun z y => (AU.mk (y.n 1) (OU.mk (Mm.mk (y.n 100000) (y.n 100001) (y.n 100002) (y.l 3) (y.l 6)) (vals (y.l 5)))) = R ∧ (y.n 2 = z.n 2 ∧ y.n 3 = z.n 3) ∧ okM (Mm.mk (y.n 100000) (y.n 100001) (y.n 100002) (y.l 3) (y.l 6)) ∧ y.n 100002 + z.n 4 ≤ z.n 100002 + y.n 4 ∧ (y.l 5).length = (y.n 4).toNat ∧ y.n 4 ≤ y.n 3) z := by
  refine HD.loop (P := pe E) orcG_ok tab_ok tab_sz mixed Try.func40 (c := Try.f40.body.getD .skip) rfl (by decide) (Nat.le_of_ble_eq_true rfl) (by rfl) 20000 (2 ^ 200 - 1) (ru_hs E R z) (by rfl) (loopP_lfH ⟨?_⟩) ?_
  · rw [ru_pro]
    obtain ⟨hK, hnz, hl, hle, hz0, hPz⟩ := hp
    have hf1 : flat [Sp.r .u8 0 255] = true := rfl
    have hf2 : flat [Sp.i .u32, Sp.i .i64, Sp.i .u32] = true := rfl
    have hf3 : flat [Sp.r .i64 0 255] = true := rfl
    obtain ⟨usz, u4z, _⟩ : (0 ≤ z.n 3 ∧ z.n 3 ≤ 65535) ∧ 0 ≤ z.n 4 ∧ True := hz.1
    obtain ⟨b1z, b2z, _⟩ : 0 ≤ z.n 100001 ∧ 0 ≤ z.n 100002 ∧ True := hz.2.1
    have T1z : ((z.n 100001).toNat : Int) = z.n 100001 := Int.toNat_of_nonneg b1z
    have T2z : ((z.n 100002).toNat : Int) = z.n 100002 := Int.toNat_of_nonneg b2z
    have T4z : ((z.n 4).toNat : Int) = z.n 4 := Int.toNat_of_nonneg u4z
    have roz : Row [.r .u8 0 255] (z.l 2) := hz.2.2.1.2
    have rbz : Row [.r .u8 0 255] (z.l 3) := hz.2.2.2.1.2
    have rnz : Row [.i .u32, .i .i64, .i .u32] (z.l 4) := hz.2.2.2.2.1.2
    simp only [T1z, T2z, T4z]
    ((repeat' (first | exact trivial | with_reducible rfl | assumption | exact rfl | apply And.intro)) <;> first | omega | (intro h; omega) | (split <;> omega) | (split <;> split <;> omega))
  · intro h hmem y hy1 hy2 hy3
    simp only [ru_hs, List.mem_cons, List.not_mem_nil, or_false] at hmem
    rcases hmem with rfl | rfl | rfl
    · exact ru_q0 E R z hp y hy1 hy2 hy3
    · exact ru_q1 E R z hp y hy1 hy2 hy3
    · exact ru_q2 E R z hp y hy1 hy2 hy3
end Go.Proofs.Ytabklphoccicmaa

