import Derived.Test.YtabklphoccicmaaRD
set_option linter.unusedVariables false
set_option linter.unusedSimpArgs false
namespace Go.Proofs.Ytabklphoccicmaa
open Go Go.Proofs Go.Proofs.Ytabklphoccicmaa.Ev Go.Proofs.Ytabklphoccicmaa.Ev.Ho Go.IntKind
set_option maxRecDepth 100000
noncomputable def ad_h0 (E : World) (R : AU) (z : PX) : Hd := ⟨3, anyH, (ad_td E), [(0, .c (.p 0 0)), (1, .c (.p 1 0))], [mSt 2, mO' 2 6, mN 4 7, .g HOLE, rowB, .g HOLE, rowI, rowN], fun y => PcI E (z.n 100001) (z.n 100002) (AU.mk (y.n 1) (OU.mk (Mm.mk (y.n 200000) (y.n 200001) (y.n 200002) (y.l 4) (y.l 7)) (vals (y.l 6)))) R ∧ (y.n 100001 = z.n 100001 ∧ y.n 100002 = z.n 100002) ∧ okM (Mm.mk (y.n 200000) (y.n 200001) (y.n 200002) (y.l 4) (y.l 7)) ∧ y.n 200002 + z.n 100003 ≤ z.n 200002 + y.n 100003 ∧ (y.l 6).length = (y.n 100003).toNat ∧ y.n 100003 ≤ y.n 100002, fun y => ((y.n 100002 - y.n 100003) * 400 + 399).toNat⟩
noncomputable def ad_h1 (E : World) (R : AU) (z : PX) : Hd := ⟨6, anyH, (adk_td E), [(0, .c (.p 0 0)), (1, .c (.p 1 0)), (4, .r .i64 (0) (255)), (5, .r .i64 (0) (8))], [mSt 2, mO' 2 6, mN 4 7, .g HOLE, rowB, .g HOLE, rowI, rowN], fun y => (PcI E (z.n 100001) (z.n 100002) (inF E (z.n 100001) (z.n 100002) (y.n 91004) (8 - y.n 91005).toNat (AU.mk (y.n 1) (OU.mk (Mm.mk (y.n 200000) (y.n 200001) (y.n 200002) (y.l 4) (y.l 7)) (vals (y.l 6))))) R ∧ (y.n 91005 = 0 → y.n 100003 < y.n 100002)) ∧ (y.n 100001 = z.n 100001 ∧ y.n 100002 = z.n 100002) ∧ okM (Mm.mk (y.n 200000) (y.n 200001) (y.n 200002) (y.l 4) (y.l 7)) ∧ y.n 200002 + z.n 100003 ≤ z.n 200002 + y.n 100003 ∧ (y.l 6).length = (y.n 100003).toNat ∧ y.n 100003 ≤ y.n 100002, fun y => (if y.n 91005 = 0 then (y.n 100002 - y.n 100003) * 400 + 398 else (y.n 100002 - y.n 100003) * 400 + 400 + 40 * (9 - y.n 91005)).toNat⟩
noncomputable def ad_h2 (E : World) (R : AU) (z : PX) : Hd := ⟨10, anyH, (adp_td E), [(0, .c (.p 0 0)), (1, .c (.p 1 0)), (4, .r .i64 (0) (255)), (5, .r .i64 (0) (7)), (7, .r .i64 (0) (255)), (9, .r .i64 (1) (5000)), (10, .r .i64 (0) (18))], [mSt 2, mO' 2 6, mN 4 7, .g HOLE, rowB, .g HOLE, rowI, rowN], fun y => (PcI E (z.n 100001) (z.n 100002) (inF E (z.n 100001) (z.n 100002) (y.n 91004) (7 - y.n 91005).toNat (AU.mk (y.n 1) (agF E (z.n 100001) (z.n 100002) (y.n 91009) (y.n 91010).toNat (OU.mk (Mm.mk (y.n 200000) (y.n 200001) (y.n 200002) (y.l 4) (y.l 7)) (vals (y.l 6)))))) R ∧ (y.n 91010 = y.n 91007 / 16 + 3 → y.n 100003 < y.n 100002) ∧ y.n 91010 ≤ y.n 91007 / 16 + 3) ∧ (y.n 100001 = z.n 100001 ∧ y.n 100002 = z.n 100002) ∧ okM (Mm.mk (y.n 200000) (y.n 200001) (y.n 200002) (y.l 4) (y.l 7)) ∧ y.n 200002 + z.n 100003 ≤ z.n 200002 + y.n 100003 ∧ (y.l 6).length = (y.n 100003).toNat ∧ y.n 100003 ≤ y.n 100002, fun y => (if y.n 91010 = y.n 91007 / 16 + 3 then (y.n 100002 - y.n 100003) * 400 + 397 else (y.n 100002 - y.n 100003) * 400 + 401 + 40 * (8 - y.n 91005) + y.n 91010).toNat⟩
noncomputable def ad_hs (E : World) (R : AU) (z : PX) : List Hd := [ad_h0 E R z, ad_h1 E R z, ad_h2 E R z]
theorem ad_pro (E : World) (R : AU) (z : PX) :
    (loopP (pe E) Try.f44 (endR ([mSt 2, mO' 2 3, mN 4 5, rowI, rowB, rowN] : List MB).length [mSt 2, mO' 2 6, mN 4 7, .g HOLE, rowB, .g HOLE, rowI, rowN] (.t []) (fun z y => (AU.mk (y.n 1) (OU.mk (Mm.mk (y.n 200000) (y.n 200001) (y.n 200002) (y.l 4) (y.l 7)) (vals (y.l 6)))) = R ∧ (y.n 100001 = z.n 100001 ∧ y.n 100002 = z.n 100002) ∧ okM (Mm.mk (y.n 200000) (y.n 200001) (y.n 200002) (y.l 4) (y.l 7)) ∧ y.n 200002 + z.n 100003 ≤ z.n 200002 + y.n 100003 ∧ (y.l 6).length = (y.n 100003).toNat ∧ y.n 100003 ≤ y.n 100002) z) (headR ([mSt 2, mO' 2 3, mN 4 5, rowI, rowB, rowN] : List MB).length Try.f44.ntmps none (ad_hs E R z)) (run (pe E) (orcD E) (tabL fns) 20000 (2 ^ 200 - 1) [.code (Try.f44.body.getD .skip)] ⟨Try.f44.ntmps, mkFrGo (Tr.mk 12) 0 [.c (.p 0 0), .c (.p 1 0)]⟩ (mkM z [] [mSt 2, mO' 2 3, mN 4 5, rowI, rowB, rowN] 0))) =
     (ad_td E = ad_td E ∧ 77 = 77 ∧ (True ∧ True ∧ True) ∧ (eD (z.n 100002) (z.l 4) (z.l 3) (z.l 5)) ∧ (PcI E (z.n 100001) (z.n 100002) (AU.mk (z.n 1) (OU.mk (Mm.mk (z.n 200000) (↑(z.n 200001).toNat : Int) (↑(z.n 200002).toNat : Int) (z.l 4) (z.l 5)) (vals (z.l 3)))) R ∧ (z.n 100001 = z.n 100001 ∧ z.n 100002 = z.n 100002) ∧ okM (Mm.mk (z.n 200000) (↑(z.n 200001).toNat : Int) (↑(z.n 200002).toNat : Int) (z.l 4) (z.l 5)) ∧ (↑(z.n 200002).toNat : Int) + z.n 100003 ≤ z.n 200002 + (↑(z.n 100003).toNat : Int) ∧ (z.l 3).length = (↑(z.n 100003).toNat : Int).toNat ∧ (↑(z.n 100003).toNat : Int) ≤ z.n 100002) ∧ True) := by kernel_rfl
theorem ad_r0 (E : World) (R : AU) (z : PX) (y : PX) :
    (loopP (pe E) Try.f44 (endR ([mSt 2, mO' 2 3, mN 4 5, rowI, rowB, rowN] : List MB).length [mSt 2, mO' 2 6, mN 4 7, .g HOLE, rowB, .g HOLE, rowI, rowN] (.t []) (fun z y => (AU.mk (y.n 1) (OU.mk (Mm.mk (y.n 200000) (y.n 200001) (y.n 200002) (y.l 4) (y.l 7)) (vals (y.l 6)))) = R ∧ (y.n 100001 = z.n 100001 ∧ y.n 100002 = z.n 100002) ∧ okM (Mm.mk (y.n 200000) (y.n 200001) (y.n 200002) (y.l 4) (y.l 7)) ∧ y.n 200002 + z.n 100003 ≤ z.n 200002 + y.n 100003 ∧ (y.l 6).length = (y.n 100003).toNat ∧ y.n 100003 ≤ y.n 100002) z) (headR ([mSt 2, mO' 2 3, mN 4 5, rowI, rowB, rowN] : List MB).length Try.f44.ntmps (some ((fun y => ((y.n 100002 - y.n 100003) * 400 + 399).toNat) y)) (ad_hs E R z))  (run (pe E) (orcD E) (tabL fns) 20000 (2 ^ 200 - 1) (ad_td E) (mkL Try.f44.ntmps (slC y [(0, .c (.p 0 0)), (1, .c (.p 1 0))])) (mkM y [] [mSt 2, mO' 2 6, mN 4 7, .g HOLE, rowB, .g HOLE, rowI, rowN] 0))) =
     (((!decide ((↑(y.n 100003).toNat : Int) ≥ y.n 100002)) = true → ((eM (y.l 4) (y.l 7)) ∧ okM (Mm.mk (y.n 200000) (↑(y.n 200001).toNat : Int) (↑(y.n 200002).toNat : Int) (y.l 4) (y.l 7))) ∧ ∀ (y_1 : PX), aM y_1 2 ∧ ((0 ≤ y_1.n 90000 ∧ y_1.n 90000 ≤ 255) ∧ True) ∧ Mm.mk (y_1.n 0) (y_1.n 1) (y_1.n 2) (y_1.l 1) (y_1.l 2) = Mm.mk (y.n 200000) (↑(y.n 200001).toNat : Int) (↑(y.n 200002).toNat : Int) (y.l 4) (y.l 7) ∧ y_1.n 90000 = rdv1 E (y.n 1) (Mm.mk (y.n 200000) (↑(y.n 200001).toNat : Int) (↑(y.n 200002).toNat : Int) (y.l 4) (y.l 7)) → adk_td E = adk_td E ∧ 77 = 77 ∧ (True ∧ True ∧ ((0 ≤ i64.wrap (y_1.n 90000) ∧ i64.wrap (y_1.n 90000) ≤ 255) ∧ True) ∧ (((0 : Int) ≤ (0 : Int) ∧ (0 : Int) ≤ 8) ∧ True) ∧ True) ∧ (eD (y.n 100002) (y_1.l 1) (y.l 6) (y_1.l 2)) ∧ ((PcI E (z.n 100001) (z.n 100002) (inF E (z.n 100001) (z.n 100002) (i64.wrap (y_1.n 90000)) ((8 : Int) - 0).toNat (AU.mk (u32.wrap (y.n 1 + 1)) (OU.mk (Mm.mk (y_1.n 0) (↑(y_1.n 1).toNat : Int) (↑(y_1.n 2).toNat : Int) (y_1.l 1) (y_1.l 2)) (vals (y.l 6))))) R ∧ ((0 : Int) = 0 → (↑(y.n 100003).toNat : Int) < y.n 100002)) ∧ (y.n 100001 = z.n 100001 ∧ y.n 100002 = z.n 100002) ∧ okM (Mm.mk (y_1.n 0) (↑(y_1.n 1).toNat : Int) (↑(y_1.n 2).toNat : Int) (y_1.l 1) (y_1.l 2)) ∧ (↑(y_1.n 2).toNat : Int) + z.n 100003 ≤ z.n 200002 + (↑(y.n 100003).toNat : Int) ∧ (y.l 6).length = (↑(y.n 100003).toNat : Int).toNat ∧ (↑(y.n 100003).toNat : Int) ≤ y.n 100002) ∧ (if (0 : Int) = 0 then (y.n 100002 - (↑(y.n 100003).toNat : Int)) * (400 : Int) + 398 else (y.n 100002 - (↑(y.n 100003).toNat : Int)) * (400 : Int) + (400 : Int) + 40 * ((9 : Int) - 0)).toNat < ((y.n 100002 - y.n 100003) * (400 : Int) + 399).toNat ∧ True) ∧ ((!decide ((↑(y.n 100003).toNat : Int) ≥ y.n 100002)) = false → (eD (y.n 100002) (y.l 4) (y.l 6) (y.l 7)) ∧ True ∧ AU.mk (y.n 1) (OU.mk (Mm.mk (y.n 200000) (↑(y.n 200001).toNat : Int) (↑(y.n 200002).toNat : Int) (y.l 4) (y.l 7)) (vals (y.l 6))) = R ∧ (y.n 100001 = z.n 100001 ∧ y.n 100002 = z.n 100002) ∧ okM (Mm.mk (y.n 200000) (↑(y.n 200001).toNat : Int) (↑(y.n 200002).toNat : Int) (y.l 4) (y.l 7)) ∧ (↑(y.n 200002).toNat : Int) + z.n 100003 ≤ z.n 200002 + (↑(y.n 100003).toNat : Int) ∧ (y.l 6).length = (↑(y.n 100003).toNat : Int).toNat ∧ (↑(y.n 100003).toNat : Int) ≤ y.n 100002)) := by kernel_rfl
set_option maxHeartbeats 8000000 in
theorem ad_q0 (E : World) (R : AU) (z : PX) (hp : (fun z => okM (Mm.mk (z.n 200000) (z.n 200001) (z.n 200002) (z.l 4) (z.l 5)) ∧ z.n 200002 ≤ 200000 + z.n 100003 ∧ (z.l 3).length = (z.n 100003).toNat ∧ z.n 100003 ≤ z.n 100002 ∧ 0 ≤ z.n 100003 ∧ PcI E (z.n 100001) (z.n 100002) (AU.mk (z.n 1) (OU.mk (Mm.mk (z.n 200000) (z.n 200001) (z.n 200002) (z.l 4) (z.l 5)) (vals (z.l 3)))) R) z) (y : PX) (hy1 : rgM y [mSt 2, mO' 2 6, mN 4 7, .g HOLE, rowB, .g HOLE, rowI, rowN] 0) (hy2 : rgF y [(0, .c (.p 0 0)), (1, .c (.p 1 0))]) (hy3 : (fun y => PcI E (z.n 100001) (z.n 100002) (AU.mk (y.n 1) (OU.mk (Mm.mk (y.n 200000) (y.n 200001) (y.n 200002) (y.l 4) (y.l 7)) (vals (y.l 6)))) R ∧ (y.n 100001 = z.n 100001 ∧ y.n 100002 = z.n 100002) ∧ okM (Mm.mk (y.n 200000) (y.n 200001) (y.n 200002) (y.l 4) (y.l 7)) ∧ y.n 200002 + z.n 100003 ≤ z.n 200002 + y.n 100003 ∧ (y.l 6).length = (y.n 100003).toNat ∧ y.n 100003 ≤ y.n 100002) y) : Holds ((run (pe E) (orcD E) (tabL fns) 20000 (2 ^ 200 - 1) (ad_td E) (mkL Try.f44.ntmps (slC y [(0, .c (.p 0 0)), (1, .c (.p 1 0))])) (mkM y [] [mSt 2, mO' 2 6, mN 4 7, .g HOLE, rowB, .g HOLE, rowI, rowN] 0)).OK (lfP (pe E) Try.f44 (endR ([mSt 2, mO' 2 3, mN 4 5, rowI, rowB, rowN] : List MB).length [mSt 2, mO' 2 6, mN 4 7, .g HOLE, rowB, .g HOLE, rowI, rowN] (.t []) (fun z y => (AU.mk (y.n 1) (OU.mk (Mm.mk (y.n 200000) (y.n 200001) (y.n 200002) (y.l 4) (y.l 7)) (vals (y.l 6)))) = R ∧ (y.n 100001 = z.n 100001 ∧ y.n 100002 = z.n 100002) ∧ okM (Mm.mk (y.n 200000) (y.n 200001) (y.n 200002) (y.l 4) (y.l 7)) ∧ y.n 200002 + z.n 100003 ≤ z.n 200002 + y.n 100003 ∧ (y.l 6).length = (y.n 100003).toNat ∧ y.n 100003 ≤ y.n 100002) z) (headR ([mSt 2, mO' 2 3, mN 4 5, rowI, rowB, rowN] : List MB).length Try.f44.ntmps (some ((fun y => ((y.n 100002 - y.n 100003) * 400 + 399).toNat) y)) (ad_hs E R z)))) := by
  refine loopP_lfH ⟨?_⟩
  rw [ad_r0]
  have hf : True ∧ True ∧ True := hy2
  obtain ⟨_, _, _⟩ := hf
  obtain ⟨hP, ⟨h2, h3⟩, hK, hgr, hl, hle⟩ := hy3
  obtain ⟨hKz, hnz, hlz, hlez, hz0, hPz⟩ := hp
  have hf1 : flat [Sp.r .u8 0 255] = true := rfl
  have hf2 : flat [Sp.i .u32, Sp.i .i64, Sp.i .u32] = true := rfl
  have hf3 : flat [Sp.r .i64 0 255] = true := rfl
  obtain ⟨usy, u4y, _⟩ : (0 ≤ y.n 100002 ∧ y.n 100002 ≤ 65535) ∧ 0 ≤ y.n 100003 ∧ True := hy1.2.1
  obtain ⟨b1y, b2y, _⟩ : 0 ≤ y.n 200001 ∧ 0 ≤ y.n 200002 ∧ True := hy1.2.2.1
  have T1y : ((y.n 200001).toNat : Int) = y.n 200001 := Int.toNat_of_nonneg b1y
  have T2y : ((y.n 200002).toNat : Int) = y.n 200002 := Int.toNat_of_nonneg b2y
  have T4y : ((y.n 100003).toNat : Int) = y.n 100003 := Int.toNat_of_nonneg u4y
  have roy : Row [.r .i64 0 255] (y.l 6) := hy1.2.2.2.2.1.2
  have rby : Row [.r .u8 0 255] (y.l 4) := hy1.2.2.2.1.2
  have rny : Row [.i .u32, .i .i64, .i .u32] (y.l 7) := hy1.2.2.2.2.2.1.2
  have vl : ((vals (y.l 6)).length : Int) = y.n 100003 := by rw [vals_len]; omega
  simp only [T1y, T2y, T4y]
  refine ⟨fun h => ?_, fun h => ?_⟩
  · have h : y.n 100003 < y.n 100002 := by have h0 := h; simp at h0; omega
    refine ⟨⟨by ((repeat' (first | exact trivial | with_reducible rfl | assumption | exact rfl | apply And.intro)) <;> omega), hK⟩, ?_⟩
    rintro y1 ⟨⟨⟨p1y1, p2y1, _⟩, ⟨_, q3y1⟩, ⟨_, q6y1⟩, _⟩, ⟨g1y1, _⟩, q1y1, v1y1⟩
    have S1y1 : ((y1.n 1).toNat : Int) = y1.n 1 := Int.toNat_of_nonneg p1y1
    have S2y1 : ((y1.n 2).toNat : Int) = y1.n 2 := Int.toNat_of_nonneg p2y1
    have hKy1 : okM (Mm.mk (y1.n 0) (y1.n 1) (y1.n 2) (y1.l 1) (y1.l 2)) := by rw [q1y1]; exact hK
    have cy1 : y1.n 2 = y.n 200002 := congrArg Mm.nn q1y1
    have e8y1 : IntKind.u8.wrap (y1.n 90000) = y1.n 90000 := by rw [wu8]; omega
    have e64y1 : IntKind.i64.wrap (y1.n 90000) = y1.n 90000 := by rw [wi64]; omega
    simp only [S1y1, S2y1, e8y1, e64y1]
    have hI := hP.inv (show ((vals (y.l 6)).length : Int) ≠ z.n 100002 by omega)
    have v1' : rdb E (AU.mk (y.n 1) (OU.mk (Mm.mk (y.n 200000) (y.n 200001) (y.n 200002) (y.l 4) (y.l 7)) (vals (y.l 6)))).a (AU.mk (y.n 1) (OU.mk (Mm.mk (y.n 200000) (y.n 200001) (y.n 200002) (y.l 4) (y.l 7)) (vals (y.l 6)))).u.m = y1.n 90000 := rdb_v v1y1 g1y1
    rw [v1'] at hI
    have hI : PcI E (z.n 100001) (z.n 100002) (inF E (z.n 100001) (z.n 100002) (y1.n 90000) 8 (AU.mk (IntKind.u32.wrap (y.n 1 + 1)) (OU.mk (Mm.mk (y.n 200000) (y.n 200001) (y.n 200002) (y.l 4) (y.l 7)) (vals (y.l 6))))) R := hI
    have e7 : ((8 : Int) - 0).toNat = 8 := rfl
    simp only [e7, q1y1, h, implies_true, if_true]
    ((repeat' (first | exact trivial | with_reducible rfl | assumption | exact rfl | apply And.intro)) <;> first | omega | (intro h; omega) | (split <;> omega) | (split <;> split <;> omega))
  · have h : y.n 100003 = y.n 100002 := by have h0 := h; simp at h0; omega
    have hR := hP.fin (show ((vals (y.l 6)).length : Int) = z.n 100002 by omega)
    ((repeat' (first | exact trivial | with_reducible rfl | assumption | exact rfl | apply And.intro)) <;> omega)
theorem ad_r1 (E : World) (R : AU) (z : PX) (y : PX) :
    (loopP (pe E) Try.f44 (endR ([mSt 2, mO' 2 3, mN 4 5, rowI, rowB, rowN] : List MB).length [mSt 2, mO' 2 6, mN 4 7, .g HOLE, rowB, .g HOLE, rowI, rowN] (.t []) (fun z y => (AU.mk (y.n 1) (OU.mk (Mm.mk (y.n 200000) (y.n 200001) (y.n 200002) (y.l 4) (y.l 7)) (vals (y.l 6)))) = R ∧ (y.n 100001 = z.n 100001 ∧ y.n 100002 = z.n 100002) ∧ okM (Mm.mk (y.n 200000) (y.n 200001) (y.n 200002) (y.l 4) (y.l 7)) ∧ y.n 200002 + z.n 100003 ≤ z.n 200002 + y.n 100003 ∧ (y.l 6).length = (y.n 100003).toNat ∧ y.n 100003 ≤ y.n 100002) z) (headR ([mSt 2, mO' 2 3, mN 4 5, rowI, rowB, rowN] : List MB).length Try.f44.ntmps (some ((fun y => (if y.n 91005 = 0 then (y.n 100002 - y.n 100003) * 400 + 398 else (y.n 100002 - y.n 100003) * 400 + 400 + 40 * (9 - y.n 91005)).toNat) y)) (ad_hs E R z))  (run (pe E) (orcD E) (tabL fns) 20000 (2 ^ 200 - 1) (adk_td E) (mkL Try.f44.ntmps (slC y [(0, .c (.p 0 0)), (1, .c (.p 1 0)), (4, .r .i64 (0) (255)), (5, .r .i64 (0) (8))])) (mkM y [] [mSt 2, mO' 2 6, mN 4 7, .g HOLE, rowB, .g HOLE, rowI, rowN] 0))) =
     ((decide (y.n 91005 < 8) = true → ((!decide ((↑(y.n 100003).toNat : Int) ≥ y.n 100002)) = true → decide (0 ≤ i64.wrap (7 - y.n 91005)) = true ∧ ((((y.n 91004).fdiv (2 ^ min (i64.wrap (7 - y.n 91005)).toNat (64 : Nat))).tmod (2 : Int) == 0) = true → ((eM (y.l 4) (y.l 7)) ∧ okM (Mm.mk (y.n 200000) (↑(y.n 200001).toNat : Int) (↑(y.n 200002).toNat : Int) (y.l 4) (y.l 7))) ∧ ∀ (y_1 : PX), aM y_1 2 ∧ ((0 ≤ y_1.n 90000 ∧ y_1.n 90000 ≤ 255) ∧ True) ∧ Mm.mk (y_1.n 0) (y_1.n 1) (y_1.n 2) (y_1.l 1) (y_1.l 2) = Mm.mk (y.n 200000) (↑(y.n 200001).toNat : Int) (↑(y.n 200002).toNat : Int) (y.l 4) (y.l 7) ∧ y_1.n 90000 = rdv1 E (y.n 1) (Mm.mk (y.n 200000) (↑(y.n 200001).toNat : Int) (↑(y.n 200002).toNat : Int) (y.l 4) (y.l 7)) → ((iO (y.n 100002) (y.l 6) (y_1.l 1) (y_1.l 2)) ∧ okM (Mm.mk (y_1.n 0) (↑(y_1.n 1).toNat : Int) (↑(y_1.n 2).toNat : Int) (y_1.l 1) (y_1.l 2)) ∧ (↑(y_1.n 2).toNat : Int) ≤ 400000 ∧ (y.l 6).length = (↑(y.n 100003).toNat : Int).toNat ∧ (↑(y.n 100003).toNat : Int) ≤ y.n 100002 ∧ 0 ≤ i64.wrap (y_1.n 90000) ∧ i64.wrap (y_1.n 90000) ≤ 255) ∧ ∀ (y_2 : PX), aO y_2 ∧ True ∧ OU.mk (Mm.mk (y_2.n 100000) (y_2.n 100001) (y_2.n 100002) (y_2.l 3) (y_2.l 6)) (vals (y_2.l 5)) = gvF E (y.n 100001) (y.n 100002) (i64.wrap (y_1.n 90000)) (OU.mk (Mm.mk (y_1.n 0) (↑(y_1.n 1).toNat : Int) (↑(y_1.n 2).toNat : Int) (y_1.l 1) (y_1.l 2)) (vals (y.l 6))) ∧ (y_2.n 1 = y.n 100001 ∧ y_2.n 2 = y.n 100002) ∧ okM (Mm.mk (y_2.n 100000) (y_2.n 100001) (y_2.n 100002) (y_2.l 3) (y_2.l 6)) ∧ y_2.n 100002 + (↑(y.n 100003).toNat : Int) ≤ (↑(y_1.n 2).toNat : Int) + y_2.n 3 ∧ (y_2.l 5).length = (y_2.n 3).toNat ∧ y_2.n 3 ≤ y_2.n 2 → adk_td E = adk_td E ∧ 77 = 77 ∧ (True ∧ True ∧ ((0 ≤ y.n 91004 ∧ y.n 91004 ≤ 255) ∧ True) ∧ ((0 ≤ i64.wrap (y.n 91005 + 1) ∧ i64.wrap (y.n 91005 + 1) ≤ 8) ∧ True) ∧ True) ∧ (eD (y_2.n 2) (y_2.l 3) (y_2.l 5) (y_2.l 6)) ∧ ((PcI E (z.n 100001) (z.n 100002) (inF E (z.n 100001) (z.n 100002) (y.n 91004) (8 - i64.wrap (y.n 91005 + 1)).toNat (AU.mk (u32.wrap (y.n 1 + 1)) (OU.mk (Mm.mk (y_2.n 100000) (↑(y_2.n 100001).toNat : Int) (↑(y_2.n 100002).toNat : Int) (y_2.l 3) (y_2.l 6)) (vals (y_2.l 5))))) R ∧ (i64.wrap (y.n 91005 + 1) = 0 → (↑(y_2.n 3).toNat : Int) < y_2.n 2)) ∧ (y_2.n 1 = z.n 100001 ∧ y_2.n 2 = z.n 100002) ∧ okM (Mm.mk (y_2.n 100000) (↑(y_2.n 100001).toNat : Int) (↑(y_2.n 100002).toNat : Int) (y_2.l 3) (y_2.l 6)) ∧ (↑(y_2.n 100002).toNat : Int) + z.n 100003 ≤ z.n 200002 + (↑(y_2.n 3).toNat : Int) ∧ (y_2.l 5).length = (↑(y_2.n 3).toNat : Int).toNat ∧ (↑(y_2.n 3).toNat : Int) ≤ y_2.n 2) ∧ (if i64.wrap (y.n 91005 + 1) = 0 then (y_2.n 2 - (↑(y_2.n 3).toNat : Int)) * (400 : Int) + 398 else (y_2.n 2 - (↑(y_2.n 3).toNat : Int)) * (400 : Int) + (400 : Int) + 40 * (9 - i64.wrap (y.n 91005 + 1))).toNat < (if y.n 91005 = 0 then (y.n 100002 - y.n 100003) * (400 : Int) + 398 else (y.n 100002 - y.n 100003) * (400 : Int) + (400 : Int) + 40 * (9 - y.n 91005)).toNat ∧ True) ∧ ((((y.n 91004).fdiv (2 ^ min (i64.wrap (7 - y.n 91005)).toNat (64 : Nat))).tmod (2 : Int) == 0) = false → ((eM (y.l 4) (y.l 7)) ∧ okM (Mm.mk (y.n 200000) (↑(y.n 200001).toNat : Int) (↑(y.n 200002).toNat : Int) (y.l 4) (y.l 7))) ∧ ∀ (y_1 : PX), aM y_1 2 ∧ ((0 ≤ y_1.n 90000 ∧ y_1.n 90000 ≤ 255) ∧ True) ∧ Mm.mk (y_1.n 0) (y_1.n 1) (y_1.n 2) (y_1.l 1) (y_1.l 2) = Mm.mk (y.n 200000) (↑(y.n 200001).toNat : Int) (↑(y.n 200002).toNat : Int) (y.l 4) (y.l 7) ∧ y_1.n 90000 = rdv1 E (y.n 1) (Mm.mk (y.n 200000) (↑(y.n 200001).toNat : Int) (↑(y.n 200002).toNat : Int) (y.l 4) (y.l 7)) → ((eM (y_1.l 1) (y_1.l 2)) ∧ okM (Mm.mk (y_1.n 0) (↑(y_1.n 1).toNat : Int) (↑(y_1.n 2).toNat : Int) (y_1.l 1) (y_1.l 2))) ∧ ∀ (y_2 : PX), aM y_2 2 ∧ ((0 ≤ y_2.n 90000 ∧ y_2.n 90000 ≤ 255) ∧ True) ∧ Mm.mk (y_2.n 0) (y_2.n 1) (y_2.n 2) (y_2.l 1) (y_2.l 2) = Mm.mk (y_1.n 0) (↑(y_1.n 1).toNat : Int) (↑(y_1.n 2).toNat : Int) (y_1.l 1) (y_1.l 2) ∧ y_2.n 90000 = rdv1 E (u32.wrap (y.n 1 + 1)) (Mm.mk (y_1.n 0) (↑(y_1.n 1).toNat : Int) (↑(y_1.n 2).toNat : Int) (y_1.l 1) (y_1.l 2)) → adp_td E = adp_td E ∧ 77 = 77 ∧ (True ∧ True ∧ ((0 ≤ y.n 91004 ∧ y.n 91004 ≤ 255) ∧ True) ∧ ((0 ≤ y.n 91005 ∧ y.n 91005 ≤ 7) ∧ True) ∧ ((0 ≤ i64.wrap (y_1.n 90000) ∧ i64.wrap (y_1.n 90000) ≤ 255) ∧ True) ∧ ((1 ≤ i64.wrap (i64.wrap (i64.wrap ((i64.wrap (y_1.n 90000)).tmod (16 : Int) * 256) + i64.wrap (y_2.n 90000)) + 1) ∧ i64.wrap (i64.wrap (i64.wrap ((i64.wrap (y_1.n 90000)).tmod (16 : Int) * 256) + i64.wrap (y_2.n 90000)) + 1) ≤ 5000) ∧ True) ∧ ((0 ≤ i64.wrap (i64.wrap ((i64.wrap (y_1.n 90000)).tdiv 16) + 3) ∧ i64.wrap (i64.wrap ((i64.wrap (y_1.n 90000)).tdiv 16) + 3) ≤ 18) ∧ True) ∧ True) ∧ (eD (y.n 100002) (y_2.l 1) (y.l 6) (y_2.l 2)) ∧ ((PcI E (z.n 100001) (z.n 100002) (inF E (z.n 100001) (z.n 100002) (y.n 91004) (7 - y.n 91005).toNat (AU.mk (u32.wrap (u32.wrap (y.n 1 + 1) + 1)) (agF E (z.n 100001) (z.n 100002) (i64.wrap (i64.wrap (i64.wrap ((i64.wrap (y_1.n 90000)).tmod (16 : Int) * 256) + i64.wrap (y_2.n 90000)) + 1)) (i64.wrap (i64.wrap ((i64.wrap (y_1.n 90000)).tdiv 16) + 3)).toNat (OU.mk (Mm.mk (y_2.n 0) (↑(y_2.n 1).toNat : Int) (↑(y_2.n 2).toNat : Int) (y_2.l 1) (y_2.l 2)) (vals (y.l 6)))))) R ∧ (i64.wrap (i64.wrap ((i64.wrap (y_1.n 90000)).tdiv 16) + 3) = i64.wrap (y_1.n 90000) / (16 : Int) + 3 → (↑(y.n 100003).toNat : Int) < y.n 100002) ∧ i64.wrap (i64.wrap ((i64.wrap (y_1.n 90000)).tdiv 16) + 3) ≤ i64.wrap (y_1.n 90000) / (16 : Int) + 3) ∧ (y.n 100001 = z.n 100001 ∧ y.n 100002 = z.n 100002) ∧ okM (Mm.mk (y_2.n 0) (↑(y_2.n 1).toNat : Int) (↑(y_2.n 2).toNat : Int) (y_2.l 1) (y_2.l 2)) ∧ (↑(y_2.n 2).toNat : Int) + z.n 100003 ≤ z.n 200002 + (↑(y.n 100003).toNat : Int) ∧ (y.l 6).length = (↑(y.n 100003).toNat : Int).toNat ∧ (↑(y.n 100003).toNat : Int) ≤ y.n 100002) ∧ (if i64.wrap (i64.wrap ((i64.wrap (y_1.n 90000)).tdiv 16) + 3) = i64.wrap (y_1.n 90000) / (16 : Int) + 3 then (y.n 100002 - (↑(y.n 100003).toNat : Int)) * (400 : Int) + 397 else (y.n 100002 - (↑(y.n 100003).toNat : Int)) * (400 : Int) + (401 : Int) + 40 * (8 - y.n 91005) + i64.wrap (i64.wrap ((i64.wrap (y_1.n 90000)).tdiv 16) + 3)).toNat < (if y.n 91005 = 0 then (y.n 100002 - y.n 100003) * (400 : Int) + 398 else (y.n 100002 - y.n 100003) * (400 : Int) + (400 : Int) + 40 * (9 - y.n 91005)).toNat ∧ True)) ∧ ((!decide ((↑(y.n 100003).toNat : Int) ≥ y.n 100002)) = false → ad_td E = ad_td E ∧ 77 = 77 ∧ (True ∧ True ∧ True) ∧ (eD (y.n 100002) (y.l 4) (y.l 6) (y.l 7)) ∧ (PcI E (z.n 100001) (z.n 100002) (AU.mk (y.n 1) (OU.mk (Mm.mk (y.n 200000) (↑(y.n 200001).toNat : Int) (↑(y.n 200002).toNat : Int) (y.l 4) (y.l 7)) (vals (y.l 6)))) R ∧ (y.n 100001 = z.n 100001 ∧ y.n 100002 = z.n 100002) ∧ okM (Mm.mk (y.n 200000) (↑(y.n 200001).toNat : Int) (↑(y.n 200002).toNat : Int) (y.l 4) (y.l 7)) ∧ (↑(y.n 200002).toNat : Int) + z.n 100003 ≤ z.n 200002 + (↑(y.n 100003).toNat : Int) ∧ (y.l 6).length = (↑(y.n 100003).toNat : Int).toNat ∧ (↑(y.n 100003).toNat : Int) ≤ y.n 100002) ∧ ((y.n 100002 - (↑(y.n 100003).toNat : Int)) * (400 : Int) + 399).toNat < (if y.n 91005 = 0 then (y.n 100002 - y.n 100003) * (400 : Int) + 398 else (y.n 100002 - y.n 100003) * (400 : Int) + (400 : Int) + 40 * (9 - y.n 91005)).toNat ∧ True)) ∧ (decide (y.n 91005 < 8) = false → ad_td E = ad_td E ∧ 77 = 77 ∧ (True ∧ True ∧ True) ∧ (eD (y.n 100002) (y.l 4) (y.l 6) (y.l 7)) ∧ (PcI E (z.n 100001) (z.n 100002) (AU.mk (y.n 1) (OU.mk (Mm.mk (y.n 200000) (↑(y.n 200001).toNat : Int) (↑(y.n 200002).toNat : Int) (y.l 4) (y.l 7)) (vals (y.l 6)))) R ∧ (y.n 100001 = z.n 100001 ∧ y.n 100002 = z.n 100002) ∧ okM (Mm.mk (y.n 200000) (↑(y.n 200001).toNat : Int) (↑(y.n 200002).toNat : Int) (y.l 4) (y.l 7)) ∧ (↑(y.n 200002).toNat : Int) + z.n 100003 ≤ z.n 200002 + (↑(y.n 100003).toNat : Int) ∧ (y.l 6).length = (↑(y.n 100003).toNat : Int).toNat ∧ (↑(y.n 100003).toNat : Int) ≤ y.n 100002) ∧ ((y.n 100002 - (↑(y.n 100003).toNat : Int)) * (400 : Int) + 399).toNat < (if y.n 91005 = 0 then (y.n 100002 - y.n 100003) * (400 : Int) + 398 else (y.n 100002 - y.n 100003) * (400 : Int) + (400 : Int) + 40 * (9 - y.n 91005)).toNat ∧ True)) := by kernel_rfl
set_option maxHeartbeats 8000000 in
theorem ad_q1 (E : World) (R : AU) (z : PX) (hp : (fun z => okM (Mm.mk (z.n 200000) (z.n 200001) (z.n 200002) (z.l 4) (z.l 5)) ∧ z.n 200002 ≤ 200000 + z.n 100003 ∧ (z.l 3).length = (z.n 100003).toNat ∧ z.n 100003 ≤ z.n 100002 ∧ 0 ≤ z.n 100003 ∧ PcI E (z.n 100001) (z.n 100002) (AU.mk (z.n 1) (OU.mk (Mm.mk (z.n 200000) (z.n 200001) (z.n 200002) (z.l 4) (z.l 5)) (vals (z.l 3)))) R) z) (y : PX) (hy1 : rgM y [mSt 2, mO' 2 6, mN 4 7, .g HOLE, rowB, .g HOLE, rowI, rowN] 0) (hy2 : rgF y [(0, .c (.p 0 0)), (1, .c (.p 1 0)), (4, .r .i64 (0) (255)), (5, .r .i64 (0) (8))]) (hy3 : (fun y => (PcI E (z.n 100001) (z.n 100002) (inF E (z.n 100001) (z.n 100002) (y.n 91004) (8 - y.n 91005).toNat (AU.mk (y.n 1) (OU.mk (Mm.mk (y.n 200000) (y.n 200001) (y.n 200002) (y.l 4) (y.l 7)) (vals (y.l 6))))) R ∧ (y.n 91005 = 0 → y.n 100003 < y.n 100002)) ∧ (y.n 100001 = z.n 100001 ∧ y.n 100002 = z.n 100002) ∧ okM (Mm.mk (y.n 200000) (y.n 200001) (y.n 200002) (y.l 4) (y.l 7)) ∧ y.n 200002 + z.n 100003 ≤ z.n 200002 + y.n 100003 ∧ (y.l 6).length = (y.n 100003).toNat ∧ y.n 100003 ≤ y.n 100002) y) : Holds ((run (pe E) (orcD E) (tabL fns) 20000 (2 ^ 200 - 1) (adk_td E) (mkL Try.f44.ntmps (slC y [(0, .c (.p 0 0)), (1, .c (.p 1 0)), (4, .r .i64 (0) (255)), (5, .r .i64 (0) (8))])) (mkM y [] [mSt 2, mO' 2 6, mN 4 7, .g HOLE, rowB, .g HOLE, rowI, rowN] 0)).OK (lfP (pe E) Try.f44 (endR ([mSt 2, mO' 2 3, mN 4 5, rowI, rowB, rowN] : List MB).length [mSt 2, mO' 2 6, mN 4 7, .g HOLE, rowB, .g HOLE, rowI, rowN] (.t []) (fun z y => (AU.mk (y.n 1) (OU.mk (Mm.mk (y.n 200000) (y.n 200001) (y.n 200002) (y.l 4) (y.l 7)) (vals (y.l 6)))) = R ∧ (y.n 100001 = z.n 100001 ∧ y.n 100002 = z.n 100002) ∧ okM (Mm.mk (y.n 200000) (y.n 200001) (y.n 200002) (y.l 4) (y.l 7)) ∧ y.n 200002 + z.n 100003 ≤ z.n 200002 + y.n 100003 ∧ (y.l 6).length = (y.n 100003).toNat ∧ y.n 100003 ≤ y.n 100002) z) (headR ([mSt 2, mO' 2 3, mN 4 5, rowI, rowB, rowN] : List MB).length Try.f44.ntmps (some ((fun y => (if y.n 91005 = 0 then (y.n 100002 - y.n 100003) * 400 + 398 else (y.n 100002 - y.n 100003) * 400 + 400 + 40 * (9 - y.n 91005)).toNat) y)) (ad_hs E R z)))) := by
  refine loopP_lfH ⟨?_⟩
  rw [ad_r1]
  have hf : True ∧ True ∧ (((0) ≤ y.n 91004 ∧ y.n 91004 ≤ (255)) ∧ True) ∧ (((0) ≤ y.n 91005 ∧ y.n 91005 ≤ (8)) ∧ True) ∧ True := hy2
  obtain ⟨_, _, ⟨g4, _⟩, ⟨g5, _⟩, _⟩ := hf
  obtain ⟨⟨hP, hf⟩, ⟨h2, h3⟩, hK, hgr, hl, hle⟩ := hy3
  obtain ⟨hKz, hnz, hlz, hlez, hz0, hPz⟩ := hp
  have hf1 : flat [Sp.r .u8 0 255] = true := rfl
  have hf2 : flat [Sp.i .u32, Sp.i .i64, Sp.i .u32] = true := rfl
  have hf3 : flat [Sp.r .i64 0 255] = true := rfl
  obtain ⟨usy, u4y, _⟩ : (0 ≤ y.n 100002 ∧ y.n 100002 ≤ 65535) ∧ 0 ≤ y.n 100003 ∧ True := hy1.2.1
  obtain ⟨b1y, b2y, _⟩ : 0 ≤ y.n 200001 ∧ 0 ≤ y.n 200002 ∧ True := hy1.2.2.1
  have T1y : ((y.n 200001).toNat : Int) = y.n 200001 := Int.toNat_of_nonneg b1y
  have T2y : ((y.n 200002).toNat : Int) = y.n 200002 := Int.toNat_of_nonneg b2y
  have T4y : ((y.n 100003).toNat : Int) = y.n 100003 := Int.toNat_of_nonneg u4y
  have roy : Row [.r .i64 0 255] (y.l 6) := hy1.2.2.2.2.1.2
  have rby : Row [.r .u8 0 255] (y.l 4) := hy1.2.2.2.1.2
  have rny : Row [.i .u32, .i .i64, .i .u32] (y.l 7) := hy1.2.2.2.2.2.1.2
  have vl : ((vals (y.l 6)).length : Int) = y.n 100003 := by rw [vals_len]; omega
  have w2 : IntKind.i64.wrap (y.n 91005 + 1) = y.n 91005 + 1 := by rw [wi64]; omega
  have w1 : IntKind.i64.wrap (7 - y.n 91005) = 7 - y.n 91005 := by rw [wi64]; omega
  have er : 8 - (y.n 91005 + 1) = 7 - y.n 91005 := by omega
  simp only [T1y, T2y, T4y, w1, w2, er]
  refine ⟨fun hb => ⟨fun h => ?_, fun h => ?_⟩, fun hb => ?_⟩
  · have hb := of_decide_eq_true hb
    have h : y.n 100003 < y.n 100002 := by have h0 := h; simp at h0; omega
    have hn : (((AU.mk (y.n 1) (OU.mk (Mm.mk (y.n 200000) (y.n 200001) (y.n 200002) (y.l 4) (y.l 7)) (vals (y.l 6)))).u.o).length : Int) ≠ z.n 100002 := by show ((vals (y.l 6)).length : Int) ≠ _; omega
    have ej : (8 - y.n 91005).toNat = (7 - y.n 91005).toNat + 1 := by omega
    rw [bitD _ _ (by omega) (by omega) g4.1]
    refine ⟨decide_eq_true (by omega), fun ho => ?_, fun ho => ?_⟩
    · have ho : y.n 91004 / (2 : Int) ^ (7 - y.n 91005).toNat % 2 = 0 := by simpa using ho
      rw [ej, inF_0 hn ho] at hP
      refine ⟨⟨by ((repeat' (first | exact trivial | with_reducible rfl | assumption | exact rfl | apply And.intro)) <;> omega), hK⟩, ?_⟩
      rintro y1 ⟨⟨⟨p1y1, p2y1, _⟩, ⟨_, q3y1⟩, ⟨_, q6y1⟩, _⟩, ⟨g1y1, _⟩, q1y1, v1y1⟩
      have S1y1 : ((y1.n 1).toNat : Int) = y1.n 1 := Int.toNat_of_nonneg p1y1
      have S2y1 : ((y1.n 2).toNat : Int) = y1.n 2 := Int.toNat_of_nonneg p2y1
      have hKy1 : okM (Mm.mk (y1.n 0) (y1.n 1) (y1.n 2) (y1.l 1) (y1.l 2)) := by rw [q1y1]; exact hK
      have cy1 : y1.n 2 = y.n 200002 := congrArg Mm.nn q1y1
      have e8y1 : IntKind.u8.wrap (y1.n 90000) = y1.n 90000 := by rw [wu8]; omega
      have e64y1 : IntKind.i64.wrap (y1.n 90000) = y1.n 90000 := by rw [wi64]; omega
      simp only [S1y1, S2y1, e8y1, e64y1]
      refine ⟨by ((repeat' (first | exact trivial | with_reducible rfl | assumption | exact rfl | apply And.intro)) <;> omega), ?_⟩
      rintro y2 ⟨hu2, _, hq, ⟨e2, e3⟩, hK2, hg2, hl2, hle2⟩
      obtain ⟨usy2, u4y2, _⟩ : (0 ≤ y2.n 2 ∧ y2.n 2 ≤ 65535) ∧ 0 ≤ y2.n 3 ∧ True := hu2.1
      obtain ⟨b1y2, b2y2, _⟩ : 0 ≤ y2.n 100001 ∧ 0 ≤ y2.n 100002 ∧ True := hu2.2.1
      have T1y2 : ((y2.n 100001).toNat : Int) = y2.n 100001 := Int.toNat_of_nonneg b1y2
      have T2y2 : ((y2.n 100002).toNat : Int) = y2.n 100002 := Int.toNat_of_nonneg b2y2
      have T4y2 : ((y2.n 3).toNat : Int) = y2.n 3 := Int.toNat_of_nonneg u4y2
      have roy2 : Row [.r .i64 0 255] (y2.l 5) := hu2.2.2.2.1.2
      have rby2 : Row [.r .u8 0 255] (y2.l 3) := hu2.2.2.1.2
      have rny2 : Row [.i .u32, .i .i64, .i .u32] (y2.l 6) := hu2.2.2.2.2.1.2
      simp only [T1y2, T2y2, T4y2]
      rw [q1y1, h2, h3] at hq
      have hP2 : PcI E (z.n 100001) (z.n 100002) (inF E (z.n 100001) (z.n 100002) (y.n 91004) (7 - y.n 91005).toNat (AU.mk (IntKind.u32.wrap (y.n 1 + 1)) (gvF E (z.n 100001) (z.n 100002) (rdb E (y.n 1) (Mm.mk (y.n 200000) (y.n 200001) (y.n 200002) (y.l 4) (y.l 7))) (OU.mk (Mm.mk (y.n 200000) (y.n 200001) (y.n 200002) (y.l 4) (y.l 7)) (vals (y.l 6)))))) R := hP
      rw [rdb_v v1y1 g1y1, ← hq] at hP2
      have hlen : y.n 100003 ≤ y2.n 3 ∧ (y.n 100003 < y.n 100002 → y2.n 3 = y.n 100003 + 1) := by
        have hv : (vals (y2.l 5)).length = _ := congrArg (fun s : OU => s.o.length) hq
        rw [vals_len] at hv
        have vl' : ((OU.mk (Mm.mk (y.n 200000) (y.n 200001) (y.n 200002) (y.l 4) (y.l 7)) (vals (y.l 6))).o.length : Int) = y.n 100003 := vl
        refine ⟨?_, fun hn => ?_⟩
        · have hg : (OU.mk (Mm.mk (y.n 200000) (y.n 200001) (y.n 200002) (y.l 4) (y.l 7)) (vals (y.l 6))).o.length ≤ _ := Nat.le_trans gvF_ge (Nat.le_of_eq hv.symm)
          omega
        · rw [gvF_len (by omega)] at hv; omega
      ((repeat' (first | exact trivial | with_reducible rfl | assumption | exact rfl | apply And.intro)) <;> first | omega | (intro h; omega) | (split <;> omega) | (split <;> split <;> omega))
    · have ho : y.n 91004 / (2 : Int) ^ (7 - y.n 91005).toNat % 2 ≠ 0 := by simpa using ho
      rw [ej, inF_1 hn ho] at hP
      refine ⟨⟨by ((repeat' (first | exact trivial | with_reducible rfl | assumption | exact rfl | apply And.intro)) <;> omega), hK⟩, ?_⟩
      rintro y1 ⟨⟨⟨p1y1, p2y1, _⟩, ⟨_, q3y1⟩, ⟨_, q6y1⟩, _⟩, ⟨g1y1, _⟩, q1y1, v1y1⟩
      have S1y1 : ((y1.n 1).toNat : Int) = y1.n 1 := Int.toNat_of_nonneg p1y1
      have S2y1 : ((y1.n 2).toNat : Int) = y1.n 2 := Int.toNat_of_nonneg p2y1
      have hKy1 : okM (Mm.mk (y1.n 0) (y1.n 1) (y1.n 2) (y1.l 1) (y1.l 2)) := by rw [q1y1]; exact hK
      have cy1 : y1.n 2 = y.n 200002 := congrArg Mm.nn q1y1
      have e8y1 : IntKind.u8.wrap (y1.n 90000) = y1.n 90000 := by rw [wu8]; omega
      have e64y1 : IntKind.i64.wrap (y1.n 90000) = y1.n 90000 := by rw [wi64]; omega
      simp only [S1y1, S2y1, e8y1, e64y1]
      refine ⟨⟨by ((repeat' (first | exact trivial | with_reducible rfl | assumption | exact rfl | apply And.intro)) <;> omega), hKy1⟩, ?_⟩
      rintro y2 ⟨⟨⟨p1y2, p2y2, _⟩, ⟨_, q3y2⟩, ⟨_, q6y2⟩, _⟩, ⟨g1y2, _⟩, q1y2, v1y2⟩
      have S1y2 : ((y2.n 1).toNat : Int) = y2.n 1 := Int.toNat_of_nonneg p1y2
      have S2y2 : ((y2.n 2).toNat : Int) = y2.n 2 := Int.toNat_of_nonneg p2y2
      rw [q1y1] at q1y2 v1y2
      have hKy2 : okM (Mm.mk (y2.n 0) (y2.n 1) (y2.n 2) (y2.l 1) (y2.l 2)) := by rw [q1y2]; exact hK
      have cy2 : y2.n 2 = y.n 200002 := congrArg Mm.nn q1y2
      have e8y2 : IntKind.u8.wrap (y2.n 90000) = y2.n 90000 := by rw [wu8]; omega
      have e64y2 : IntKind.i64.wrap (y2.n 90000) = y2.n 90000 := by rw [wi64]; omega
      simp only [S1y2, S2y2, e8y2, e64y2]
      have hP2 : PcI E (z.n 100001) (z.n 100002) (inF E (z.n 100001) (z.n 100002) (y.n 91004) (7 - y.n 91005).toNat (AU.mk (IntKind.u32.wrap (y.n 1 + 2)) (agF E (z.n 100001) (z.n 100002) (rdb E (y.n 1) (Mm.mk (y.n 200000) (y.n 200001) (y.n 200002) (y.l 4) (y.l 7)) % 16 * 256 + rdb E (IntKind.u32.wrap (y.n 1 + 1)) (Mm.mk (y.n 200000) (y.n 200001) (y.n 200002) (y.l 4) (y.l 7)) + 1) (rdb E (y.n 1) (Mm.mk (y.n 200000) (y.n 200001) (y.n 200002) (y.l 4) (y.l 7)) / 16 + 3).toNat (OU.mk (Mm.mk (y.n 200000) (y.n 200001) (y.n 200002) (y.l 4) (y.l 7)) (vals (y.l 6)))))) R := hP
      rw [rdb_v v1y1 g1y1, rdb_v v1y2 g1y2] at hP2
      simp only [agkD _ _ g1y1 g1y2, agcD _ g1y1, uadd, Int.reduceAdd, q1y2, h, implies_true, if_true]
      ((repeat' (first | exact trivial | with_reducible rfl | assumption | exact rfl | apply And.intro)) <;> first | omega | (intro h; omega) | (split <;> omega) | (split <;> split <;> omega))
  · have hb := of_decide_eq_true hb
    have h : y.n 100003 = y.n 100002 := by have h0 := h; simp at h0; omega
    rw [inF_full (show ((vals (y.l 6)).length : Int) = z.n 100002 by omega)] at hP
    ((repeat' (first | exact trivial | with_reducible rfl | assumption | exact rfl | apply And.intro)) <;> first | omega | (intro h; omega) | (split <;> omega) | (split <;> split <;> omega))
  · have hb := of_decide_eq_false hb
    have e0 : (8 - y.n 91005).toNat = 0 := by omega
    rw [e0] at hP
    have hP : PcI E (z.n 100001) (z.n 100002) (AU.mk (y.n 1) (OU.mk (Mm.mk (y.n 200000) (y.n 200001) (y.n 200002) (y.l 4) (y.l 7)) (vals (y.l 6)))) R := hP
    ((repeat' (first | exact trivial | with_reducible rfl | assumption | exact rfl | apply And.intro)) <;> first | omega | (intro h; omega) | (split <;> omega) | (split <;> split <;> omega))
theorem ad_r2 (E : World) (R : AU) (z : PX) (y : PX) :
    (loopP (pe E) Try.f44 (endR ([mSt 2, mO' 2 3, mN 4 5, rowI, rowB, rowN] : List MB).length [mSt 2, mO' 2 6, mN 4 7, .g HOLE, rowB, .g HOLE, rowI, rowN] (.t []) (fun z y => (AU.mk (y.n 1) (OU.mk (Mm.mk (y.n 200000) (y.n 200001) (y.n 200002) (y.l 4) (y.l 7)) (vals (y.l 6)))) = R ∧ (y.n 100001 = z.n 100001 ∧ y.n 100002 = z.n 100002) ∧ okM (Mm.mk (y.n 200000) (y.n 200001) (y.n 200002) (y.l 4) (y.l 7)) ∧ y.n 200002 + z.n 100003 ≤ z.n 200002 + y.n 100003 ∧ (y.l 6).length = (y.n 100003).toNat ∧ y.n 100003 ≤ y.n 100002) z) (headR ([mSt 2, mO' 2 3, mN 4 5, rowI, rowB, rowN] : List MB).length Try.f44.ntmps (some ((fun y => (if y.n 91010 = y.n 91007 / 16 + 3 then (y.n 100002 - y.n 100003) * 400 + 397 else (y.n 100002 - y.n 100003) * 400 + 401 + 40 * (8 - y.n 91005) + y.n 91010).toNat) y)) (ad_hs E R z))  (run (pe E) (orcD E) (tabL fns) 20000 (2 ^ 200 - 1) (adp_td E) (mkL Try.f44.ntmps (slC y [(0, .c (.p 0 0)), (1, .c (.p 1 0)), (4, .r .i64 (0) (255)), (5, .r .i64 (0) (7)), (7, .r .i64 (0) (255)), (9, .r .i64 (1) (5000)), (10, .r .i64 (0) (18))])) (mkM y [] [mSt 2, mO' 2 6, mN 4 7, .g HOLE, rowB, .g HOLE, rowI, rowN] 0))) =
     ((decide (y.n 91010 > 0) = true → (decide ((↑(y.n 100003).toNat : Int) ≥ y.n 91009) = true → inB (i64.wrap ((↑(y.n 100003).toNat : Int) - y.n 91009)) (y.n 100003).toNat = true ∧ rOk (y.l 6) (i64.wrap ((↑(y.n 100003).toNat : Int) - y.n 91009)).toNat (EK.i i64) = true ∧ ((iO (y.n 100002) (y.l 6) (y.l 4) (y.l 7)) ∧ okM (Mm.mk (y.n 200000) (↑(y.n 200001).toNat : Int) (↑(y.n 200002).toNat : Int) (y.l 4) (y.l 7)) ∧ (↑(y.n 200002).toNat : Int) ≤ 400000 ∧ (y.l 6).length = (↑(y.n 100003).toNat : Int).toNat ∧ (↑(y.n 100003).toNat : Int) ≤ y.n 100002 ∧ 0 ≤ rI (y.l 6) (i64.wrap ((↑(y.n 100003).toNat : Int) - y.n 91009)).toNat ∧ rI (y.l 6) (i64.wrap ((↑(y.n 100003).toNat : Int) - y.n 91009)).toNat ≤ 255) ∧ ∀ (y_1 : PX), aO y_1 ∧ True ∧ OU.mk (Mm.mk (y_1.n 100000) (y_1.n 100001) (y_1.n 100002) (y_1.l 3) (y_1.l 6)) (vals (y_1.l 5)) = gvF E (y.n 100001) (y.n 100002) (rI (y.l 6) (i64.wrap ((↑(y.n 100003).toNat : Int) - y.n 91009)).toNat) (OU.mk (Mm.mk (y.n 200000) (↑(y.n 200001).toNat : Int) (↑(y.n 200002).toNat : Int) (y.l 4) (y.l 7)) (vals (y.l 6))) ∧ (y_1.n 1 = y.n 100001 ∧ y_1.n 2 = y.n 100002) ∧ okM (Mm.mk (y_1.n 100000) (y_1.n 100001) (y_1.n 100002) (y_1.l 3) (y_1.l 6)) ∧ y_1.n 100002 + (↑(y.n 100003).toNat : Int) ≤ (↑(y.n 200002).toNat : Int) + y_1.n 3 ∧ (y_1.l 5).length = (y_1.n 3).toNat ∧ y_1.n 3 ≤ y_1.n 2 → adp_td E = adp_td E ∧ 77 = 77 ∧ (True ∧ True ∧ ((0 ≤ y.n 91004 ∧ y.n 91004 ≤ 255) ∧ True) ∧ ((0 ≤ y.n 91005 ∧ y.n 91005 ≤ 7) ∧ True) ∧ ((0 ≤ y.n 91007 ∧ y.n 91007 ≤ 255) ∧ True) ∧ ((1 ≤ y.n 91009 ∧ y.n 91009 ≤ 5000) ∧ True) ∧ ((0 ≤ i64.wrap (y.n 91010 - 1) ∧ i64.wrap (y.n 91010 - 1) ≤ 18) ∧ True) ∧ True) ∧ (eD (y_1.n 2) (y_1.l 3) (y_1.l 5) (y_1.l 6)) ∧ ((PcI E (z.n 100001) (z.n 100002) (inF E (z.n 100001) (z.n 100002) (y.n 91004) (7 - y.n 91005).toNat (AU.mk (y.n 1) (agF E (z.n 100001) (z.n 100002) (y.n 91009) (i64.wrap (y.n 91010 - 1)).toNat (OU.mk (Mm.mk (y_1.n 100000) (↑(y_1.n 100001).toNat : Int) (↑(y_1.n 100002).toNat : Int) (y_1.l 3) (y_1.l 6)) (vals (y_1.l 5)))))) R ∧ (i64.wrap (y.n 91010 - 1) = y.n 91007 / (16 : Int) + 3 → (↑(y_1.n 3).toNat : Int) < y_1.n 2) ∧ i64.wrap (y.n 91010 - 1) ≤ y.n 91007 / (16 : Int) + 3) ∧ (y_1.n 1 = z.n 100001 ∧ y_1.n 2 = z.n 100002) ∧ okM (Mm.mk (y_1.n 100000) (↑(y_1.n 100001).toNat : Int) (↑(y_1.n 100002).toNat : Int) (y_1.l 3) (y_1.l 6)) ∧ (↑(y_1.n 100002).toNat : Int) + z.n 100003 ≤ z.n 200002 + (↑(y_1.n 3).toNat : Int) ∧ (y_1.l 5).length = (↑(y_1.n 3).toNat : Int).toNat ∧ (↑(y_1.n 3).toNat : Int) ≤ y_1.n 2) ∧ (if i64.wrap (y.n 91010 - 1) = y.n 91007 / (16 : Int) + 3 then (y_1.n 2 - (↑(y_1.n 3).toNat : Int)) * (400 : Int) + 397 else (y_1.n 2 - (↑(y_1.n 3).toNat : Int)) * (400 : Int) + (401 : Int) + 40 * (8 - y.n 91005) + i64.wrap (y.n 91010 - 1)).toNat < (if y.n 91010 = y.n 91007 / (16 : Int) + 3 then (y.n 100002 - y.n 100003) * (400 : Int) + 397 else (y.n 100002 - y.n 100003) * (400 : Int) + (401 : Int) + 40 * (8 - y.n 91005) + y.n 91010).toNat ∧ True) ∧ (decide ((↑(y.n 100003).toNat : Int) ≥ y.n 91009) = false → ((iO (y.n 100002) (y.l 6) (y.l 4) (y.l 7)) ∧ okM (Mm.mk (y.n 200000) (↑(y.n 200001).toNat : Int) (↑(y.n 200002).toNat : Int) (y.l 4) (y.l 7)) ∧ (↑(y.n 200002).toNat : Int) ≤ 400000 ∧ (y.l 6).length = (↑(y.n 100003).toNat : Int).toNat ∧ (↑(y.n 100003).toNat : Int) ≤ y.n 100002 ∧ (0 : Int) ≤ (0 : Int) ∧ (0 : Int) ≤ 255) ∧ ∀ (y_1 : PX), aO y_1 ∧ True ∧ OU.mk (Mm.mk (y_1.n 100000) (y_1.n 100001) (y_1.n 100002) (y_1.l 3) (y_1.l 6)) (vals (y_1.l 5)) = gvF E (y.n 100001) (y.n 100002) 0 (OU.mk (Mm.mk (y.n 200000) (↑(y.n 200001).toNat : Int) (↑(y.n 200002).toNat : Int) (y.l 4) (y.l 7)) (vals (y.l 6))) ∧ (y_1.n 1 = y.n 100001 ∧ y_1.n 2 = y.n 100002) ∧ okM (Mm.mk (y_1.n 100000) (y_1.n 100001) (y_1.n 100002) (y_1.l 3) (y_1.l 6)) ∧ y_1.n 100002 + (↑(y.n 100003).toNat : Int) ≤ (↑(y.n 200002).toNat : Int) + y_1.n 3 ∧ (y_1.l 5).length = (y_1.n 3).toNat ∧ y_1.n 3 ≤ y_1.n 2 → adp_td E = adp_td E ∧ 77 = 77 ∧ (True ∧ True ∧ ((0 ≤ y.n 91004 ∧ y.n 91004 ≤ 255) ∧ True) ∧ ((0 ≤ y.n 91005 ∧ y.n 91005 ≤ 7) ∧ True) ∧ ((0 ≤ y.n 91007 ∧ y.n 91007 ≤ 255) ∧ True) ∧ ((1 ≤ y.n 91009 ∧ y.n 91009 ≤ 5000) ∧ True) ∧ ((0 ≤ i64.wrap (y.n 91010 - 1) ∧ i64.wrap (y.n 91010 - 1) ≤ 18) ∧ True) ∧ True) ∧ (eD (y_1.n 2) (y_1.l 3) (y_1.l 5) (y_1.l 6)) ∧ ((PcI E (z.n 100001) (z.n 100002) (inF E (z.n 100001) (z.n 100002) (y.n 91004) (7 - y.n 91005).toNat (AU.mk (y.n 1) (agF E (z.n 100001) (z.n 100002) (y.n 91009) (i64.wrap (y.n 91010 - 1)).toNat (OU.mk (Mm.mk (y_1.n 100000) (↑(y_1.n 100001).toNat : Int) (↑(y_1.n 100002).toNat : Int) (y_1.l 3) (y_1.l 6)) (vals (y_1.l 5)))))) R ∧ (i64.wrap (y.n 91010 - 1) = y.n 91007 / (16 : Int) + 3 → (↑(y_1.n 3).toNat : Int) < y_1.n 2) ∧ i64.wrap (y.n 91010 - 1) ≤ y.n 91007 / (16 : Int) + 3) ∧ (y_1.n 1 = z.n 100001 ∧ y_1.n 2 = z.n 100002) ∧ okM (Mm.mk (y_1.n 100000) (↑(y_1.n 100001).toNat : Int) (↑(y_1.n 100002).toNat : Int) (y_1.l 3) (y_1.l 6)) ∧ (↑(y_1.n 100002).toNat : Int) + z.n 100003 ≤ z.n 200002 + (↑(y_1.n 3).toNat : Int) ∧ (y_1.l 5).length = (↑(y_1.n 3).toNat : Int).toNat ∧ (↑(y_1.n 3).toNat : Int) ≤ y_1.n 2) ∧ (if i64.wrap (y.n 91010 - 1) = y.n 91007 / (16 : Int) + 3 then (y_1.n 2 - (↑(y_1.n 3).toNat : Int)) * (400 : Int) + 397 else (y_1.n 2 - (↑(y_1.n 3).toNat : Int)) * (400 : Int) + (401 : Int) + 40 * (8 - y.n 91005) + i64.wrap (y.n 91010 - 1)).toNat < (if y.n 91010 = y.n 91007 / (16 : Int) + 3 then (y.n 100002 - y.n 100003) * (400 : Int) + 397 else (y.n 100002 - y.n 100003) * (400 : Int) + (401 : Int) + 40 * (8 - y.n 91005) + y.n 91010).toNat ∧ True)) ∧ (decide (y.n 91010 > 0) = false → adk_td E = adk_td E ∧ 77 = 77 ∧ (True ∧ True ∧ ((0 ≤ y.n 91004 ∧ y.n 91004 ≤ 255) ∧ True) ∧ ((0 ≤ i64.wrap (y.n 91005 + 1) ∧ i64.wrap (y.n 91005 + 1) ≤ 8) ∧ True) ∧ True) ∧ (eD (y.n 100002) (y.l 4) (y.l 6) (y.l 7)) ∧ ((PcI E (z.n 100001) (z.n 100002) (inF E (z.n 100001) (z.n 100002) (y.n 91004) (8 - i64.wrap (y.n 91005 + 1)).toNat (AU.mk (y.n 1) (OU.mk (Mm.mk (y.n 200000) (↑(y.n 200001).toNat : Int) (↑(y.n 200002).toNat : Int) (y.l 4) (y.l 7)) (vals (y.l 6))))) R ∧ (i64.wrap (y.n 91005 + 1) = 0 → (↑(y.n 100003).toNat : Int) < y.n 100002)) ∧ (y.n 100001 = z.n 100001 ∧ y.n 100002 = z.n 100002) ∧ okM (Mm.mk (y.n 200000) (↑(y.n 200001).toNat : Int) (↑(y.n 200002).toNat : Int) (y.l 4) (y.l 7)) ∧ (↑(y.n 200002).toNat : Int) + z.n 100003 ≤ z.n 200002 + (↑(y.n 100003).toNat : Int) ∧ (y.l 6).length = (↑(y.n 100003).toNat : Int).toNat ∧ (↑(y.n 100003).toNat : Int) ≤ y.n 100002) ∧ (if i64.wrap (y.n 91005 + 1) = 0 then (y.n 100002 - (↑(y.n 100003).toNat : Int)) * (400 : Int) + 398 else (y.n 100002 - (↑(y.n 100003).toNat : Int)) * (400 : Int) + (400 : Int) + 40 * (9 - i64.wrap (y.n 91005 + 1))).toNat < (if y.n 91010 = y.n 91007 / (16 : Int) + 3 then (y.n 100002 - y.n 100003) * (400 : Int) + 397 else (y.n 100002 - y.n 100003) * (400 : Int) + (401 : Int) + 40 * (8 - y.n 91005) + y.n 91010).toNat ∧ True)) := by kernel_rfl
set_option maxHeartbeats 8000000 in
theorem ad_q2 (E : World) (R : AU) (z : PX) (hp : (fun z => okM (Mm.mk (z.n 200000) (z.n 200001) (z.n 200002) (z.l 4) (z.l 5)) ∧ z.n 200002 ≤ 200000 + z.n 100003 ∧ (z.l 3).length = (z.n 100003).toNat ∧ z.n 100003 ≤ z.n 100002 ∧ 0 ≤ z.n 100003 ∧ PcI E (z.n 100001) (z.n 100002) (AU.mk (z.n 1) (OU.mk (Mm.mk (z.n 200000) (z.n 200001) (z.n 200002) (z.l 4) (z.l 5)) (vals (z.l 3)))) R) z) (y : PX) (hy1 : rgM y [mSt 2, mO' 2 6, mN 4 7, .g HOLE, rowB, .g HOLE, rowI, rowN] 0) (hy2 : rgF y [(0, .c (.p 0 0)), (1, .c (.p 1 0)), (4, .r .i64 (0) (255)), (5, .r .i64 (0) (7)), (7, .r .i64 (0) (255)), (9, .r .i64 (1) (5000)), (10, .r .i64 (0) (18))]) (hy3 : (fun y => (PcI E (z.n 100001) (z.n 100002) (inF E (z.n 100001) (z.n 100002) (y.n 91004) (7 - y.n 91005).toNat (AU.mk (y.n 1) (agF E (z.n 100001) (z.n 100002) (y.n 91009) (y.n 91010).toNat (OU.mk (Mm.mk (y.n 200000) (y.n 200001) (y.n 200002) (y.l 4) (y.l 7)) (vals (y.l 6)))))) R ∧ (y.n 91010 = y.n 91007 / 16 + 3 → y.n 100003 < y.n 100002) ∧ y.n 91010 ≤ y.n 91007 / 16 + 3) ∧ (y.n 100001 = z.n 100001 ∧ y.n 100002 = z.n 100002) ∧ okM (Mm.mk (y.n 200000) (y.n 200001) (y.n 200002) (y.l 4) (y.l 7)) ∧ y.n 200002 + z.n 100003 ≤ z.n 200002 + y.n 100003 ∧ (y.l 6).length = (y.n 100003).toNat ∧ y.n 100003 ≤ y.n 100002) y) : Holds ((run (pe E) (orcD E) (tabL fns) 20000 (2 ^ 200 - 1) (adp_td E) (mkL Try.f44.ntmps (slC y [(0, .c (.p 0 0)), (1, .c (.p 1 0)), (4, .r .i64 (0) (255)), (5, .r .i64 (0) (7)), (7, .r .i64 (0) (255)), (9, .r .i64 (1) (5000)), (10, .r .i64 (0) (18))])) (mkM y [] [mSt 2, mO' 2 6, mN 4 7, .g HOLE, rowB, .g HOLE, rowI, rowN] 0)).OK (lfP (pe E) Try.f44 (endR ([mSt 2, mO' 2 3, mN 4 5, rowI, rowB, rowN] : List MB).length [mSt 2, mO' 2 6, mN 4 7, .g HOLE, rowB, .g HOLE, rowI, rowN] (.t []) (fun z y => (AU.mk (y.n 1) (OU.mk (Mm.mk (y.n 200000) (y.n 200001) (y.n 200002) (y.l 4) (y.l 7)) (vals (y.l 6)))) = R ∧ (y.n 100001 = z.n 100001 ∧ y.n 100002 = z.n 100002) ∧ okM (Mm.mk (y.n 200000) (y.n 200001) (y.n 200002) (y.l 4) (y.l 7)) ∧ y.n 200002 + z.n 100003 ≤ z.n 200002 + y.n 100003 ∧ (y.l 6).length = (y.n 100003).toNat ∧ y.n 100003 ≤ y.n 100002) z) (headR ([mSt 2, mO' 2 3, mN 4 5, rowI, rowB, rowN] : List MB).length Try.f44.ntmps (some ((fun y => (if y.n 91010 = y.n 91007 / 16 + 3 then (y.n 100002 - y.n 100003) * 400 + 397 else (y.n 100002 - y.n 100003) * 400 + 401 + 40 * (8 - y.n 91005) + y.n 91010).toNat) y)) (ad_hs E R z)))) := by
  refine loopP_lfH ⟨?_⟩
  rw [ad_r2]
  have hf : True ∧ True ∧ (((0) ≤ y.n 91004 ∧ y.n 91004 ≤ (255)) ∧ True) ∧ (((0) ≤ y.n 91005 ∧ y.n 91005 ≤ (7)) ∧ True) ∧ (((0) ≤ y.n 91007 ∧ y.n 91007 ≤ (255)) ∧ True) ∧ (((1) ≤ y.n 91009 ∧ y.n 91009 ≤ (5000)) ∧ True) ∧ (((0) ≤ y.n 91010 ∧ y.n 91010 ≤ (18)) ∧ True) ∧ True := hy2
  obtain ⟨_, _, ⟨g4, _⟩, ⟨g5, _⟩, ⟨g7, _⟩, ⟨g9, _⟩, ⟨g10, _⟩, _⟩ := hf
  obtain ⟨⟨hP, hf, hx0⟩, ⟨h2, h3⟩, hK, hgr, hl, hle⟩ := hy3
  obtain ⟨hKz, hnz, hlz, hlez, hz0, hPz⟩ := hp
  have hf1 : flat [Sp.r .u8 0 255] = true := rfl
  have hf2 : flat [Sp.i .u32, Sp.i .i64, Sp.i .u32] = true := rfl
  have hf3 : flat [Sp.r .i64 0 255] = true := rfl
  obtain ⟨usy, u4y, _⟩ : (0 ≤ y.n 100002 ∧ y.n 100002 ≤ 65535) ∧ 0 ≤ y.n 100003 ∧ True := hy1.2.1
  obtain ⟨b1y, b2y, _⟩ : 0 ≤ y.n 200001 ∧ 0 ≤ y.n 200002 ∧ True := hy1.2.2.1
  have T1y : ((y.n 200001).toNat : Int) = y.n 200001 := Int.toNat_of_nonneg b1y
  have T2y : ((y.n 200002).toNat : Int) = y.n 200002 := Int.toNat_of_nonneg b2y
  have T4y : ((y.n 100003).toNat : Int) = y.n 100003 := Int.toNat_of_nonneg u4y
  have roy : Row [.r .i64 0 255] (y.l 6) := hy1.2.2.2.2.1.2
  have rby : Row [.r .u8 0 255] (y.l 4) := hy1.2.2.2.1.2
  have rny : Row [.i .u32, .i .i64, .i .u32] (y.l 7) := hy1.2.2.2.2.2.1.2
  have vl : ((vals (y.l 6)).length : Int) = y.n 100003 := by rw [vals_len]; omega
  have w2 : IntKind.i64.wrap (y.n 91005 + 1) = y.n 91005 + 1 := by rw [wi64]; omega
  have w1 : IntKind.i64.wrap (y.n 91010 - 1) = y.n 91010 - 1 := by rw [wi64]; omega
  have w3 : IntKind.i64.wrap (y.n 100003 - y.n 91009) = y.n 100003 - y.n 91009 := by rw [wi64]; omega
  have er : 8 - (y.n 91005 + 1) = 7 - y.n 91005 := by omega
  simp only [T1y, T2y, T4y, w1, w2, w3, er]
  refine ⟨fun hb => ?_, fun hb => ?_⟩
  · have hb : 0 < y.n 91010 := by have := of_decide_eq_true hb; omega
    rw [agF_d hb] at hP
    refine ⟨fun ha => ?_, fun ha => ?_⟩
    · have ha : y.n 100003 ≥ y.n 91009 := of_decide_eq_true ha
      have hin : inB (y.n 100003 - y.n 91009) (y.n 100003).toNat = true := by simp only [inB, Bool.and_eq_true, decide_eq_true_eq]; omega
      have hro := roy.rOk (p := (y.n 100003 - y.n 91009).toNat) (q := .r .i64 0 255) (k := EK.i .i64) (by omega) (by simp [Nat.mod_one]) rfl
      have hrg := roy.rg (p := (y.n 100003 - y.n 91009).toNat) (k := .i64) (lo := 0) (hi := 255) (by omega) (by simp [Nat.mod_one])
      refine ⟨hin, hro, ?_⟩
      refine ⟨by ((repeat' (first | exact trivial | with_reducible rfl | assumption | exact rfl | apply And.intro)) <;> omega), ?_⟩
      rintro y2 ⟨hu2, _, hq, ⟨e2, e3⟩, hK2, hg2, hl2, hle2⟩
      obtain ⟨usy2, u4y2, _⟩ : (0 ≤ y2.n 2 ∧ y2.n 2 ≤ 65535) ∧ 0 ≤ y2.n 3 ∧ True := hu2.1
      obtain ⟨b1y2, b2y2, _⟩ : 0 ≤ y2.n 100001 ∧ 0 ≤ y2.n 100002 ∧ True := hu2.2.1
      have T1y2 : ((y2.n 100001).toNat : Int) = y2.n 100001 := Int.toNat_of_nonneg b1y2
      have T2y2 : ((y2.n 100002).toNat : Int) = y2.n 100002 := Int.toNat_of_nonneg b2y2
      have T4y2 : ((y2.n 3).toNat : Int) = y2.n 3 := Int.toNat_of_nonneg u4y2
      have roy2 : Row [.r .i64 0 255] (y2.l 5) := hu2.2.2.2.1.2
      have rby2 : Row [.r .u8 0 255] (y2.l 3) := hu2.2.2.1.2
      have rny2 : Row [.i .u32, .i .i64, .i .u32] (y2.l 6) := hu2.2.2.2.2.1.2
      simp only [T1y2, T2y2, T4y2]
      rw [h2, h3] at hq
      have hx : agX (y.n 91009) (OU.mk (Mm.mk (y.n 200000) (y.n 200001) (y.n 200002) (y.l 4) (y.l 7)) (vals (y.l 6))).o = rI (y.l 6) (y.n 100003 - y.n 91009).toNat := by
        show agX (y.n 91009) (vals (y.l 6)) = _
        unfold agX
        rw [if_pos (by omega), vl, vals_get _ _ (by omega)]
      rw [hx, ← hq] at hP
      have hlen : y.n 100003 ≤ y2.n 3 ∧ (y.n 100003 < y.n 100002 → y2.n 3 = y.n 100003 + 1) := by
        have hv : (vals (y2.l 5)).length = _ := congrArg (fun s : OU => s.o.length) hq
        rw [vals_len] at hv
        have vl' : ((OU.mk (Mm.mk (y.n 200000) (y.n 200001) (y.n 200002) (y.l 4) (y.l 7)) (vals (y.l 6))).o.length : Int) = y.n 100003 := vl
        refine ⟨?_, fun hn => ?_⟩
        · have hg : (OU.mk (Mm.mk (y.n 200000) (y.n 200001) (y.n 200002) (y.l 4) (y.l 7)) (vals (y.l 6))).o.length ≤ _ := Nat.le_trans gvF_ge (Nat.le_of_eq hv.symm)
          omega
        · rw [gvF_len (by omega)] at hv; omega
      ((repeat' (first | exact trivial | with_reducible rfl | assumption | exact rfl | apply And.intro)) <;> first | omega | (intro h; omega) | (split <;> omega) | (split <;> split <;> omega))
    · have ha := of_decide_eq_false ha
      refine ⟨by ((repeat' (first | exact trivial | with_reducible rfl | assumption | exact rfl | apply And.intro)) <;> omega), ?_⟩
      rintro y2 ⟨hu2, _, hq, ⟨e2, e3⟩, hK2, hg2, hl2, hle2⟩
      obtain ⟨usy2, u4y2, _⟩ : (0 ≤ y2.n 2 ∧ y2.n 2 ≤ 65535) ∧ 0 ≤ y2.n 3 ∧ True := hu2.1
      obtain ⟨b1y2, b2y2, _⟩ : 0 ≤ y2.n 100001 ∧ 0 ≤ y2.n 100002 ∧ True := hu2.2.1
      have T1y2 : ((y2.n 100001).toNat : Int) = y2.n 100001 := Int.toNat_of_nonneg b1y2
      have T2y2 : ((y2.n 100002).toNat : Int) = y2.n 100002 := Int.toNat_of_nonneg b2y2
      have T4y2 : ((y2.n 3).toNat : Int) = y2.n 3 := Int.toNat_of_nonneg u4y2
      have roy2 : Row [.r .i64 0 255] (y2.l 5) := hu2.2.2.2.1.2
      have rby2 : Row [.r .u8 0 255] (y2.l 3) := hu2.2.2.1.2
      have rny2 : Row [.i .u32, .i .i64, .i .u32] (y2.l 6) := hu2.2.2.2.2.1.2
      simp only [T1y2, T2y2, T4y2]
      rw [h2, h3] at hq
      have hx : agX (y.n 91009) (OU.mk (Mm.mk (y.n 200000) (y.n 200001) (y.n 200002) (y.l 4) (y.l 7)) (vals (y.l 6))).o = 0 := by
        show agX (y.n 91009) (vals (y.l 6)) = _
        unfold agX
        rw [if_neg (by omega)]
      rw [hx, ← hq] at hP
      have hlen : y.n 100003 ≤ y2.n 3 ∧ (y.n 100003 < y.n 100002 → y2.n 3 = y.n 100003 + 1) := by
        have hv : (vals (y2.l 5)).length = _ := congrArg (fun s : OU => s.o.length) hq
        rw [vals_len] at hv
        have vl' : ((OU.mk (Mm.mk (y.n 200000) (y.n 200001) (y.n 200002) (y.l 4) (y.l 7)) (vals (y.l 6))).o.length : Int) = y.n 100003 := vl
        refine ⟨?_, fun hn => ?_⟩
        · have hg : (OU.mk (Mm.mk (y.n 200000) (y.n 200001) (y.n 200002) (y.l 4) (y.l 7)) (vals (y.l 6))).o.length ≤ _ := Nat.le_trans gvF_ge (Nat.le_of_eq hv.symm)
          omega
        · rw [gvF_len (by omega)] at hv; omega
      ((repeat' (first | exact trivial | with_reducible rfl | assumption | exact rfl | apply And.intro)) <;> first | omega | (intro h; omega) | (split <;> omega) | (split <;> split <;> omega))
  · have hb : y.n 91010 ≤ 0 := by have := of_decide_eq_false hb; omega
    rw [agF_z hb] at hP
    ((repeat' (first | exact trivial | with_reducible rfl | assumption | exact rfl | apply And.intro)) <;> first | omega | (intro h; omega) | (split <;> omega) | (split <;> split <;> omega))
set_option maxHeartbeats 8000000 in
theorem ad_c (E : World) (R : AU) (z : PX) (hz : rgM z [mSt 2, mO' 2 3, mN 4 5, rowI, rowB, rowN] 0) (hp : (fun z => okM (Mm.mk (z.n 200000) (z.n 200001) (z.n 200002) (z.l 4) (z.l 5)) ∧ z.n 200002 ≤ 200000 + z.n 100003 ∧ (z.l 3).length = (z.n 100003).toNat ∧ z.n 100003 ≤ z.n 100002 ∧ 0 ≤ z.n 100003 ∧ PcI E (z.n 100001) (z.n 100002) (AU.mk (z.n 1) (OU.mk (Mm.mk (z.n 200000) (z.n 200001) (z.n 200002) (z.l 4) (z.l 5)) (vals (z.l 3)))) R) z) : HD (pe E) 44 [.c (.p 0 0), .c (.p 1 0)] [mSt 2, mO' 2 3, mN 4 5, rowI, rowB, rowN] [mSt 2, mO' 2 6, mN 4 7, .g HOLE, rowB, .g HOLE, rowI, rowN] (.t []) (fun z y => (AU.mk (y.n 1) (OU.mk (Mm.mk (y.n 200000) (y.n 200001) (y.n 200002) (y.l 4) (y.l 7)) (vals (y.l 6)))) = R ∧ (y.n 100001 = z.n 100001 ∧ y.n 100002 = z.n 100002) ∧ okM (Mm.mk (y.n 200000) (y.n 200001) (y.n 200002) (y.l 4) (y.l 7)) ∧ y.n 200002 + z.n 100003 ≤ z.n 200002 + y.n 100003 ∧ (y.l 6).length = (y.n 100003).toNat ∧ y.n 100003 ≤ y.n 100002) z := by
  refine HD.loop (P := pe E) orcD_ok tab_ok tab_sz mixed Try.func44 (c := Try.f44.body.getD .skip) rfl (by decide) (Nat.le_of_ble_eq_true rfl) (by rfl) 20000 (2 ^ 200 - 1) (ad_hs E R z) (by rfl) (loopP_lfH ⟨?_⟩) ?_
  · rw [ad_pro]
    obtain ⟨hK, hnz, hl, hle, hz0, hPz⟩ := hp
    have hf1 : flat [Sp.r .u8 0 255] = true := rfl
    have hf2 : flat [Sp.i .u32, Sp.i .i64, Sp.i .u32] = true := rfl
    have hf3 : flat [Sp.r .i64 0 255] = true := rfl
    obtain ⟨usz, u4z, _⟩ : (0 ≤ z.n 100002 ∧ z.n 100002 ≤ 65535) ∧ 0 ≤ z.n 100003 ∧ True := hz.2.1
    obtain ⟨b1z, b2z, _⟩ : 0 ≤ z.n 200001 ∧ 0 ≤ z.n 200002 ∧ True := hz.2.2.1
    have T1z : ((z.n 200001).toNat : Int) = z.n 200001 := Int.toNat_of_nonneg b1z
    have T2z : ((z.n 200002).toNat : Int) = z.n 200002 := Int.toNat_of_nonneg b2z
    have T4z : ((z.n 100003).toNat : Int) = z.n 100003 := Int.toNat_of_nonneg u4z
    have roz : Row [.r .i64 0 255] (z.l 3) := hz.2.2.2.1.2
    have rbz : Row [.r .u8 0 255] (z.l 4) := hz.2.2.2.2.1.2
    have rnz : Row [.i .u32, .i .i64, .i .u32] (z.l 5) := hz.2.2.2.2.2.1.2
    simp only [T1z, T2z, T4z]
    ((repeat' (first | exact trivial | with_reducible rfl | assumption | exact rfl | apply And.intro)) <;> first | omega | (intro h; omega) | (split <;> omega) | (split <;> split <;> omega))
  · intro h hmem y hy1 hy2 hy3
    simp only [ad_hs, List.mem_cons, List.not_mem_nil, or_false] at hmem
    rcases hmem with rfl | rfl | rfl
    · exact ad_q0 E R z hp y hy1 hy2 hy3
    · exact ad_q1 E R z hp y hy1 hy2 hy3
    · exact ad_q2 E R z hp y hy1 hy2 hy3
end Go.Proofs.Ytabklphoccicmaa

