import Derived.Test.YtabklphoccicmaaND
set_option linter.unusedVariables false
set_option linter.unusedSimpArgs false
namespace Go.Proofs.Ytabklphoccicmaa
open Go Go.Proofs Go.Proofs.Ytabklphoccicmaa.Ev Go.Proofs.Ytabklphoccicmaa.Ev.Ho Go.IntKind
set_option maxRecDepth 100000
noncomputable def df_h0 (E : World)  (z : PX) : Hd := ⟨3, anyH, (df_td E), [(0, .c (.p 0 0)), (2, .r .u8 (0) (255))], [mS 5, mN 3 6, .g HOLE, rowB, .g HOLE, rowB, rowN], fun y => DfH E (z.n 2) (z.n 3) (y.n 91002) (y.n 1) (OU.mk (Mm.mk (y.n 100000) (y.n 100001) (y.n 100002) (y.l 3) (y.l 6)) (vals (y.l 5))) (dfF E (z.n 2) (z.n 3) (z.n 3).toNat 0 (z.n 1) (OU.mk (Mm.mk (z.n 100000) (z.n 100001) (z.n 100002) (z.l 3) (z.l 4)) (vals (z.l 2)))) ∧ (y.n 2 = z.n 2 ∧ y.n 3 = z.n 3) ∧ okM (Mm.mk (y.n 100000) (y.n 100001) (y.n 100002) (y.l 3) (y.l 6)) ∧ y.n 100002 + z.n 4 ≤ z.n 100002 + y.n 4 ∧ (y.l 5).length = (y.n 4).toNat ∧ y.n 4 ≤ y.n 3, fun y => (y.n 3 - y.n 4).toNat⟩
noncomputable def df_hs (E : World)  (z : PX) : List Hd := [df_h0 E  z]
theorem df_r0 (E : World)  (z : PX) (y : PX) :
    (loopP (pe E) Try.f42 (endR ([mS 2, mN 3 4, rowB, rowB, rowN] : List MB).length [mS 5, mN 3 6, .g HOLE, rowB, .g HOLE, rowB, rowN] (.t []) (fun z y => AU.mk (y.n 1) (OU.mk (Mm.mk (y.n 100000) (y.n 100001) (y.n 100002) (y.l 3) (y.l 6)) (vals (y.l 5))) = (dfF E (z.n 2) (z.n 3) (z.n 3).toNat 0 (z.n 1) (OU.mk (Mm.mk (z.n 100000) (z.n 100001) (z.n 100002) (z.l 3) (z.l 4)) (vals (z.l 2)))) ∧ (y.n 2 = z.n 2 ∧ y.n 3 = z.n 3) ∧ okM (Mm.mk (y.n 100000) (y.n 100001) (y.n 100002) (y.l 3) (y.l 6)) ∧ y.n 100002 + z.n 4 ≤ z.n 100002 + y.n 4 ∧ (y.l 5).length = (y.n 4).toNat ∧ y.n 4 ≤ y.n 3) z) (headR ([mS 2, mN 3 4, rowB, rowB, rowN] : List MB).length Try.f42.ntmps (some ((fun y => (y.n 3 - y.n 4).toNat) y)) (df_hs E  z))  (run (pe E) (orcG E) (tabL fns) 20000 (2 ^ 200 - 1) (df_td E) (mkL Try.f42.ntmps (slC y [(0, .c (.p 0 0)), (2, .r .u8 (0) (255))])) (mkM y [] [mS 5, mN 3 6, .g HOLE, rowB, .g HOLE, rowB, rowN] 0))) =
     (((!(↑(y.n 4).toNat : Int) == y.n 3) = true → ((eM (y.l 3) (y.l 6)) ∧ okM (Mm.mk (y.n 100000) (↑(y.n 100001).toNat : Int) (↑(y.n 100002).toNat : Int) (y.l 3) (y.l 6))) ∧ ∀ (y_1 : PX), aM y_1 2 ∧ ((0 ≤ y_1.n 90000 ∧ y_1.n 90000 ≤ 255) ∧ True) ∧ Mm.mk (y_1.n 0) (y_1.n 1) (y_1.n 2) (y_1.l 1) (y_1.l 2) = Mm.mk (y.n 100000) (↑(y.n 100001).toNat : Int) (↑(y.n 100002).toNat : Int) (y.l 3) (y.l 6) ∧ y_1.n 90000 = rdv1 E (y.n 1) (Mm.mk (y.n 100000) (↑(y.n 100001).toNat : Int) (↑(y.n 100002).toNat : Int) (y.l 3) (y.l 6)) → ((iP (y.n 3) (y.l 5) (y_1.l 1) (y_1.l 2)) ∧ okM (Mm.mk (y_1.n 0) (↑(y_1.n 1).toNat : Int) (↑(y_1.n 2).toNat : Int) (y_1.l 1) (y_1.l 2)) ∧ (↑(y_1.n 2).toNat : Int) ≤ 400000 ∧ (y.l 5).length = (↑(y.n 4).toNat : Int).toNat ∧ (↑(y.n 4).toNat : Int) ≤ y.n 3 ∧ 0 ≤ u8.wrap (y.n 91002 + u8.wrap (y_1.n 90000)) ∧ u8.wrap (y.n 91002 + u8.wrap (y_1.n 90000)) ≤ 255) ∧ ∀ (y_2 : PX), aP y_2 ∧ True ∧ OU.mk (Mm.mk (y_2.n 100000) (y_2.n 100001) (y_2.n 100002) (y_2.l 3) (y_2.l 6)) (vals (y_2.l 5)) = gvF E (y.n 2) (y.n 3) (u8.wrap (y.n 91002 + u8.wrap (y_1.n 90000))) (OU.mk (Mm.mk (y_1.n 0) (↑(y_1.n 1).toNat : Int) (↑(y_1.n 2).toNat : Int) (y_1.l 1) (y_1.l 2)) (vals (y.l 5))) ∧ (y_2.n 1 = u32.wrap (y.n 1 + 1) ∧ y_2.n 2 = y.n 2 ∧ y_2.n 3 = y.n 3) ∧ okM (Mm.mk (y_2.n 100000) (y_2.n 100001) (y_2.n 100002) (y_2.l 3) (y_2.l 6)) ∧ y_2.n 100002 + (↑(y.n 4).toNat : Int) ≤ (↑(y_1.n 2).toNat : Int) + y_2.n 4 ∧ (y_2.l 5).length = (y_2.n 4).toNat ∧ y_2.n 4 ≤ y_2.n 3 → df_td E = df_td E ∧ 13 = 13 ∧ (True ∧ ((0 ≤ u8.wrap (y.n 91002 + u8.wrap (y_1.n 90000)) ∧ u8.wrap (y.n 91002 + u8.wrap (y_1.n 90000)) ≤ 255) ∧ True) ∧ True) ∧ (eP (y_2.n 3) (y_2.l 3) (y_2.l 5) (y_2.l 6)) ∧ (DfH E (z.n 2) (z.n 3) (u8.wrap (y.n 91002 + u8.wrap (y_1.n 90000))) (y_2.n 1) (OU.mk (Mm.mk (y_2.n 100000) (↑(y_2.n 100001).toNat : Int) (↑(y_2.n 100002).toNat : Int) (y_2.l 3) (y_2.l 6)) (vals (y_2.l 5))) (dfF E (z.n 2) (z.n 3) (z.n 3).toNat 0 (z.n 1) (OU.mk (Mm.mk (z.n 100000) (z.n 100001) (z.n 100002) (z.l 3) (z.l 4)) (vals (z.l 2)))) ∧ (y_2.n 2 = z.n 2 ∧ y_2.n 3 = z.n 3) ∧ okM (Mm.mk (y_2.n 100000) (↑(y_2.n 100001).toNat : Int) (↑(y_2.n 100002).toNat : Int) (y_2.l 3) (y_2.l 6)) ∧ (↑(y_2.n 100002).toNat : Int) + z.n 4 ≤ z.n 100002 + (↑(y_2.n 4).toNat : Int) ∧ (y_2.l 5).length = (↑(y_2.n 4).toNat : Int).toNat ∧ (↑(y_2.n 4).toNat : Int) ≤ y_2.n 3) ∧ (y_2.n 3 - (↑(y_2.n 4).toNat : Int)).toNat < (y.n 3 - y.n 4).toNat ∧ True) ∧ ((!(↑(y.n 4).toNat : Int) == y.n 3) = false → (eP (y.n 3) (y.l 3) (y.l 5) (y.l 6)) ∧ True ∧ AU.mk (y.n 1) (OU.mk (Mm.mk (y.n 100000) (↑(y.n 100001).toNat : Int) (↑(y.n 100002).toNat : Int) (y.l 3) (y.l 6)) (vals (y.l 5))) = dfF E (z.n 2) (z.n 3) (z.n 3).toNat 0 (z.n 1) (OU.mk (Mm.mk (z.n 100000) (z.n 100001) (z.n 100002) (z.l 3) (z.l 4)) (vals (z.l 2))) ∧ (y.n 2 = z.n 2 ∧ y.n 3 = z.n 3) ∧ okM (Mm.mk (y.n 100000) (↑(y.n 100001).toNat : Int) (↑(y.n 100002).toNat : Int) (y.l 3) (y.l 6)) ∧ (↑(y.n 100002).toNat : Int) + z.n 4 ≤ z.n 100002 + (↑(y.n 4).toNat : Int) ∧ (y.l 5).length = (↑(y.n 4).toNat : Int).toNat ∧ (↑(y.n 4).toNat : Int) ≤ y.n 3)) := by kernel_rfl
set_option maxHeartbeats 8000000 in
theorem df_q0 (E : World)  (z : PX) (hp : (fun z => okM (Mm.mk (z.n 100000) (z.n 100001) (z.n 100002) (z.l 3) (z.l 4)) ∧ z.n 100002 ≤ 200000 + z.n 4 ∧ (z.l 2).length = (z.n 4).toNat ∧ z.n 4 ≤ z.n 3 ∧ 0 ≤ z.n 4) z) (y : PX) (hy1 : rgM y [mS 5, mN 3 6, .g HOLE, rowB, .g HOLE, rowB, rowN] 0) (hy2 : rgF y [(0, .c (.p 0 0)), (2, .r .u8 (0) (255))]) (hy3 : (fun y => DfH E (z.n 2) (z.n 3) (y.n 91002) (y.n 1) (OU.mk (Mm.mk (y.n 100000) (y.n 100001) (y.n 100002) (y.l 3) (y.l 6)) (vals (y.l 5))) (dfF E (z.n 2) (z.n 3) (z.n 3).toNat 0 (z.n 1) (OU.mk (Mm.mk (z.n 100000) (z.n 100001) (z.n 100002) (z.l 3) (z.l 4)) (vals (z.l 2)))) ∧ (y.n 2 = z.n 2 ∧ y.n 3 = z.n 3) ∧ okM (Mm.mk (y.n 100000) (y.n 100001) (y.n 100002) (y.l 3) (y.l 6)) ∧ y.n 100002 + z.n 4 ≤ z.n 100002 + y.n 4 ∧ (y.l 5).length = (y.n 4).toNat ∧ y.n 4 ≤ y.n 3) y) : Holds ((run (pe E) (orcG E) (tabL fns) 20000 (2 ^ 200 - 1) (df_td E) (mkL Try.f42.ntmps (slC y [(0, .c (.p 0 0)), (2, .r .u8 (0) (255))])) (mkM y [] [mS 5, mN 3 6, .g HOLE, rowB, .g HOLE, rowB, rowN] 0)).OK (lfP (pe E) Try.f42 (endR ([mS 2, mN 3 4, rowB, rowB, rowN] : List MB).length [mS 5, mN 3 6, .g HOLE, rowB, .g HOLE, rowB, rowN] (.t []) (fun z y => AU.mk (y.n 1) (OU.mk (Mm.mk (y.n 100000) (y.n 100001) (y.n 100002) (y.l 3) (y.l 6)) (vals (y.l 5))) = (dfF E (z.n 2) (z.n 3) (z.n 3).toNat 0 (z.n 1) (OU.mk (Mm.mk (z.n 100000) (z.n 100001) (z.n 100002) (z.l 3) (z.l 4)) (vals (z.l 2)))) ∧ (y.n 2 = z.n 2 ∧ y.n 3 = z.n 3) ∧ okM (Mm.mk (y.n 100000) (y.n 100001) (y.n 100002) (y.l 3) (y.l 6)) ∧ y.n 100002 + z.n 4 ≤ z.n 100002 + y.n 4 ∧ (y.l 5).length = (y.n 4).toNat ∧ y.n 4 ≤ y.n 3) z) (headR ([mS 2, mN 3 4, rowB, rowB, rowN] : List MB).length Try.f42.ntmps (some ((fun y => (y.n 3 - y.n 4).toNat) y)) (df_hs E  z)))) := by
  refine loopP_lfH ⟨?_⟩
  rw [df_r0]
  have hf : True ∧ (((0) ≤ y.n 91002 ∧ y.n 91002 ≤ (255)) ∧ True) ∧ True := hy2
  obtain ⟨_, ⟨g2, _⟩, _⟩ := hf
  obtain ⟨hD, ⟨h2, h3⟩, hK, hgr, hl, hle⟩ := hy3
  obtain ⟨hKz, hnz, hlz, hlez, hz0⟩ := hp
  have hf1 : flat [Sp.r .u8 0 255] = true := rfl
  have hf2 : flat [Sp.i .u32, Sp.i .i64, Sp.i .u32] = true := rfl
  obtain ⟨usy, u4y, _⟩ : (0 ≤ y.n 3 ∧ y.n 3 ≤ 65535) ∧ 0 ≤ y.n 4 ∧ True := hy1.1
  obtain ⟨b1y, b2y, _⟩ : 0 ≤ y.n 100001 ∧ 0 ≤ y.n 100002 ∧ True := hy1.2.1
  have T1y : ((y.n 100001).toNat : Int) = y.n 100001 := Int.toNat_of_nonneg b1y
  have T2y : ((y.n 100002).toNat : Int) = y.n 100002 := Int.toNat_of_nonneg b2y
  have T4y : ((y.n 4).toNat : Int) = y.n 4 := Int.toNat_of_nonneg u4y
  have r3 : Row [.r .u8 0 255] (y.l 3) := hy1.2.2.1.2
  have r5 : Row [.r .u8 0 255] (y.l 5) := hy1.2.2.2.1.2
  have r6 : Row [.i .u32, .i .i64, .i .u32] (y.l 6) := hy1.2.2.2.2.1.2
  have vl : ((vals (y.l 5)).length : Int) = y.n 4 := by rw [vals_len]; omega
  simp only [T1y, T2y, T4y]
  refine ⟨fun h => ?_, fun h => ?_⟩
  · have h : y.n 4 ≠ y.n 3 := by simpa using h
    refine ⟨⟨by ((repeat' (first | exact trivial | with_reducible rfl | assumption | exact rfl | apply And.intro)) <;> omega), hK⟩, ?_⟩
    rintro y1 ⟨⟨⟨p1, p2, _⟩, ⟨_, q3⟩, ⟨_, q6⟩, _⟩, ⟨g1, _⟩, q1, v1⟩
    have S1 : ((y1.n 1).toNat : Int) = y1.n 1 := Int.toNat_of_nonneg p1
    have S2 : ((y1.n 2).toNat : Int) = y1.n 2 := Int.toNat_of_nonneg p2
    have hK1 : okM (Mm.mk (y1.n 0) (y1.n 1) (y1.n 2) (y1.l 1) (y1.l 2)) := by rw [q1]; exact hK
    have c1 : y1.n 2 = y.n 100002 := congrArg Mm.nn q1
    have e8 : IntKind.u8.wrap (y.n 91002 + IntKind.u8.wrap (y1.n 90000)) = (y.n 91002 + y1.n 90000) % 256 := by rw [wu8, wu8]; omega
    simp only [S1, S2, e8]
    refine ⟨by ((repeat' (first | exact trivial | with_reducible rfl | assumption | exact rfl | apply And.intro)) <;> omega), ?_⟩
    rintro y2 ⟨hu2, _, hq, ⟨e1, e2, e3⟩, hK2, hg2, hl2, hle2⟩
    obtain ⟨usy2, u4y2, _⟩ : (0 ≤ y2.n 3 ∧ y2.n 3 ≤ 65535) ∧ 0 ≤ y2.n 4 ∧ True := hu2.1
    obtain ⟨b1y2, b2y2, _⟩ : 0 ≤ y2.n 100001 ∧ 0 ≤ y2.n 100002 ∧ True := hu2.2.1
    have T1y2 : ((y2.n 100001).toNat : Int) = y2.n 100001 := Int.toNat_of_nonneg b1y2
    have T2y2 : ((y2.n 100002).toNat : Int) = y2.n 100002 := Int.toNat_of_nonneg b2y2
    have T4y2 : ((y2.n 4).toNat : Int) = y2.n 4 := Int.toNat_of_nonneg u4y2
    have s3 : Row [.r .u8 0 255] (y2.l 3) := hu2.2.2.1.2
    have s5 : Row [.r .u8 0 255] (y2.l 5) := hu2.2.2.2.1.2
    have s6 : Row [.i .u32, .i .i64, .i .u32] (y2.l 6) := hu2.2.2.2.2.1.2
    have hS := hD.step (show ((vals (y.l 5)).length : Int) < z.n 3 by omega)
    rw [q1, h2, h3] at hq
    have v1' : rdv1 E (y.n 1) (OU.mk (Mm.mk (y.n 100000) (y.n 100001) (y.n 100002) (y.l 3) (y.l 6)) (vals (y.l 5))).m = y1.n 90000 := v1.symm
    rw [v1', ← hq, ← e1] at hS
    have hlen : (vals (y2.l 5)).length = (vals (y.l 5)).length + 1 := (congrArg (fun s : OU => s.o.length) hq).trans (gvF_len (show ((vals (y.l 5)).length : Int) ≠ z.n 3 by omega))
    rw [vals_len, vals_len] at hlen
    have h4 : y2.n 4 = y.n 4 + 1 := by omega
    simp only [T1y2, T2y2, T4y2]
    ((repeat' (first | exact trivial | with_reducible rfl | assumption | exact rfl | apply And.intro)) <;> omega)
  · have h : y.n 4 = y.n 3 := by simpa using h
    have hR := hD.fin (show ((vals (y.l 5)).length : Int) = z.n 3 by omega)
    ((repeat' (first | exact trivial | with_reducible rfl | assumption | exact rfl | apply And.intro)) <;> omega)
theorem df_pro (E : World)  (z : PX) :
    (loopP (pe E) Try.f42 (endR ([mS 2, mN 3 4, rowB, rowB, rowN] : List MB).length [mS 5, mN 3 6, .g HOLE, rowB, .g HOLE, rowB, rowN] (.t []) (fun z y => AU.mk (y.n 1) (OU.mk (Mm.mk (y.n 100000) (y.n 100001) (y.n 100002) (y.l 3) (y.l 6)) (vals (y.l 5))) = (dfF E (z.n 2) (z.n 3) (z.n 3).toNat 0 (z.n 1) (OU.mk (Mm.mk (z.n 100000) (z.n 100001) (z.n 100002) (z.l 3) (z.l 4)) (vals (z.l 2)))) ∧ (y.n 2 = z.n 2 ∧ y.n 3 = z.n 3) ∧ okM (Mm.mk (y.n 100000) (y.n 100001) (y.n 100002) (y.l 3) (y.l 6)) ∧ y.n 100002 + z.n 4 ≤ z.n 100002 + y.n 4 ∧ (y.l 5).length = (y.n 4).toNat ∧ y.n 4 ≤ y.n 3) z) (headR ([mS 2, mN 3 4, rowB, rowB, rowN] : List MB).length Try.f42.ntmps none (df_hs E  z)) (run (pe E) (orcG E) (tabL fns) 20000 (2 ^ 200 - 1) [.code (Try.f42.body.getD .skip)] ⟨Try.f42.ntmps, mkFrGo (Tr.mk 12) 0 [.c (.p 0 0)]⟩ (mkM z [] [mS 2, mN 3 4, rowB, rowB, rowN] 0))) =
     (df_td E = df_td E ∧ 13 = 13 ∧ (True ∧ (((0 : Int) ≤ (0 : Int) ∧ (0 : Int) ≤ 255) ∧ True) ∧ True) ∧ (eP (z.n 3) (z.l 3) (z.l 2) (z.l 4)) ∧ (DfH E (z.n 2) (z.n 3) 0 (z.n 1) (OU.mk (Mm.mk (z.n 100000) (↑(z.n 100001).toNat : Int) (↑(z.n 100002).toNat : Int) (z.l 3) (z.l 4)) (vals (z.l 2))) (dfF E (z.n 2) (z.n 3) (z.n 3).toNat 0 (z.n 1) (OU.mk (Mm.mk (z.n 100000) (z.n 100001) (z.n 100002) (z.l 3) (z.l 4)) (vals (z.l 2)))) ∧ (z.n 2 = z.n 2 ∧ z.n 3 = z.n 3) ∧ okM (Mm.mk (z.n 100000) (↑(z.n 100001).toNat : Int) (↑(z.n 100002).toNat : Int) (z.l 3) (z.l 4)) ∧ (↑(z.n 100002).toNat : Int) + z.n 4 ≤ z.n 100002 + (↑(z.n 4).toNat : Int) ∧ (z.l 2).length = (↑(z.n 4).toNat : Int).toNat ∧ (↑(z.n 4).toNat : Int) ≤ z.n 3) ∧ True) := by kernel_rfl
set_option maxHeartbeats 8000000 in
theorem df_c (E : World)  (z : PX) (hz : rgM z [mS 2, mN 3 4, rowB, rowB, rowN] 0) (hp : (fun z => okM (Mm.mk (z.n 100000) (z.n 100001) (z.n 100002) (z.l 3) (z.l 4)) ∧ z.n 100002 ≤ 200000 + z.n 4 ∧ (z.l 2).length = (z.n 4).toNat ∧ z.n 4 ≤ z.n 3 ∧ 0 ≤ z.n 4) z) : HD (pe E) 42 [.c (.p 0 0)] [mS 2, mN 3 4, rowB, rowB, rowN] [mS 5, mN 3 6, .g HOLE, rowB, .g HOLE, rowB, rowN] (.t []) (fun z y => AU.mk (y.n 1) (OU.mk (Mm.mk (y.n 100000) (y.n 100001) (y.n 100002) (y.l 3) (y.l 6)) (vals (y.l 5))) = (dfF E (z.n 2) (z.n 3) (z.n 3).toNat 0 (z.n 1) (OU.mk (Mm.mk (z.n 100000) (z.n 100001) (z.n 100002) (z.l 3) (z.l 4)) (vals (z.l 2)))) ∧ (y.n 2 = z.n 2 ∧ y.n 3 = z.n 3) ∧ okM (Mm.mk (y.n 100000) (y.n 100001) (y.n 100002) (y.l 3) (y.l 6)) ∧ y.n 100002 + z.n 4 ≤ z.n 100002 + y.n 4 ∧ (y.l 5).length = (y.n 4).toNat ∧ y.n 4 ≤ y.n 3) z := by
  refine HD.loop (P := pe E) orcG_ok tab_ok tab_sz mixed Try.func42 (c := Try.f42.body.getD .skip) rfl (by decide) (Nat.le_of_ble_eq_true rfl) (by rfl) 20000 (2 ^ 200 - 1) (df_hs E  z) (by rfl) (loopP_lfH ⟨?_⟩) ?_
  · rw [df_pro]
    obtain ⟨hK, hnz, hl, hle, hz0⟩ := hp
    have hf1 : flat [Sp.r .u8 0 255] = true := rfl
    have hf2 : flat [Sp.i .u32, Sp.i .i64, Sp.i .u32] = true := rfl
    obtain ⟨usz, u4z, _⟩ : (0 ≤ z.n 3 ∧ z.n 3 ≤ 65535) ∧ 0 ≤ z.n 4 ∧ True := hz.1
    obtain ⟨b1z, b2z, _⟩ : 0 ≤ z.n 100001 ∧ 0 ≤ z.n 100002 ∧ True := hz.2.1
    have T1z : ((z.n 100001).toNat : Int) = z.n 100001 := Int.toNat_of_nonneg b1z
    have T2z : ((z.n 100002).toNat : Int) = z.n 100002 := Int.toNat_of_nonneg b2z
    have T4z : ((z.n 4).toNat : Int) = z.n 4 := Int.toNat_of_nonneg u4z
    have r2 : Row [.r .u8 0 255] (z.l 2) := hz.2.2.1.2
    have r3 : Row [.r .u8 0 255] (z.l 3) := hz.2.2.2.1.2
    have r4 : Row [.i .u32, .i .i64, .i .u32] (z.l 4) := hz.2.2.2.2.1.2
    have hD : DfH E (z.n 2) (z.n 3) 0 (z.n 1) (OU.mk (Mm.mk (z.n 100000) (z.n 100001) (z.n 100002) (z.l 3) (z.l 4)) (vals (z.l 2))) (dfF E (z.n 2) (z.n 3) (z.n 3).toNat 0 (z.n 1) (OU.mk (Mm.mk (z.n 100000) (z.n 100001) (z.n 100002) (z.l 3) (z.l 4)) (vals (z.l 2)))) := ⟨(z.n 3).toNat, by show z.n 3 ≤ ((vals (z.l 2)).length : Int) + _; omega, rfl⟩
    simp only [T1z, T2z, T4z]
    ((repeat' (first | exact trivial | with_reducible rfl | assumption | exact rfl | apply And.intro)) <;> omega)
  · intro h hmem y hy1 hy2 hy3
    simp only [df_hs, List.mem_cons, List.not_mem_nil, or_false] at hmem
    rcases hmem with rfl
    · exact df_q0 E  z hp y hy1 hy2 hy3
end Go.Proofs.Ytabklphoccicmaa

