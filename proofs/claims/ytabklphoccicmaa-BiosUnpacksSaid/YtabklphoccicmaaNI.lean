import Derived.Test.YtabklphoccicmaaNH
set_option linter.unusedVariables false
set_option linter.unusedSimpArgs false
namespace Go.Proofs.Ytabklphoccicmaa
open Go Go.Proofs Go.Proofs.Ytabklphoccicmaa.Ev Go.Proofs.Ytabklphoccicmaa.Ev.Ho Go.IntKind
set_option maxRecDepth 100000
theorem pc_r0 (E : World) (R : AU) (z : PX) (y : PX) :
    (loopP (pe E) Try.f39 (endR ([mS 2, mN 3 4, rowB, rowB, rowN] : List MB).length [mS 5, mN 3 6, .g HOLE, rowB, .g HOLE, rowB, rowN] (.t []) (fun z y => AU.mk (y.n 1) (OU.mk (Mm.mk (y.n 100000) (y.n 100001) (y.n 100002) (y.l 3) (y.l 6)) (vals (y.l 5))) = R ∧ (y.n 2 = z.n 2 ∧ y.n 3 = z.n 3) ∧ okM (Mm.mk (y.n 100000) (y.n 100001) (y.n 100002) (y.l 3) (y.l 6)) ∧ y.n 100002 + z.n 4 ≤ z.n 100002 + y.n 4 ∧ (y.l 5).length = (y.n 4).toNat ∧ y.n 4 ≤ y.n 3) z) (headR ([mS 2, mN 3 4, rowB, rowB, rowN] : List MB).length Try.f39.ntmps (some ((fun y => ((y.n 3 - y.n 4) * 20 + 9).toNat) y)) (pc_hs E R z))  (run (pe E) (orcH E) (tabL fns) 20000 (2 ^ 200 - 1) (pc_td E) (mkL Try.f39.ntmps (slC y [(0, .c (.p 0 0))])) (mkM y [] [mS 5, mN 3 6, .g HOLE, rowB, .g HOLE, rowB, rowN] 0))) =
     (((!(↑(y.n 4).toNat : Int) == y.n 3) = true → ((eM (y.l 3) (y.l 6)) ∧ okM (Mm.mk (y.n 100000) (↑(y.n 100001).toNat : Int) (↑(y.n 100002).toNat : Int) (y.l 3) (y.l 6))) ∧ ∀ (y_1 : PX), aM y_1 2 ∧ ((0 ≤ y_1.n 90000 ∧ y_1.n 90000 ≤ 255) ∧ True) ∧ Mm.mk (y_1.n 0) (y_1.n 1) (y_1.n 2) (y_1.l 1) (y_1.l 2) = Mm.mk (y.n 100000) (↑(y.n 100001).toNat : Int) (↑(y.n 100002).toNat : Int) (y.l 3) (y.l 6) ∧ y_1.n 90000 = rdv1 E (y.n 1) (Mm.mk (y.n 100000) (↑(y.n 100001).toNat : Int) (↑(y.n 100002).toNat : Int) (y.l 3) (y.l 6)) → pc2_td E = pc2_td E ∧ 47 = 47 ∧ (True ∧ ((0 ≤ u8.wrap (y_1.n 90000) ∧ u8.wrap (y_1.n 90000) ≤ 255) ∧ True) ∧ (((-1 : Int) ≤ (7 : Int) ∧ (7 : Int) ≤ 7) ∧ True) ∧ True) ∧ (eP (y.n 3) (y_1.l 1) (y.l 5) (y_1.l 2)) ∧ ((PcI E (z.n 2) (z.n 3) (inF E (z.n 2) (z.n 3) (u8.wrap (y_1.n 90000)) ((7 : Int) + 1).toNat (AU.mk (u32.wrap (y.n 1 + 1)) (OU.mk (Mm.mk (y_1.n 0) (↑(y_1.n 1).toNat : Int) (↑(y_1.n 2).toNat : Int) (y_1.l 1) (y_1.l 2)) (vals (y.l 5))))) R ∧ ((7 : Int) = 7 → (↑(y.n 4).toNat : Int) < y.n 3)) ∧ (y.n 2 = z.n 2 ∧ y.n 3 = z.n 3) ∧ okM (Mm.mk (y_1.n 0) (↑(y_1.n 1).toNat : Int) (↑(y_1.n 2).toNat : Int) (y_1.l 1) (y_1.l 2)) ∧ (↑(y_1.n 2).toNat : Int) + z.n 4 ≤ z.n 100002 + (↑(y.n 4).toNat : Int) ∧ (y.l 5).length = (↑(y.n 4).toNat : Int).toNat ∧ (↑(y.n 4).toNat : Int) ≤ y.n 3) ∧ (if (7 : Int) = 7 then (y.n 3 - (↑(y.n 4).toNat : Int)) * (20 : Int) + 8 else (y.n 3 - (↑(y.n 4).toNat : Int)) * (20 : Int) + (11 : Int) + 7).toNat < ((y.n 3 - y.n 4) * (20 : Int) + 9).toNat ∧ True) ∧ ((!(↑(y.n 4).toNat : Int) == y.n 3) = false → (eP (y.n 3) (y.l 3) (y.l 5) (y.l 6)) ∧ True ∧ AU.mk (y.n 1) (OU.mk (Mm.mk (y.n 100000) (↑(y.n 100001).toNat : Int) (↑(y.n 100002).toNat : Int) (y.l 3) (y.l 6)) (vals (y.l 5))) = R ∧ (y.n 2 = z.n 2 ∧ y.n 3 = z.n 3) ∧ okM (Mm.mk (y.n 100000) (↑(y.n 100001).toNat : Int) (↑(y.n 100002).toNat : Int) (y.l 3) (y.l 6)) ∧ (↑(y.n 100002).toNat : Int) + z.n 4 ≤ z.n 100002 + (↑(y.n 4).toNat : Int) ∧ (y.l 5).length = (↑(y.n 4).toNat : Int).toNat ∧ (↑(y.n 4).toNat : Int) ≤ y.n 3)) := by kernel_rfl
set_option maxHeartbeats 8000000 in
theorem pc_q0 (E : World) (R : AU) (z : PX) (hp : (fun z => okM (Mm.mk (z.n 100000) (z.n 100001) (z.n 100002) (z.l 3) (z.l 4)) ∧ z.n 100002 ≤ 200000 + z.n 4 ∧ (z.l 2).length = (z.n 4).toNat ∧ z.n 4 ≤ z.n 3 ∧ 0 ≤ z.n 4 ∧ PcI E (z.n 2) (z.n 3) (AU.mk (z.n 1) (OU.mk (Mm.mk (z.n 100000) (z.n 100001) (z.n 100002) (z.l 3) (z.l 4)) (vals (z.l 2)))) R) z) (y : PX) (hy1 : rgM y [mS 5, mN 3 6, .g HOLE, rowB, .g HOLE, rowB, rowN] 0) (hy2 : rgF y [(0, .c (.p 0 0))]) (hy3 : (fun y => PcI E (z.n 2) (z.n 3) (AU.mk (y.n 1) (OU.mk (Mm.mk (y.n 100000) (y.n 100001) (y.n 100002) (y.l 3) (y.l 6)) (vals (y.l 5)))) R ∧ (y.n 2 = z.n 2 ∧ y.n 3 = z.n 3) ∧ okM (Mm.mk (y.n 100000) (y.n 100001) (y.n 100002) (y.l 3) (y.l 6)) ∧ y.n 100002 + z.n 4 ≤ z.n 100002 + y.n 4 ∧ (y.l 5).length = (y.n 4).toNat ∧ y.n 4 ≤ y.n 3) y) : Holds ((run (pe E) (orcH E) (tabL fns) 20000 (2 ^ 200 - 1) (pc_td E) (mkL Try.f39.ntmps (slC y [(0, .c (.p 0 0))])) (mkM y [] [mS 5, mN 3 6, .g HOLE, rowB, .g HOLE, rowB, rowN] 0)).OK (lfP (pe E) Try.f39 (endR ([mS 2, mN 3 4, rowB, rowB, rowN] : List MB).length [mS 5, mN 3 6, .g HOLE, rowB, .g HOLE, rowB, rowN] (.t []) (fun z y => AU.mk (y.n 1) (OU.mk (Mm.mk (y.n 100000) (y.n 100001) (y.n 100002) (y.l 3) (y.l 6)) (vals (y.l 5))) = R ∧ (y.n 2 = z.n 2 ∧ y.n 3 = z.n 3) ∧ okM (Mm.mk (y.n 100000) (y.n 100001) (y.n 100002) (y.l 3) (y.l 6)) ∧ y.n 100002 + z.n 4 ≤ z.n 100002 + y.n 4 ∧ (y.l 5).length = (y.n 4).toNat ∧ y.n 4 ≤ y.n 3) z) (headR ([mS 2, mN 3 4, rowB, rowB, rowN] : List MB).length Try.f39.ntmps (some ((fun y => ((y.n 3 - y.n 4) * 20 + 9).toNat) y)) (pc_hs E R z)))) := by
  refine loopP_lfH ⟨?_⟩
  rw [pc_r0]
  have hf : True ∧ True := hy2
  obtain ⟨_, _⟩ := hf
  obtain ⟨hP, ⟨h2, h3⟩, hK, hgr, hl, hle⟩ := hy3
  obtain ⟨hKz, hnz, hlz, hlez, hz0, hPz⟩ := hp
  have hf1 : flat [Sp.r .u8 0 255] = true := rfl
  have hf2 : flat [Sp.i .u32, Sp.i .i64, Sp.i .u32] = true := rfl
  obtain ⟨usy, u4y, _⟩ : (0 ≤ y.n 3 ∧ y.n 3 ≤ 65535) ∧ 0 ≤ y.n 4 ∧ True := hy1.1
  obtain ⟨b1y, b2y, _⟩ : 0 ≤ y.n 100001 ∧ 0 ≤ y.n 100002 ∧ True := hy1.2.1
  have T1y : ((y.n 100001).toNat : Int) = y.n 100001 := Int.toNat_of_nonneg b1y
  have T2y : ((y.n 100002).toNat : Int) = y.n 100002 := Int.toNat_of_nonneg b2y
  have T4y : ((y.n 4).toNat : Int) = y.n 4 := Int.toNat_of_nonneg u4y
  have r3 : Row [.r .u8 0 255] (y.l 3) := hy1.2.2.1.2
  have r5 : Row [.r .u8 0 255] (y.l 5) := hy1.2.2.2.1.2
  have r6 : Row [.i .u32, .i .i64, .i .u32] (y.l 6) := hy1.2.2.2.2.1.2
  have vl : ((vals (y.l 5)).length : Int) = y.n 4 := by rw [vals_len]; omega
  simp only [T1y, T2y, T4y]
  refine ⟨fun h => ?_, fun h => ?_⟩
  · have h : y.n 4 ≠ y.n 3 := by simpa using h
    refine ⟨⟨by ((repeat' (first | exact trivial | with_reducible rfl | assumption | exact rfl | apply And.intro)) <;> omega), hK⟩, ?_⟩
    rintro y1 ⟨⟨⟨p1, p2, _⟩, ⟨_, q3⟩, ⟨_, q6⟩, _⟩, ⟨g1, _⟩, q1, v1⟩
    have S1 : ((y1.n 1).toNat : Int) = y1.n 1 := Int.toNat_of_nonneg p1
    have S2 : ((y1.n 2).toNat : Int) = y1.n 2 := Int.toNat_of_nonneg p2
    have c1 : y1.n 2 = y.n 100002 := congrArg Mm.nn q1
    have e8 : IntKind.u8.wrap (y1.n 90000) = y1.n 90000 := by rw [wu8]; omega
    have e7 : ((7 : Int) + 1).toNat = 8 := rfl
    have hI := hP.inv (show ((vals (y.l 5)).length : Int) ≠ z.n 3 by omega)
    have v1' : rdb E (AU.mk (y.n 1) (OU.mk (Mm.mk (y.n 100000) (y.n 100001) (y.n 100002) (y.l 3) (y.l 6)) (vals (y.l 5)))).a (AU.mk (y.n 1) (OU.mk (Mm.mk (y.n 100000) (y.n 100001) (y.n 100002) (y.l 3) (y.l 6)) (vals (y.l 5)))).u.m = y1.n 90000 := rdb_v v1 g1
    rw [v1'] at hI
    have hI : PcI E (z.n 2) (z.n 3) (inF E (z.n 2) (z.n 3) (y1.n 90000) 8 (AU.mk (IntKind.u32.wrap (y.n 1 + 1)) (OU.mk (Mm.mk (y.n 100000) (y.n 100001) (y.n 100002) (y.l 3) (y.l 6)) (vals (y.l 5))))) R := hI
    have e9 : y.n 4 < y.n 3 := by omega
    simp only [S1, S2, e8, e7, q1, e9, implies_true, if_true]
    ((repeat' (first | exact trivial | with_reducible rfl | assumption | exact rfl | apply And.intro)) <;> omega)
  · have h : y.n 4 = y.n 3 := by simpa using h
    have hR := hP.fin (show ((vals (y.l 5)).length : Int) = z.n 3 by omega)
    ((repeat' (first | exact trivial | with_reducible rfl | assumption | exact rfl | apply And.intro)) <;> omega)
end Go.Proofs.Ytabklphoccicmaa

