import Derived.Test.YtabklphoccicmaaRA
set_option linter.unusedVariables false
set_option linter.unusedSimpArgs false
namespace Go.Proofs.Ytabklphoccicmaa
open Go Go.Proofs Go.Proofs.Ytabklphoccicmaa.Ev Go.Proofs.Ytabklphoccicmaa.Ev.Ho Go.IntKind
set_option maxRecDepth 100000
noncomputable def rd_h0 (E : World) (R : AU) (z : PX) : Hd := ⟨3, anyH, (rd_td E), [(0, .c (.p 0 0)), (1, .c (.p 1 0))], [mSt 2, mO' 2 6, mN 4 7, .g HOLE, rowB, .g HOLE, rowI, rowN], fun y => RuI E (z.n 100001) (z.n 100002) (AU.mk (y.n 1) (OU.mk (Mm.mk (y.n 200000) (y.n 200001) (y.n 200002) (y.l 4) (y.l 7)) (vals (y.l 6)))) R ∧ (y.n 100001 = z.n 100001 ∧ y.n 100002 = z.n 100002) ∧ okM (Mm.mk (y.n 200000) (y.n 200001) (y.n 200002) (y.l 4) (y.l 7)) ∧ y.n 200002 + z.n 100003 ≤ z.n 200002 + y.n 100003 ∧ (y.l 6).length = (y.n 100003).toNat ∧ y.n 100003 ≤ y.n 100002, fun y => ((y.n 100002 - y.n 100003) * 400 + 9).toNat⟩
noncomputable def rd_h1 (E : World) (R : AU) (z : PX) : Hd := ⟨8, anyH, (rdtt E), [(0, .c (.p 0 0)), (1, .c (.p 1 0)), (4, .r .i64 (128) (255)), (5, .r .i64 (0) (255)), (6, .r .i64 (0) (130))], [mSt 2, mO' 2 6, mN 4 7, .g HOLE, rowB, .g HOLE, rowI, rowN], fun y => (RuI E (z.n 100001) (z.n 100002) (AU.mk (y.n 1) (gvN E (z.n 100001) (z.n 100002) (y.n 91005) (y.n 91006).toNat (OU.mk (Mm.mk (y.n 200000) (y.n 200001) (y.n 200002) (y.l 4) (y.l 7)) (vals (y.l 6))))) R ∧ (y.n 91006 = y.n 91004 - 125 → y.n 100003 < y.n 100002) ∧ y.n 91006 ≤ y.n 91004 - 125) ∧ (y.n 100001 = z.n 100001 ∧ y.n 100002 = z.n 100002) ∧ okM (Mm.mk (y.n 200000) (y.n 200001) (y.n 200002) (y.l 4) (y.l 7)) ∧ y.n 200002 + z.n 100003 ≤ z.n 200002 + y.n 100003 ∧ (y.l 6).length = (y.n 100003).toNat ∧ y.n 100003 ≤ y.n 100002, fun y => (if y.n 91006 = y.n 91004 - 125 then (y.n 100002 - y.n 100003) * 400 + 8 else (y.n 100002 - y.n 100003) * 400 + 11 + (y.n 91006)).toNat⟩
noncomputable def rd_h2 (E : World) (R : AU) (z : PX) : Hd := ⟨6, anyH, (rdtf E), [(0, .c (.p 0 0)), (1, .c (.p 1 0)), (4, .r .i64 (0) (127)), (7, .r .i64 (0) (128))], [mSt 2, mO' 2 6, mN 4 7, .g HOLE, rowB, .g HOLE, rowI, rowN], fun y => (RuI E (z.n 100001) (z.n 100002) (ltF E (z.n 100001) (z.n 100002) (y.n 91007).toNat (AU.mk (y.n 1) (OU.mk (Mm.mk (y.n 200000) (y.n 200001) (y.n 200002) (y.l 4) (y.l 7)) (vals (y.l 6))))) R ∧ (y.n 91007 = y.n 91004 + 1 → y.n 100003 < y.n 100002) ∧ y.n 91007 ≤ y.n 91004 + 1) ∧ (y.n 100001 = z.n 100001 ∧ y.n 100002 = z.n 100002) ∧ okM (Mm.mk (y.n 200000) (y.n 200001) (y.n 200002) (y.l 4) (y.l 7)) ∧ y.n 200002 + z.n 100003 ≤ z.n 200002 + y.n 100003 ∧ (y.l 6).length = (y.n 100003).toNat ∧ y.n 100003 ≤ y.n 100002, fun y => (if y.n 91007 = y.n 91004 + 1 then (y.n 100002 - y.n 100003) * 400 + 8 else (y.n 100002 - y.n 100003) * 400 + 11 + (y.n 91007)).toNat⟩
noncomputable def rd_hs (E : World) (R : AU) (z : PX) : List Hd := [rd_h0 E R z, rd_h1 E R z, rd_h2 E R z]
theorem rd_pro (E : World) (R : AU) (z : PX) :
    (loopP (pe E) Try.f45 (endR ([mSt 2, mO' 2 3, mN 4 5, rowI, rowB, rowN] : List MB).length [mSt 2, mO' 2 6, mN 4 7, .g HOLE, rowB, .g HOLE, rowI, rowN] (.t []) (fun z y => (AU.mk (y.n 1) (OU.mk (Mm.mk (y.n 200000) (y.n 200001) (y.n 200002) (y.l 4) (y.l 7)) (vals (y.l 6)))) = R ∧ (y.n 100001 = z.n 100001 ∧ y.n 100002 = z.n 100002) ∧ okM (Mm.mk (y.n 200000) (y.n 200001) (y.n 200002) (y.l 4) (y.l 7)) ∧ y.n 200002 + z.n 100003 ≤ z.n 200002 + y.n 100003 ∧ (y.l 6).length = (y.n 100003).toNat ∧ y.n 100003 ≤ y.n 100002) z) (headR ([mSt 2, mO' 2 3, mN 4 5, rowI, rowB, rowN] : List MB).length Try.f45.ntmps none (rd_hs E R z)) (run (pe E) (orcD E) (tabL fns) 20000 (2 ^ 200 - 1) [.code (Try.f45.body.getD .skip)] ⟨Try.f45.ntmps, mkFrGo (Tr.mk 12) 0 [.c (.p 0 0), .c (.p 1 0)]⟩ (mkM z [] [mSt 2, mO' 2 3, mN 4 5, rowI, rowB, rowN] 0))) =
     (rd_td E = rd_td E ∧ 42 = 42 ∧ (True ∧ True ∧ True) ∧ (eD (z.n 100002) (z.l 4) (z.l 3) (z.l 5)) ∧ (RuI E (z.n 100001) (z.n 100002) (AU.mk (z.n 1) (OU.mk (Mm.mk (z.n 200000) (↑(z.n 200001).toNat : Int) (↑(z.n 200002).toNat : Int) (z.l 4) (z.l 5)) (vals (z.l 3)))) R ∧ (z.n 100001 = z.n 100001 ∧ z.n 100002 = z.n 100002) ∧ okM (Mm.mk (z.n 200000) (↑(z.n 200001).toNat : Int) (↑(z.n 200002).toNat : Int) (z.l 4) (z.l 5)) ∧ (↑(z.n 200002).toNat : Int) + z.n 100003 ≤ z.n 200002 + (↑(z.n 100003).toNat : Int) ∧ (z.l 3).length = (↑(z.n 100003).toNat : Int).toNat ∧ (↑(z.n 100003).toNat : Int) ≤ z.n 100002) ∧ True) := by kernel_rfl
theorem rd_r0 (E : World) (R : AU) (z : PX) (y : PX) :
    (loopP (pe E) Try.f45 (endR ([mSt 2, mO' 2 3, mN 4 5, rowI, rowB, rowN] : List MB).length [mSt 2, mO' 2 6, mN 4 7, .g HOLE, rowB, .g HOLE, rowI, rowN] (.t []) (fun z y => (AU.mk (y.n 1) (OU.mk (Mm.mk (y.n 200000) (y.n 200001) (y.n 200002) (y.l 4) (y.l 7)) (vals (y.l 6)))) = R ∧ (y.n 100001 = z.n 100001 ∧ y.n 100002 = z.n 100002) ∧ okM (Mm.mk (y.n 200000) (y.n 200001) (y.n 200002) (y.l 4) (y.l 7)) ∧ y.n 200002 + z.n 100003 ≤ z.n 200002 + y.n 100003 ∧ (y.l 6).length = (y.n 100003).toNat ∧ y.n 100003 ≤ y.n 100002) z) (headR ([mSt 2, mO' 2 3, mN 4 5, rowI, rowB, rowN] : List MB).length Try.f45.ntmps (some ((fun y => ((y.n 100002 - y.n 100003) * 400 + 9).toNat) y)) (rd_hs E R z))  (run (pe E) (orcD E) (tabL fns) 20000 (2 ^ 200 - 1) (rd_td E) (mkL Try.f45.ntmps (slC y [(0, .c (.p 0 0)), (1, .c (.p 1 0))])) (mkM y [] [mSt 2, mO' 2 6, mN 4 7, .g HOLE, rowB, .g HOLE, rowI, rowN] 0))) =
     (((!decide ((↑(y.n 100003).toNat : Int) ≥ y.n 100002)) = true → ((eM (y.l 4) (y.l 7)) ∧ okM (Mm.mk (y.n 200000) (↑(y.n 200001).toNat : Int) (↑(y.n 200002).toNat : Int) (y.l 4) (y.l 7))) ∧ ∀ (y_1 : PX), aM y_1 2 ∧ ((0 ≤ y_1.n 90000 ∧ y_1.n 90000 ≤ 255) ∧ True) ∧ Mm.mk (y_1.n 0) (y_1.n 1) (y_1.n 2) (y_1.l 1) (y_1.l 2) = Mm.mk (y.n 200000) (↑(y.n 200001).toNat : Int) (↑(y.n 200002).toNat : Int) (y.l 4) (y.l 7) ∧ y_1.n 90000 = rdv1 E (y.n 1) (Mm.mk (y.n 200000) (↑(y.n 200001).toNat : Int) (↑(y.n 200002).toNat : Int) (y.l 4) (y.l 7)) → (decide (i64.wrap (y_1.n 90000) ≥ 128) = true → ((eM (y_1.l 1) (y_1.l 2)) ∧ okM (Mm.mk (y_1.n 0) (↑(y_1.n 1).toNat : Int) (↑(y_1.n 2).toNat : Int) (y_1.l 1) (y_1.l 2))) ∧ ∀ (y_2 : PX), aM y_2 2 ∧ ((0 ≤ y_2.n 90000 ∧ y_2.n 90000 ≤ 255) ∧ True) ∧ Mm.mk (y_2.n 0) (y_2.n 1) (y_2.n 2) (y_2.l 1) (y_2.l 2) = Mm.mk (y_1.n 0) (↑(y_1.n 1).toNat : Int) (↑(y_1.n 2).toNat : Int) (y_1.l 1) (y_1.l 2) ∧ y_2.n 90000 = rdv1 E (u32.wrap (y.n 1 + 1)) (Mm.mk (y_1.n 0) (↑(y_1.n 1).toNat : Int) (↑(y_1.n 2).toNat : Int) (y_1.l 1) (y_1.l 2)) → rdtt E = rdtt E ∧ 42 = 42 ∧ (True ∧ True ∧ ((128 ≤ i64.wrap (y_1.n 90000) ∧ i64.wrap (y_1.n 90000) ≤ 255) ∧ True) ∧ ((0 ≤ i64.wrap (y_2.n 90000) ∧ i64.wrap (y_2.n 90000) ≤ 255) ∧ True) ∧ ((0 ≤ i64.wrap ((i64.wrap (y_1.n 90000)).tmod (128 : Int) + 3) ∧ i64.wrap ((i64.wrap (y_1.n 90000)).tmod (128 : Int) + 3) ≤ 130) ∧ True) ∧ True) ∧ (eD (y.n 100002) (y_2.l 1) (y.l 6) (y_2.l 2)) ∧ ((RuI E (z.n 100001) (z.n 100002) (AU.mk (u32.wrap (u32.wrap (y.n 1 + 1) + 1)) (gvN E (z.n 100001) (z.n 100002) (i64.wrap (y_2.n 90000)) (i64.wrap ((i64.wrap (y_1.n 90000)).tmod (128 : Int) + 3)).toNat (OU.mk (Mm.mk (y_2.n 0) (↑(y_2.n 1).toNat : Int) (↑(y_2.n 2).toNat : Int) (y_2.l 1) (y_2.l 2)) (vals (y.l 6))))) R ∧ (i64.wrap ((i64.wrap (y_1.n 90000)).tmod (128 : Int) + 3) = i64.wrap (y_1.n 90000) - 125 → (↑(y.n 100003).toNat : Int) < y.n 100002) ∧ i64.wrap ((i64.wrap (y_1.n 90000)).tmod (128 : Int) + 3) ≤ i64.wrap (y_1.n 90000) - 125) ∧ (y.n 100001 = z.n 100001 ∧ y.n 100002 = z.n 100002) ∧ okM (Mm.mk (y_2.n 0) (↑(y_2.n 1).toNat : Int) (↑(y_2.n 2).toNat : Int) (y_2.l 1) (y_2.l 2)) ∧ (↑(y_2.n 2).toNat : Int) + z.n 100003 ≤ z.n 200002 + (↑(y.n 100003).toNat : Int) ∧ (y.l 6).length = (↑(y.n 100003).toNat : Int).toNat ∧ (↑(y.n 100003).toNat : Int) ≤ y.n 100002) ∧ (if i64.wrap ((i64.wrap (y_1.n 90000)).tmod (128 : Int) + 3) = i64.wrap (y_1.n 90000) - 125 then (y.n 100002 - (↑(y.n 100003).toNat : Int)) * (400 : Int) + 8 else (y.n 100002 - (↑(y.n 100003).toNat : Int)) * (400 : Int) + 11 + i64.wrap ((i64.wrap (y_1.n 90000)).tmod (128 : Int) + 3)).toNat < ((y.n 100002 - y.n 100003) * (400 : Int) + 9).toNat ∧ True) ∧ (decide (i64.wrap (y_1.n 90000) ≥ 128) = false → rdtf E = rdtf E ∧ 42 = 42 ∧ (True ∧ True ∧ ((0 ≤ i64.wrap (y_1.n 90000) ∧ i64.wrap (y_1.n 90000) ≤ 127) ∧ True) ∧ ((0 ≤ i64.wrap (i64.wrap (y_1.n 90000) + 1) ∧ i64.wrap (i64.wrap (y_1.n 90000) + 1) ≤ 128) ∧ True) ∧ True) ∧ (eD (y.n 100002) (y_1.l 1) (y.l 6) (y_1.l 2)) ∧ ((RuI E (z.n 100001) (z.n 100002) (ltF E (z.n 100001) (z.n 100002) (i64.wrap (i64.wrap (y_1.n 90000) + 1)).toNat (AU.mk (u32.wrap (y.n 1 + 1)) (OU.mk (Mm.mk (y_1.n 0) (↑(y_1.n 1).toNat : Int) (↑(y_1.n 2).toNat : Int) (y_1.l 1) (y_1.l 2)) (vals (y.l 6))))) R ∧ (i64.wrap (i64.wrap (y_1.n 90000) + 1) = i64.wrap (y_1.n 90000) + 1 → (↑(y.n 100003).toNat : Int) < y.n 100002) ∧ i64.wrap (i64.wrap (y_1.n 90000) + 1) ≤ i64.wrap (y_1.n 90000) + 1) ∧ (y.n 100001 = z.n 100001 ∧ y.n 100002 = z.n 100002) ∧ okM (Mm.mk (y_1.n 0) (↑(y_1.n 1).toNat : Int) (↑(y_1.n 2).toNat : Int) (y_1.l 1) (y_1.l 2)) ∧ (↑(y_1.n 2).toNat : Int) + z.n 100003 ≤ z.n 200002 + (↑(y.n 100003).toNat : Int) ∧ (y.l 6).length = (↑(y.n 100003).toNat : Int).toNat ∧ (↑(y.n 100003).toNat : Int) ≤ y.n 100002) ∧ (if i64.wrap (i64.wrap (y_1.n 90000) + 1) = i64.wrap (y_1.n 90000) + 1 then (y.n 100002 - (↑(y.n 100003).toNat : Int)) * (400 : Int) + 8 else (y.n 100002 - (↑(y.n 100003).toNat : Int)) * (400 : Int) + 11 + i64.wrap (i64.wrap (y_1.n 90000) + 1)).toNat < ((y.n 100002 - y.n 100003) * (400 : Int) + 9).toNat ∧ True)) ∧ ((!decide ((↑(y.n 100003).toNat : Int) ≥ y.n 100002)) = false → (eD (y.n 100002) (y.l 4) (y.l 6) (y.l 7)) ∧ True ∧ AU.mk (y.n 1) (OU.mk (Mm.mk (y.n 200000) (↑(y.n 200001).toNat : Int) (↑(y.n 200002).toNat : Int) (y.l 4) (y.l 7)) (vals (y.l 6))) = R ∧ (y.n 100001 = z.n 100001 ∧ y.n 100002 = z.n 100002) ∧ okM (Mm.mk (y.n 200000) (↑(y.n 200001).toNat : Int) (↑(y.n 200002).toNat : Int) (y.l 4) (y.l 7)) ∧ (↑(y.n 200002).toNat : Int) + z.n 100003 ≤ z.n 200002 + (↑(y.n 100003).toNat : Int) ∧ (y.l 6).length = (↑(y.n 100003).toNat : Int).toNat ∧ (↑(y.n 100003).toNat : Int) ≤ y.n 100002)) := by kernel_rfl
set_option maxHeartbeats 8000000 in
theorem rd_q0 (E : World) (R : AU) (z : PX) (hp : (fun z => okM (Mm.mk (z.n 200000) (z.n 200001) (z.n 200002) (z.l 4) (z.l 5)) ∧ z.n 200002 ≤ 200000 + z.n 100003 ∧ (z.l 3).length = (z.n 100003).toNat ∧ z.n 100003 ≤ z.n 100002 ∧ 0 ≤ z.n 100003 ∧ RuI E (z.n 100001) (z.n 100002) (AU.mk (z.n 1) (OU.mk (Mm.mk (z.n 200000) (z.n 200001) (z.n 200002) (z.l 4) (z.l 5)) (vals (z.l 3)))) R) z) (y : PX) (hy1 : rgM y [mSt 2, mO' 2 6, mN 4 7, .g HOLE, rowB, .g HOLE, rowI, rowN] 0) (hy2 : rgF y [(0, .c (.p 0 0)), (1, .c (.p 1 0))]) (hy3 : (fun y => RuI E (z.n 100001) (z.n 100002) (AU.mk (y.n 1) (OU.mk (Mm.mk (y.n 200000) (y.n 200001) (y.n 200002) (y.l 4) (y.l 7)) (vals (y.l 6)))) R ∧ (y.n 100001 = z.n 100001 ∧ y.n 100002 = z.n 100002) ∧ okM (Mm.mk (y.n 200000) (y.n 200001) (y.n 200002) (y.l 4) (y.l 7)) ∧ y.n 200002 + z.n 100003 ≤ z.n 200002 + y.n 100003 ∧ (y.l 6).length = (y.n 100003).toNat ∧ y.n 100003 ≤ y.n 100002) y) : Holds ((run (pe E) (orcD E) (tabL fns) 20000 (2 ^ 200 - 1) (rd_td E) (mkL Try.f45.ntmps (slC y [(0, .c (.p 0 0)), (1, .c (.p 1 0))])) (mkM y [] [mSt 2, mO' 2 6, mN 4 7, .g HOLE, rowB, .g HOLE, rowI, rowN] 0)).OK (lfP (pe E) Try.f45 (endR ([mSt 2, mO' 2 3, mN 4 5, rowI, rowB, rowN] : List MB).length [mSt 2, mO' 2 6, mN 4 7, .g HOLE, rowB, .g HOLE, rowI, rowN] (.t []) (fun z y => (AU.mk (y.n 1) (OU.mk (Mm.mk (y.n 200000) (y.n 200001) (y.n 200002) (y.l 4) (y.l 7)) (vals (y.l 6)))) = R ∧ (y.n 100001 = z.n 100001 ∧ y.n 100002 = z.n 100002) ∧ okM (Mm.mk (y.n 200000) (y.n 200001) (y.n 200002) (y.l 4) (y.l 7)) ∧ y.n 200002 + z.n 100003 ≤ z.n 200002 + y.n 100003 ∧ (y.l 6).length = (y.n 100003).toNat ∧ y.n 100003 ≤ y.n 100002) z) (headR ([mSt 2, mO' 2 3, mN 4 5, rowI, rowB, rowN] : List MB).length Try.f45.ntmps (some ((fun y => ((y.n 100002 - y.n 100003) * 400 + 9).toNat) y)) (rd_hs E R z)))) := by
  refine loopP_lfH ⟨?_⟩
  rw [rd_r0]
  have hf : True ∧ True ∧ True := hy2
  obtain ⟨_, _, _⟩ := hf
  obtain ⟨hP, ⟨h2, h3⟩, hK, hgr, hl, hle⟩ := hy3
  obtain ⟨hKz, hnz, hlz, hlez, hz0, hPz⟩ := hp
  have hf1 : flat [Sp.r .u8 0 255] = true := rfl
  have hf2 : flat [Sp.i .u32, Sp.i .i64, Sp.i .u32] = true := rfl
  have hf3 : flat [Sp.r .i64 0 255] = true := rfl
  obtain ⟨usy, u4y, _⟩ : (0 ≤ y.n 100002 ∧ y.n 100002 ≤ 65535) ∧ 0 ≤ y.n 100003 ∧ True := hy1.2.1
  obtain ⟨b1y, b2y, _⟩ : 0 ≤ y.n 200001 ∧ 0 ≤ y.n 200002 ∧ True := hy1.2.2.1
  have T1y : ((y.n 200001).toNat : Int) = y.n 200001 := Int.toNat_of_nonneg b1y
  have T2y : ((y.n 200002).toNat : Int) = y.n 200002 := Int.toNat_of_nonneg b2y
  have T4y : ((y.n 100003).toNat : Int) = y.n 100003 := Int.toNat_of_nonneg u4y
  have roy : Row [.r .i64 0 255] (y.l 6) := hy1.2.2.2.2.1.2
  have rby : Row [.r .u8 0 255] (y.l 4) := hy1.2.2.2.1.2
  have rny : Row [.i .u32, .i .i64, .i .u32] (y.l 7) := hy1.2.2.2.2.2.1.2
  have vl : ((vals (y.l 6)).length : Int) = y.n 100003 := by rw [vals_len]; omega
  simp only [T1y, T2y, T4y]
  refine ⟨fun h => ?_, fun h => ?_⟩
  · have h : y.n 100003 < y.n 100002 := by have h0 := h; simp at h0; omega
    refine ⟨⟨by ((repeat' (first | exact trivial | with_reducible rfl | assumption | exact rfl | apply And.intro)) <;> omega), hK⟩, ?_⟩
    rintro y1 ⟨⟨⟨p1y1, p2y1, _⟩, ⟨_, q3y1⟩, ⟨_, q6y1⟩, _⟩, ⟨g1y1, _⟩, q1y1, v1y1⟩
    have S1y1 : ((y1.n 1).toNat : Int) = y1.n 1 := Int.toNat_of_nonneg p1y1
    have S2y1 : ((y1.n 2).toNat : Int) = y1.n 2 := Int.toNat_of_nonneg p2y1
    have hKy1 : okM (Mm.mk (y1.n 0) (y1.n 1) (y1.n 2) (y1.l 1) (y1.l 2)) := by rw [q1y1]; exact hK
    have cy1 : y1.n 2 = y.n 200002 := congrArg Mm.nn q1y1
    have e8y1 : IntKind.u8.wrap (y1.n 90000) = y1.n 90000 := by rw [wu8]; omega
    have e64y1 : IntKind.i64.wrap (y1.n 90000) = y1.n 90000 := by rw [wi64]; omega
    simp only [S1y1, S2y1, e8y1, e64y1]
    have hI := hP.inv (show ((vals (y.l 6)).length : Int) ≠ z.n 100002 by omega)
    refine ⟨fun hc => ?_, fun hc => ?_⟩
    · have hc : 128 ≤ y1.n 90000 := of_decide_eq_true hc
      refine ⟨⟨by ((repeat' (first | exact trivial | with_reducible rfl | assumption | exact rfl | apply And.intro)) <;> omega), hKy1⟩, ?_⟩
      rintro y2 ⟨⟨⟨p1y2, p2y2, _⟩, ⟨_, q3y2⟩, ⟨_, q6y2⟩, _⟩, ⟨g1y2, _⟩, q1y2, v1y2⟩
      have S1y2 : ((y2.n 1).toNat : Int) = y2.n 1 := Int.toNat_of_nonneg p1y2
      have S2y2 : ((y2.n 2).toNat : Int) = y2.n 2 := Int.toNat_of_nonneg p2y2
      rw [q1y1] at q1y2 v1y2
      have hKy2 : okM (Mm.mk (y2.n 0) (y2.n 1) (y2.n 2) (y2.l 1) (y2.l 2)) := by rw [q1y2]; exact hK
      have cy2 : y2.n 2 = y.n 200002 := congrArg Mm.nn q1y2
      have e8y2 : IntKind.u8.wrap (y2.n 90000) = y2.n 90000 := by rw [wu8]; omega
      have e64y2 : IntKind.i64.wrap (y2.n 90000) = y2.n 90000 := by rw [wi64]; omega
      simp only [S1y2, S2y2, e8y2, e64y2]
      rw [ruF_hi (s := (OU.mk (Mm.mk (y.n 200000) (y.n 200001) (y.n 200002) (y.l 4) (y.l 7)) (vals (y.l 6)))) (rdb_v v1y1 g1y1) (rdb_v v1y2 g1y2) hc] at hI
      have cw : IntKind.i64.wrap ((y1.n 90000).tmod 128 + 3) = y1.n 90000 - 125 := by rw [tmod_n _ _ (by omega), wi64]; omega
      simp only [cw, uadd, Int.reduceAdd, q1y2, Int.sub_zero, h, implies_true, if_true]
      ((repeat' (first | exact trivial | with_reducible rfl | assumption | exact rfl | apply And.intro)) <;> first | omega | (intro h; omega) | (split <;> omega) | (split <;> split <;> omega))
    · have hc : ¬ 128 ≤ y1.n 90000 := of_decide_eq_false hc
      rw [ruF_lo (s := (OU.mk (Mm.mk (y.n 200000) (y.n 200001) (y.n 200002) (y.l 4) (y.l 7)) (vals (y.l 6)))) (rdb_v v1y1 g1y1) hc] at hI
      have cw : IntKind.i64.wrap (y1.n 90000 + 1) = y1.n 90000 + 1 := by rw [wi64]; omega
      simp only [cw, q1y1, Int.sub_zero, h, implies_true, if_true]
      ((repeat' (first | exact trivial | with_reducible rfl | assumption | exact rfl | apply And.intro)) <;> first | omega | (intro h; omega) | (split <;> omega) | (split <;> split <;> omega))
  · have h : y.n 100003 = y.n 100002 := by have h0 := h; simp at h0; omega
    have hR := hP.fin (show ((vals (y.l 6)).length : Int) = z.n 100002 by omega)
    ((repeat' (first | exact trivial | with_reducible rfl | assumption | exact rfl | apply And.intro)) <;> omega)
theorem rd_r1 (E : World) (R : AU) (z : PX) (y : PX) :
    (loopP (pe E) Try.f45 (endR ([mSt 2, mO' 2 3, mN 4 5, rowI, rowB, rowN] : List MB).length [mSt 2, mO' 2 6, mN 4 7, .g HOLE, rowB, .g HOLE, rowI, rowN] (.t []) (fun z y => (AU.mk (y.n 1) (OU.mk (Mm.mk (y.n 200000) (y.n 200001) (y.n 200002) (y.l 4) (y.l 7)) (vals (y.l 6)))) = R ∧ (y.n 100001 = z.n 100001 ∧ y.n 100002 = z.n 100002) ∧ okM (Mm.mk (y.n 200000) (y.n 200001) (y.n 200002) (y.l 4) (y.l 7)) ∧ y.n 200002 + z.n 100003 ≤ z.n 200002 + y.n 100003 ∧ (y.l 6).length = (y.n 100003).toNat ∧ y.n 100003 ≤ y.n 100002) z) (headR ([mSt 2, mO' 2 3, mN 4 5, rowI, rowB, rowN] : List MB).length Try.f45.ntmps (some ((fun y => (if y.n 91006 = y.n 91004 - 125 then (y.n 100002 - y.n 100003) * 400 + 8 else (y.n 100002 - y.n 100003) * 400 + 11 + (y.n 91006)).toNat) y)) (rd_hs E R z))  (run (pe E) (orcD E) (tabL fns) 20000 (2 ^ 200 - 1) (rdtt E) (mkL Try.f45.ntmps (slC y [(0, .c (.p 0 0)), (1, .c (.p 1 0)), (4, .r .i64 (128) (255)), (5, .r .i64 (0) (255)), (6, .r .i64 (0) (130))])) (mkM y [] [mSt 2, mO' 2 6, mN 4 7, .g HOLE, rowB, .g HOLE, rowI, rowN] 0))) =
     ((decide (y.n 91006 > 0) = true → ((iO (y.n 100002) (y.l 6) (y.l 4) (y.l 7)) ∧ okM (Mm.mk (y.n 200000) (↑(y.n 200001).toNat : Int) (↑(y.n 200002).toNat : Int) (y.l 4) (y.l 7)) ∧ (↑(y.n 200002).toNat : Int) ≤ 400000 ∧ (y.l 6).length = (↑(y.n 100003).toNat : Int).toNat ∧ (↑(y.n 100003).toNat : Int) ≤ y.n 100002 ∧ 0 ≤ y.n 91005 ∧ y.n 91005 ≤ 255) ∧ ∀ (y_1 : PX), aO y_1 ∧ True ∧ OU.mk (Mm.mk (y_1.n 100000) (y_1.n 100001) (y_1.n 100002) (y_1.l 3) (y_1.l 6)) (vals (y_1.l 5)) = gvF E (y.n 100001) (y.n 100002) (y.n 91005) (OU.mk (Mm.mk (y.n 200000) (↑(y.n 200001).toNat : Int) (↑(y.n 200002).toNat : Int) (y.l 4) (y.l 7)) (vals (y.l 6))) ∧ (y_1.n 1 = y.n 100001 ∧ y_1.n 2 = y.n 100002) ∧ okM (Mm.mk (y_1.n 100000) (y_1.n 100001) (y_1.n 100002) (y_1.l 3) (y_1.l 6)) ∧ y_1.n 100002 + (↑(y.n 100003).toNat : Int) ≤ (↑(y.n 200002).toNat : Int) + y_1.n 3 ∧ (y_1.l 5).length = (y_1.n 3).toNat ∧ y_1.n 3 ≤ y_1.n 2 → rdtt E = rdtt E ∧ 42 = 42 ∧ (True ∧ True ∧ ((128 ≤ y.n 91004 ∧ y.n 91004 ≤ 255) ∧ True) ∧ ((0 ≤ y.n 91005 ∧ y.n 91005 ≤ 255) ∧ True) ∧ ((0 ≤ i64.wrap (y.n 91006 - 1) ∧ i64.wrap (y.n 91006 - 1) ≤ 130) ∧ True) ∧ True) ∧ (eD (y_1.n 2) (y_1.l 3) (y_1.l 5) (y_1.l 6)) ∧ ((RuI E (z.n 100001) (z.n 100002) (AU.mk (y.n 1) (gvN E (z.n 100001) (z.n 100002) (y.n 91005) (i64.wrap (y.n 91006 - 1)).toNat (OU.mk (Mm.mk (y_1.n 100000) (↑(y_1.n 100001).toNat : Int) (↑(y_1.n 100002).toNat : Int) (y_1.l 3) (y_1.l 6)) (vals (y_1.l 5))))) R ∧ (i64.wrap (y.n 91006 - 1) = y.n 91004 - 125 → (↑(y_1.n 3).toNat : Int) < y_1.n 2) ∧ i64.wrap (y.n 91006 - 1) ≤ y.n 91004 - 125) ∧ (y_1.n 1 = z.n 100001 ∧ y_1.n 2 = z.n 100002) ∧ okM (Mm.mk (y_1.n 100000) (↑(y_1.n 100001).toNat : Int) (↑(y_1.n 100002).toNat : Int) (y_1.l 3) (y_1.l 6)) ∧ (↑(y_1.n 100002).toNat : Int) + z.n 100003 ≤ z.n 200002 + (↑(y_1.n 3).toNat : Int) ∧ (y_1.l 5).length = (↑(y_1.n 3).toNat : Int).toNat ∧ (↑(y_1.n 3).toNat : Int) ≤ y_1.n 2) ∧ (if i64.wrap (y.n 91006 - 1) = y.n 91004 - 125 then (y_1.n 2 - (↑(y_1.n 3).toNat : Int)) * (400 : Int) + 8 else (y_1.n 2 - (↑(y_1.n 3).toNat : Int)) * (400 : Int) + 11 + i64.wrap (y.n 91006 - 1)).toNat < (if y.n 91006 = y.n 91004 - 125 then (y.n 100002 - y.n 100003) * (400 : Int) + 8 else (y.n 100002 - y.n 100003) * (400 : Int) + 11 + y.n 91006).toNat ∧ True) ∧ (decide (y.n 91006 > 0) = false → rd_td E = rd_td E ∧ 42 = 42 ∧ (True ∧ True ∧ True) ∧ (eD (y.n 100002) (y.l 4) (y.l 6) (y.l 7)) ∧ (RuI E (z.n 100001) (z.n 100002) (AU.mk (y.n 1) (OU.mk (Mm.mk (y.n 200000) (↑(y.n 200001).toNat : Int) (↑(y.n 200002).toNat : Int) (y.l 4) (y.l 7)) (vals (y.l 6)))) R ∧ (y.n 100001 = z.n 100001 ∧ y.n 100002 = z.n 100002) ∧ okM (Mm.mk (y.n 200000) (↑(y.n 200001).toNat : Int) (↑(y.n 200002).toNat : Int) (y.l 4) (y.l 7)) ∧ (↑(y.n 200002).toNat : Int) + z.n 100003 ≤ z.n 200002 + (↑(y.n 100003).toNat : Int) ∧ (y.l 6).length = (↑(y.n 100003).toNat : Int).toNat ∧ (↑(y.n 100003).toNat : Int) ≤ y.n 100002) ∧ ((y.n 100002 - (↑(y.n 100003).toNat : Int)) * (400 : Int) + 9).toNat < (if y.n 91006 = y.n 91004 - 125 then (y.n 100002 - y.n 100003) * (400 : Int) + 8 else (y.n 100002 - y.n 100003) * (400 : Int) + 11 + y.n 91006).toNat ∧ True)) := by kernel_rfl
set_option maxHeartbeats 8000000 in
theorem rd_q1 (E : World) (R : AU) (z : PX) (hp : (fun z => okM (Mm.mk (z.n 200000) (z.n 200001) (z.n 200002) (z.l 4) (z.l 5)) ∧ z.n 200002 ≤ 200000 + z.n 100003 ∧ (z.l 3).length = (z.n 100003).toNat ∧ z.n 100003 ≤ z.n 100002 ∧ 0 ≤ z.n 100003 ∧ RuI E (z.n 100001) (z.n 100002) (AU.mk (z.n 1) (OU.mk (Mm.mk (z.n 200000) (z.n 200001) (z.n 200002) (z.l 4) (z.l 5)) (vals (z.l 3)))) R) z) (y : PX) (hy1 : rgM y [mSt 2, mO' 2 6, mN 4 7, .g HOLE, rowB, .g HOLE, rowI, rowN] 0) (hy2 : rgF y [(0, .c (.p 0 0)), (1, .c (.p 1 0)), (4, .r .i64 (128) (255)), (5, .r .i64 (0) (255)), (6, .r .i64 (0) (130))]) (hy3 : (fun y => (RuI E (z.n 100001) (z.n 100002) (AU.mk (y.n 1) (gvN E (z.n 100001) (z.n 100002) (y.n 91005) (y.n 91006).toNat (OU.mk (Mm.mk (y.n 200000) (y.n 200001) (y.n 200002) (y.l 4) (y.l 7)) (vals (y.l 6))))) R ∧ (y.n 91006 = y.n 91004 - 125 → y.n 100003 < y.n 100002) ∧ y.n 91006 ≤ y.n 91004 - 125) ∧ (y.n 100001 = z.n 100001 ∧ y.n 100002 = z.n 100002) ∧ okM (Mm.mk (y.n 200000) (y.n 200001) (y.n 200002) (y.l 4) (y.l 7)) ∧ y.n 200002 + z.n 100003 ≤ z.n 200002 + y.n 100003 ∧ (y.l 6).length = (y.n 100003).toNat ∧ y.n 100003 ≤ y.n 100002) y) : Holds ((run (pe E) (orcD E) (tabL fns) 20000 (2 ^ 200 - 1) (rdtt E) (mkL Try.f45.ntmps (slC y [(0, .c (.p 0 0)), (1, .c (.p 1 0)), (4, .r .i64 (128) (255)), (5, .r .i64 (0) (255)), (6, .r .i64 (0) (130))])) (mkM y [] [mSt 2, mO' 2 6, mN 4 7, .g HOLE, rowB, .g HOLE, rowI, rowN] 0)).OK (lfP (pe E) Try.f45 (endR ([mSt 2, mO' 2 3, mN 4 5, rowI, rowB, rowN] : List MB).length [mSt 2, mO' 2 6, mN 4 7, .g HOLE, rowB, .g HOLE, rowI, rowN] (.t []) (fun z y => (AU.mk (y.n 1) (OU.mk (Mm.mk (y.n 200000) (y.n 200001) (y.n 200002) (y.l 4) (y.l 7)) (vals (y.l 6)))) = R ∧ (y.n 100001 = z.n 100001 ∧ y.n 100002 = z.n 100002) ∧ okM (Mm.mk (y.n 200000) (y.n 200001) (y.n 200002) (y.l 4) (y.l 7)) ∧ y.n 200002 + z.n 100003 ≤ z.n 200002 + y.n 100003 ∧ (y.l 6).length = (y.n 100003).toNat ∧ y.n 100003 ≤ y.n 100002) z) (headR ([mSt 2, mO' 2 3, mN 4 5, rowI, rowB, rowN] : List MB).length Try.f45.ntmps (some ((fun y => (if y.n 91006 = y.n 91004 - 125 then (y.n 100002 - y.n 100003) * 400 + 8 else (y.n 100002 - y.n 100003) * 400 + 11 + (y.n 91006)).toNat) y)) (rd_hs E R z)))) := by
  refine loopP_lfH ⟨?_⟩
  rw [rd_r1]
  have hf : True ∧ True ∧ (((128) ≤ y.n 91004 ∧ y.n 91004 ≤ (255)) ∧ True) ∧ (((0) ≤ y.n 91005 ∧ y.n 91005 ≤ (255)) ∧ True) ∧ (((0) ≤ y.n 91006 ∧ y.n 91006 ≤ (130)) ∧ True) ∧ True := hy2
  obtain ⟨_, _, ⟨g4, _⟩, ⟨g5, _⟩, ⟨g6, _⟩, _⟩ := hf
  obtain ⟨⟨hP, hf, hx⟩, ⟨h2, h3⟩, hK, hgr, hl, hle⟩ := hy3
  obtain ⟨hKz, hnz, hlz, hlez, hz0, hPz⟩ := hp
  have hf1 : flat [Sp.r .u8 0 255] = true := rfl
  have hf2 : flat [Sp.i .u32, Sp.i .i64, Sp.i .u32] = true := rfl
  have hf3 : flat [Sp.r .i64 0 255] = true := rfl
  obtain ⟨usy, u4y, _⟩ : (0 ≤ y.n 100002 ∧ y.n 100002 ≤ 65535) ∧ 0 ≤ y.n 100003 ∧ True := hy1.2.1
  obtain ⟨b1y, b2y, _⟩ : 0 ≤ y.n 200001 ∧ 0 ≤ y.n 200002 ∧ True := hy1.2.2.1
  have T1y : ((y.n 200001).toNat : Int) = y.n 200001 := Int.toNat_of_nonneg b1y
  have T2y : ((y.n 200002).toNat : Int) = y.n 200002 := Int.toNat_of_nonneg b2y
  have T4y : ((y.n 100003).toNat : Int) = y.n 100003 := Int.toNat_of_nonneg u4y
  have roy : Row [.r .i64 0 255] (y.l 6) := hy1.2.2.2.2.1.2
  have rby : Row [.r .u8 0 255] (y.l 4) := hy1.2.2.2.1.2
  have rny : Row [.i .u32, .i .i64, .i .u32] (y.l 7) := hy1.2.2.2.2.2.1.2
  have vl : ((vals (y.l 6)).length : Int) = y.n 100003 := by rw [vals_len]; omega
  have w : IntKind.i64.wrap (y.n 91006 - 1) = y.n 91006 - 1 := by rw [wi64]; omega
  simp only [T1y, T2y, T4y, w]
  refine ⟨fun hb => ?_, fun hb => ?_⟩
  · have hb : 0 < (y.n 91006) := by have := of_decide_eq_true hb; omega
    rw [gvN_s hb] at hP
    refine ⟨by ((repeat' (first | exact trivial | with_reducible rfl | assumption | exact rfl | apply And.intro)) <;> omega), ?_⟩
    rintro y2 ⟨hu2, _, hq, ⟨e2, e3⟩, hK2, hg2, hl2, hle2⟩
    obtain ⟨usy2, u4y2, _⟩ : (0 ≤ y2.n 2 ∧ y2.n 2 ≤ 65535) ∧ 0 ≤ y2.n 3 ∧ True := hu2.1
    obtain ⟨b1y2, b2y2, _⟩ : 0 ≤ y2.n 100001 ∧ 0 ≤ y2.n 100002 ∧ True := hu2.2.1
    have T1y2 : ((y2.n 100001).toNat : Int) = y2.n 100001 := Int.toNat_of_nonneg b1y2
    have T2y2 : ((y2.n 100002).toNat : Int) = y2.n 100002 := Int.toNat_of_nonneg b2y2
    have T4y2 : ((y2.n 3).toNat : Int) = y2.n 3 := Int.toNat_of_nonneg u4y2
    have roy2 : Row [.r .i64 0 255] (y2.l 5) := hu2.2.2.2.1.2
    have rby2 : Row [.r .u8 0 255] (y2.l 3) := hu2.2.2.1.2
    have rny2 : Row [.i .u32, .i .i64, .i .u32] (y2.l 6) := hu2.2.2.2.2.1.2
    simp only [T1y2, T2y2, T4y2]
    rw [h2, h3] at hq
    rw [← hq] at hP
    have hlen : y.n 100003 ≤ y2.n 3 ∧ (y.n 100003 < y.n 100002 → y2.n 3 = y.n 100003 + 1) := by
      have hv : (vals (y2.l 5)).length = _ := congrArg (fun s : OU => s.o.length) hq
      rw [vals_len] at hv
      have vl' : ((OU.mk (Mm.mk (y.n 200000) (y.n 200001) (y.n 200002) (y.l 4) (y.l 7)) (vals (y.l 6))).o.length : Int) = y.n 100003 := vl
      refine ⟨?_, fun hn => ?_⟩
      · have hg : (OU.mk (Mm.mk (y.n 200000) (y.n 200001) (y.n 200002) (y.l 4) (y.l 7)) (vals (y.l 6))).o.length ≤ _ := Nat.le_trans gvF_ge (Nat.le_of_eq hv.symm)
        omega
      · rw [gvF_len (by omega)] at hv; omega
    ((repeat' (first | exact trivial | with_reducible rfl | assumption | exact rfl | apply And.intro)) <;> first | omega | (intro h; omega) | (split <;> omega) | (split <;> split <;> omega))
  · have hb : (y.n 91006) ≤ 0 := by have := of_decide_eq_false hb; omega
    rw [gvN_0 hb] at hP
    ((repeat' (first | exact trivial | with_reducible rfl | assumption | exact rfl | apply And.intro)) <;> first | omega | (intro h; omega) | (split <;> omega) | (split <;> split <;> omega))
theorem rd_r2 (E : World) (R : AU) (z : PX) (y : PX) :
    (loopP (pe E) Try.f45 (endR ([mSt 2, mO' 2 3, mN 4 5, rowI, rowB, rowN] : List MB).length [mSt 2, mO' 2 6, mN 4 7, .g HOLE, rowB, .g HOLE, rowI, rowN] (.t []) (fun z y => (AU.mk (y.n 1) (OU.mk (Mm.mk (y.n 200000) (y.n 200001) (y.n 200002) (y.l 4) (y.l 7)) (vals (y.l 6)))) = R ∧ (y.n 100001 = z.n 100001 ∧ y.n 100002 = z.n 100002) ∧ okM (Mm.mk (y.n 200000) (y.n 200001) (y.n 200002) (y.l 4) (y.l 7)) ∧ y.n 200002 + z.n 100003 ≤ z.n 200002 + y.n 100003 ∧ (y.l 6).length = (y.n 100003).toNat ∧ y.n 100003 ≤ y.n 100002) z) (headR ([mSt 2, mO' 2 3, mN 4 5, rowI, rowB, rowN] : List MB).length Try.f45.ntmps (some ((fun y => (if y.n 91007 = y.n 91004 + 1 then (y.n 100002 - y.n 100003) * 400 + 8 else (y.n 100002 - y.n 100003) * 400 + 11 + (y.n 91007)).toNat) y)) (rd_hs E R z))  (run (pe E) (orcD E) (tabL fns) 20000 (2 ^ 200 - 1) (rdtf E) (mkL Try.f45.ntmps (slC y [(0, .c (.p 0 0)), (1, .c (.p 1 0)), (4, .r .i64 (0) (127)), (7, .r .i64 (0) (128))])) (mkM y [] [mSt 2, mO' 2 6, mN 4 7, .g HOLE, rowB, .g HOLE, rowI, rowN] 0))) =
     ((decide (y.n 91007 > 0) = true → ((!decide ((↑(y.n 100003).toNat : Int) ≥ y.n 100002)) = true → ((eM (y.l 4) (y.l 7)) ∧ okM (Mm.mk (y.n 200000) (↑(y.n 200001).toNat : Int) (↑(y.n 200002).toNat : Int) (y.l 4) (y.l 7))) ∧ ∀ (y_1 : PX), aM y_1 2 ∧ ((0 ≤ y_1.n 90000 ∧ y_1.n 90000 ≤ 255) ∧ True) ∧ Mm.mk (y_1.n 0) (y_1.n 1) (y_1.n 2) (y_1.l 1) (y_1.l 2) = Mm.mk (y.n 200000) (↑(y.n 200001).toNat : Int) (↑(y.n 200002).toNat : Int) (y.l 4) (y.l 7) ∧ y_1.n 90000 = rdv1 E (y.n 1) (Mm.mk (y.n 200000) (↑(y.n 200001).toNat : Int) (↑(y.n 200002).toNat : Int) (y.l 4) (y.l 7)) → ((iO (y.n 100002) (y.l 6) (y_1.l 1) (y_1.l 2)) ∧ okM (Mm.mk (y_1.n 0) (↑(y_1.n 1).toNat : Int) (↑(y_1.n 2).toNat : Int) (y_1.l 1) (y_1.l 2)) ∧ (↑(y_1.n 2).toNat : Int) ≤ 400000 ∧ (y.l 6).length = (↑(y.n 100003).toNat : Int).toNat ∧ (↑(y.n 100003).toNat : Int) ≤ y.n 100002 ∧ 0 ≤ i64.wrap (y_1.n 90000) ∧ i64.wrap (y_1.n 90000) ≤ 255) ∧ ∀ (y_2 : PX), aO y_2 ∧ True ∧ OU.mk (Mm.mk (y_2.n 100000) (y_2.n 100001) (y_2.n 100002) (y_2.l 3) (y_2.l 6)) (vals (y_2.l 5)) = gvF E (y.n 100001) (y.n 100002) (i64.wrap (y_1.n 90000)) (OU.mk (Mm.mk (y_1.n 0) (↑(y_1.n 1).toNat : Int) (↑(y_1.n 2).toNat : Int) (y_1.l 1) (y_1.l 2)) (vals (y.l 6))) ∧ (y_2.n 1 = y.n 100001 ∧ y_2.n 2 = y.n 100002) ∧ okM (Mm.mk (y_2.n 100000) (y_2.n 100001) (y_2.n 100002) (y_2.l 3) (y_2.l 6)) ∧ y_2.n 100002 + (↑(y.n 100003).toNat : Int) ≤ (↑(y_1.n 2).toNat : Int) + y_2.n 3 ∧ (y_2.l 5).length = (y_2.n 3).toNat ∧ y_2.n 3 ≤ y_2.n 2 → rdtf E = rdtf E ∧ 42 = 42 ∧ (True ∧ True ∧ ((0 ≤ y.n 91004 ∧ y.n 91004 ≤ 127) ∧ True) ∧ ((0 ≤ i64.wrap (y.n 91007 - 1) ∧ i64.wrap (y.n 91007 - 1) ≤ 128) ∧ True) ∧ True) ∧ (eD (y_2.n 2) (y_2.l 3) (y_2.l 5) (y_2.l 6)) ∧ ((RuI E (z.n 100001) (z.n 100002) (ltF E (z.n 100001) (z.n 100002) (i64.wrap (y.n 91007 - 1)).toNat (AU.mk (u32.wrap (y.n 1 + 1)) (OU.mk (Mm.mk (y_2.n 100000) (↑(y_2.n 100001).toNat : Int) (↑(y_2.n 100002).toNat : Int) (y_2.l 3) (y_2.l 6)) (vals (y_2.l 5))))) R ∧ (i64.wrap (y.n 91007 - 1) = y.n 91004 + 1 → (↑(y_2.n 3).toNat : Int) < y_2.n 2) ∧ i64.wrap (y.n 91007 - 1) ≤ y.n 91004 + 1) ∧ (y_2.n 1 = z.n 100001 ∧ y_2.n 2 = z.n 100002) ∧ okM (Mm.mk (y_2.n 100000) (↑(y_2.n 100001).toNat : Int) (↑(y_2.n 100002).toNat : Int) (y_2.l 3) (y_2.l 6)) ∧ (↑(y_2.n 100002).toNat : Int) + z.n 100003 ≤ z.n 200002 + (↑(y_2.n 3).toNat : Int) ∧ (y_2.l 5).length = (↑(y_2.n 3).toNat : Int).toNat ∧ (↑(y_2.n 3).toNat : Int) ≤ y_2.n 2) ∧ (if i64.wrap (y.n 91007 - 1) = y.n 91004 + 1 then (y_2.n 2 - (↑(y_2.n 3).toNat : Int)) * (400 : Int) + 8 else (y_2.n 2 - (↑(y_2.n 3).toNat : Int)) * (400 : Int) + 11 + i64.wrap (y.n 91007 - 1)).toNat < (if y.n 91007 = y.n 91004 + 1 then (y.n 100002 - y.n 100003) * (400 : Int) + 8 else (y.n 100002 - y.n 100003) * (400 : Int) + 11 + y.n 91007).toNat ∧ True) ∧ ((!decide ((↑(y.n 100003).toNat : Int) ≥ y.n 100002)) = false → rd_td E = rd_td E ∧ 42 = 42 ∧ (True ∧ True ∧ True) ∧ (eD (y.n 100002) (y.l 4) (y.l 6) (y.l 7)) ∧ (RuI E (z.n 100001) (z.n 100002) (AU.mk (y.n 1) (OU.mk (Mm.mk (y.n 200000) (↑(y.n 200001).toNat : Int) (↑(y.n 200002).toNat : Int) (y.l 4) (y.l 7)) (vals (y.l 6)))) R ∧ (y.n 100001 = z.n 100001 ∧ y.n 100002 = z.n 100002) ∧ okM (Mm.mk (y.n 200000) (↑(y.n 200001).toNat : Int) (↑(y.n 200002).toNat : Int) (y.l 4) (y.l 7)) ∧ (↑(y.n 200002).toNat : Int) + z.n 100003 ≤ z.n 200002 + (↑(y.n 100003).toNat : Int) ∧ (y.l 6).length = (↑(y.n 100003).toNat : Int).toNat ∧ (↑(y.n 100003).toNat : Int) ≤ y.n 100002) ∧ ((y.n 100002 - (↑(y.n 100003).toNat : Int)) * (400 : Int) + 9).toNat < (if y.n 91007 = y.n 91004 + 1 then (y.n 100002 - y.n 100003) * (400 : Int) + 8 else (y.n 100002 - y.n 100003) * (400 : Int) + 11 + y.n 91007).toNat ∧ True)) ∧ (decide (y.n 91007 > 0) = false → rd_td E = rd_td E ∧ 42 = 42 ∧ (True ∧ True ∧ True) ∧ (eD (y.n 100002) (y.l 4) (y.l 6) (y.l 7)) ∧ (RuI E (z.n 100001) (z.n 100002) (AU.mk (y.n 1) (OU.mk (Mm.mk (y.n 200000) (↑(y.n 200001).toNat : Int) (↑(y.n 200002).toNat : Int) (y.l 4) (y.l 7)) (vals (y.l 6)))) R ∧ (y.n 100001 = z.n 100001 ∧ y.n 100002 = z.n 100002) ∧ okM (Mm.mk (y.n 200000) (↑(y.n 200001).toNat : Int) (↑(y.n 200002).toNat : Int) (y.l 4) (y.l 7)) ∧ (↑(y.n 200002).toNat : Int) + z.n 100003 ≤ z.n 200002 + (↑(y.n 100003).toNat : Int) ∧ (y.l 6).length = (↑(y.n 100003).toNat : Int).toNat ∧ (↑(y.n 100003).toNat : Int) ≤ y.n 100002) ∧ ((y.n 100002 - (↑(y.n 100003).toNat : Int)) * (400 : Int) + 9).toNat < (if y.n 91007 = y.n 91004 + 1 then (y.n 100002 - y.n 100003) * (400 : Int) + 8 else (y.n 100002 - y.n 100003) * (400 : Int) + 11 + y.n 91007).toNat ∧ True)) := by kernel_rfl
set_option maxHeartbeats 8000000 in
theorem rd_q2 (E : World) (R : AU) (z : PX) (hp : (fun z => okM (Mm.mk (z.n 200000) (z.n 200001) (z.n 200002) (z.l 4) (z.l 5)) ∧ z.n 200002 ≤ 200000 + z.n 100003 ∧ (z.l 3).length = (z.n 100003).toNat ∧ z.n 100003 ≤ z.n 100002 ∧ 0 ≤ z.n 100003 ∧ RuI E (z.n 100001) (z.n 100002) (AU.mk (z.n 1) (OU.mk (Mm.mk (z.n 200000) (z.n 200001) (z.n 200002) (z.l 4) (z.l 5)) (vals (z.l 3)))) R) z) (y : PX) (hy1 : rgM y [mSt 2, mO' 2 6, mN 4 7, .g HOLE, rowB, .g HOLE, rowI, rowN] 0) (hy2 : rgF y [(0, .c (.p 0 0)), (1, .c (.p 1 0)), (4, .r .i64 (0) (127)), (7, .r .i64 (0) (128))]) (hy3 : (fun y => (RuI E (z.n 100001) (z.n 100002) (ltF E (z.n 100001) (z.n 100002) (y.n 91007).toNat (AU.mk (y.n 1) (OU.mk (Mm.mk (y.n 200000) (y.n 200001) (y.n 200002) (y.l 4) (y.l 7)) (vals (y.l 6))))) R ∧ (y.n 91007 = y.n 91004 + 1 → y.n 100003 < y.n 100002) ∧ y.n 91007 ≤ y.n 91004 + 1) ∧ (y.n 100001 = z.n 100001 ∧ y.n 100002 = z.n 100002) ∧ okM (Mm.mk (y.n 200000) (y.n 200001) (y.n 200002) (y.l 4) (y.l 7)) ∧ y.n 200002 + z.n 100003 ≤ z.n 200002 + y.n 100003 ∧ (y.l 6).length = (y.n 100003).toNat ∧ y.n 100003 ≤ y.n 100002) y) : Holds ((run (pe E) (orcD E) (tabL fns) 20000 (2 ^ 200 - 1) (rdtf E) (mkL Try.f45.ntmps (slC y [(0, .c (.p 0 0)), (1, .c (.p 1 0)), (4, .r .i64 (0) (127)), (7, .r .i64 (0) (128))])) (mkM y [] [mSt 2, mO' 2 6, mN 4 7, .g HOLE, rowB, .g HOLE, rowI, rowN] 0)).OK (lfP (pe E) Try.f45 (endR ([mSt 2, mO' 2 3, mN 4 5, rowI, rowB, rowN] : List MB).length [mSt 2, mO' 2 6, mN 4 7, .g HOLE, rowB, .g HOLE, rowI, rowN] (.t []) (fun z y => (AU.mk (y.n 1) (OU.mk (Mm.mk (y.n 200000) (y.n 200001) (y.n 200002) (y.l 4) (y.l 7)) (vals (y.l 6)))) = R ∧ (y.n 100001 = z.n 100001 ∧ y.n 100002 = z.n 100002) ∧ okM (Mm.mk (y.n 200000) (y.n 200001) (y.n 200002) (y.l 4) (y.l 7)) ∧ y.n 200002 + z.n 100003 ≤ z.n 200002 + y.n 100003 ∧ (y.l 6).length = (y.n 100003).toNat ∧ y.n 100003 ≤ y.n 100002) z) (headR ([mSt 2, mO' 2 3, mN 4 5, rowI, rowB, rowN] : List MB).length Try.f45.ntmps (some ((fun y => (if y.n 91007 = y.n 91004 + 1 then (y.n 100002 - y.n 100003) * 400 + 8 else (y.n 100002 - y.n 100003) * 400 + 11 + (y.n 91007)).toNat) y)) (rd_hs E R z)))) := by
  refine loopP_lfH ⟨?_⟩
  rw [rd_r2]
  have hf : True ∧ True ∧ (((0) ≤ y.n 91004 ∧ y.n 91004 ≤ (127)) ∧ True) ∧ (((0) ≤ y.n 91007 ∧ y.n 91007 ≤ (128)) ∧ True) ∧ True := hy2
  obtain ⟨_, _, ⟨g4, _⟩, ⟨g7, _⟩, _⟩ := hf
  obtain ⟨⟨hP, hf, hx⟩, ⟨h2, h3⟩, hK, hgr, hl, hle⟩ := hy3
  obtain ⟨hKz, hnz, hlz, hlez, hz0, hPz⟩ := hp
  have hf1 : flat [Sp.r .u8 0 255] = true := rfl
  have hf2 : flat [Sp.i .u32, Sp.i .i64, Sp.i .u32] = true := rfl
  have hf3 : flat [Sp.r .i64 0 255] = true := rfl
  obtain ⟨usy, u4y, _⟩ : (0 ≤ y.n 100002 ∧ y.n 100002 ≤ 65535) ∧ 0 ≤ y.n 100003 ∧ True := hy1.2.1
  obtain ⟨b1y, b2y, _⟩ : 0 ≤ y.n 200001 ∧ 0 ≤ y.n 200002 ∧ True := hy1.2.2.1
  have T1y : ((y.n 200001).toNat : Int) = y.n 200001 := Int.toNat_of_nonneg b1y
  have T2y : ((y.n 200002).toNat : Int) = y.n 200002 := Int.toNat_of_nonneg b2y
  have T4y : ((y.n 100003).toNat : Int) = y.n 100003 := Int.toNat_of_nonneg u4y
  have roy : Row [.r .i64 0 255] (y.l 6) := hy1.2.2.2.2.1.2
  have rby : Row [.r .u8 0 255] (y.l 4) := hy1.2.2.2.1.2
  have rny : Row [.i .u32, .i .i64, .i .u32] (y.l 7) := hy1.2.2.2.2.2.1.2
  have vl : ((vals (y.l 6)).length : Int) = y.n 100003 := by rw [vals_len]; omega
  have w : IntKind.i64.wrap (y.n 91007 - 1) = y.n 91007 - 1 := by rw [wi64]; omega
  simp only [T1y, T2y, T4y, w]
  refine ⟨fun hb => ⟨fun h => ?_, fun h => ?_⟩, fun hb => ?_⟩
  · have h : y.n 100003 < y.n 100002 := by have h0 := h; simp at h0; omega
    have hb : 0 < (y.n 91007) := by have := of_decide_eq_true hb; omega
    rw [ltF_s (show (((AU.mk (y.n 1) (OU.mk (Mm.mk (y.n 200000) (y.n 200001) (y.n 200002) (y.l 4) (y.l 7)) (vals (y.l 6)))).u.o).length : Int) ≠ z.n 100002 by show ((vals (y.l 6)).length : Int) ≠ _; omega) hb] at hP
    refine ⟨⟨by ((repeat' (first | exact trivial | with_reducible rfl | assumption | exact rfl | apply And.intro)) <;> omega), hK⟩, ?_⟩
    rintro y1 ⟨⟨⟨p1y1, p2y1, _⟩, ⟨_, q3y1⟩, ⟨_, q6y1⟩, _⟩, ⟨g1y1, _⟩, q1y1, v1y1⟩
    have S1y1 : ((y1.n 1).toNat : Int) = y1.n 1 := Int.toNat_of_nonneg p1y1
    have S2y1 : ((y1.n 2).toNat : Int) = y1.n 2 := Int.toNat_of_nonneg p2y1
    have hKy1 : okM (Mm.mk (y1.n 0) (y1.n 1) (y1.n 2) (y1.l 1) (y1.l 2)) := by rw [q1y1]; exact hK
    have cy1 : y1.n 2 = y.n 200002 := congrArg Mm.nn q1y1
    have e8y1 : IntKind.u8.wrap (y1.n 90000) = y1.n 90000 := by rw [wu8]; omega
    have e64y1 : IntKind.i64.wrap (y1.n 90000) = y1.n 90000 := by rw [wi64]; omega
    simp only [S1y1, S2y1, e8y1, e64y1]
    refine ⟨by ((repeat' (first | exact trivial | with_reducible rfl | assumption | exact rfl | apply And.intro)) <;> omega), ?_⟩
    rintro y2 ⟨hu2, _, hq, ⟨e2, e3⟩, hK2, hg2, hl2, hle2⟩
    obtain ⟨usy2, u4y2, _⟩ : (0 ≤ y2.n 2 ∧ y2.n 2 ≤ 65535) ∧ 0 ≤ y2.n 3 ∧ True := hu2.1
    obtain ⟨b1y2, b2y2, _⟩ : 0 ≤ y2.n 100001 ∧ 0 ≤ y2.n 100002 ∧ True := hu2.2.1
    have T1y2 : ((y2.n 100001).toNat : Int) = y2.n 100001 := Int.toNat_of_nonneg b1y2
    have T2y2 : ((y2.n 100002).toNat : Int) = y2.n 100002 := Int.toNat_of_nonneg b2y2
    have T4y2 : ((y2.n 3).toNat : Int) = y2.n 3 := Int.toNat_of_nonneg u4y2
    have roy2 : Row [.r .i64 0 255] (y2.l 5) := hu2.2.2.2.1.2
    have rby2 : Row [.r .u8 0 255] (y2.l 3) := hu2.2.2.1.2
    have rny2 : Row [.i .u32, .i .i64, .i .u32] (y2.l 6) := hu2.2.2.2.2.1.2
    simp only [T1y2, T2y2, T4y2]
    rw [q1y1, h2, h3] at hq
    have hP2 : RuI E (z.n 100001) (z.n 100002) (ltF E (z.n 100001) (z.n 100002) ((y.n 91007) - 1).toNat (AU.mk (IntKind.u32.wrap (y.n 1 + 1)) (gvF E (z.n 100001) (z.n 100002) (rdb E (y.n 1) (Mm.mk (y.n 200000) (y.n 200001) (y.n 200002) (y.l 4) (y.l 7))) (OU.mk (Mm.mk (y.n 200000) (y.n 200001) (y.n 200002) (y.l 4) (y.l 7)) (vals (y.l 6)))))) R := hP
    rw [rdb_v v1y1 g1y1, ← hq] at hP2
    have hlen : y.n 100003 ≤ y2.n 3 ∧ (y.n 100003 < y.n 100002 → y2.n 3 = y.n 100003 + 1) := by
      have hv : (vals (y2.l 5)).length = _ := congrArg (fun s : OU => s.o.length) hq
      rw [vals_len] at hv
      have vl' : ((OU.mk (Mm.mk (y.n 200000) (y.n 200001) (y.n 200002) (y.l 4) (y.l 7)) (vals (y.l 6))).o.length : Int) = y.n 100003 := vl
      refine ⟨?_, fun hn => ?_⟩
      · have hg : (OU.mk (Mm.mk (y.n 200000) (y.n 200001) (y.n 200002) (y.l 4) (y.l 7)) (vals (y.l 6))).o.length ≤ _ := Nat.le_trans gvF_ge (Nat.le_of_eq hv.symm)
        omega
      · rw [gvF_len (by omega)] at hv; omega
    ((repeat' (first | exact trivial | with_reducible rfl | assumption | exact rfl | apply And.intro)) <;> first | omega | (intro h; omega) | (split <;> omega) | (split <;> split <;> omega))
  · have h : y.n 100003 = y.n 100002 := by have h0 := h; simp at h0; omega
    rw [ltF_full (show ((vals (y.l 6)).length : Int) = z.n 100002 by omega)] at hP
    
    ((repeat' (first | exact trivial | with_reducible rfl | assumption | exact rfl | apply And.intro)) <;> first | omega | (intro h; omega) | (split <;> omega) | (split <;> split <;> omega))
  · have hb : (y.n 91007) ≤ 0 := by have := of_decide_eq_false hb; omega
    rw [ltF_0 hb] at hP
    ((repeat' (first | exact trivial | with_reducible rfl | assumption | exact rfl | apply And.intro)) <;> first | omega | (intro h; omega) | (split <;> omega) | (split <;> split <;> omega))
set_option maxHeartbeats 8000000 in
theorem rd_c (E : World) (R : AU) (z : PX) (hz : rgM z [mSt 2, mO' 2 3, mN 4 5, rowI, rowB, rowN] 0) (hp : (fun z => okM (Mm.mk (z.n 200000) (z.n 200001) (z.n 200002) (z.l 4) (z.l 5)) ∧ z.n 200002 ≤ 200000 + z.n 100003 ∧ (z.l 3).length = (z.n 100003).toNat ∧ z.n 100003 ≤ z.n 100002 ∧ 0 ≤ z.n 100003 ∧ RuI E (z.n 100001) (z.n 100002) (AU.mk (z.n 1) (OU.mk (Mm.mk (z.n 200000) (z.n 200001) (z.n 200002) (z.l 4) (z.l 5)) (vals (z.l 3)))) R) z) : HD (pe E) 45 [.c (.p 0 0), .c (.p 1 0)] [mSt 2, mO' 2 3, mN 4 5, rowI, rowB, rowN] [mSt 2, mO' 2 6, mN 4 7, .g HOLE, rowB, .g HOLE, rowI, rowN] (.t []) (fun z y => (AU.mk (y.n 1) (OU.mk (Mm.mk (y.n 200000) (y.n 200001) (y.n 200002) (y.l 4) (y.l 7)) (vals (y.l 6)))) = R ∧ (y.n 100001 = z.n 100001 ∧ y.n 100002 = z.n 100002) ∧ okM (Mm.mk (y.n 200000) (y.n 200001) (y.n 200002) (y.l 4) (y.l 7)) ∧ y.n 200002 + z.n 100003 ≤ z.n 200002 + y.n 100003 ∧ (y.l 6).length = (y.n 100003).toNat ∧ y.n 100003 ≤ y.n 100002) z := by
  refine HD.loop (P := pe E) orcD_ok tab_ok tab_sz mixed Try.func45 (c := Try.f45.body.getD .skip) rfl (by decide) (Nat.le_of_ble_eq_true rfl) (by rfl) 20000 (2 ^ 200 - 1) (rd_hs E R z) (by rfl) (loopP_lfH ⟨?_⟩) ?_
  · rw [rd_pro]
    obtain ⟨hK, hnz, hl, hle, hz0, hPz⟩ := hp
    have hf1 : flat [Sp.r .u8 0 255] = true := rfl
    have hf2 : flat [Sp.i .u32, Sp.i .i64, Sp.i .u32] = true := rfl
    have hf3 : flat [Sp.r .i64 0 255] = true := rfl
    obtain ⟨usz, u4z, _⟩ : (0 ≤ z.n 100002 ∧ z.n 100002 ≤ 65535) ∧ 0 ≤ z.n 100003 ∧ True := hz.2.1
    obtain ⟨b1z, b2z, _⟩ : 0 ≤ z.n 200001 ∧ 0 ≤ z.n 200002 ∧ True := hz.2.2.1
    have T1z : ((z.n 200001).toNat : Int) = z.n 200001 := Int.toNat_of_nonneg b1z
    have T2z : ((z.n 200002).toNat : Int) = z.n 200002 := Int.toNat_of_nonneg b2z
    have T4z : ((z.n 100003).toNat : Int) = z.n 100003 := Int.toNat_of_nonneg u4z
    have roz : Row [.r .i64 0 255] (z.l 3) := hz.2.2.2.1.2
    have rbz : Row [.r .u8 0 255] (z.l 4) := hz.2.2.2.2.1.2
    have rnz : Row [.i .u32, .i .i64, .i .u32] (z.l 5) := hz.2.2.2.2.2.1.2
    simp only [T1z, T2z, T4z]
    ((repeat' (first | exact trivial | with_reducible rfl | assumption | exact rfl | apply And.intro)) <;> first | omega | (intro h; omega) | (split <;> omega) | (split <;> split <;> omega))
  · intro h hmem y hy1 hy2 hy3
    simp only [rd_hs, List.mem_cons, List.not_mem_nil, or_false] at hmem
    rcases hmem with rfl | rfl | rfl
    · exact rd_q0 E R z hp y hy1 hy2 hy3
    · exact rd_q1 E R z hp y hy1 hy2 hy3
    · exact rd_q2 E R z hp y hy1 hy2 hy3
end Go.Proofs.Ytabklphoccicmaa

