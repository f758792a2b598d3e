import Derived.Test.YtabklphoccicmaaNH
set_option linter.unusedVariables false
set_option linter.unusedSimpArgs false
namespace Go.Proofs.Ytabklphoccicmaa
open Go Go.Proofs Go.Proofs.Ytabklphoccicmaa.Ev Go.Proofs.Ytabklphoccicmaa.Ev.Ho Go.IntKind
set_option maxRecDepth 100000
theorem pc_r1 (E : World) (R : AU) (z : PX) (y : PX) :
    (loopP (pe E) Try.f39 (endR ([mS 2, mN 3 4, rowB, rowB, rowN] : List MB).length [mS 5, mN 3 6, .g HOLE, rowB, .g HOLE, rowB, rowN] (.t []) (fun z y => AU.mk (y.n 1) (OU.mk (Mm.mk (y.n 100000) (y.n 100001) (y.n 100002) (y.l 3) (y.l 6)) (vals (y.l 5))) = R ∧ (y.n 2 = z.n 2 ∧ y.n 3 = z.n 3) ∧ okM (Mm.mk (y.n 100000) (y.n 100001) (y.n 100002) (y.l 3) (y.l 6)) ∧ y.n 100002 + z.n 4 ≤ z.n 100002 + y.n 4 ∧ (y.l 5).length = (y.n 4).toNat ∧ y.n 4 ≤ y.n 3) z) (headR ([mS 2, mN 3 4, rowB, rowB, rowN] : List MB).length Try.f39.ntmps (some ((fun y => (if y.n 91003 = 7 then (y.n 3 - y.n 4) * 20 + 8 else (y.n 3 - y.n 4) * 20 + 11 + y.n 91003).toNat) y)) (pc_hs E R z))  (run (pe E) (orcH E) (tabL fns) 20000 (2 ^ 200 - 1) (pc2_td E) (mkL Try.f39.ntmps (slC y [(0, .c (.p 0 0)), (2, .r .u8 (0) (255)), (3, .r .i64 ((-1)) (7))])) (mkM y [] [mS 5, mN 3 6, .g HOLE, rowB, .g HOLE, rowB, rowN] 0))) =
     ((decide (y.n 91003 ≥ 0) = true → ((!(↑(y.n 4).toNat : Int) == y.n 3) = true → decide (0 ≤ y.n 91003) = true ∧ ((bits BinOp.and u8 ((y.n 91002).fdiv (2 ^ min (y.n 91003).toNat (8 : Nat))) (1 : Int) == 0) = true → ((eM (y.l 3) (y.l 6)) ∧ okM (Mm.mk (y.n 100000) (↑(y.n 100001).toNat : Int) (↑(y.n 100002).toNat : Int) (y.l 3) (y.l 6))) ∧ ∀ (y_1 : PX), aM y_1 2 ∧ ((0 ≤ y_1.n 90000 ∧ y_1.n 90000 ≤ 255) ∧ True) ∧ Mm.mk (y_1.n 0) (y_1.n 1) (y_1.n 2) (y_1.l 1) (y_1.l 2) = Mm.mk (y.n 100000) (↑(y.n 100001).toNat : Int) (↑(y.n 100002).toNat : Int) (y.l 3) (y.l 6) ∧ y_1.n 90000 = rdv1 E (y.n 1) (Mm.mk (y.n 100000) (↑(y.n 100001).toNat : Int) (↑(y.n 100002).toNat : Int) (y.l 3) (y.l 6)) → ((iP (y.n 3) (y.l 5) (y_1.l 1) (y_1.l 2)) ∧ okM (Mm.mk (y_1.n 0) (↑(y_1.n 1).toNat : Int) (↑(y_1.n 2).toNat : Int) (y_1.l 1) (y_1.l 2)) ∧ (↑(y_1.n 2).toNat : Int) ≤ 400000 ∧ (y.l 5).length = (↑(y.n 4).toNat : Int).toNat ∧ (↑(y.n 4).toNat : Int) ≤ y.n 3 ∧ 0 ≤ u8.wrap (y_1.n 90000) ∧ u8.wrap (y_1.n 90000) ≤ 255) ∧ ∀ (y_2 : PX), aP y_2 ∧ True ∧ OU.mk (Mm.mk (y_2.n 100000) (y_2.n 100001) (y_2.n 100002) (y_2.l 3) (y_2.l 6)) (vals (y_2.l 5)) = gvF E (y.n 2) (y.n 3) (u8.wrap (y_1.n 90000)) (OU.mk (Mm.mk (y_1.n 0) (↑(y_1.n 1).toNat : Int) (↑(y_1.n 2).toNat : Int) (y_1.l 1) (y_1.l 2)) (vals (y.l 5))) ∧ (y_2.n 1 = u32.wrap (y.n 1 + 1) ∧ y_2.n 2 = y.n 2 ∧ y_2.n 3 = y.n 3) ∧ okM (Mm.mk (y_2.n 100000) (y_2.n 100001) (y_2.n 100002) (y_2.l 3) (y_2.l 6)) ∧ y_2.n 100002 + (↑(y.n 4).toNat : Int) ≤ (↑(y_1.n 2).toNat : Int) + y_2.n 4 ∧ (y_2.l 5).length = (y_2.n 4).toNat ∧ y_2.n 4 ≤ y_2.n 3 → pc2_td E = pc2_td E ∧ 47 = 47 ∧ (True ∧ ((0 ≤ y.n 91002 ∧ y.n 91002 ≤ 255) ∧ True) ∧ (((-1) ≤ i64.wrap (y.n 91003 - 1) ∧ i64.wrap (y.n 91003 - 1) ≤ 7) ∧ True) ∧ True) ∧ (eP (y_2.n 3) (y_2.l 3) (y_2.l 5) (y_2.l 6)) ∧ ((PcI E (z.n 2) (z.n 3) (inF E (z.n 2) (z.n 3) (y.n 91002) (i64.wrap (y.n 91003 - 1) + 1).toNat (AU.mk (y_2.n 1) (OU.mk (Mm.mk (y_2.n 100000) (↑(y_2.n 100001).toNat : Int) (↑(y_2.n 100002).toNat : Int) (y_2.l 3) (y_2.l 6)) (vals (y_2.l 5))))) R ∧ (i64.wrap (y.n 91003 - 1) = 7 → (↑(y_2.n 4).toNat : Int) < y_2.n 3)) ∧ (y_2.n 2 = z.n 2 ∧ y_2.n 3 = z.n 3) ∧ okM (Mm.mk (y_2.n 100000) (↑(y_2.n 100001).toNat : Int) (↑(y_2.n 100002).toNat : Int) (y_2.l 3) (y_2.l 6)) ∧ (↑(y_2.n 100002).toNat : Int) + z.n 4 ≤ z.n 100002 + (↑(y_2.n 4).toNat : Int) ∧ (y_2.l 5).length = (↑(y_2.n 4).toNat : Int).toNat ∧ (↑(y_2.n 4).toNat : Int) ≤ y_2.n 3) ∧ (if i64.wrap (y.n 91003 - 1) = 7 then (y_2.n 3 - (↑(y_2.n 4).toNat : Int)) * (20 : Int) + 8 else (y_2.n 3 - (↑(y_2.n 4).toNat : Int)) * (20 : Int) + 11 + i64.wrap (y.n 91003 - 1)).toNat < (if y.n 91003 = 7 then (y.n 3 - y.n 4) * (20 : Int) + 8 else (y.n 3 - y.n 4) * (20 : Int) + 11 + y.n 91003).toNat ∧ True) ∧ ((bits BinOp.and u8 ((y.n 91002).fdiv (2 ^ min (y.n 91003).toNat (8 : Nat))) (1 : Int) == 0) = false → ((eM (y.l 3) (y.l 6)) ∧ okM (Mm.mk (y.n 100000) (↑(y.n 100001).toNat : Int) (↑(y.n 100002).toNat : Int) (y.l 3) (y.l 6))) ∧ ∀ (y_1 : PX), aM y_1 2 ∧ ((0 ≤ y_1.n 90000 ∧ y_1.n 90000 ≤ 255) ∧ True) ∧ Mm.mk (y_1.n 0) (y_1.n 1) (y_1.n 2) (y_1.l 1) (y_1.l 2) = Mm.mk (y.n 100000) (↑(y.n 100001).toNat : Int) (↑(y.n 100002).toNat : Int) (y.l 3) (y.l 6) ∧ y_1.n 90000 = rdv1 E (y.n 1) (Mm.mk (y.n 100000) (↑(y.n 100001).toNat : Int) (↑(y.n 100002).toNat : Int) (y.l 3) (y.l 6)) → ((eM (y_1.l 1) (y_1.l 2)) ∧ okM (Mm.mk (y_1.n 0) (↑(y_1.n 1).toNat : Int) (↑(y_1.n 2).toNat : Int) (y_1.l 1) (y_1.l 2))) ∧ ∀ (y_2 : PX), aM y_2 2 ∧ ((0 ≤ y_2.n 90000 ∧ y_2.n 90000 ≤ 255) ∧ True) ∧ Mm.mk (y_2.n 0) (y_2.n 1) (y_2.n 2) (y_2.l 1) (y_2.l 2) = Mm.mk (y_1.n 0) (↑(y_1.n 1).toNat : Int) (↑(y_1.n 2).toNat : Int) (y_1.l 1) (y_1.l 2) ∧ y_2.n 90000 = rdv1 E (u32.wrap (y.n 1 + 1)) (Mm.mk (y_1.n 0) (↑(y_1.n 1).toNat : Int) (↑(y_1.n 2).toNat : Int) (y_1.l 1) (y_1.l 2)) → ((iP (y.n 3) (y.l 5) (y_2.l 1) (y_2.l 2)) ∧ okM (Mm.mk (y_2.n 0) (↑(y_2.n 1).toNat : Int) (↑(y_2.n 2).toNat : Int) (y_2.l 1) (y_2.l 2)) ∧ (↑(y_2.n 2).toNat : Int) ≤ 200000 + (↑(y.n 4).toNat : Int) ∧ (y.l 5).length = (↑(y.n 4).toNat : Int).toNat ∧ (↑(y.n 4).toNat : Int) ≤ y.n 3 ∧ 0 ≤ (↑(y.n 4).toNat : Int) ∧ (1 ≤ i64.wrap (i64.wrap (i64.wrap (i64.wrap (bits BinOp.and u8 (u8.wrap (y_1.n 90000)) 15) * 256) + i64.wrap (u8.wrap (y_2.n 90000))) + 1) ∧ i64.wrap (i64.wrap (i64.wrap (i64.wrap (bits BinOp.and u8 (u8.wrap (y_1.n 90000)) 15) * 256) + i64.wrap (u8.wrap (y_2.n 90000))) + 1) ≤ 5000) ∧ 0 ≤ i64.wrap (i64.wrap ((u8.wrap (y_1.n 90000)).fdiv 16) + 3) ∧ i64.wrap (i64.wrap ((u8.wrap (y_1.n 90000)).fdiv 16) + 3) ≤ 100) ∧ ∀ (y_3 : PX), aP y_3 ∧ True ∧ (OU.mk (Mm.mk (y_3.n 100000) (y_3.n 100001) (y_3.n 100002) (y_3.l 3) (y_3.l 6)) (vals (y_3.l 5)) = agF E (y.n 2) (y.n 3) (i64.wrap (i64.wrap (i64.wrap (i64.wrap (bits BinOp.and u8 (u8.wrap (y_1.n 90000)) 15) * 256) + i64.wrap (u8.wrap (y_2.n 90000))) + 1)) (i64.wrap (i64.wrap ((u8.wrap (y_1.n 90000)).fdiv 16) + 3)).toNat (OU.mk (Mm.mk (y_2.n 0) (↑(y_2.n 1).toNat : Int) (↑(y_2.n 2).toNat : Int) (y_2.l 1) (y_2.l 2)) (vals (y.l 5))) ∧ y_3.n 1 = u32.wrap (u32.wrap (y.n 1 + 1) + 1)) ∧ (y_3.n 2 = y.n 2 ∧ y_3.n 3 = y.n 3) ∧ okM (Mm.mk (y_3.n 100000) (y_3.n 100001) (y_3.n 100002) (y_3.l 3) (y_3.l 6)) ∧ y_3.n 100002 + (↑(y.n 4).toNat : Int) ≤ (↑(y_2.n 2).toNat : Int) + y_3.n 4 ∧ (y_3.l 5).length = (y_3.n 4).toNat ∧ y_3.n 4 ≤ y_3.n 3 → pc2_td E = pc2_td E ∧ 47 = 47 ∧ (True ∧ ((0 ≤ y.n 91002 ∧ y.n 91002 ≤ 255) ∧ True) ∧ (((-1) ≤ i64.wrap (y.n 91003 - 1) ∧ i64.wrap (y.n 91003 - 1) ≤ 7) ∧ True) ∧ True) ∧ (eP (y_3.n 3) (y_3.l 3) (y_3.l 5) (y_3.l 6)) ∧ ((PcI E (z.n 2) (z.n 3) (inF E (z.n 2) (z.n 3) (y.n 91002) (i64.wrap (y.n 91003 - 1) + 1).toNat (AU.mk (y_3.n 1) (OU.mk (Mm.mk (y_3.n 100000) (↑(y_3.n 100001).toNat : Int) (↑(y_3.n 100002).toNat : Int) (y_3.l 3) (y_3.l 6)) (vals (y_3.l 5))))) R ∧ (i64.wrap (y.n 91003 - 1) = 7 → (↑(y_3.n 4).toNat : Int) < y_3.n 3)) ∧ (y_3.n 2 = z.n 2 ∧ y_3.n 3 = z.n 3) ∧ okM (Mm.mk (y_3.n 100000) (↑(y_3.n 100001).toNat : Int) (↑(y_3.n 100002).toNat : Int) (y_3.l 3) (y_3.l 6)) ∧ (↑(y_3.n 100002).toNat : Int) + z.n 4 ≤ z.n 100002 + (↑(y_3.n 4).toNat : Int) ∧ (y_3.l 5).length = (↑(y_3.n 4).toNat : Int).toNat ∧ (↑(y_3.n 4).toNat : Int) ≤ y_3.n 3) ∧ (if i64.wrap (y.n 91003 - 1) = 7 then (y_3.n 3 - (↑(y_3.n 4).toNat : Int)) * (20 : Int) + 8 else (y_3.n 3 - (↑(y_3.n 4).toNat : Int)) * (20 : Int) + 11 + i64.wrap (y.n 91003 - 1)).toNat < (if y.n 91003 = 7 then (y.n 3 - y.n 4) * (20 : Int) + 8 else (y.n 3 - y.n 4) * (20 : Int) + 11 + y.n 91003).toNat ∧ True)) ∧ ((!(↑(y.n 4).toNat : Int) == y.n 3) = false → pc_td E = pc_td E ∧ 47 = 47 ∧ (True ∧ True) ∧ (eP (y.n 3) (y.l 3) (y.l 5) (y.l 6)) ∧ (PcI E (z.n 2) (z.n 3) (AU.mk (y.n 1) (OU.mk (Mm.mk (y.n 100000) (↑(y.n 100001).toNat : Int) (↑(y.n 100002).toNat : Int) (y.l 3) (y.l 6)) (vals (y.l 5)))) R ∧ (y.n 2 = z.n 2 ∧ y.n 3 = z.n 3) ∧ okM (Mm.mk (y.n 100000) (↑(y.n 100001).toNat : Int) (↑(y.n 100002).toNat : Int) (y.l 3) (y.l 6)) ∧ (↑(y.n 100002).toNat : Int) + z.n 4 ≤ z.n 100002 + (↑(y.n 4).toNat : Int) ∧ (y.l 5).length = (↑(y.n 4).toNat : Int).toNat ∧ (↑(y.n 4).toNat : Int) ≤ y.n 3) ∧ ((y.n 3 - (↑(y.n 4).toNat : Int)) * (20 : Int) + 9).toNat < (if y.n 91003 = 7 then (y.n 3 - y.n 4) * (20 : Int) + 8 else (y.n 3 - y.n 4) * (20 : Int) + 11 + y.n 91003).toNat ∧ True)) ∧ (decide (y.n 91003 ≥ 0) = false → pc_td E = pc_td E ∧ 47 = 47 ∧ (True ∧ True) ∧ (eP (y.n 3) (y.l 3) (y.l 5) (y.l 6)) ∧ (PcI E (z.n 2) (z.n 3) (AU.mk (y.n 1) (OU.mk (Mm.mk (y.n 100000) (↑(y.n 100001).toNat : Int) (↑(y.n 100002).toNat : Int) (y.l 3) (y.l 6)) (vals (y.l 5)))) R ∧ (y.n 2 = z.n 2 ∧ y.n 3 = z.n 3) ∧ okM (Mm.mk (y.n 100000) (↑(y.n 100001).toNat : Int) (↑(y.n 100002).toNat : Int) (y.l 3) (y.l 6)) ∧ (↑(y.n 100002).toNat : Int) + z.n 4 ≤ z.n 100002 + (↑(y.n 4).toNat : Int) ∧ (y.l 5).length = (↑(y.n 4).toNat : Int).toNat ∧ (↑(y.n 4).toNat : Int) ≤ y.n 3) ∧ ((y.n 3 - (↑(y.n 4).toNat : Int)) * (20 : Int) + 9).toNat < (if y.n 91003 = 7 then (y.n 3 - y.n 4) * (20 : Int) + 8 else (y.n 3 - y.n 4) * (20 : Int) + 11 + y.n 91003).toNat ∧ True)) := by kernel_rfl
set_option maxHeartbeats 8000000 in
theorem pc_q1 (E : World) (R : AU) (z : PX) (hp : (fun z => okM (Mm.mk (z.n 100000) (z.n 100001) (z.n 100002) (z.l 3) (z.l 4)) ∧ z.n 100002 ≤ 200000 + z.n 4 ∧ (z.l 2).length = (z.n 4).toNat ∧ z.n 4 ≤ z.n 3 ∧ 0 ≤ z.n 4 ∧ PcI E (z.n 2) (z.n 3) (AU.mk (z.n 1) (OU.mk (Mm.mk (z.n 100000) (z.n 100001) (z.n 100002) (z.l 3) (z.l 4)) (vals (z.l 2)))) R) z) (y : PX) (hy1 : rgM y [mS 5, mN 3 6, .g HOLE, rowB, .g HOLE, rowB, rowN] 0) (hy2 : rgF y [(0, .c (.p 0 0)), (2, .r .u8 (0) (255)), (3, .r .i64 ((-1)) (7))]) (hy3 : (fun y => (PcI E (z.n 2) (z.n 3) (inF E (z.n 2) (z.n 3) (y.n 91002) (y.n 91003 + 1).toNat (AU.mk (y.n 1) (OU.mk (Mm.mk (y.n 100000) (y.n 100001) (y.n 100002) (y.l 3) (y.l 6)) (vals (y.l 5))))) R ∧ (y.n 91003 = 7 → y.n 4 < y.n 3)) ∧ (y.n 2 = z.n 2 ∧ y.n 3 = z.n 3) ∧ okM (Mm.mk (y.n 100000) (y.n 100001) (y.n 100002) (y.l 3) (y.l 6)) ∧ y.n 100002 + z.n 4 ≤ z.n 100002 + y.n 4 ∧ (y.l 5).length = (y.n 4).toNat ∧ y.n 4 ≤ y.n 3) y) : Holds ((run (pe E) (orcH E) (tabL fns) 20000 (2 ^ 200 - 1) (pc2_td E) (mkL Try.f39.ntmps (slC y [(0, .c (.p 0 0)), (2, .r .u8 (0) (255)), (3, .r .i64 ((-1)) (7))])) (mkM y [] [mS 5, mN 3 6, .g HOLE, rowB, .g HOLE, rowB, rowN] 0)).OK (lfP (pe E) Try.f39 (endR ([mS 2, mN 3 4, rowB, rowB, rowN] : List MB).length [mS 5, mN 3 6, .g HOLE, rowB, .g HOLE, rowB, rowN] (.t []) (fun z y => AU.mk (y.n 1) (OU.mk (Mm.mk (y.n 100000) (y.n 100001) (y.n 100002) (y.l 3) (y.l 6)) (vals (y.l 5))) = R ∧ (y.n 2 = z.n 2 ∧ y.n 3 = z.n 3) ∧ okM (Mm.mk (y.n 100000) (y.n 100001) (y.n 100002) (y.l 3) (y.l 6)) ∧ y.n 100002 + z.n 4 ≤ z.n 100002 + y.n 4 ∧ (y.l 5).length = (y.n 4).toNat ∧ y.n 4 ≤ y.n 3) z) (headR ([mS 2, mN 3 4, rowB, rowB, rowN] : List MB).length Try.f39.ntmps (some ((fun y => (if y.n 91003 = 7 then (y.n 3 - y.n 4) * 20 + 8 else (y.n 3 - y.n 4) * 20 + 11 + y.n 91003).toNat) y)) (pc_hs E R z)))) := by
  refine loopP_lfH ⟨?_⟩
  rw [pc_r1]
  have hf : True ∧ (((0) ≤ y.n 91002 ∧ y.n 91002 ≤ (255)) ∧ True) ∧ ((((-1)) ≤ y.n 91003 ∧ y.n 91003 ≤ (7)) ∧ True) ∧ True := hy2
  obtain ⟨_, ⟨g2, _⟩, ⟨g3, _⟩, _⟩ := hf
  obtain ⟨⟨hP, hd⟩, ⟨h2, h3⟩, hK, hgr, hl, hle⟩ := hy3
  obtain ⟨hKz, hnz, hlz, hlez, hz0, hPz⟩ := hp
  have hf1 : flat [Sp.r .u8 0 255] = true := rfl
  have hf2 : flat [Sp.i .u32, Sp.i .i64, Sp.i .u32] = true := rfl
  obtain ⟨usy, u4y, _⟩ : (0 ≤ y.n 3 ∧ y.n 3 ≤ 65535) ∧ 0 ≤ y.n 4 ∧ True := hy1.1
  obtain ⟨b1y, b2y, _⟩ : 0 ≤ y.n 100001 ∧ 0 ≤ y.n 100002 ∧ True := hy1.2.1
  have T1y : ((y.n 100001).toNat : Int) = y.n 100001 := Int.toNat_of_nonneg b1y
  have T2y : ((y.n 100002).toNat : Int) = y.n 100002 := Int.toNat_of_nonneg b2y
  have T4y : ((y.n 4).toNat : Int) = y.n 4 := Int.toNat_of_nonneg u4y
  have r3 : Row [.r .u8 0 255] (y.l 3) := hy1.2.2.1.2
  have r5 : Row [.r .u8 0 255] (y.l 5) := hy1.2.2.2.1.2
  have r6 : Row [.i .u32, .i .i64, .i .u32] (y.l 6) := hy1.2.2.2.2.1.2
  have vl : ((vals (y.l 5)).length : Int) = y.n 4 := by rw [vals_len]; omega
  have w : IntKind.i64.wrap (y.n 91003 - 1) = y.n 91003 - 1 := by rw [wi64]; omega
  simp only [T1y, T2y, T4y, w]
  refine ⟨fun hb => ⟨fun h => ⟨decide_eq_true (of_decide_eq_true hb), fun ho => ?_, fun ho => ?_⟩, fun h => ?_⟩, fun hb => ?_⟩
  · have hb := of_decide_eq_true hb
    have h : y.n 4 ≠ y.n 3 := by simpa using h
    have hn : ((vals (y.l 5)).length : Int) ≠ z.n 3 := by omega
    have ej : (y.n 91003 + 1).toNat = (y.n 91003).toNat + 1 := by omega
    rw [bitP _ _ hb g3.2] at ho
    have ho : y.n 91002 / (2 : Int) ^ (y.n 91003).toNat % 2 = 0 := by simpa using ho
    rw [ej, inF_0 (s := AU.mk (y.n 1) (OU.mk (Mm.mk (y.n 100000) (y.n 100001) (y.n 100002) (y.l 3) (y.l 6)) (vals (y.l 5)))) hn ho] at hP
    · refine ⟨⟨by ((repeat' (first | exact trivial | with_reducible rfl | assumption | exact rfl | apply And.intro)) <;> omega), hK⟩, ?_⟩
      rintro y1 ⟨⟨⟨p1y1, p2y1, _⟩, ⟨_, q3y1⟩, ⟨_, q6y1⟩, _⟩, ⟨g1y1, _⟩, q1y1, v1y1⟩
      have S1y1 : ((y1.n 1).toNat : Int) = y1.n 1 := Int.toNat_of_nonneg p1y1
      have S2y1 : ((y1.n 2).toNat : Int) = y1.n 2 := Int.toNat_of_nonneg p2y1
      have c1 : y1.n 2 = y.n 100002 := congrArg Mm.nn q1y1
      have hK1 : okM (Mm.mk (y1.n 0) (y1.n 1) (y1.n 2) (y1.l 1) (y1.l 2)) := by rw [q1y1]; exact hK
      have e8 : IntKind.u8.wrap (y1.n 90000) = y1.n 90000 := by rw [wu8]; omega
      simp only [S1y1, S2y1, e8]
      refine ⟨by ((repeat' (first | exact trivial | with_reducible rfl | assumption | exact rfl | apply And.intro)) <;> omega), ?_⟩
      rintro y2 ⟨hu2, _, hq, ⟨e1, e2, e3⟩, hK2, hg2, hl2, hle2⟩
      obtain ⟨usy2, u4y2, _⟩ : (0 ≤ y2.n 3 ∧ y2.n 3 ≤ 65535) ∧ 0 ≤ y2.n 4 ∧ True := hu2.1
      obtain ⟨b1y2, b2y2, _⟩ : 0 ≤ y2.n 100001 ∧ 0 ≤ y2.n 100002 ∧ True := hu2.2.1
      have T1y2 : ((y2.n 100001).toNat : Int) = y2.n 100001 := Int.toNat_of_nonneg b1y2
      have T2y2 : ((y2.n 100002).toNat : Int) = y2.n 100002 := Int.toNat_of_nonneg b2y2
      have T4y2 : ((y2.n 4).toNat : Int) = y2.n 4 := Int.toNat_of_nonneg u4y2
      have s3 : Row [.r .u8 0 255] (y2.l 3) := hu2.2.2.1.2
      have s5 : Row [.r .u8 0 255] (y2.l 5) := hu2.2.2.2.1.2
      have s6 : Row [.i .u32, .i .i64, .i .u32] (y2.l 6) := hu2.2.2.2.2.1.2
      rw [q1y1, h2, h3] at hq
      have hP2 : PcI E (z.n 2) (z.n 3) (inF E (z.n 2) (z.n 3) (y.n 91002) (y.n 91003).toNat (AU.mk (IntKind.u32.wrap (y.n 1 + 1)) (gvF E (z.n 2) (z.n 3) (rdb E (y.n 1) (Mm.mk (y.n 100000) (y.n 100001) (y.n 100002) (y.l 3) (y.l 6))) (OU.mk (Mm.mk (y.n 100000) (y.n 100001) (y.n 100002) (y.l 3) (y.l 6)) (vals (y.l 5)))))) R := hP
      rw [rdb_v v1y1 g1y1, ← hq, ← e1] at hP2
      have hlen : (vals (y.l 5)).length < (vals (y2.l 5)).length := by rw [show vals (y2.l 5) = (OU.mk (Mm.mk (y2.n 100000) (y2.n 100001) (y2.n 100002) (y2.l 3) (y2.l 6)) (vals (y2.l 5))).o from rfl, hq]; exact (by rw [gvF_len hn]; exact Nat.lt_succ_self _)
      rw [vals_len, vals_len] at hlen
      have h4 : y.n 4 < y2.n 4 := by omega
      have ek : y.n 91003 - 1 + 1 = y.n 91003 := by omega
      have hd2 : y.n 91003 - 1 = 7 → y2.n 4 < y2.n 3 := fun h => by omega
      have hm : (if y.n 91003 - 1 = 7 then (y2.n 3 - y2.n 4) * 20 + 8 else (y2.n 3 - y2.n 4) * 20 + 11 + (y.n 91003 - 1)).toNat < (if y.n 91003 = 7 then (y.n 3 - y.n 4) * 20 + 8 else (y.n 3 - y.n 4) * 20 + 11 + y.n 91003).toNat := by rw [if_neg (by omega)]; split <;> omega
      simp only [T1y2, T2y2, T4y2, ek]
      ((repeat' (first | exact trivial | with_reducible rfl | assumption | exact rfl | apply And.intro)) <;> omega)
  · have hb := of_decide_eq_true hb
    have h : y.n 4 ≠ y.n 3 := by simpa using h
    have hn : ((vals (y.l 5)).length : Int) ≠ z.n 3 := by omega
    have ej : (y.n 91003 + 1).toNat = (y.n 91003).toNat + 1 := by omega
    rw [bitP _ _ hb g3.2] at ho
    have ho : y.n 91002 / (2 : Int) ^ (y.n 91003).toNat % 2 ≠ 0 := by simpa using ho
    rw [ej, inF_1 (s := AU.mk (y.n 1) (OU.mk (Mm.mk (y.n 100000) (y.n 100001) (y.n 100002) (y.l 3) (y.l 6)) (vals (y.l 5)))) hn ho] at hP
    · refine ⟨⟨by ((repeat' (first | exact trivial | with_reducible rfl | assumption | exact rfl | apply And.intro)) <;> omega), hK⟩, ?_⟩
      rintro y1 ⟨⟨⟨p1y1, p2y1, _⟩, ⟨_, q3y1⟩, ⟨_, q6y1⟩, _⟩, ⟨g1y1, _⟩, q1y1, v1y1⟩
      have S1y1 : ((y1.n 1).toNat : Int) = y1.n 1 := Int.toNat_of_nonneg p1y1
      have S2y1 : ((y1.n 2).toNat : Int) = y1.n 2 := Int.toNat_of_nonneg p2y1
      have c1 : y1.n 2 = y.n 100002 := congrArg Mm.nn q1y1
      have hK1 : okM (Mm.mk (y1.n 0) (y1.n 1) (y1.n 2) (y1.l 1) (y1.l 2)) := by rw [q1y1]; exact hK
      simp only [S1y1, S2y1]
      refine ⟨⟨by ((repeat' (first | exact trivial | with_reducible rfl | assumption | exact rfl | apply And.intro)) <;> omega), hK1⟩, ?_⟩
      rintro y2 ⟨⟨⟨p1y2, p2y2, _⟩, ⟨_, q3y2⟩, ⟨_, q6y2⟩, _⟩, ⟨g1y2, _⟩, q1y2, v1y2⟩
      have S1y2 : ((y2.n 1).toNat : Int) = y2.n 1 := Int.toNat_of_nonneg p1y2
      have S2y2 : ((y2.n 2).toNat : Int) = y2.n 2 := Int.toNat_of_nonneg p2y2
      have c2 : y2.n 2 = y.n 100002 := (congrArg Mm.nn q1y2).trans c1
      have hK2' : okM (Mm.mk (y2.n 0) (y2.n 1) (y2.n 2) (y2.l 1) (y2.l 2)) := by rw [q1y2]; exact hK1
      simp only [S1y2, S2y2, agk _ _ g1y1 g1y2, agc _ g1y1, uadd, Int.reduceAdd]
      refine ⟨by ((repeat' (first | exact trivial | with_reducible rfl | assumption | exact rfl | apply And.intro)) <;> omega), ?_⟩
      rintro y3 ⟨hu2, _, ⟨hq, e1⟩, ⟨e2, e3⟩, hK2, hg2, hl2, hle2⟩
      obtain ⟨usy3, u4y3, _⟩ : (0 ≤ y3.n 3 ∧ y3.n 3 ≤ 65535) ∧ 0 ≤ y3.n 4 ∧ True := hu2.1
      obtain ⟨b1y3, b2y3, _⟩ : 0 ≤ y3.n 100001 ∧ 0 ≤ y3.n 100002 ∧ True := hu2.2.1
      have T1y3 : ((y3.n 100001).toNat : Int) = y3.n 100001 := Int.toNat_of_nonneg b1y3
      have T2y3 : ((y3.n 100002).toNat : Int) = y3.n 100002 := Int.toNat_of_nonneg b2y3
      have T4y3 : ((y3.n 4).toNat : Int) = y3.n 4 := Int.toNat_of_nonneg u4y3
      have s3 : Row [.r .u8 0 255] (y3.l 3) := hu2.2.2.1.2
      have s5 : Row [.r .u8 0 255] (y3.l 5) := hu2.2.2.2.1.2
      have s6 : Row [.i .u32, .i .i64, .i .u32] (y3.l 6) := hu2.2.2.2.2.1.2
      rw [q1y2, q1y1, h2, h3] at hq
      rw [q1y1] at v1y2
      have hP2 : PcI E (z.n 2) (z.n 3) (inF E (z.n 2) (z.n 3) (y.n 91002) (y.n 91003).toNat (AU.mk (IntKind.u32.wrap (y.n 1 + 2)) (agF E (z.n 2) (z.n 3) (rdb E (y.n 1) (Mm.mk (y.n 100000) (y.n 100001) (y.n 100002) (y.l 3) (y.l 6)) % 16 * 256 + rdb E (IntKind.u32.wrap (y.n 1 + 1)) (Mm.mk (y.n 100000) (y.n 100001) (y.n 100002) (y.l 3) (y.l 6)) + 1) (rdb E (y.n 1) (Mm.mk (y.n 100000) (y.n 100001) (y.n 100002) (y.l 3) (y.l 6)) / 16 + 3).toNat (OU.mk (Mm.mk (y.n 100000) (y.n 100001) (y.n 100002) (y.l 3) (y.l 6)) (vals (y.l 5)))))) R := hP
      rw [rdb_v v1y1 g1y1, rdb_v v1y2 g1y2, ← hq, ← e1] at hP2
      have hpos : 0 < (y1.n 90000 / 16 + 3).toNat := by omega
      have hlen : (vals (y.l 5)).length < (vals (y3.l 5)).length := by rw [show vals (y3.l 5) = (OU.mk (Mm.mk (y3.n 100000) (y3.n 100001) (y3.n 100002) (y3.l 3) (y3.l 6)) (vals (y3.l 5))).o from rfl, hq]; exact agF_gt (s := (OU.mk (Mm.mk (y.n 100000) (y.n 100001) (y.n 100002) (y.l 3) (y.l 6)) (vals (y.l 5)))) hpos hn
      rw [vals_len, vals_len] at hlen
      have h4 : y.n 4 < y3.n 4 := by omega
      have ek : y.n 91003 - 1 + 1 = y.n 91003 := by omega
      have hd2 : y.n 91003 - 1 = 7 → y3.n 4 < y3.n 3 := fun h => by omega
      have hm : (if y.n 91003 - 1 = 7 then (y3.n 3 - y3.n 4) * 20 + 8 else (y3.n 3 - y3.n 4) * 20 + 11 + (y.n 91003 - 1)).toNat < (if y.n 91003 = 7 then (y.n 3 - y.n 4) * 20 + 8 else (y.n 3 - y.n 4) * 20 + 11 + y.n 91003).toNat := by rw [if_neg (by omega)]; split <;> omega
      simp only [T1y3, T2y3, T4y3, ek]
      ((repeat' (first | exact trivial | with_reducible rfl | assumption | exact rfl | apply And.intro)) <;> omega)
  · have hb := of_decide_eq_true hb
    have h : y.n 4 = y.n 3 := by simpa using h
    rw [inF_full (show ((vals (y.l 5)).length : Int) = z.n 3 by omega)] at hP
    have hm : ((y.n 3 - y.n 4) * 20 + 9).toNat < (if y.n 91003 = 7 then (y.n 3 - y.n 4) * 20 + 8 else (y.n 3 - y.n 4) * 20 + 11 + y.n 91003).toNat := by split <;> omega
    ((repeat' (first | exact trivial | with_reducible rfl | assumption | exact rfl | apply And.intro)) <;> omega)
  · have hb := of_decide_eq_false hb
    have e0 : (y.n 91003 + 1).toNat = 0 := by omega
    rw [e0] at hP
    have hP : PcI E (z.n 2) (z.n 3) (AU.mk (y.n 1) (OU.mk (Mm.mk (y.n 100000) (y.n 100001) (y.n 100002) (y.l 3) (y.l 6)) (vals (y.l 5)))) R := hP
    have hm : ((y.n 3 - y.n 4) * 20 + 9).toNat < (if y.n 91003 = 7 then (y.n 3 - y.n 4) * 20 + 8 else (y.n 3 - y.n 4) * 20 + 11 + y.n 91003).toNat := by split <;> omega
    ((repeat' (first | exact trivial | with_reducible rfl | assumption | exact rfl | apply And.intro)) <;> omega)
end Go.Proofs.Ytabklphoccicmaa

