import Derived.Test.YtabklphoccicmaaNF
set_option linter.unusedVariables false
set_option linter.unusedSimpArgs false
namespace Go.Proofs.Ytabklphoccicmaa
open Go Go.Proofs Go.Proofs.Ytabklphoccicmaa.Ev Go.Proofs.Ytabklphoccicmaa.Ev.Ho Go.IntKind
set_option maxRecDepth 100000
noncomputable def ag_h0 (E : World) (c k : Int) (z : PX) : Hd := ⟨3, anyH, (ag_td E), [(0, .c (.p 0 0)), (2, .q (.i false .i64 k)), (7, .r .i64 (0) (100)), (8, .r .i64 (0) (100))], [mS 5, mN 3 6, .g HOLE, rowB, .g HOLE, rowB, rowN], fun y => (agF E (z.n 2) (z.n 3) k (c - y.n 91008).toNat (OU.mk (Mm.mk (y.n 100000) (y.n 100001) (y.n 100002) (y.l 3) (y.l 6)) (vals (y.l 5))) = agF E (z.n 2) (z.n 3) k c.toNat (OU.mk (Mm.mk (z.n 100000) (z.n 100001) (z.n 100002) (z.l 3) (z.l 4)) (vals (z.l 2))) ∧ y.n 1 = z.n 1) ∧ (y.n 91007 = c ∧ y.n 91008 ≤ c) ∧ (y.n 2 = z.n 2 ∧ y.n 3 = z.n 3) ∧ okM (Mm.mk (y.n 100000) (y.n 100001) (y.n 100002) (y.l 3) (y.l 6)) ∧ y.n 100002 + z.n 4 ≤ z.n 100002 + y.n 4 ∧ (y.l 5).length = (y.n 4).toNat ∧ y.n 4 ≤ y.n 3, fun y => (c - y.n 91008).toNat⟩
noncomputable def ag_hs (E : World) (c k : Int) (z : PX) : List Hd := [ag_h0 E c k z]
theorem ag_r0 (E : World) (c k : Int) (z : PX) (y : PX) :
    (loopP (pe E) Try.f58 (endR ([mS 2, mN 3 4, rowB, rowB, rowN] : List MB).length [mS 5, mN 3 6, .g HOLE, rowB, .g HOLE, rowB, rowN] (.t []) (fun z y => ((OU.mk (Mm.mk (y.n 100000) (y.n 100001) (y.n 100002) (y.l 3) (y.l 6)) (vals (y.l 5))) = agF E (z.n 2) (z.n 3) k c.toNat (OU.mk (Mm.mk (z.n 100000) (z.n 100001) (z.n 100002) (z.l 3) (z.l 4)) (vals (z.l 2))) ∧ y.n 1 = z.n 1) ∧ (y.n 2 = z.n 2 ∧ y.n 3 = z.n 3) ∧ okM (Mm.mk (y.n 100000) (y.n 100001) (y.n 100002) (y.l 3) (y.l 6)) ∧ y.n 100002 + z.n 4 ≤ z.n 100002 + y.n 4 ∧ (y.l 5).length = (y.n 4).toNat ∧ y.n 4 ≤ y.n 3) z) (headR ([mS 2, mN 3 4, rowB, rowB, rowN] : List MB).length Try.f58.ntmps (some ((fun y => (c - y.n 91008).toNat) y)) (ag_hs E c k z))  (run (pe E) (orcG E) (tabL fns) 20000 (2 ^ 200 - 1) (ag_td E) (mkL Try.f58.ntmps (slC y [(0, .c (.p 0 0)), (2, .q (.i false .i64 k)), (7, .r .i64 (0) (100)), (8, .r .i64 (0) (100))])) (mkM y [] [mS 5, mN 3 6, .g HOLE, rowB, .g HOLE, rowB, rowN] 0))) =
     ((decide (y.n 91008 < y.n 91007) = true → (decide (i64.wrap ((↑(y.n 4).toNat : Int) - k) < 0) = true → ((iP (y.n 3) (y.l 5) (y.l 3) (y.l 6)) ∧ okM (Mm.mk (y.n 100000) (↑(y.n 100001).toNat : Int) (↑(y.n 100002).toNat : Int) (y.l 3) (y.l 6)) ∧ (↑(y.n 100002).toNat : Int) ≤ 400000 ∧ (y.l 5).length = (↑(y.n 4).toNat : Int).toNat ∧ (↑(y.n 4).toNat : Int) ≤ y.n 3 ∧ (0 : Int) ≤ (0 : Int) ∧ (0 : Int) ≤ 255) ∧ ∀ (y_1 : PX), aP y_1 ∧ True ∧ OU.mk (Mm.mk (y_1.n 100000) (y_1.n 100001) (y_1.n 100002) (y_1.l 3) (y_1.l 6)) (vals (y_1.l 5)) = gvF E (y.n 2) (y.n 3) 0 (OU.mk (Mm.mk (y.n 100000) (↑(y.n 100001).toNat : Int) (↑(y.n 100002).toNat : Int) (y.l 3) (y.l 6)) (vals (y.l 5))) ∧ (y_1.n 1 = y.n 1 ∧ y_1.n 2 = y.n 2 ∧ y_1.n 3 = y.n 3) ∧ okM (Mm.mk (y_1.n 100000) (y_1.n 100001) (y_1.n 100002) (y_1.l 3) (y_1.l 6)) ∧ y_1.n 100002 + (↑(y.n 4).toNat : Int) ≤ (↑(y.n 100002).toNat : Int) + y_1.n 4 ∧ (y_1.l 5).length = (y_1.n 4).toNat ∧ y_1.n 4 ≤ y_1.n 3 → ag_td E = ag_td E ∧ 31 = 31 ∧ (True ∧ (renC (posN [(0 : Nat), (1 : Nat), (1000000000002 : Nat), (3 : Nat), (1000000000004 : Nat), (7 : Nat), (8 : Nat)]) (C.i false i64 k) = C.i false i64 k ∧ True) ∧ ((0 ≤ y.n 91007 ∧ y.n 91007 ≤ 100) ∧ True) ∧ ((0 ≤ i64.wrap (y.n 91008 + 1) ∧ i64.wrap (y.n 91008 + 1) ≤ 100) ∧ True) ∧ True) ∧ (eP (y_1.n 3) (y_1.l 3) (y_1.l 5) (y_1.l 6)) ∧ ((agF E (z.n 2) (z.n 3) k (c - i64.wrap (y.n 91008 + 1)).toNat (OU.mk (Mm.mk (y_1.n 100000) (↑(y_1.n 100001).toNat : Int) (↑(y_1.n 100002).toNat : Int) (y_1.l 3) (y_1.l 6)) (vals (y_1.l 5))) = agF E (z.n 2) (z.n 3) k c.toNat (OU.mk (Mm.mk (z.n 100000) (z.n 100001) (z.n 100002) (z.l 3) (z.l 4)) (vals (z.l 2))) ∧ y_1.n 1 = z.n 1) ∧ (y.n 91007 = c ∧ i64.wrap (y.n 91008 + 1) ≤ c) ∧ (y_1.n 2 = z.n 2 ∧ y_1.n 3 = z.n 3) ∧ okM (Mm.mk (y_1.n 100000) (↑(y_1.n 100001).toNat : Int) (↑(y_1.n 100002).toNat : Int) (y_1.l 3) (y_1.l 6)) ∧ (↑(y_1.n 100002).toNat : Int) + z.n 4 ≤ z.n 100002 + (↑(y_1.n 4).toNat : Int) ∧ (y_1.l 5).length = (↑(y_1.n 4).toNat : Int).toNat ∧ (↑(y_1.n 4).toNat : Int) ≤ y_1.n 3) ∧ (c - i64.wrap (y.n 91008 + 1)).toNat < (c - y.n 91008).toNat ∧ True) ∧ (decide (i64.wrap ((↑(y.n 4).toNat : Int) - k) < 0) = false → inB (i64.wrap ((↑(y.n 4).toNat : Int) - k)) (y.n 4).toNat = true ∧ rOk (y.l 5) (i64.wrap ((↑(y.n 4).toNat : Int) - k)).toNat (EK.i u8) = true ∧ ((iP (y.n 3) (y.l 5) (y.l 3) (y.l 6)) ∧ okM (Mm.mk (y.n 100000) (↑(y.n 100001).toNat : Int) (↑(y.n 100002).toNat : Int) (y.l 3) (y.l 6)) ∧ (↑(y.n 100002).toNat : Int) ≤ 400000 ∧ (y.l 5).length = (↑(y.n 4).toNat : Int).toNat ∧ (↑(y.n 4).toNat : Int) ≤ y.n 3 ∧ 0 ≤ rI (y.l 5) (i64.wrap ((↑(y.n 4).toNat : Int) - k)).toNat ∧ rI (y.l 5) (i64.wrap ((↑(y.n 4).toNat : Int) - k)).toNat ≤ 255) ∧ ∀ (y_1 : PX), aP y_1 ∧ True ∧ OU.mk (Mm.mk (y_1.n 100000) (y_1.n 100001) (y_1.n 100002) (y_1.l 3) (y_1.l 6)) (vals (y_1.l 5)) = gvF E (y.n 2) (y.n 3) (rI (y.l 5) (i64.wrap ((↑(y.n 4).toNat : Int) - k)).toNat) (OU.mk (Mm.mk (y.n 100000) (↑(y.n 100001).toNat : Int) (↑(y.n 100002).toNat : Int) (y.l 3) (y.l 6)) (vals (y.l 5))) ∧ (y_1.n 1 = y.n 1 ∧ y_1.n 2 = y.n 2 ∧ y_1.n 3 = y.n 3) ∧ okM (Mm.mk (y_1.n 100000) (y_1.n 100001) (y_1.n 100002) (y_1.l 3) (y_1.l 6)) ∧ y_1.n 100002 + (↑(y.n 4).toNat : Int) ≤ (↑(y.n 100002).toNat : Int) + y_1.n 4 ∧ (y_1.l 5).length = (y_1.n 4).toNat ∧ y_1.n 4 ≤ y_1.n 3 → ag_td E = ag_td E ∧ 31 = 31 ∧ (True ∧ (renC (posN [(0 : Nat), (1 : Nat), (1000000000002 : Nat), (3 : Nat), (1000000000004 : Nat), (7 : Nat), (8 : Nat)]) (C.i false i64 k) = C.i false i64 k ∧ True) ∧ ((0 ≤ y.n 91007 ∧ y.n 91007 ≤ 100) ∧ True) ∧ ((0 ≤ i64.wrap (y.n 91008 + 1) ∧ i64.wrap (y.n 91008 + 1) ≤ 100) ∧ True) ∧ True) ∧ (eP (y_1.n 3) (y_1.l 3) (y_1.l 5) (y_1.l 6)) ∧ ((agF E (z.n 2) (z.n 3) k (c - i64.wrap (y.n 91008 + 1)).toNat (OU.mk (Mm.mk (y_1.n 100000) (↑(y_1.n 100001).toNat : Int) (↑(y_1.n 100002).toNat : Int) (y_1.l 3) (y_1.l 6)) (vals (y_1.l 5))) = agF E (z.n 2) (z.n 3) k c.toNat (OU.mk (Mm.mk (z.n 100000) (z.n 100001) (z.n 100002) (z.l 3) (z.l 4)) (vals (z.l 2))) ∧ y_1.n 1 = z.n 1) ∧ (y.n 91007 = c ∧ i64.wrap (y.n 91008 + 1) ≤ c) ∧ (y_1.n 2 = z.n 2 ∧ y_1.n 3 = z.n 3) ∧ okM (Mm.mk (y_1.n 100000) (↑(y_1.n 100001).toNat : Int) (↑(y_1.n 100002).toNat : Int) (y_1.l 3) (y_1.l 6)) ∧ (↑(y_1.n 100002).toNat : Int) + z.n 4 ≤ z.n 100002 + (↑(y_1.n 4).toNat : Int) ∧ (y_1.l 5).length = (↑(y_1.n 4).toNat : Int).toNat ∧ (↑(y_1.n 4).toNat : Int) ≤ y_1.n 3) ∧ (c - i64.wrap (y.n 91008 + 1)).toNat < (c - y.n 91008).toNat ∧ True)) ∧ (decide (y.n 91008 < y.n 91007) = false → (eP (y.n 3) (y.l 3) (y.l 5) (y.l 6)) ∧ True ∧ (OU.mk (Mm.mk (y.n 100000) (↑(y.n 100001).toNat : Int) (↑(y.n 100002).toNat : Int) (y.l 3) (y.l 6)) (vals (y.l 5)) = agF E (z.n 2) (z.n 3) k c.toNat (OU.mk (Mm.mk (z.n 100000) (z.n 100001) (z.n 100002) (z.l 3) (z.l 4)) (vals (z.l 2))) ∧ y.n 1 = z.n 1) ∧ (y.n 2 = z.n 2 ∧ y.n 3 = z.n 3) ∧ okM (Mm.mk (y.n 100000) (↑(y.n 100001).toNat : Int) (↑(y.n 100002).toNat : Int) (y.l 3) (y.l 6)) ∧ (↑(y.n 100002).toNat : Int) + z.n 4 ≤ z.n 100002 + (↑(y.n 4).toNat : Int) ∧ (y.l 5).length = (↑(y.n 4).toNat : Int).toNat ∧ (↑(y.n 4).toNat : Int) ≤ y.n 3)) := by kernel_rfl
set_option maxHeartbeats 8000000 in
theorem ag_q0 (E : World) (c k : Int) (z : PX) (hp : (fun z => okM (Mm.mk (z.n 100000) (z.n 100001) (z.n 100002) (z.l 3) (z.l 4)) ∧ z.n 100002 ≤ 200000 + z.n 4 ∧ (z.l 2).length = (z.n 4).toNat ∧ z.n 4 ≤ z.n 3 ∧ 0 ≤ z.n 4 ∧ (1 ≤ k ∧ k ≤ 5000) ∧ 0 ≤ c ∧ c ≤ 100) z) (y : PX) (hy1 : rgM y [mS 5, mN 3 6, .g HOLE, rowB, .g HOLE, rowB, rowN] 0) (hy2 : rgF y [(0, .c (.p 0 0)), (2, .q (.i false .i64 k)), (7, .r .i64 (0) (100)), (8, .r .i64 (0) (100))]) (hy3 : (fun y => (agF E (z.n 2) (z.n 3) k (c - y.n 91008).toNat (OU.mk (Mm.mk (y.n 100000) (y.n 100001) (y.n 100002) (y.l 3) (y.l 6)) (vals (y.l 5))) = agF E (z.n 2) (z.n 3) k c.toNat (OU.mk (Mm.mk (z.n 100000) (z.n 100001) (z.n 100002) (z.l 3) (z.l 4)) (vals (z.l 2))) ∧ y.n 1 = z.n 1) ∧ (y.n 91007 = c ∧ y.n 91008 ≤ c) ∧ (y.n 2 = z.n 2 ∧ y.n 3 = z.n 3) ∧ okM (Mm.mk (y.n 100000) (y.n 100001) (y.n 100002) (y.l 3) (y.l 6)) ∧ y.n 100002 + z.n 4 ≤ z.n 100002 + y.n 4 ∧ (y.l 5).length = (y.n 4).toNat ∧ y.n 4 ≤ y.n 3) y) : Holds ((run (pe E) (orcG E) (tabL fns) 20000 (2 ^ 200 - 1) (ag_td E) (mkL Try.f58.ntmps (slC y [(0, .c (.p 0 0)), (2, .q (.i false .i64 k)), (7, .r .i64 (0) (100)), (8, .r .i64 (0) (100))])) (mkM y [] [mS 5, mN 3 6, .g HOLE, rowB, .g HOLE, rowB, rowN] 0)).OK (lfP (pe E) Try.f58 (endR ([mS 2, mN 3 4, rowB, rowB, rowN] : List MB).length [mS 5, mN 3 6, .g HOLE, rowB, .g HOLE, rowB, rowN] (.t []) (fun z y => ((OU.mk (Mm.mk (y.n 100000) (y.n 100001) (y.n 100002) (y.l 3) (y.l 6)) (vals (y.l 5))) = agF E (z.n 2) (z.n 3) k c.toNat (OU.mk (Mm.mk (z.n 100000) (z.n 100001) (z.n 100002) (z.l 3) (z.l 4)) (vals (z.l 2))) ∧ y.n 1 = z.n 1) ∧ (y.n 2 = z.n 2 ∧ y.n 3 = z.n 3) ∧ okM (Mm.mk (y.n 100000) (y.n 100001) (y.n 100002) (y.l 3) (y.l 6)) ∧ y.n 100002 + z.n 4 ≤ z.n 100002 + y.n 4 ∧ (y.l 5).length = (y.n 4).toNat ∧ y.n 4 ≤ y.n 3) z) (headR ([mS 2, mN 3 4, rowB, rowB, rowN] : List MB).length Try.f58.ntmps (some ((fun y => (c - y.n 91008).toNat) y)) (ag_hs E c k z)))) := by
  refine loopP_lfH ⟨?_⟩
  rw [ag_r0]
  have hf : True ∧ True ∧ (((0) ≤ y.n 91007 ∧ y.n 91007 ≤ (100)) ∧ True) ∧ (((0) ≤ y.n 91008 ∧ y.n 91008 ≤ (100)) ∧ True) ∧ True := hy2
  obtain ⟨_, _, ⟨g7, _⟩, ⟨g8, _⟩, _⟩ := hf
  obtain ⟨⟨hA, h1⟩, ⟨hc7, hc8⟩, ⟨h2, h3⟩, hK, hgr, hl, hle⟩ := hy3
  obtain ⟨hKz, hnz, hlz, ⟨hlez, hz0⟩, ⟨hk1, hk2⟩, hc0, hc1⟩ := (by obtain ⟨a1, a2, a3, a4, a5, a6, a7⟩ := hp; exact ⟨a1, a2, a3, ⟨a4, a5⟩, a6, a7⟩ : okM (Mm.mk (z.n 100000) (z.n 100001) (z.n 100002) (z.l 3) (z.l 4)) ∧ z.n 100002 ≤ 200000 + z.n 4 ∧ (z.l 2).length = (z.n 4).toNat ∧ (z.n 4 ≤ z.n 3 ∧ 0 ≤ z.n 4) ∧ (1 ≤ k ∧ k ≤ 5000) ∧ 0 ≤ c ∧ c ≤ 100)
  have hf1 : flat [Sp.r .u8 0 255] = true := rfl
  have hf2 : flat [Sp.i .u32, Sp.i .i64, Sp.i .u32] = true := rfl
  obtain ⟨usy, u4y, _⟩ : (0 ≤ y.n 3 ∧ y.n 3 ≤ 65535) ∧ 0 ≤ y.n 4 ∧ True := hy1.1
  obtain ⟨b1y, b2y, _⟩ : 0 ≤ y.n 100001 ∧ 0 ≤ y.n 100002 ∧ True := hy1.2.1
  have T1y : ((y.n 100001).toNat : Int) = y.n 100001 := Int.toNat_of_nonneg b1y
  have T2y : ((y.n 100002).toNat : Int) = y.n 100002 := Int.toNat_of_nonneg b2y
  have T4y : ((y.n 4).toNat : Int) = y.n 4 := Int.toNat_of_nonneg u4y
  have r3 : Row [.r .u8 0 255] (y.l 3) := hy1.2.2.1.2
  have r5 : Row [.r .u8 0 255] (y.l 5) := hy1.2.2.2.1.2
  have r6 : Row [.i .u32, .i .i64, .i .u32] (y.l 6) := hy1.2.2.2.2.1.2
  have vl : ((vals (y.l 5)).length : Int) = y.n 4 := by rw [vals_len]; omega
  have w1 : IntKind.i64.wrap (y.n 4 - k) = y.n 4 - k := by rw [wi64]; omega
  have w2 : IntKind.i64.wrap (y.n 91008 + 1) = y.n 91008 + 1 := by rw [wi64]; omega
  simp only [T1y, T2y, T4y, w1, w2]
  refine ⟨fun h => ?_, fun h => ?_⟩
  · have h := of_decide_eq_true h
    have hlt : y.n 91008 < c := by omega
    refine ⟨fun ha => ?_, fun ha => ?_⟩
    · have ha := of_decide_eq_true ha
      refine ⟨by ((repeat' (first | exact trivial | with_reducible rfl | assumption | exact rfl | apply And.intro)) <;> omega), ?_⟩
      rintro y2 ⟨hu2, _, hq, ⟨e1, e2, e3⟩, hK2, hg2, hl2, hle2⟩
      obtain ⟨usy2, u4y2, _⟩ : (0 ≤ y2.n 3 ∧ y2.n 3 ≤ 65535) ∧ 0 ≤ y2.n 4 ∧ True := hu2.1
      obtain ⟨b1y2, b2y2, _⟩ : 0 ≤ y2.n 100001 ∧ 0 ≤ y2.n 100002 ∧ True := hu2.2.1
      have T1y2 : ((y2.n 100001).toNat : Int) = y2.n 100001 := Int.toNat_of_nonneg b1y2
      have T2y2 : ((y2.n 100002).toNat : Int) = y2.n 100002 := Int.toNat_of_nonneg b2y2
      have T4y2 : ((y2.n 4).toNat : Int) = y2.n 4 := Int.toNat_of_nonneg u4y2
      have s3 : Row [.r .u8 0 255] (y2.l 3) := hu2.2.2.1.2
      have s5 : Row [.r .u8 0 255] (y2.l 5) := hu2.2.2.2.1.2
      have s6 : Row [.i .u32, .i .i64, .i .u32] (y2.l 6) := hu2.2.2.2.2.1.2
      rw [h2, h3] at hq
      have hS := agF_s hA hlt
      have hx : agX k (OU.mk (Mm.mk (y.n 100000) (y.n 100001) (y.n 100002) (y.l 3) (y.l 6)) (vals (y.l 5))).o = 0 := by
        show agX k (vals (y.l 5)) = _
        unfold agX
        rw [if_neg (by omega)]
      rw [hx, ← hq] at hS
      simp only [T1y2, T2y2, T4y2]
      ((repeat' (first | exact trivial | with_reducible rfl | assumption | exact rfl | apply And.intro)) <;> omega)
    · have ha := of_decide_eq_false ha
      have hin : inB (y.n 4 - k) (y.n 4).toNat = true := by simp only [inB, Bool.and_eq_true, decide_eq_true_eq]; omega
      have hro := r5.rOk (p := (y.n 4 - k).toNat) (q := .r .u8 0 255) (k := EK.i .u8) (by omega) (by simp [Nat.mod_one]) rfl
      have hrg := r5.rg (p := (y.n 4 - k).toNat) (k := .u8) (lo := 0) (hi := 255) (by omega) (by simp [Nat.mod_one])
      refine ⟨hin, hro, by ((repeat' (first | exact trivial | with_reducible rfl | assumption | exact rfl | apply And.intro)) <;> omega), ?_⟩
      rintro y2 ⟨hu2, _, hq, ⟨e1, e2, e3⟩, hK2, hg2, hl2, hle2⟩
      obtain ⟨usy2, u4y2, _⟩ : (0 ≤ y2.n 3 ∧ y2.n 3 ≤ 65535) ∧ 0 ≤ y2.n 4 ∧ True := hu2.1
      obtain ⟨b1y2, b2y2, _⟩ : 0 ≤ y2.n 100001 ∧ 0 ≤ y2.n 100002 ∧ True := hu2.2.1
      have T1y2 : ((y2.n 100001).toNat : Int) = y2.n 100001 := Int.toNat_of_nonneg b1y2
      have T2y2 : ((y2.n 100002).toNat : Int) = y2.n 100002 := Int.toNat_of_nonneg b2y2
      have T4y2 : ((y2.n 4).toNat : Int) = y2.n 4 := Int.toNat_of_nonneg u4y2
      have s3 : Row [.r .u8 0 255] (y2.l 3) := hu2.2.2.1.2
      have s5 : Row [.r .u8 0 255] (y2.l 5) := hu2.2.2.2.1.2
      have s6 : Row [.i .u32, .i .i64, .i .u32] (y2.l 6) := hu2.2.2.2.2.1.2
      rw [h2, h3] at hq
      have hS := agF_s hA hlt
      have hx : agX k (OU.mk (Mm.mk (y.n 100000) (y.n 100001) (y.n 100002) (y.l 3) (y.l 6)) (vals (y.l 5))).o = rI (y.l 5) (y.n 4 - k).toNat := by
        show agX k (vals (y.l 5)) = _
        unfold agX
        rw [if_pos (by omega), vl, vals_get _ _ (by omega)]
      rw [hx, ← hq] at hS
      simp only [T1y2, T2y2, T4y2]
      ((repeat' (first | exact trivial | with_reducible rfl | assumption | exact rfl | apply And.intro)) <;> omega)
  · have h := of_decide_eq_false h
    have e0 : (c - y.n 91008).toNat = 0 := by omega
    rw [e0] at hA
    have hA : (OU.mk (Mm.mk (y.n 100000) (y.n 100001) (y.n 100002) (y.l 3) (y.l 6)) (vals (y.l 5))) = agF E (z.n 2) (z.n 3) k c.toNat (OU.mk (Mm.mk (z.n 100000) (z.n 100001) (z.n 100002) (z.l 3) (z.l 4)) (vals (z.l 2))) := hA
    ((repeat' (first | exact trivial | with_reducible rfl | assumption | exact rfl | apply And.intro)) <;> omega)
theorem ag_pro (E : World) (c k : Int) (z : PX) :
    (loopP (pe E) Try.f58 (endR ([mS 2, mN 3 4, rowB, rowB, rowN] : List MB).length [mS 5, mN 3 6, .g HOLE, rowB, .g HOLE, rowB, rowN] (.t []) (fun z y => ((OU.mk (Mm.mk (y.n 100000) (y.n 100001) (y.n 100002) (y.l 3) (y.l 6)) (vals (y.l 5))) = agF E (z.n 2) (z.n 3) k c.toNat (OU.mk (Mm.mk (z.n 100000) (z.n 100001) (z.n 100002) (z.l 3) (z.l 4)) (vals (z.l 2))) ∧ y.n 1 = z.n 1) ∧ (y.n 2 = z.n 2 ∧ y.n 3 = z.n 3) ∧ okM (Mm.mk (y.n 100000) (y.n 100001) (y.n 100002) (y.l 3) (y.l 6)) ∧ y.n 100002 + z.n 4 ≤ z.n 100002 + y.n 4 ∧ (y.l 5).length = (y.n 4).toNat ∧ y.n 4 ≤ y.n 3) z) (headR ([mS 2, mN 3 4, rowB, rowB, rowN] : List MB).length Try.f58.ntmps none (ag_hs E c k z)) (run (pe E) (orcG E) (tabL fns) 20000 (2 ^ 200 - 1) [.code (Try.f58.body.getD .skip)] ⟨Try.f58.ntmps, mkFrGo (Tr.mk 12) 0 [.c (.p 0 0), .c (.i false .i64 c), .c (.i false .i64 k)]⟩ (mkM z [] [mS 2, mN 3 4, rowB, rowB, rowN] 0))) =
     (ag_td E = ag_td E ∧ 31 = 31 ∧ (True ∧ (renC (posN [(0 : Nat), (1 : Nat), (1000000000002 : Nat), (3 : Nat), (1000000000004 : Nat), (2 : Nat), (4 : Nat)]) (C.i false i64 k) = C.i false i64 k ∧ True) ∧ ((0 ≤ c ∧ c ≤ 100) ∧ True) ∧ (((0 : Int) ≤ (0 : Int) ∧ (0 : Int) ≤ 100) ∧ True) ∧ True) ∧ (eP (z.n 3) (z.l 3) (z.l 2) (z.l 4)) ∧ ((agF E (z.n 2) (z.n 3) k (c - 0).toNat (OU.mk (Mm.mk (z.n 100000) (↑(z.n 100001).toNat : Int) (↑(z.n 100002).toNat : Int) (z.l 3) (z.l 4)) (vals (z.l 2))) = agF E (z.n 2) (z.n 3) k c.toNat (OU.mk (Mm.mk (z.n 100000) (z.n 100001) (z.n 100002) (z.l 3) (z.l 4)) (vals (z.l 2))) ∧ z.n 1 = z.n 1) ∧ (c = c ∧ 0 ≤ c) ∧ (z.n 2 = z.n 2 ∧ z.n 3 = z.n 3) ∧ okM (Mm.mk (z.n 100000) (↑(z.n 100001).toNat : Int) (↑(z.n 100002).toNat : Int) (z.l 3) (z.l 4)) ∧ (↑(z.n 100002).toNat : Int) + z.n 4 ≤ z.n 100002 + (↑(z.n 4).toNat : Int) ∧ (z.l 2).length = (↑(z.n 4).toNat : Int).toNat ∧ (↑(z.n 4).toNat : Int) ≤ z.n 3) ∧ True) := by kernel_rfl
set_option maxHeartbeats 8000000 in
theorem ag_c (E : World) (c k : Int) (z : PX) (hz : rgM z [mS 2, mN 3 4, rowB, rowB, rowN] 0) (hp : (fun z => okM (Mm.mk (z.n 100000) (z.n 100001) (z.n 100002) (z.l 3) (z.l 4)) ∧ z.n 100002 ≤ 200000 + z.n 4 ∧ (z.l 2).length = (z.n 4).toNat ∧ z.n 4 ≤ z.n 3 ∧ 0 ≤ z.n 4 ∧ (1 ≤ k ∧ k ≤ 5000) ∧ 0 ≤ c ∧ c ≤ 100) z) : HD (pe E) 58 [.c (.p 0 0), .c (.i false .i64 c), .c (.i false .i64 k)] [mS 2, mN 3 4, rowB, rowB, rowN] [mS 5, mN 3 6, .g HOLE, rowB, .g HOLE, rowB, rowN] (.t []) (fun z y => ((OU.mk (Mm.mk (y.n 100000) (y.n 100001) (y.n 100002) (y.l 3) (y.l 6)) (vals (y.l 5))) = agF E (z.n 2) (z.n 3) k c.toNat (OU.mk (Mm.mk (z.n 100000) (z.n 100001) (z.n 100002) (z.l 3) (z.l 4)) (vals (z.l 2))) ∧ y.n 1 = z.n 1) ∧ (y.n 2 = z.n 2 ∧ y.n 3 = z.n 3) ∧ okM (Mm.mk (y.n 100000) (y.n 100001) (y.n 100002) (y.l 3) (y.l 6)) ∧ y.n 100002 + z.n 4 ≤ z.n 100002 + y.n 4 ∧ (y.l 5).length = (y.n 4).toNat ∧ y.n 4 ≤ y.n 3) z := by
  refine HD.loop (P := pe E) orcG_ok tab_ok tab_sz mixed Try.func58 (c := Try.f58.body.getD .skip) rfl (by decide) (Nat.le_of_ble_eq_true rfl) (by rfl) 20000 (2 ^ 200 - 1) (ag_hs E c k z) (by rfl) (loopP_lfH ⟨?_⟩) ?_
  · rw [ag_pro]
    obtain ⟨hK, hnz, hl, hle, hz0, hk, hc⟩ := hp
    have hf1 : flat [Sp.r .u8 0 255] = true := rfl
    have hf2 : flat [Sp.i .u32, Sp.i .i64, Sp.i .u32] = true := rfl
    obtain ⟨usz, u4z, _⟩ : (0 ≤ z.n 3 ∧ z.n 3 ≤ 65535) ∧ 0 ≤ z.n 4 ∧ True := hz.1
    obtain ⟨b1z, b2z, _⟩ : 0 ≤ z.n 100001 ∧ 0 ≤ z.n 100002 ∧ True := hz.2.1
    have T1z : ((z.n 100001).toNat : Int) = z.n 100001 := Int.toNat_of_nonneg b1z
    have T2z : ((z.n 100002).toNat : Int) = z.n 100002 := Int.toNat_of_nonneg b2z
    have T4z : ((z.n 4).toNat : Int) = z.n 4 := Int.toNat_of_nonneg u4z
    have r2 : Row [.r .u8 0 255] (z.l 2) := hz.2.2.1.2
    have r3 : Row [.r .u8 0 255] (z.l 3) := hz.2.2.2.1.2
    have r4 : Row [.i .u32, .i .i64, .i .u32] (z.l 4) := hz.2.2.2.2.1.2
    simp only [T1z, T2z, T4z, Int.sub_zero]
    ((repeat' (first | exact trivial | with_reducible rfl | assumption | exact rfl | apply And.intro)) <;> omega)
  · intro h hmem y hy1 hy2 hy3
    simp only [ag_hs, List.mem_cons, List.not_mem_nil, or_false] at hmem
    rcases hmem with rfl
    · exact ag_q0 E c k z hp y hy1 hy2 hy3
end Go.Proofs.Ytabklphoccicmaa

