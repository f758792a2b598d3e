import Derived.Test.YtdomhmajoclpeaaK
set_option linter.unusedVariables false
set_option linter.unusedSimpArgs false
namespace Go.Proofs.Ytdomhmajoclpeaa
open Go Go.Proofs Go.Proofs.Ytdomhmajoclpeaa.Ev Go.Proofs.Ytdomhmajoclpeaa.Ev.Ho Go.IntKind
set_option maxRecDepth 100000
theorem drawR_r3 (E : World) (i line : Int) (z : PX) (y : PX) :
    (loopP (pe E) Try.f11 (endR ([mS 1, rowB, rowB, rowB] : List MB).length [mS 1, rowB, rowB, rowB] (.a (List.replicate 240 (.i .u16))) (QdE i line) z) (headR ([mS 1, rowB, rowB, rowB] : List MB).length Try.f11.ntmps (some ((fun y => (240 - y.n 91062).toNat) y)) (drawR_hs E i line z))  (run (pe E) (orcXR E) (tabL fns) 20000 (2 ^ 200 - 1) (td2R E ) (mkL Try.f11.ntmps (slC y [(6, .c (.p 4 0)), (7, .c (.p 5 0)), (10, .r .i64 (1) (16)), (13, .q (.clo 1000028 [(6, 0)])), (14, .r .u16 (0) (32768)), (62, .r .i64 (0) (240))])) (mkM y [] [.f ⟨(spC z (SPR 1) 0), 31⟩, rowB, rowB, rowB, mO, mO, mL0] 0))) =
    ((decide (y.n 91062 < 240) = true → (!decide (y.n 91010 = 0)) = true ∧ (((y.n 91062).tmod (y.n 91010) == 0) = true → ((59 = 59 ∧ ((0 ≤ y.n 600001 ∧ y.n 600001 ≤ 3) ∧ (0 ≤ y.n 600002 ∧ y.n 600002 ≤ 65535) ∧ (0 ≤ y.n 600003 ∧ y.n 600003 ≤ 159) ∧ (0 ≤ y.n 600004 ∧ y.n 600004 ≤ 15) ∧ True) ∧ 31 = 31 ∧ (rgS z 0 (True)) ∧ rw3 y 1 (([] : SW) = [])) ∧ (ROk (y.l 1) (↑(z.n 26).toNat : Int).toNat ∧ ROk (y.l 2) (↑(z.n 27).toNat : Int).toNat) ∧ 2 ≤ y.n 600001 ∧ 0 ≤ y.n 91062 ∧ y.n 91062 ≤ 239) ∧ ∀ (y_1 : PX), ((0 ≤ y_1.n 90000 ∧ y_1.n 90000 ≤ 32768) ∧ True) ∧ y_1.n 90000 = smlF (scM z 0 (bR (y.l 1) (↑(z.n 26).toNat : Int).toNat) (↑(z.n 26).toNat : Int).toNat (bR (y.l 2) (↑(z.n 27).toNat : Int).toNat) (↑(z.n 27).toNat : Int).toNat) (pxF (scM z 0 (bR (y.l 1) (↑(z.n 26).toNat : Int).toNat) (↑(z.n 26).toNat : Int).toNat (bR (y.l 2) (↑(z.n 27).toNat : Int).toNat) (↑(z.n 27).toNat : Int).toNat) (y.n 600001) (y.n 91062) (y.n 600004)) (pyF (scM z 0 (bR (y.l 1) (↑(z.n 26).toNat : Int).toNat) (↑(z.n 26).toNat : Int).toNat (bR (y.l 2) (↑(z.n 27).toNat : Int).toNat) (↑(z.n 27).toNat : Int).toNat) (y.n 600001) (y.n 91062) (y.n 600004)) → inB (y.n 91062) (240 : Nat) = true ∧ td2R E = td2R E ∧ 77 = 77 ∧ (True ∧ True ∧ ((1 ≤ y.n 91010 ∧ y.n 91010 ≤ 16) ∧ True) ∧ (renC (posN [0, 1, 2, 3, 4, 5, 6]) (C.clo (1000028 : FuncId) [((6 : Nat), (0 : Nat))]) = C.clo (1000028 : FuncId) [((6 : Nat), (0 : Nat))] ∧ True) ∧ ((0 ≤ y_1.n 90000 ∧ y_1.n 90000 ≤ 32768) ∧ True) ∧ ((0 ≤ i64.wrap (y.n 91062 + 1) ∧ i64.wrap (y.n 91062 + 1) ≤ 240) ∧ True) ∧ True) ∧ (Bl.mk (spC z (SPR (1 : Nat)) (0 : Nat)) (31 : TypeId) = Bl.mk (spC z (SPR (1 : Nat)) (0 : Nat)) (31 : TypeId) ∧ rw3 y 1 (42 = 42 ∧ True ∧ 42 = 42 ∧ True ∧ 59 = 59 ∧ ((0 ≤ y.n 600001 ∧ y.n 600001 ≤ 3) ∧ (0 ≤ y.n 600002 ∧ y.n 600002 ≤ 65535) ∧ (0 ≤ y.n 600003 ∧ y.n 600003 ≤ 159) ∧ (0 ≤ y.n 600004 ∧ y.n 600004 ≤ 15) ∧ True) ∧ ([] : SW) = [])) ∧ (EqR (y.l 1) (y.l 2) (y.l 3) (z.l 1) (z.l 2) (z.l 3) ∧ AllF (i64.wrap (y.n 91062 + 1)) (fun (x : Int) => dotF
      (scZ z) i x line) (updL (y.n 91062) (y_1.n 90000) 0 (cl y 500000 60)) (updL (y.n 91062) (y_1.n 90000) 60 (cl y 500060 60)) (updL (y.n 91062) (y_1.n 90000) 120 (cl y 500120 60)) (updL (y.n 91062) (y_1.n 90000) 180 (cl y 500180 60)) ∧ Lay (scZ z) i line (y.n 600001) (y.n 600002) (y.n 600003) (y.n 600004) (y.n 91010) ∧ DotP (scZ z) i line (i64.wrap (y.n 91062 + 1)) (y_1.n 90000) ∧ z.n 0 % (8 : Int) = (5 : Int) ∧ 2 ≤ i) ∧ (240 - i64.wrap (y.n 91062 + 1)).toNat < (240 - y.n 91062).toNat ∧ True) ∧ (((y.n 91062).tmod (y.n 91010) == 0) = false → inB (y.n 91062) (240 : Nat) = true ∧ td2R E = td2R E ∧ 77 = 77 ∧ (True ∧ True ∧ ((1 ≤ y.n 91010 ∧ y.n 91010 ≤ 16) ∧ True) ∧ (renC (posN [0, 1, 2, 3, 4, 5, 6]) (C.clo (1000028 : FuncId) [((6 : Nat), (0 : Nat))]) = C.clo (1000028 : FuncId) [((6 : Nat), (0 : Nat))] ∧ True) ∧ ((0 ≤ y.n 91014 ∧ y.n 91014 ≤ 32768) ∧ True) ∧ ((0 ≤ i64.wrap (y.n 91062 + 1) ∧ i64.wrap (y.n 91062 + 1) ≤ 240) ∧ True) ∧ True) ∧ (Bl.mk (spC z (SPR (1 : Nat)) (0 : Nat)) (31 : TypeId) = Bl.mk (spC z (SPR (1 : Nat)) (0 : Nat)) (31 : TypeId) ∧ rw3 y 1 (42 = 42 ∧ True ∧ 42 = 42 ∧ True ∧ 59 = 59 ∧ ((0 ≤ y.n 600001 ∧ y.n 600001 ≤ 3) ∧ (0 ≤ y.n 600002 ∧ y.n 600002 ≤ 65535) ∧ (0 ≤ y.n 600003 ∧ y.n 600003 ≤ 159) ∧ (0 ≤ y.n 600004 ∧ y.n 600004 ≤ 15) ∧ True) ∧ ([] : SW) = [])) ∧ (EqR (y.l 1) (y.l 2) (y.l 3) (z.l 1) (z.l 2) (z.l 3) ∧ AllF (i64.wrap (y.n 91062 + 1)) (fun (x : Int) => dotF (scZ z) i x line) (updL (y.n 91062) (y.n 91014) 0 (cl y 500000 60)) (updL (y.n 91062) (y.n 91014) 60 (cl y 500060 60)) (updL (y.n 91062) (y.n 91014) 120 (cl y 500120 60)) (updL (y.n 91062) (y.n 91014) 180 (cl y 500180 60)) ∧ Lay (scZ z) i line (y.n 600001) (y.n 600002) (y.n 600003) (y.n 600004) (y.n 91010) ∧ DotP (scZ z) i line (i64.wrap (y.n 91062 + 1)) (y.n 91014) ∧ z.n 0 % (8 : Int) = (5 : Int) ∧ 2 ≤ i) ∧ (240 - i64.wrap (y.n 91062 + 1)).toNat < (240 - y.n 91062).toNat ∧ True)) ∧ (decide (y.n 91062 < 240) = false → (31 = 31 ∧ (rgS z 0 (True)) ∧ rw3 y 1 (([] : SW) = [])) ∧ True ∧ AllF 240 (fun (x : Int) => dotF (scZ z) i x line) (cl y 500000 60) (cl y 500060 60) (cl y 500120 60) (cl y 500180 60) ∧ EqR (y.l 1) (y.l 2) (y.l 3) (z.l 1) (z.l 2) (z.l 3) ∧ EqN [z.n 0, z.n 1, z.n 2, z.n 3, z.n 4, z.n 5, z.n 6, z.n 7, z.n 8, z.n 9, z.n 10, z.n 11, z.n 12, z.n 13, z.n 14, z.n 15, z.n 16, z.n 17, z.n 18, z.n 19, z.n 20, z.n 21, z.n 22, z.n 23, z.n 24, z.n 25, (↑(z.n 26).toNat : Int), (↑(z.n 27).toNat : Int), (↑(z.n 28).toNat : Int)] [z.n 0, z.n 1, z.n 2, z.n 3, z.n 4, z.n 5, z.n 6, z.n 7, z.n 8, z.n 9, z.n 10, z.n 11, z.n 12, z.n 13, z.n 14, z.n 15, z.n 16, z.n 17, z.n 18, z.n 19, z.n 20, z.n 21, z.n 22, z.n 23, z.n 24, z.n 25, z.n 26, z.n 27, z.n 28])) := by kernel_rfl
set_option maxHeartbeats 8000000 in
theorem drawR_q3 (E : World) (i line : Int) (z : PX) (hz : rgM z [mS 1, rowB, rowB, rowB] 0) (hp : (fun z => (ROk (z.l 1) (z.n 26).toNat ∧ ROk (z.l 2) (z.n 27).toNat) ∧ True) z) (y : PX) (hy1 : rgM y [.f ⟨(spC z (SPR 1) 0), 31⟩, rowB, rowB, rowB, mO, mO, mL0] 0) (hy2 : rgF y [(6, .c (.p 4 0)), (7, .c (.p 5 0)), (10, .r .i64 (1) (16)), (13, .q (.clo 1000028 [(6, 0)])), (14, .r .u16 (0) (32768)), (62, .r .i64 (0) (240))]) (hy3 : (fun y => EqR (y.l 1) (y.l 2) (y.l 3) (z.l 1) (z.l 2) (z.l 3) ∧ AllF (y.n 91062) (fun x => dotF (scZ z) i x line) (cl y 500000 60) (cl y 500060 60) (cl y 500120 60) (cl y 500180 60) ∧ Lay (scZ z) i line (y.n 600001) (y.n 600002) (y.n 600003) (y.n 600004) (y.n 91010) ∧ DotP (scZ z) i line (y.n 91062) (y.n 91014) ∧ z.n 0 % 8 = 5 ∧ 2 ≤ i) y) : Holds ((run (pe E) (orcXR E) (tabL fns) 20000 (2 ^ 200 - 1) (td2R E ) (mkL Try.f11.ntmps (slC y [(6, .c (.p 4 0)), (7, .c (.p 5 0)), (10, .r .i64 (1) (16)), (13, .q (.clo 1000028 [(6, 0)])), (14, .r .u16 (0) (32768)), (62, .r .i64 (0) (240))])) (mkM y [] [.f ⟨(spC z (SPR 1) 0), 31⟩, rowB, rowB, rowB, mO, mO, mL0] 0)).OK (lfP (pe E) Try.f11 (endR ([mS 1, rowB, rowB, rowB] : List MB).length [mS 1, rowB, rowB, rowB] (.a (List.replicate 240 (.i .u16))) (QdE i line) z) (headR ([mS 1, rowB, rowB, rowB] : List MB).length Try.f11.ntmps (some ((fun y => (240 - y.n 91062).toNat) y)) (drawR_hs E i line z)))) := by
  refine loopP_lfH ⟨?_⟩
  rw [drawR_r3]
  have hf : True ∧ True ∧ (((1) ≤ y.n 91010 ∧ y.n 91010 ≤ (16)) ∧ True) ∧ True ∧ (((0) ≤ y.n 91014 ∧ y.n 91014 ≤ (32768)) ∧ True) ∧ (((0) ≤ y.n 91062 ∧ y.n 91062 ≤ (240)) ∧ True) ∧ True := hy2
  obtain ⟨_, _, ⟨g10, _⟩, _, ⟨g14, _⟩, ⟨g62, _⟩, _⟩ := hf
  obtain ⟨⟨hK1, hK2⟩, _⟩ := hp
  obtain ⟨r0, r1, r2, r3, r4, r5, r6, r7, r8, r9, r10, r11, r12, r13, r14, r15, r16, r17, r18, r19, r20, r21, r22, r23, r24, r25, v26, v27, v28, _⟩ := hz.1
  replace r0 : 0 ≤ z.n 0 ∧ z.n 0 ≤ 65535 := r0
  have hF : flat [Sp.r .u8 0 255] = true := rfl
  replace v26 : 0 ≤ z.n 26 := v26
  replace v27 : 0 ≤ z.n 27 := v27
  replace v28 : 0 ≤ z.n 28 := v28
  have t26 := Int.toNat_of_nonneg v26
  have t27 := Int.toNat_of_nonneg v27
  have t28 := Int.toNat_of_nonneg v28
  have hR1 : Row [.r .u8 0 255] (y.l 1) := hy1.1.2
  have hR2 : Row [.r .u8 0 255] (y.l 2) := hy1.2.1.2
  have hR3 : Row [.r .u8 0 255] (y.l 3) := hy1.2.2.1.2
  obtain ⟨eR, hA, hL, hD, hc⟩ := hy3
  have g62' : 0 ≤ y.n 91062 ∧ y.n 91062 ≤ 240 := g62
  have g10' : 1 ≤ y.n 91010 ∧ y.n 91010 ≤ 16 := g10
  have hl1 : 0 ≤ y.n 600001 ∧ y.n 600001 ≤ 3 := hy1.2.2.2.2.2.1.1
  have hl2 : 0 ≤ y.n 600002 ∧ y.n 600002 ≤ 65535 := hy1.2.2.2.2.2.1.2.1
  have hl3 : 0 ≤ y.n 600003 ∧ y.n 600003 ≤ 159 := hy1.2.2.2.2.2.1.2.2.1
  have hl4 : 0 ≤ y.n 600004 ∧ y.n 600004 ≤ 15 := hy1.2.2.2.2.2.1.2.2.2.1
  have en1 : y.n 600001 = i := hL.n
  have hK1y : ROk (y.l 1) (z.n 26).toNat := by rw [eR.h1]; exact hK1
  have hK2y : ROk (y.l 2) (z.n 27).toNat := by rw [eR.h2]; exact hK2
  have eN : EqN [z.n 0, z.n 1, z.n 2, z.n 3, z.n 4, z.n 5, z.n 6, z.n 7, z.n 8, z.n 9, z.n 10, z.n 11, z.n 12, z.n 13, z.n 14, z.n 15, z.n 16, z.n 17, z.n 18, z.n 19, z.n 20, z.n 21, z.n 22, z.n 23, z.n 24, z.n 25, ((z.n 26).toNat : Int), ((z.n 27).toNat : Int), ((z.n 28).toNat : Int)] [z.n 0, z.n 1, z.n 2, z.n 3, z.n 4, z.n 5, z.n 6, z.n 7, z.n 8, z.n 9, z.n 10, z.n 11, z.n 12, z.n 13, z.n 14, z.n 15, z.n 16, z.n 17, z.n 18, z.n 19, z.n 20, z.n 21, z.n 22, z.n 23, z.n 24, z.n 25, z.n 26, z.n 27, z.n 28] := ⟨by rw [t26, t27, t28]⟩
  have hnz : (!decide (y.n 91010 = 0)) = true := by rw [decide_eq_false (by omega)]; rfl
  have hmo : (y.n 91062).tmod (y.n 91010) = y.n 91062 % y.n 91010 := Int.tmod_eq_emod_of_nonneg g62'.1
  rw [hmo]
  simp only [Int.toNat_natCast]
  simp only [decide_eq_true_eq, decide_eq_false_iff_not, beq_iff_eq, beq_eq_false_iff_ne, ne_eq]
  refine ⟨fun h => ?_, fun h => ?_⟩
  · have w1 : IntKind.i64.wrap (y.n 91062 + 1) = y.n 91062 + 1 := wi64_in _ (by omega) (by omega)
    have hin : inB (y.n 91062) 240 = true := inB_of g62'.1 (by omega)
    rw [w1]
    refine ⟨by first | trivial | exact hnz | (simp only [Bool.not_eq_true', decide_eq_false_iff_not]; omega) | omega, fun hm => ⟨?_, ?_⟩, fun hm => ?_⟩
    · (repeat' (first | exact trivial | with_reducible rfl | exact decide_eq_true rfl | exact decide_eq_true trivial | exact sameB_self _ | with_reducible assumption | apply And.intro)) <;> (first | omega | done)
    · rintro y1 ⟨⟨hv, _⟩, hq⟩
      rw [eR.h1, eR.h2] at hq
      have hd : y1.n 90000 = dotF (scZ z) i (y.n 91062) line := by
        rw [dot_y hL, div_m g62'.1 g10' hm, pix5 (s := (scZ z)) hc.1, hq]
        first | done | rfl | (rw [hL.n]; done) | (rw [hL.n, hL.c]; done)
      have hU := AllF_upd hA hd g62'.1 rfl rfl rfl
      have hDn := DotP.next hd
      (repeat' (first | exact trivial | with_reducible rfl | exact AllF_zero | exact hU | exact hDn | exact rnR _ | exact decide_eq_true rfl | exact sameB_self _ | exact decide_eq_true trivial | with_reducible assumption | apply And.intro | intro _)) <;> (first | omega | done)
    · have hpos : 0 < y.n 91062 := by
        rcases Int.lt_or_eq_of_le g62'.1 with h0 | h0
        · exact h0
        · rw [← h0] at hm; exact absurd (Int.zero_emod _) hm
      have hd : y.n 91014 = dotF (scZ z) i (y.n 91062) line := by
        rw [hD.d hpos, dot_y hL, dot_y hL, div_s g62'.1 g10' hm]
      have hU := AllF_upd hA hd g62'.1 rfl rfl rfl
      have hDn := DotP.next hd
      (repeat' (first | exact trivial | with_reducible rfl | exact AllF_zero | exact hU | exact hDn | exact rnR _ | with_reducible assumption | apply And.intro | intro _)) <;> (first | omega | done)
  · have hE : AllF 240 (fun x => dotF (scZ z) i x line) (cl y 500000 60) (cl y 500060 60) (cl y 500120 60) (cl y 500180 60) := AllF_end hA (by omega) (fun j => rfl)
    (repeat' (first | exact trivial | with_reducible rfl | exact AllF_zero | exact hE | with_reducible assumption | apply And.intro | intro _)) <;> (first | omega | done)
end Go.Proofs.Ytdomhmajoclpeaa

