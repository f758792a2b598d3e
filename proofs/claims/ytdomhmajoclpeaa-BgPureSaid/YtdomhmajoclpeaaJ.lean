import Derived.Test.YtdomhmajoclpeaaI
set_option linter.unusedVariables false
set_option linter.unusedSimpArgs false
namespace Go.Proofs.Ytdomhmajoclpeaa
open Go Go.Proofs Go.Proofs.Ytdomhmajoclpeaa.Ev Go.Proofs.Ytdomhmajoclpeaa.Ev.Ho Go.IntKind
set_option maxRecDepth 100000
theorem ins_t {X w Y h : Int} : (!bif bif bif decide (X ≥ 0) then decide (X < w) else false then decide (Y ≥ 0) else false then decide (Y < h) else false) = true ↔ ¬(0 ≤ X ∧ X < w ∧ 0 ≤ Y ∧ Y < h) := by
  by_cases a : X ≥ 0 <;> by_cases b : X < w <;> by_cases c : Y ≥ 0 <;> by_cases d : Y < h <;> simp [a, b, c, d] <;> omega
theorem ins_f {X w Y h : Int} : (!bif bif bif decide (X ≥ 0) then decide (X < w) else false then decide (Y ≥ 0) else false then decide (Y < h) else false) = false ↔ (0 ≤ X ∧ X < w ∧ 0 ≤ Y ∧ Y < h) := by
  by_cases a : X ≥ 0 <;> by_cases b : X < w <;> by_cases c : Y ≥ 0 <;> by_cases d : Y < h <;> simp [a, b, c, d] <;> omega
theorem szE (c : Int) (h : 0 ≤ c ∧ c ≤ 65535) : IntKind.i64.wrap (128 * 2 ^ min (c.fdiv 16384).toNat 64) = (if c / 16384 = 0 then 128 else if c / 16384 = 1 then 256 else if c / 16384 = 2 then 512 else 1024) := by
  rw [fd _ _ (by decide)]
  have : c / 16384 = 0 ∨ c / 16384 = 1 ∨ c / 16384 = 2 ∨ c / 16384 = 3 := by omega
  rcases this with h | h | h | h <;> rw [h] <;> decide
theorem rpE (c u S : Int) (h : 0 ≤ c ∧ c ≤ 65535) (hS : S = 128 ∨ S = 256 ∨ S = 512 ∨ S = 1024) : (bif bits .and .u16 c 8192 != 0 then bits .and .i64 u (IntKind.i64.wrap (S - 1)) else u) = (if c / 8192 % 2 = 1 then u % S else u) := by
  rw [ab8192 c h]
  have e : bits .and .i64 u (IntKind.i64.wrap (S - 1)) = u % S := by
    rcases hS with rfl | rfl | rfl | rfl
    · exact and_mask .i64 u 7 (.inl (by decide))
    · exact and_mask .i64 u 8 (.inl (by decide))
    · exact and_mask .i64 u 9 (.inl (by decide))
    · exact and_mask .i64 u 10 (.inl (by decide))
  by_cases hb : c / 8192 % 2 = 1
  · rw [decide_eq_true hb, if_pos hb, cond_true, e]
  · rw [decide_eq_false hb, if_neg hb, cond_false]
theorem dirR_p (E : World) (z : PX) (x : Int) :
    (hoPr true [mL, mS 2, rowB, rowB, rowB] [] (.c (.r .u16 0 32768)) (fun z y => y.n 90000 = dirF (scM z 100000 (bR (z.l 2) (z.n 100026).toNat) (z.n 100026).toNat (bR (z.l 3) (z.n 100027).toNat) (z.n 100027).toNat) (pxF (scM z 100000 (bR (z.l 2) (z.n 100026).toNat) (z.n 100026).toNat (bR (z.l 3) (z.n 100027).toNat) (z.n 100027).toNat) (z.n 1) x (z.n 4)) (pyF (scM z 100000 (bR (z.l 2) (z.n 100026).toNat) (z.n 100026).toNat (bR (z.l 3) (z.n 100027).toNat) (z.n 100027).toNat) (z.n 1) x (z.n 4))) z (fnTree (pe E) (orcPR E) (tabL fns) 20000 Try.f26 [.c (.p 0 0), .c (.i false .i64 x)] (mkM z [] [mL, mS 2, rowB, rowB, rowB] 0))) =
    (((59 = 59 ∧ ((0 ≤ z.n 1 ∧ z.n 1 ≤ 3) ∧ (0 ≤ z.n 2 ∧ z.n 2 ≤ 65535) ∧ (0 ≤ z.n 3 ∧ z.n 3 ≤ 159) ∧ (0 ≤ z.n 4 ∧ z.n 4 ≤ 15) ∧ True) ∧ 31 = 31 ∧ (rgS z 100000 (True)) ∧ rw3 z 2 (([] : SW) = [])) ∧ (ROk (z.l 2) (↑(z.n 100026).toNat : Int).toNat ∧ ROk (z.l 3) (↑(z.n 100027).toNat : Int).toNat) ∧ 2 ≤ z.n 1 ∧ 0 ≤ x ∧ x ≤ 239) ∧ ∀ (y : PX), (((-8388608) ≤ y.n 90000 ∧ y.n 90000 ≤ 8388607) ∧ ((-8388608) ≤ y.n 90001 ∧ y.n 90001 ≤ 8388607) ∧ True) ∧ y.n 90000 = pxF (scM z 100000 (bR (z.l 2) (↑(z.n 100026).toNat : Int).toNat) (↑(z.n 100026).toNat : Int).toNat (bR (z.l 3) (↑(z.n 100027).toNat : Int).toNat) (↑(z.n 100027).toNat : Int).toNat) (z.n 1) x (z.n 4) ∧ y.n 90001 = pyF (scM z 100000 (bR (z.l 2) (↑(z.n 100026).toNat : Int).toNat) (↑(z.n 100026).toNat : Int).toNat (bR (z.l 3) (↑(z.n 100027).toNat : Int).toNat) (↑(z.n 100027).toNat : Int).toNat) (z.n 1) x (z.n 4) → ((!bif bif bif decide (y.n 90000 ≥ 0) then decide (y.n 90000 < 240) else false then decide (y.n 90001 ≥ 0) else false then decide (y.n 90001 < 160) else false) = true → (((0 : Int) ≤ (32768 : Int) ∧ (32768 : Int) ≤ 32768) ∧ True) ∧ mkM z [] [mL, mS (2 : Nat), rowB, rowB, rowB] (0 : Nat) = mkM z [] [mL, mS (2 : Nat), rowB, rowB, rowB] (0 : Nat) ∧ 32768 = dirF (scM z 100000 (bR (z.l 2) (z.n 100026).toNat) (z.n 100026).toNat (bR (z.l 3) (z.n 100027).toNat) (z.n 100027).toNat) (pxF (scM z 100000 (bR (z.l 2) (z.n 100026).toNat) (z.n 100026).toNat (bR (z.l 3) (z.n 100027).toNat) (z.n 100027).toNat) (z.n 1) x (z.n 4)) (pyF (scM z 100000 (bR (z.l 2) (z.n 100026).toNat) (z.n 100026).toNat (bR (z.l 3) (z.n 100027).toNat) (z.n 100027).toNat) (z.n 1) x (z.n 4))) ∧ ((!bif bif bif decide (y.n 90000 ≥ 0) then decide (y.n 90000 < 240) else false then decide (y.n 90001 ≥ 0) else false then decide (y.n 90001 < 160) else false) = false → ((5 = 5 ∧ (flat [Sp.r u8 0 255] = true ∧ Row [Sp.r u8 0 255] (z.l 2)) ∧ ([] : SW) = []) ∧ ROk (z.l 2) (z.n 100026).toNat ∧ (-1000000000) ≤ i64.wrap (2 * i64.wrap (i64.wrap (y.n 90001 * 240) + y.n 90000)) ∧ i64.wrap (2 * i64.wrap (i64.wrap (y.n 90001 * 240) + y.n 90000)) ≤ 1000000000) ∧ ∀ (y_1 : PX), ((0 ≤ y_1.n 90000 ∧ y_1.n 90000 ≤ 65535) ∧ True) ∧ y_1.n 90000 = halfF (bR (z.l 2) (z.n 100026).toNat) (z.n 100026).toNat (i64.wrap (2 * i64.wrap (i64.wrap (y.n 90001 * 240) + y.n 90000))) → ((0 ≤ bits BinOp.andNot u16 (y_1.n 90000) 32768 ∧ bits BinOp.andNot u16 (y_1.n 90000) (32768 : Int) ≤ 32768) ∧ True) ∧ mkM z [] [mL, mS (2 : Nat), rowB, rowB, rowB] (0 : Nat) = mkM z [] [mL, mS (2 : Nat), rowB, rowB, rowB] (0 : Nat) ∧ bits BinOp.andNot u16 (y_1.n 90000) 32768 = dirF (scM z 100000 (bR (z.l 2) (z.n 100026).toNat) (z.n 100026).toNat (bR (z.l 3) (z.n 100027).toNat) (z.n 100027).toNat) (pxF (scM z 100000 (bR (z.l 2) (z.n 100026).toNat) (z.n 100026).toNat (bR (z.l 3) (z.n 100027).toNat) (z.n 100027).toNat) (z.n 1) x (z.n 4)) (pyF (scM z 100000 (bR (z.l 2) (z.n 100026).toNat) (z.n 100026).toNat (bR (z.l 3) (z.n 100027).toNat) (z.n 100027).toNat) (z.n 1) x (z.n 4)))) := by kernel_rfl
set_option maxHeartbeats 2000000 in
theorem dirR_c (E : World) (x : Int) (z : PX) (hz : rgM z [mL, mS 2, rowB, rowB, rowB] 0) (hp : (fun z => (ROk (z.l 2) (z.n 100026).toNat ∧ ROk (z.l 3) (z.n 100027).toNat) ∧ 2 ≤ z.n 1 ∧ 0 ≤ x ∧ x ≤ 239) z) : HR (pe E) 26 [.c (.p 0 0), .c (.i false .i64 x)] [mL, mS 2, rowB, rowB, rowB] [] (.c (.r .u16 0 32768)) (fun z y => y.n 90000 = dirF (scM z 100000 (bR (z.l 2) (z.n 100026).toNat) (z.n 100026).toNat (bR (z.l 3) (z.n 100027).toNat) (z.n 100027).toNat) (pxF (scM z 100000 (bR (z.l 2) (z.n 100026).toNat) (z.n 100026).toNat (bR (z.l 3) (z.n 100027).toNat) (z.n 100027).toNat) (z.n 1) x (z.n 4)) (pyF (scM z 100000 (bR (z.l 2) (z.n 100026).toNat) (z.n 100026).toNat (bR (z.l 3) (z.n 100027).toNat) (z.n 100027).toNat) (z.n 1) x (z.n 4))) z := by
  refine HR.mk true (by rfl) (by rfl) (fnTree_sound (P := pe E) orcPR_ok tab_ok tab_sz mixed 20000 Try.func26 (by decide) [.c (.p 0 0), .c (.i false .i64 x)] _) ⟨?_⟩
  rw [dirR_p]
  obtain ⟨⟨hK1, hK2⟩, hi, h0, h1⟩ := hp
  have hR1 : Row [.r .u8 0 255] (z.l 2) := hz.2.2.1.2
  have hR2 : Row [.r .u8 0 255] (z.l 3) := hz.2.2.2.1.2
  have hR3 : Row [.r .u8 0 255] (z.l 4) := hz.2.2.2.2.1.2
  have hF : flat [Sp.r .u8 0 255] = true := rfl
  obtain ⟨q1, q2, q3, q4, _⟩ := hz.1
  replace q1 : 0 ≤ z.n 1 ∧ z.n 1 ≤ 3 := q1
  replace q2 : 0 ≤ z.n 2 ∧ z.n 2 ≤ 65535 := q2
  replace q3 : 0 ≤ z.n 3 ∧ z.n 3 ≤ 159 := q3
  replace q4 : 0 ≤ z.n 4 ∧ z.n 4 ≤ 15 := q4
  obtain ⟨r0, r1, r2, r3, r4, r5, r6, r7, r8, r9, r10, r11, r12, r13, r14, r15, r16, r17, r18, r19, r20, r21, r22, r23, r24, r25, v26, v27, v28, _⟩ := hz.2.1
  simp only [Int.toNat_natCast]
  refine ⟨by (repeat' (first | exact trivial | with_reducible rfl | exact decide_eq_true rfl | exact decide_eq_true trivial | exact sameB_self _ | with_reducible assumption | apply And.intro)) <;> (first | omega | done), ?_⟩
  rintro y ⟨⟨hy1, hy2, _⟩, hq1, hq2⟩
  rw [← hq1, ← hq2]
  clear hq1 hq2
  generalize y.n 90000 = X at *
  generalize y.n 90001 = Y at *
  rw [ins_t, ins_f]
  unfold dirF
  dsimp only [scM]
  (repeat' (first | exact trivial | with_reducible rfl | exact decide_eq_true rfl | exact decide_eq_true trivial | exact sameB_self _ | with_reducible assumption | apply And.intro)) <;> try omega
  · intro h
    rw [if_neg h]
    (repeat' (first | exact trivial | with_reducible rfl | exact decide_eq_true rfl | exact decide_eq_true trivial | exact sameB_self _ | with_reducible assumption | apply And.intro)) <;> (first | omega | done)
  · intro h
    rw [if_pos h, wi64_in (Y * 240) (by omega) (by omega), wi64_in (Y * 240 + X) (by omega) (by omega), wi64_in (2 * (Y * 240 + X)) (by omega) (by omega)]
    (repeat' (first | exact trivial | with_reducible rfl | exact decide_eq_true rfl | exact decide_eq_true trivial | exact sameB_self _ | with_reducible assumption | apply And.intro)) <;> try omega
    rintro y1 ⟨⟨hb, _⟩, hqb⟩
    rw [an15 _ hb.1 hb.2, hqb]
    rw [hqb] at hb
    (repeat' (first | exact trivial | with_reducible rfl | exact decide_eq_true rfl | exact decide_eq_true trivial | exact sameB_self _ | with_reducible assumption | apply And.intro)) <;> (first | omega | done)
theorem idxR_p (E : World) (z : PX) (x : Int) :
    (hoPr true [mL, mS 2, rowB, rowB, rowB] [] (.c (.r .u16 0 32768)) (fun z y => y.n 90000 = idxF (scM z 100000 (bR (z.l 2) (z.n 100026).toNat) (z.n 100026).toNat (bR (z.l 3) (z.n 100027).toNat) (z.n 100027).toNat) (pxF (scM z 100000 (bR (z.l 2) (z.n 100026).toNat) (z.n 100026).toNat (bR (z.l 3) (z.n 100027).toNat) (z.n 100027).toNat) (z.n 1) x (z.n 4)) (pyF (scM z 100000 (bR (z.l 2) (z.n 100026).toNat) (z.n 100026).toNat (bR (z.l 3) (z.n 100027).toNat) (z.n 100027).toNat) (z.n 1) x (z.n 4))) z (fnTree (pe E) (orcPR E) (tabL fns) 20000 Try.f27 [.c (.p 0 0), .c (.i false .i64 x)] (mkM z [] [mL, mS 2, rowB, rowB, rowB] 0))) =
    (((59 = 59 ∧ ((0 ≤ z.n 1 ∧ z.n 1 ≤ 3) ∧ (0 ≤ z.n 2 ∧ z.n 2 ≤ 65535) ∧ (0 ≤ z.n 3 ∧ z.n 3 ≤ 159) ∧ (0 ≤ z.n 4 ∧ z.n 4 ≤ 15) ∧ True) ∧ 31 = 31 ∧ (rgS z 100000 (True)) ∧ rw3 z 2 (([] : SW) = [])) ∧ (ROk (z.l 2) (↑(z.n 100026).toNat : Int).toNat ∧ ROk (z.l 3) (↑(z.n 100027).toNat : Int).toNat) ∧ 2 ≤ z.n 1 ∧ 0 ≤ x ∧ x ≤ 239) ∧ ∀ (y : PX), (((-8388608) ≤ y.n 90000 ∧ y.n 90000 ≤ 8388607) ∧ ((-8388608) ≤ y.n 90001 ∧ y.n 90001 ≤ 8388607) ∧ True) ∧ y.n 90000 = pxF (scM z 100000 (bR (z.l 2) (↑(z.n 100026).toNat : Int).toNat) (↑(z.n 100026).toNat : Int).toNat (bR (z.l 3) (↑(z.n 100027).toNat : Int).toNat) (↑(z.n 100027).toNat : Int).toNat) (z.n 1) x (z.n 4) ∧ y.n 90001 = pyF (scM z 100000 (bR (z.l 2) (↑(z.n 100026).toNat : Int).toNat) (↑(z.n 100026).toNat : Int).toNat (bR (z.l 3) (↑(z.n 100027).toNat : Int).toNat) (↑(z.n 100027).toNat : Int).toNat) (z.n 1) x (z.n 4) → ((!bif bif bif decide (y.n 90000 ≥ 0) then decide (y.n 90000 < 240) else false then decide (y.n 90001 ≥ 0) else false then decide (y.n 90001 < 160) else false) = true → (((0 : Int) ≤ (32768 : Int) ∧ (32768 : Int) ≤ 32768) ∧ True) ∧ mkM z [] [mL, mS (2 : Nat), rowB, rowB, rowB] (0 : Nat) = mkM z [] [mL, mS (2 : Nat), rowB, rowB, rowB] (0 : Nat) ∧ 32768 = idxF (scM z 100000 (bR (z.l 2) (z.n 100026).toNat) (z.n 100026).toNat (bR (z.l 3) (z.n 100027).toNat) (z.n 100027).toNat) (pxF (scM z 100000 (bR (z.l 2) (z.n 100026).toNat) (z.n 100026).toNat (bR (z.l 3) (z.n 100027).toNat) (z.n 100027).toNat) (z.n 1) x (z.n 4)) (pyF (scM z 100000 (bR (z.l 2) (z.n 100026).toNat) (z.n 100026).toNat (bR (z.l 3) (z.n 100027).toNat) (z.n 100027).toNat) (z.n 1) x (z.n 4))) ∧ ((!bif bif bif decide (y.n 90000 ≥ 0) then decide (y.n 90000 < 240) else false then decide (y.n 90001 ≥ 0) else false then decide (y.n 90001 < 160) else false) = false → ((59 = 59 ∧ ((0 ≤ z.n 1 ∧ z.n 1 ≤ 3) ∧ (0 ≤ z.n 2 ∧ z.n 2 ≤ 65535) ∧ (0 ≤ z.n 3 ∧ z.n 3 ≤ 159) ∧ (0 ≤ z.n 4 ∧ z.n 4 ≤ 15) ∧ True) ∧ 31 = 31 ∧ (rgS z 100000 (True)) ∧ rw3 z 2 (([] : SW) = [])) ∧
      ROk (z.l 2) (↑(z.n 100026).toNat : Int).toNat ∧ ROk (z.l 3) (↑(z.n 100027).toNat : Int).toNat) ∧ ∀ (y_1 : PX), ((0 ≤ y_1.n 90000 ∧ y_1.n 90000 ≤ 40960) ∧ True) ∧ y_1.n 90000 = othF (z.n 100000) → decide (z.n 1 = z.n 1) = true ∧ decide (z.n 2 = z.n 2) = true ∧ decide (z.n 3 = z.n 3) = true ∧ decide (z.n 4 = z.n 4) = true ∧ kpS z 100000 (decide ((z.n 100026).toNat = (z.n 100026).toNat) = true ∧ decide ((z.n 100027).toNat = (z.n 100027).toNat) = true ∧ decide ((z.n 100028).toNat = (z.n 100028).toNat) = true ∧ sameB (Bl.mk (z.l 2) (5 : Nat)) (Bl.mk (z.l 2) (5 : Nat)) = true ∧ sameB (Bl.mk (z.l 3) (5 : Nat)) (Bl.mk (z.l 3) (5 : Nat)) = true ∧ sameB (Bl.mk (z.l 4) (5 : Nat)) (Bl.mk (z.l 4) (5 : Nat)) = true ∧ ((5 = 5 ∧ (flat [Sp.r u8 0 255] = true ∧ Row [Sp.r u8 0 255] (z.l 2)) ∧ ([] : SW) = []) ∧ ROk (z.l 2) (z.n 100026).toNat ∧ (-1000000000) ≤ i64.wrap (i64.wrap (y_1.n 90000 + i64.wrap (y.n 90001 * 240)) + y.n 90000) ∧ i64.wrap (i64.wrap (y_1.n 90000 + i64.wrap (y.n 90001 * 240)) + y.n 90000) ≤ 1000000000) ∧ ∀ (y_2 : PX), ((0 ≤ y_2.n 90000 ∧ y_2.n 90000 ≤ 255) ∧ True) ∧ y_2.n 90000 = bR (z.l 2) (z.n 100026).toNat (i64.wrap (i64.wrap (y_1.n 90000 + i64.wrap (y.n 90001 * 240)) + y.n 90000)) → decide (z.n 1 = z.n 1) = true ∧ decide (z.n 2 = z.n 2) = true ∧ decide (z.n 3 = z.n 3) = true ∧ decide (z.n 4 = z.n 4) = true ∧ kpS z 100000 (decide ((z.n 100026).toNat = (z.n 100026).toNat) = true ∧ decide ((z.n 100027).toNat = (z.n 100027).toNat) = true ∧ decide ((z.n 100028).toNat = (z.n 100028).toNat) = true ∧ sameB (Bl.mk (z.l 2) (5 : Nat)) (Bl.mk (z.l 2) (5 : Nat)) = true ∧ sameB (Bl.mk (z.l 3) (5 : Nat)) (Bl.mk (z.l 3) (5 : Nat)) = true ∧ sameB (Bl.mk (z.l 4) (5 : Nat)) (Bl.mk (z.l 4) (5 : Nat)) = true ∧ ((59 = 59 ∧ ((0 ≤ z.n 1 ∧ z.n 1 ≤ 3) ∧ (0 ≤ z.n 2 ∧ z.n 2 ≤ 65535) ∧ (0 ≤ z.n 3 ∧ z.n 3 ≤ 159) ∧ (0 ≤ z.n 4 ∧ z.n 4 ≤ 15) ∧ True) ∧ 31 = 31 ∧ (rgS z 100000 (True)) ∧ rw3 z 2 (([] : SW) = [])) ∧ (ROk (z.l 2) (↑(z.n 100026).toNat : Int).toNat ∧ ROk (z.l 3) (↑(z.n
      100027).toNat : Int).toNat) ∧ 0 ≤ i64.wrap (y_2.n 90000) ∧ i64.wrap (y_2.n 90000) ≤ 255) ∧ ∀ (y : PX), ((0 ≤ y.n 90000 ∧ y.n 90000 ≤ 32768) ∧ True) ∧ y.n 90000 = visF (scM z 100000 (bR (z.l 2) (↑(z.n 100026).toNat : Int).toNat) (↑(z.n 100026).toNat : Int).toNat (bR (z.l 3) (↑(z.n 100027).toNat : Int).toNat) (↑(z.n 100027).toNat : Int).toNat) (i64.wrap (y_2.n 90000)) → decide (z.n 1 = z.n 1) = true ∧ decide (z.n 2 = z.n 2) = true ∧ decide (z.n 3 = z.n 3) = true ∧ decide (z.n 4 = z.n 4) = true ∧ kpS z 100000 (decide ((z.n 100026).toNat = (z.n 100026).toNat) = true ∧ decide ((z.n 100027).toNat = (z.n 100027).toNat) = true ∧ decide ((z.n 100028).toNat = (z.n 100028).toNat) = true ∧ sameB (Bl.mk (z.l 2) (5 : Nat)) (Bl.mk (z.l 2) (5 : Nat)) = true ∧ sameB (Bl.mk (z.l 3) (5 : Nat)) (Bl.mk (z.l 3) (5 : Nat)) = true ∧ sameB (Bl.mk (z.l 4) (5 : Nat)) (Bl.mk (z.l 4) (5 : Nat)) = true ∧ ((0 ≤ y.n 90000 ∧ y.n 90000 ≤ 32768) ∧ True) ∧ mkM z [] [mL, mS (2 : Nat), rowB, rowB, rowB] (0 : Nat) = mkM z [] [mL, mS (2 : Nat), rowB, rowB, rowB] (0 : Nat) ∧ y.n 90000 = idxF (scM z 100000 (bR (z.l 2) (z.n 100026).toNat) (z.n 100026).toNat (bR (z.l 3) (z.n 100027).toNat) (z.n 100027).toNat) (pxF (scM z 100000 (bR (z.l 2) (z.n 100026).toNat) (z.n 100026).toNat (bR (z.l 3) (z.n 100027).toNat) (z.n 100027).toNat) (z.n 1) x (z.n 4)) (pyF (scM z 100000 (bR (z.l 2) (z.n 100026).toNat) (z.n 100026).toNat (bR (z.l 3) (z.n 100027).toNat) (z.n 100027).toNat) (z.n 1) x (z.n 4))))))) := by kernel_rfl
set_option maxHeartbeats 2000000 in
theorem idxR_c (E : World) (x : Int) (z : PX) (hz : rgM z [mL, mS 2, rowB, rowB, rowB] 0) (hp : (fun z => (ROk (z.l 2) (z.n 100026).toNat ∧ ROk (z.l 3) (z.n 100027).toNat) ∧ 2 ≤ z.n 1 ∧ 0 ≤ x ∧ x ≤ 239) z) : HR (pe E) 27 [.c (.p 0 0), .c (.i false .i64 x)] [mL, mS 2, rowB, rowB, rowB] [] (.c (.r .u16 0 32768)) (fun z y => y.n 90000 = idxF (scM z 100000 (bR (z.l 2) (z.n 100026).toNat) (z.n 100026).toNat (bR (z.l 3) (z.n 100027).toNat) (z.n 100027).toNat) (pxF (scM z 100000 (bR (z.l 2) (z.n 100026).toNat) (z.n 100026).toNat (bR (z.l 3) (z.n 100027).toNat) (z.n 100027).toNat) (z.n 1) x (z.n 4)) (pyF (scM z 100000 (bR (z.l 2) (z.n 100026).toNat) (z.n 100026).toNat (bR (z.l 3) (z.n 100027).toNat) (z.n 100027).toNat) (z.n 1) x (z.n 4))) z := by
  refine HR.mk true (by rfl) (by rfl) (fnTree_sound (P := pe E) orcPR_ok tab_ok tab_sz mixed 20000 Try.func27 (by decide) [.c (.p 0 0), .c (.i false .i64 x)] _) ⟨?_⟩
  rw [idxR_p]
  obtain ⟨⟨hK1, hK2⟩, hi, h0, h1⟩ := hp
  have hR1 : Row [.r .u8 0 255] (z.l 2) := hz.2.2.1.2
  have hR2 : Row [.r .u8 0 255] (z.l 3) := hz.2.2.2.1.2
  have hR3 : Row [.r .u8 0 255] (z.l 4) := hz.2.2.2.2.1.2
  have hF : flat [Sp.r .u8 0 255] = true := rfl
  obtain ⟨q1, q2, q3, q4, _⟩ := hz.1
  replace q1 : 0 ≤ z.n 1 ∧ z.n 1 ≤ 3 := q1
  replace q2 : 0 ≤ z.n 2 ∧ z.n 2 ≤ 65535 := q2
  replace q3 : 0 ≤ z.n 3 ∧ z.n 3 ≤ 159 := q3
  replace q4 : 0 ≤ z.n 4 ∧ z.n 4 ≤ 15 := q4
  obtain ⟨r0, r1, r2, r3, r4, r5, r6, r7, r8, r9, r10, r11, r12, r13, r14, r15, r16, r17, r18, r19, r20, r21, r22, r23, r24, r25, v26, v27, v28, _⟩ := hz.2.1
  simp only [Int.toNat_natCast]
  refine ⟨by (repeat' (first | exact trivial | with_reducible rfl | exact decide_eq_true rfl | exact decide_eq_true trivial | exact sameB_self _ | with_reducible assumption | apply And.intro)) <;> (first | omega | done), ?_⟩
  rintro y ⟨⟨hy1, hy2, _⟩, hq1, hq2⟩
  rw [← hq1, ← hq2]
  clear hq1 hq2
  generalize y.n 90000 = X at *
  generalize y.n 90001 = Y at *
  rw [ins_t, ins_f]
  unfold idxF
  dsimp only [scM]
  (repeat' (first | exact trivial | with_reducible rfl | exact decide_eq_true rfl | exact decide_eq_true trivial | exact sameB_self _ | with_reducible assumption | apply And.intro)) <;> try omega
  · intro h
    rw [if_neg h]
    (repeat' (first | exact trivial | with_reducible rfl | exact decide_eq_true rfl | exact decide_eq_true trivial | exact sameB_self _ | with_reducible assumption | apply And.intro)) <;> (first | omega | done)
  · intro h
    rw [if_pos h, wi64_in (Y * 240) (by omega) (by omega)]
    (repeat' (first | exact trivial | with_reducible rfl | exact decide_eq_true rfl | exact decide_eq_true trivial | exact sameB_self _ | with_reducible assumption | apply And.intro)) <;> try omega
    rintro y1 ⟨⟨hb, _⟩, hqb⟩
    rw [wi64_in (y1.n 90000 + Y * 240) (by omega) (by omega), wi64_in (y1.n 90000 + Y * 240 + X) (by omega) (by omega), ← hqb]
    (repeat' (first | exact trivial | with_reducible rfl | exact decide_eq_true rfl | exact decide_eq_true trivial | exact sameB_self _ | with_reducible assumption | apply And.intro)) <;> try omega
    rintro y2 ⟨⟨hs, _⟩, hqs⟩
    rw [wi64_in (y2.n 90000) (by omega) (by omega), ← hqs]
    (repeat' (first | exact trivial | with_reducible rfl | exact decide_eq_true rfl | exact decide_eq_true trivial | exact sameB_self _ | with_reducible assumption | apply And.intro)) <;> try omega
    rintro y3 ⟨⟨hv, _⟩, hqv⟩
    (repeat' (first | exact trivial | with_reducible rfl | exact decide_eq_true rfl | exact decide_eq_true trivial | exact sameB_self _ | with_reducible assumption | apply And.intro)) <;> (first | omega | done)
theorem smlR_p (E : World) (z : PX) (x : Int) :
    (hoPr true [mL, mS 2, rowB, rowB, rowB] [] (.c (.r .u16 0 32768)) (fun z y => y.n 90000 = smlF (scM z 100000 (bR (z.l 2) (z.n 100026).toNat) (z.n 100026).toNat (bR (z.l 3) (z.n 100027).toNat) (z.n 100027).toNat) (pxF (scM z 100000 (bR (z.l 2) (z.n 100026).toNat) (z.n 100026).toNat (bR (z.l 3) (z.n 100027).toNat) (z.n 100027).toNat) (z.n 1) x (z.n 4)) (pyF (scM z 100000 (bR (z.l 2) (z.n 100026).toNat) (z.n 100026).toNat (bR (z.l 3) (z.n 100027).toNat) (z.n 100027).toNat) (z.n 1) x (z.n 4))) z (fnTree (pe E) (orcPR E) (tabL fns) 20000 Try.f28 [.c (.p 0 0), .c (.i false .i64 x)] (mkM z [] [mL, mS 2, rowB, rowB, rowB] 0))) =
    (((59 = 59 ∧ ((0 ≤ z.n 1 ∧ z.n 1 ≤ 3) ∧ (0 ≤ z.n 2 ∧ z.n 2 ≤ 65535) ∧ (0 ≤ z.n 3 ∧ z.n 3 ≤ 159) ∧ (0 ≤ z.n 4 ∧ z.n 4 ≤ 15) ∧ True) ∧ 31 = 31 ∧ (rgS z 100000 (True)) ∧ rw3 z 2 (([] : SW) = [])) ∧ (ROk (z.l 2) (↑(z.n 100026).toNat : Int).toNat ∧ ROk (z.l 3) (↑(z.n 100027).toNat : Int).toNat) ∧ 2 ≤ z.n 1 ∧ 0 ≤ x ∧ x ≤ 239) ∧ ∀ (y : PX), (((-8388608) ≤ y.n 90000 ∧ y.n 90000 ≤ 8388607) ∧ ((-8388608) ≤ y.n 90001 ∧ y.n 90001 ≤ 8388607) ∧ True) ∧ y.n 90000 = pxF (scM z 100000 (bR (z.l 2) (↑(z.n 100026).toNat : Int).toNat) (↑(z.n 100026).toNat : Int).toNat (bR (z.l 3) (↑(z.n 100027).toNat : Int).toNat) (↑(z.n 100027).toNat : Int).toNat) (z.n 1) x (z.n 4) ∧ y.n 90001 = pyF (scM z 100000 (bR (z.l 2) (↑(z.n 100026).toNat : Int).toNat) (↑(z.n 100026).toNat : Int).toNat (bR (z.l 3) (↑(z.n 100027).toNat : Int).toNat) (↑(z.n 100027).toNat : Int).toNat) (z.n 1) x (z.n 4) → ((!bif bif bif decide (y.n 90000 ≥ 0) then decide (y.n 90000 < 160) else false then decide (y.n 90001 ≥ 0) else false then decide (y.n 90001 < 128) else false) = true → (((0 : Int) ≤ (32768 : Int) ∧ (32768 : Int) ≤ 32768) ∧ True) ∧ mkM z [] [mL, mS (2 : Nat), rowB, rowB, rowB] (0 : Nat) = mkM z [] [mL, mS (2 : Nat), rowB, rowB, rowB] (0 : Nat) ∧ 32768 = smlF (scM z 100000 (bR (z.l 2) (z.n 100026).toNat) (z.n 100026).toNat (bR (z.l 3) (z.n 100027).toNat) (z.n 100027).toNat) (pxF (scM z 100000 (bR (z.l 2) (z.n 100026).toNat) (z.n 100026).toNat (bR (z.l 3) (z.n 100027).toNat) (z.n 100027).toNat) (z.n 1) x (z.n 4)) (pyF (scM z 100000 (bR (z.l 2) (z.n 100026).toNat) (z.n 100026).toNat (bR (z.l 3) (z.n 100027).toNat) (z.n 100027).toNat) (z.n 1) x (z.n 4))) ∧ ((!bif bif bif decide (y.n 90000 ≥ 0) then decide (y.n 90000 < 160) else false then decide (y.n 90001 ≥ 0) else false then decide (y.n 90001 < 128) else false) = false → ((59 = 59 ∧ ((0 ≤ z.n 1 ∧ z.n 1 ≤ 3) ∧ (0 ≤ z.n 2 ∧ z.n 2 ≤ 65535) ∧ (0 ≤ z.n 3 ∧ z.n 3 ≤ 159) ∧ (0 ≤ z.n 4 ∧ z.n 4 ≤ 15) ∧ True) ∧ 31 = 31 ∧ (rgS z 100000 (True)) ∧ rw3 z 2 (([] : SW) = [])) ∧
      ROk (z.l 2) (↑(z.n 100026).toNat : Int).toNat ∧ ROk (z.l 3) (↑(z.n 100027).toNat : Int).toNat) ∧ ∀ (y_1 : PX), ((0 ≤ y_1.n 90000 ∧ y_1.n 90000 ≤ 40960) ∧ True) ∧ y_1.n 90000 = othF (z.n 100000) → decide (z.n 1 = z.n 1) = true ∧ decide (z.n 2 = z.n 2) = true ∧ decide (z.n 3 = z.n 3) = true ∧ decide (z.n 4 = z.n 4) = true ∧ kpS z 100000 (decide ((z.n 100026).toNat = (z.n 100026).toNat) = true ∧ decide ((z.n 100027).toNat = (z.n 100027).toNat) = true ∧ decide ((z.n 100028).toNat = (z.n 100028).toNat) = true ∧ sameB (Bl.mk (z.l 2) (5 : Nat)) (Bl.mk (z.l 2) (5 : Nat)) = true ∧ sameB (Bl.mk (z.l 3) (5 : Nat)) (Bl.mk (z.l 3) (5 : Nat)) = true ∧ sameB (Bl.mk (z.l 4) (5 : Nat)) (Bl.mk (z.l 4) (5 : Nat)) = true ∧ ((5 = 5 ∧ (flat [Sp.r u8 0 255] = true ∧ Row [Sp.r u8 0 255] (z.l 2)) ∧ ([] : SW) = []) ∧ ROk (z.l 2) (z.n 100026).toNat ∧ (-1000000000) ≤ i64.wrap (y_1.n 90000 + i64.wrap (2 * i64.wrap (i64.wrap (y.n 90001 * 160) + y.n 90000))) ∧ i64.wrap (y_1.n 90000 + i64.wrap (2 * i64.wrap (i64.wrap (y.n 90001 * 160) + y.n 90000))) ≤ 1000000000) ∧ ∀ (y_2 : PX), ((0 ≤ y_2.n 90000 ∧ y_2.n 90000 ≤ 65535) ∧ True) ∧ y_2.n 90000 = halfF (bR (z.l 2) (z.n 100026).toNat) (z.n 100026).toNat (i64.wrap (y_1.n 90000 + i64.wrap (2 * i64.wrap (i64.wrap (y.n 90001 * 160) + y.n 90000)))) → decide (z.n 1 = z.n 1) = true ∧ decide (z.n 2 = z.n 2) = true ∧ decide (z.n 3 = z.n 3) = true ∧ decide (z.n 4 = z.n 4) = true ∧ kpS z 100000 (decide ((z.n 100026).toNat = (z.n 100026).toNat) = true ∧ decide ((z.n 100027).toNat = (z.n 100027).toNat) = true ∧ decide ((z.n 100028).toNat = (z.n 100028).toNat) = true ∧ sameB (Bl.mk (z.l 2) (5 : Nat)) (Bl.mk (z.l 2) (5 : Nat)) = true ∧ sameB (Bl.mk (z.l 3) (5 : Nat)) (Bl.mk (z.l 3) (5 : Nat)) = true ∧ sameB (Bl.mk (z.l 4) (5 : Nat)) (Bl.mk (z.l 4) (5 : Nat)) = true ∧ ((0 ≤ bits BinOp.andNot u16 (y_2.n 90000) 32768 ∧ bits BinOp.andNot u16 (y_2.n 90000) (32768 : Int) ≤ 32768) ∧ True) ∧ mkM z [] [mL, mS (2 : Nat), rowB, rowB, rowB] (0 : Nat) = mkM z [] [mL, mS (2 : Nat), rowB, rowB, rowB] (0 : Nat) ∧ bits BinOp.andNot u16 (y_2.n 90000) 32768 = smlF (scM z 100000 (bR (z.l 2) (z.n 100026).toNat) (z.n 100026).toNat (bR (z.l 3) (z.n 100027).toNat) (z.n 100027).toNat) (pxF (scM z 100000 (bR (z.l 2) (z.n 100026).toNat) (z.n 100026).toNat (bR (z.l 3) (z.n 100027).toNat) (z.n 100027).toNat) (z.n 1) x (z.n 4)) (pyF (scM z 100000 (bR (z.l 2) (z.n 100026).toNat) (z.n 100026).toNat (bR (z.l 3) (z.n 100027).toNat) (z.n 100027).toNat) (z.n 1) x (z.n 4)))))) := by kernel_rfl
set_option maxHeartbeats 2000000 in
theorem smlR_c (E : World) (x : Int) (z : PX) (hz : rgM z [mL, mS 2, rowB, rowB, rowB] 0) (hp : (fun z => (ROk (z.l 2) (z.n 100026).toNat ∧ ROk (z.l 3) (z.n 100027).toNat) ∧ 2 ≤ z.n 1 ∧ 0 ≤ x ∧ x ≤ 239) z) : HR (pe E) 28 [.c (.p 0 0), .c (.i false .i64 x)] [mL, mS 2, rowB, rowB, rowB] [] (.c (.r .u16 0 32768)) (fun z y => y.n 90000 = smlF (scM z 100000 (bR (z.l 2) (z.n 100026).toNat) (z.n 100026).toNat (bR (z.l 3) (z.n 100027).toNat) (z.n 100027).toNat) (pxF (scM z 100000 (bR (z.l 2) (z.n 100026).toNat) (z.n 100026).toNat (bR (z.l 3) (z.n 100027).toNat) (z.n 100027).toNat) (z.n 1) x (z.n 4)) (pyF (scM z 100000 (bR (z.l 2) (z.n 100026).toNat) (z.n 100026).toNat (bR (z.l 3) (z.n 100027).toNat) (z.n 100027).toNat) (z.n 1) x (z.n 4))) z := by
  refine HR.mk true (by rfl) (by rfl) (fnTree_sound (P := pe E) orcPR_ok tab_ok tab_sz mixed 20000 Try.func28 (by decide) [.c (.p 0 0), .c (.i false .i64 x)] _) ⟨?_⟩
  rw [smlR_p]
  obtain ⟨⟨hK1, hK2⟩, hi, h0, h1⟩ := hp
  have hR1 : Row [.r .u8 0 255] (z.l 2) := hz.2.2.1.2
  have hR2 : Row [.r .u8 0 255] (z.l 3) := hz.2.2.2.1.2
  have hR3 : Row [.r .u8 0 255] (z.l 4) := hz.2.2.2.2.1.2
  have hF : flat [Sp.r .u8 0 255] = true := rfl
  obtain ⟨q1, q2, q3, q4, _⟩ := hz.1
  replace q1 : 0 ≤ z.n 1 ∧ z.n 1 ≤ 3 := q1
  replace q2 : 0 ≤ z.n 2 ∧ z.n 2 ≤ 65535 := q2
  replace q3 : 0 ≤ z.n 3 ∧ z.n 3 ≤ 159 := q3
  replace q4 : 0 ≤ z.n 4 ∧ z.n 4 ≤ 15 := q4
  obtain ⟨r0, r1, r2, r3, r4, r5, r6, r7, r8, r9, r10, r11, r12, r13, r14, r15, r16, r17, r18, r19, r20, r21, r22, r23, r24, r25, v26, v27, v28, _⟩ := hz.2.1
  simp only [Int.toNat_natCast]
  refine ⟨by (repeat' (first | exact trivial | with_reducible rfl | exact decide_eq_true rfl | exact decide_eq_true trivial | exact sameB_self _ | with_reducible assumption | apply And.intro)) <;> (first | omega | done), ?_⟩
  rintro y ⟨⟨hy1, hy2, _⟩, hq1, hq2⟩
  rw [← hq1, ← hq2]
  clear hq1 hq2
  generalize y.n 90000 = X at *
  generalize y.n 90001 = Y at *
  rw [ins_t, ins_f]
  unfold smlF
  dsimp only [scM]
  (repeat' (first | exact trivial | with_reducible rfl | exact decide_eq_true rfl | exact decide_eq_true trivial | exact sameB_self _ | with_reducible assumption | apply And.intro)) <;> try omega
  · intro h
    rw [if_neg h]
    (repeat' (first | exact trivial | with_reducible rfl | exact decide_eq_true rfl | exact decide_eq_true trivial | exact sameB_self _ | with_reducible assumption | apply And.intro)) <;> (first | omega | done)
  · intro h
    rw [if_pos h, wi64_in (Y * 160) (by omega) (by omega), wi64_in (Y * 160 + X) (by omega) (by omega), wi64_in (2 * (Y * 160 + X)) (by omega) (by omega)]
    (repeat' (first | exact trivial | with_reducible rfl | exact decide_eq_true rfl | exact decide_eq_true trivial | exact sameB_self _ | with_reducible assumption | apply And.intro)) <;> try omega
    rintro y1 ⟨⟨hb, _⟩, hqb⟩
    rw [wi64_in (y1.n 90000 + 2 * (Y * 160 + X)) (by omega) (by omega), ← hqb]
    (repeat' (first | exact trivial | with_reducible rfl | exact decide_eq_true rfl | exact decide_eq_true trivial | exact sameB_self _ | with_reducible assumption | apply And.intro)) <;> try omega
    rintro y2 ⟨⟨hs, _⟩, hqs⟩
    rw [an15 _ hs.1 hs.2, hqs]
    rw [hqs] at hs
    (repeat' (first | exact trivial | with_reducible rfl | exact decide_eq_true rfl | exact decide_eq_true trivial | exact sameB_self _ | with_reducible assumption | apply And.intro)) <;> (first | omega | done)
theorem trnR_p (E : World) (z : PX) (x : Int) :
    (hoPr true [mL, mS 2, rowB, rowB, rowB] [] (.c (.r .u16 0 32768)) (fun z y => y.n 90000 = turnF (scM z 100000 (bR (z.l 2) (z.n 100026).toNat) (z.n 100026).toNat (bR (z.l 3) (z.n 100027).toNat) (z.n 100027).toNat) (z.n 2) (pxF (scM z 100000 (bR (z.l 2) (z.n 100026).toNat) (z.n 100026).toNat (bR (z.l 3) (z.n 100027).toNat) (z.n 100027).toNat) (z.n 1) x (z.n 4)) (pyF (scM z 100000 (bR (z.l 2) (z.n 100026).toNat) (z.n 100026).toNat (bR (z.l 3) (z.n 100027).toNat) (z.n 100027).toNat) (z.n 1) x (z.n 4))) z (fnTree (pe E) (orcPR E) (tabL fns) 20000 Try.f29 [.c (.p 0 0), .c (.i false .i64 x)] (mkM z [] [mL, mS 2, rowB, rowB, rowB] 0))) =
    (decide (0 ≤ (z.n 2).fdiv 16384) = true ∧ ((59 = 59 ∧ ((0 ≤ z.n 1 ∧ z.n 1 ≤ 3) ∧ (0 ≤ z.n 2 ∧ z.n 2 ≤ 65535) ∧ (0 ≤ z.n 3 ∧ z.n 3 ≤ 159) ∧ (0 ≤ z.n 4 ∧ z.n 4 ≤ 15) ∧ True) ∧ 31 = 31 ∧ (rgS z 100000 (True)) ∧ rw3 z 2 (([] : SW) = [])) ∧ (ROk (z.l 2) (↑(z.n 100026).toNat : Int).toNat ∧ ROk (z.l 3) (↑(z.n 100027).toNat : Int).toNat) ∧ 2 ≤ z.n 1 ∧ 0 ≤ x ∧ x ≤ 239) ∧ ∀ (y : PX), (((-8388608) ≤ y.n 90000 ∧ y.n 90000 ≤ 8388607) ∧ ((-8388608) ≤ y.n 90001 ∧ y.n 90001 ≤ 8388607) ∧ True) ∧ y.n 90000 = pxF (scM z 100000 (bR (z.l 2) (↑(z.n 100026).toNat : Int).toNat) (↑(z.n 100026).toNat : Int).toNat (bR (z.l 3) (↑(z.n 100027).toNat : Int).toNat) (↑(z.n 100027).toNat : Int).toNat) (z.n 1) x (z.n 4) ∧ y.n 90001 = pyF (scM z 100000 (bR (z.l 2) (↑(z.n 100026).toNat : Int).toNat) (↑(z.n 100026).toNat : Int).toNat (bR (z.l 3) (↑(z.n 100027).toNat : Int).toNat) (↑(z.n 100027).toNat : Int).toNat) (z.n 1) x (z.n 4) → ((!bif bif bif decide ((bif bits BinOp.and u16 (z.n 2) (8192 : Int) != 0 then bits BinOp.and i64 (y.n 90000) (i64.wrap (i64.wrap ((128 : Int) * 2 ^ min ((z.n 2).fdiv 16384).toNat (64 : Nat)) - 1)) else y.n 90000) ≥ 0) then decide ((bif bits BinOp.and u16 (z.n 2) (8192 : Int) != 0 then bits BinOp.and i64 (y.n 90000) (i64.wrap (i64.wrap ((128 : Int) * 2 ^ min ((z.n 2).fdiv 16384).toNat (64 : Nat)) - 1)) else y.n 90000) < i64.wrap ((128 : Int) * 2 ^ min ((z.n 2).fdiv 16384).toNat (64 : Nat))) else false then decide ((bif bits BinOp.and u16 (z.n 2) (8192 : Int) != 0 then bits BinOp.and i64 (y.n 90001) (i64.wrap (i64.wrap ((128 : Int) * 2 ^ min ((z.n 2).fdiv 16384).toNat (64 : Nat)) - 1)) else y.n 90001) ≥ 0) else false then decide ((bif bits BinOp.and u16 (z.n 2) (8192 : Int) != 0 then bits BinOp.and i64 (y.n 90001) (i64.wrap (i64.wrap ((128 : Int) * 2 ^ min ((z.n 2).fdiv 16384).toNat (64 : Nat)) - 1)) else y.n 90001) < i64.wrap ((128 : Int) * 2 ^ min ((z.n 2).fdiv 16384).toNat (64 : Nat))) else false) = true → (((0 : Int) ≤ (32768 : Int) ∧ (32768 : Int) ≤ 32768) ∧ True) ∧
      mkM z [] [mL, mS (2 : Nat), rowB, rowB, rowB] (0 : Nat) = mkM z [] [mL, mS (2 : Nat), rowB, rowB, rowB] (0 : Nat) ∧ 32768 = turnF (scM z 100000 (bR (z.l 2) (z.n 100026).toNat) (z.n 100026).toNat (bR (z.l 3) (z.n 100027).toNat) (z.n 100027).toNat) (z.n 2) (pxF (scM z 100000 (bR (z.l 2) (z.n 100026).toNat) (z.n 100026).toNat (bR (z.l 3) (z.n 100027).toNat) (z.n 100027).toNat) (z.n 1) x (z.n 4)) (pyF (scM z 100000 (bR (z.l 2) (z.n 100026).toNat) (z.n 100026).toNat (bR (z.l 3) (z.n 100027).toNat) (z.n 100027).toNat) (z.n 1) x (z.n 4))) ∧ ((!bif bif bif decide ((bif bits BinOp.and u16 (z.n 2) (8192 : Int) != 0 then bits BinOp.and i64 (y.n 90000) (i64.wrap (i64.wrap ((128 : Int) * 2 ^ min ((z.n 2).fdiv 16384).toNat (64 : Nat)) - 1)) else y.n 90000) ≥ 0) then decide ((bif bits BinOp.and u16 (z.n 2) (8192 : Int) != 0 then bits BinOp.and i64 (y.n 90000) (i64.wrap (i64.wrap ((128 : Int) * 2 ^ min ((z.n 2).fdiv 16384).toNat (64 : Nat)) - 1)) else y.n 90000) < i64.wrap ((128 : Int) * 2 ^ min ((z.n 2).fdiv 16384).toNat (64 : Nat))) else false then decide ((bif bits BinOp.and u16 (z.n 2) (8192 : Int) != 0 then bits BinOp.and i64 (y.n 90001) (i64.wrap (i64.wrap ((128 : Int) * 2 ^ min ((z.n 2).fdiv 16384).toNat (64 : Nat)) - 1)) else y.n 90001) ≥ 0) else false then decide ((bif bits BinOp.and u16 (z.n 2) (8192 : Int) != 0 then bits BinOp.and i64 (y.n 90001) (i64.wrap (i64.wrap ((128 : Int) * 2 ^ min ((z.n 2).fdiv 16384).toNat (64 : Nat)) - 1)) else y.n 90001) < i64.wrap ((128 : Int) * 2 ^ min ((z.n 2).fdiv 16384).toNat (64 : Nat))) else false) = false → ((59 = 59 ∧ ((0 ≤ z.n 1 ∧ z.n 1 ≤ 3) ∧ (0 ≤ z.n 2 ∧ z.n 2 ≤ 65535) ∧ (0 ≤ z.n 3 ∧ z.n 3 ≤ 159) ∧ (0 ≤ z.n 4 ∧ z.n 4 ≤ 15) ∧ True) ∧ 31 = 31 ∧ (rgS z 100000 (True)) ∧ rw3 z 2 (([] : SW) = [])) ∧ ROk (z.l 2) (↑(z.n 100026).toNat : Int).toNat ∧ ROk (z.l 3) (↑(z.n 100027).toNat : Int).toNat) ∧ ∀ (y_1 : PX), ((0 ≤ y_1.n 90000 ∧ y_1.n 90000 ≤ 63488) ∧ True) ∧ y_1.n 90000 = 2048 * (z.n 2 / (256 : Int) % 32) → decide (z.n 1 = z.n 1)
      = true ∧ decide (z.n 2 = z.n 2) = true ∧ decide (z.n 3 = z.n 3) = true ∧ decide (z.n 4 = z.n 4) = true ∧ kpS z 100000 (decide ((z.n 100026).toNat = (z.n 100026).toNat) = true ∧ decide ((z.n 100027).toNat = (z.n 100027).toNat) = true ∧ decide ((z.n 100028).toNat = (z.n 100028).toNat) = true ∧ sameB (Bl.mk (z.l 2) (5 : Nat)) (Bl.mk (z.l 2) (5 : Nat)) = true ∧ sameB (Bl.mk (z.l 3) (5 : Nat)) (Bl.mk (z.l 3) (5 : Nat)) = true ∧ sameB (Bl.mk (z.l 4) (5 : Nat)) (Bl.mk (z.l 4) (5 : Nat)) = true ∧ ((5 = 5 ∧ (flat [Sp.r u8 0 255] = true ∧ Row [Sp.r u8 0 255] (z.l 2)) ∧ ([] : SW) = []) ∧ ROk (z.l 2) (z.n 100026).toNat ∧ (-1000000000) ≤ i64.wrap (i64.wrap (y_1.n 90000 + i64.wrap (i64.wrap ((bif bits BinOp.and u16 (z.n 2) (8192 : Int) != 0 then bits BinOp.and i64 (y.n 90001) (i64.wrap (i64.wrap ((128 : Int) * 2 ^ min ((z.n 2).fdiv 16384).toNat (64 : Nat)) - 1)) else y.n 90001).tdiv 8) * i64.wrap ((i64.wrap ((128 : Int) * 2 ^ min ((z.n 2).fdiv 16384).toNat (64 : Nat))).tdiv 8))) + i64.wrap ((bif bits BinOp.and u16 (z.n 2) (8192 : Int) != 0 then bits BinOp.and i64 (y.n 90000) (i64.wrap (i64.wrap ((128 : Int) * 2 ^ min ((z.n 2).fdiv 16384).toNat (64 : Nat)) - 1)) else y.n 90000).tdiv 8)) ∧ i64.wrap (i64.wrap (y_1.n 90000 + i64.wrap (i64.wrap ((bif bits BinOp.and u16 (z.n 2) (8192 : Int) != 0 then bits BinOp.and i64 (y.n 90001) (i64.wrap (i64.wrap ((128 : Int) * 2 ^ min ((z.n 2).fdiv 16384).toNat (64 : Nat)) - 1)) else y.n 90001).tdiv 8) * i64.wrap ((i64.wrap ((128 : Int) * 2 ^ min ((z.n 2).fdiv 16384).toNat (64 : Nat))).tdiv 8))) + i64.wrap ((bif bits BinOp.and u16 (z.n 2) (8192 : Int) != 0 then bits BinOp.and i64 (y.n 90000) (i64.wrap (i64.wrap ((128 : Int) * 2 ^ min ((z.n 2).fdiv 16384).toNat (64 : Nat)) - 1)) else y.n 90000).tdiv 8)) ≤ 1000000000) ∧ ∀ (y_2 : PX), ((0 ≤ y_2.n 90000 ∧ y_2.n 90000 ≤ 255) ∧ True) ∧ y_2.n 90000 = bR (z.l 2) (z.n 100026).toNat (i64.wrap (i64.wrap (y_1.n 90000 + i64.wrap (i64.wrap ((bif bits BinOp.and u16 (z.n 2) (8192 : Int) != 0 then bits
      BinOp.and i64 (y.n 90001) (i64.wrap (i64.wrap ((128 : Int) * 2 ^ min ((z.n 2).fdiv 16384).toNat (64 : Nat)) - 1)) else y.n 90001).tdiv 8) * i64.wrap ((i64.wrap ((128 : Int) * 2 ^ min ((z.n 2).fdiv 16384).toNat (64 : Nat))).tdiv 8))) + i64.wrap ((bif bits BinOp.and u16 (z.n 2) (8192 : Int) != 0 then bits BinOp.and i64 (y.n 90000) (i64.wrap (i64.wrap ((128 : Int) * 2 ^ min ((z.n 2).fdiv 16384).toNat (64 : Nat)) - 1)) else y.n 90000).tdiv 8))) → decide (z.n 1 = z.n 1) = true ∧ decide (z.n 2 = z.n 2) = true ∧ decide (z.n 3 = z.n 3) = true ∧ decide (z.n 4 = z.n 4) = true ∧ kpS z 100000 (decide ((z.n 100026).toNat = (z.n 100026).toNat) = true ∧ decide ((z.n 100027).toNat = (z.n 100027).toNat) = true ∧ decide ((z.n 100028).toNat = (z.n 100028).toNat) = true ∧ sameB (Bl.mk (z.l 2) (5 : Nat)) (Bl.mk (z.l 2) (5 : Nat)) = true ∧ sameB (Bl.mk (z.l 3) (5 : Nat)) (Bl.mk (z.l 3) (5 : Nat)) = true ∧ sameB (Bl.mk (z.l 4) (5 : Nat)) (Bl.mk (z.l 4) (5 : Nat)) = true ∧ ((59 = 59 ∧ ((0 ≤ z.n 1 ∧ z.n 1 ≤ 3) ∧ (0 ≤ z.n 2 ∧ z.n 2 ≤ 65535) ∧ (0 ≤ z.n 3 ∧ z.n 3 ≤ 159) ∧ (0 ≤ z.n 4 ∧ z.n 4 ≤ 15) ∧ True) ∧ 31 = 31 ∧ (rgS z 100000 (True)) ∧ rw3 z 2 (([] : SW) = [])) ∧ ROk (z.l 2) (↑(z.n 100026).toNat : Int).toNat ∧ ROk (z.l 3) (↑(z.n 100027).toNat : Int).toNat) ∧ ∀ (y_3 : PX), ((0 ≤ y_3.n 90000 ∧ y_3.n 90000 ≤ 49152) ∧ True) ∧ y_3.n 90000 = 16384 * (z.n 2 / (4 : Int) % 4) → ((59 = 59 ∧ ((0 ≤ z.n 1 ∧ z.n 1 ≤ 3) ∧ (0 ≤ z.n 2 ∧ z.n 2 ≤ 65535) ∧ (0 ≤ z.n 3 ∧ z.n 3 ≤ 159) ∧ (0 ≤ z.n 4 ∧ z.n 4 ≤ 15) ∧ True) ∧ 31 = 31 ∧ (rgS z 100000 (True)) ∧ rw3 z 2 (([] : SW) = [])) ∧ (ROk (z.l 2) (↑(z.n 100026).toNat : Int).toNat ∧ ROk (z.l 3) (↑(z.n 100027).toNat : Int).toNat) ∧ 0 ≤ i64.wrap (i64.wrap (i64.wrap (y_3.n 90000 + i64.wrap (64 * i64.wrap (y_2.n 90000))) + i64.wrap ((bif bits BinOp.and u16 (z.n 2) (8192 : Int) != 0 then bits BinOp.and i64 (y.n 90001) (i64.wrap (i64.wrap ((128 : Int) * 2 ^ min ((z.n 2).fdiv 16384).toNat (64 : Nat)) - 1)) else y.n 90001).tmod (8 : Int) * 8)) + (bif bits BinOp.and
      u16 (z.n 2) (8192 : Int) != 0 then bits BinOp.and i64 (y.n 90000) (i64.wrap (i64.wrap ((128 : Int) * 2 ^ min ((z.n 2).fdiv 16384).toNat (64 : Nat)) - 1)) else y.n 90000).tmod 8) ∧ i64.wrap (i64.wrap (i64.wrap (y_3.n 90000 + i64.wrap (64 * i64.wrap (y_2.n 90000))) + i64.wrap ((bif bits BinOp.and u16 (z.n 2) (8192 : Int) != 0 then bits BinOp.and i64 (y.n 90001) (i64.wrap (i64.wrap ((128 : Int) * 2 ^ min ((z.n 2).fdiv 16384).toNat (64 : Nat)) - 1)) else y.n 90001).tmod (8 : Int) * 8)) + (bif bits BinOp.and u16 (z.n 2) (8192 : Int) != 0 then bits BinOp.and i64 (y.n 90000) (i64.wrap (i64.wrap ((128 : Int) * 2 ^ min ((z.n 2).fdiv 16384).toNat (64 : Nat)) - 1)) else y.n 90000).tmod 8) ≤ 1000000) ∧ ∀ (y_4 : PX), ((0 ≤ y_4.n 90000 ∧ y_4.n 90000 ≤ 255) ∧ True) ∧ y_4.n 90000 = tileF (scM z 100000 (bR (z.l 2) (↑(z.n 100026).toNat : Int).toNat) (↑(z.n 100026).toNat : Int).toNat (bR (z.l 3) (↑(z.n 100027).toNat : Int).toNat) (↑(z.n 100027).toNat : Int).toNat) (i64.wrap (i64.wrap (i64.wrap (y_3.n 90000 + i64.wrap (64 * i64.wrap (y_2.n 90000))) + i64.wrap ((bif bits BinOp.and u16 (z.n 2) (8192 : Int) != 0 then bits BinOp.and i64 (y.n 90001) (i64.wrap (i64.wrap ((128 : Int) * 2 ^ min ((z.n 2).fdiv 16384).toNat (64 : Nat)) - 1)) else y.n 90001).tmod (8 : Int) * 8)) + (bif bits BinOp.and u16 (z.n 2) (8192 : Int) != 0 then bits BinOp.and i64 (y.n 90000) (i64.wrap (i64.wrap ((128 : Int) * 2 ^ min ((z.n 2).fdiv 16384).toNat (64 : Nat)) - 1)) else y.n 90000).tmod 8)) → ((59 = 59 ∧ ((0 ≤ z.n 1 ∧ z.n 1 ≤ 3) ∧ (0 ≤ z.n 2 ∧ z.n 2 ≤ 65535) ∧ (0 ≤ z.n 3 ∧ z.n 3 ≤ 159) ∧ (0 ≤ z.n 4 ∧ z.n 4 ≤ 15) ∧ True) ∧ 31 = 31 ∧ (rgS z 100000 (True)) ∧ rw3 z 2 (([] : SW) = [])) ∧ (ROk (z.l 2) (↑(z.n 100026).toNat : Int).toNat ∧ ROk (z.l 3) (↑(z.n 100027).toNat : Int).toNat) ∧ 0 ≤ i64.wrap (y_4.n 90000) ∧ i64.wrap (y_4.n 90000) ≤ 255) ∧ ∀ (y : PX), ((0 ≤ y.n 90000 ∧ y.n 90000 ≤ 32768) ∧ True) ∧ y.n 90000 = visF (scM z 100000 (bR (z.l 2) (↑(z.n 100026).toNat : Int).toNat) (↑(z.n 100026).toNat : Int).toNat (bR (z.l 3) (↑(z.n 100027).toNat : Int).toNat) (↑(z.n 100027).toNat : Int).toNat) (i64.wrap (y_4.n 90000)) → ((0 ≤ y.n 90000 ∧ y.n 90000 ≤ 32768) ∧ True) ∧ mkM z [] [mL, mS (2 : Nat), rowB, rowB, rowB] (0 : Nat) = mkM z [] [mL, mS (2 : Nat), rowB, rowB, rowB] (0 : Nat) ∧ y.n 90000 = turnF (scM z 100000 (bR (z.l 2) (z.n 100026).toNat) (z.n 100026).toNat (bR (z.l 3) (z.n 100027).toNat) (z.n 100027).toNat) (z.n 2) (pxF (scM z 100000 (bR (z.l 2) (z.n 100026).toNat) (z.n 100026).toNat (bR (z.l 3) (z.n 100027).toNat) (z.n 100027).toNat) (z.n 1) x (z.n 4)) (pyF (scM z 100000 (bR (z.l 2) (z.n 100026).toNat) (z.n 100026).toNat (bR (z.l 3) (z.n 100027).toNat) (z.n 100027).toNat) (z.n 1) x (z.n 4)))))) := by kernel_rfl
set_option maxHeartbeats 2000000 in
theorem trnR_c (E : World) (x : Int) (z : PX) (hz : rgM z [mL, mS 2, rowB, rowB, rowB] 0) (hp : (fun z => (ROk (z.l 2) (z.n 100026).toNat ∧ ROk (z.l 3) (z.n 100027).toNat) ∧ 2 ≤ z.n 1 ∧ 0 ≤ x ∧ x ≤ 239) z) : HR (pe E) 29 [.c (.p 0 0), .c (.i false .i64 x)] [mL, mS 2, rowB, rowB, rowB] [] (.c (.r .u16 0 32768)) (fun z y => y.n 90000 = turnF (scM z 100000 (bR (z.l 2) (z.n 100026).toNat) (z.n 100026).toNat (bR (z.l 3) (z.n 100027).toNat) (z.n 100027).toNat) (z.n 2) (pxF (scM z 100000 (bR (z.l 2) (z.n 100026).toNat) (z.n 100026).toNat (bR (z.l 3) (z.n 100027).toNat) (z.n 100027).toNat) (z.n 1) x (z.n 4)) (pyF (scM z 100000 (bR (z.l 2) (z.n 100026).toNat) (z.n 100026).toNat (bR (z.l 3) (z.n 100027).toNat) (z.n 100027).toNat) (z.n 1) x (z.n 4))) z := by
  refine HR.mk true (by rfl) (by rfl) (fnTree_sound (P := pe E) orcPR_ok tab_ok tab_sz mixed 20000 Try.func29 (by decide) [.c (.p 0 0), .c (.i false .i64 x)] _) ⟨?_⟩
  rw [trnR_p]
  obtain ⟨⟨hK1, hK2⟩, hi, h0, h1⟩ := hp
  have hR1 : Row [.r .u8 0 255] (z.l 2) := hz.2.2.1.2
  have hR2 : Row [.r .u8 0 255] (z.l 3) := hz.2.2.2.1.2
  have hR3 : Row [.r .u8 0 255] (z.l 4) := hz.2.2.2.2.1.2
  have hF : flat [Sp.r .u8 0 255] = true := rfl
  obtain ⟨q1, q2, q3, q4, _⟩ := hz.1
  replace q1 : 0 ≤ z.n 1 ∧ z.n 1 ≤ 3 := q1
  replace q2 : 0 ≤ z.n 2 ∧ z.n 2 ≤ 65535 := q2
  replace q3 : 0 ≤ z.n 3 ∧ z.n 3 ≤ 159 := q3
  replace q4 : 0 ≤ z.n 4 ∧ z.n 4 ≤ 15 := q4
  obtain ⟨r0, r1, r2, r3, r4, r5, r6, r7, r8, r9, r10, r11, r12, r13, r14, r15, r16, r17, r18, r19, r20, r21, r22, r23, r24, r25, v26, v27, v28, _⟩ := hz.2.1
  simp only [Int.toNat_natCast]
  have hz0 : 0 ≤ (z.n 2).fdiv 16384 := by rw [fd _ _ (by decide)]; omega
  rw [szE _ q2]
  unfold turnF
  dsimp only [scM]
  have hS : (if z.n 2 / 16384 = 0 then 128 else if z.n 2 / 16384 = 1 then 256 else if z.n 2 / 16384 = 2 then 512 else 1024 : Int) = 128 ∨ (if z.n 2 / 16384 = 0 then 128 else if z.n 2 / 16384 = 1 then 256 else if z.n 2 / 16384 = 2 then 512 else 1024 : Int) = 256 ∨ (if z.n 2 / 16384 = 0 then 128 else if z.n 2 / 16384 = 1 then 256 else if z.n 2 / 16384 = 2 then 512 else 1024 : Int) = 512 ∨ (if z.n 2 / 16384 = 0 then 128 else if z.n 2 / 16384 = 1 then 256 else if z.n 2 / 16384 = 2 then 512 else 1024 : Int) = 1024 := by (repeat' split) <;> simp
  generalize (if z.n 2 / 16384 = 0 then 128 else if z.n 2 / 16384 = 1 then 256 else if z.n 2 / 16384 = 2 then 512 else 1024 : Int) = SZ at *
  refine ⟨decide_eq_true hz0, ⟨by (repeat' (first | exact trivial | with_reducible rfl | exact decide_eq_true rfl | exact decide_eq_true trivial | exact sameB_self _ | with_reducible assumption | apply And.intro)) <;> (first | omega | done), ?_⟩⟩
  rintro y ⟨⟨hy1, hy2, _⟩, hq1, hq2⟩
  simp only [rpE _ _ _ q2 hS]
  rw [← hq1, ← hq2]
  clear hq1 hq2
  generalize y.n 90000 = X1 at *
  generalize y.n 90001 = Y1 at *
  generalize (if z.n 2 / 8192 % 2 = 1 then X1 % SZ else X1) = X at *
  generalize (if z.n 2 / 8192 % 2 = 1 then Y1 % SZ else Y1) = Y at *
  rw [ins_t, ins_f]
  (repeat' (first | exact trivial | with_reducible rfl | exact decide_eq_true rfl | exact decide_eq_true trivial | exact sameB_self _ | with_reducible assumption | apply And.intro)) <;> try omega
  · intro h
    rw [if_neg h]
    (repeat' (first | exact trivial | with_reducible rfl | exact decide_eq_true rfl | exact decide_eq_true trivial | exact sameB_self _ | with_reducible assumption | apply And.intro)) <;> (first | omega | done)
  · intro h
    rw [if_pos h]
    obtain ⟨x0, x1, y0, y1'⟩ := h
    have hY : 0 ≤ Y / 8 ∧ Y / 8 ≤ 127 := by omega
    have hX : 0 ≤ X / 8 ∧ X / 8 ≤ 127 := by omega
    have hM : 0 ≤ Y / 8 * (SZ / 8) ∧ Y / 8 * (SZ / 8) ≤ 100000 := by rcases hS with rfl | rfl | rfl | rfl <;> omega
    have hX8 : 0 ≤ X % 8 ∧ X % 8 ≤ 7 := by omega
    have hY8 : 0 ≤ Y % 8 ∧ Y % 8 ≤ 7 := by omega
    have hSb : 0 ≤ SZ / 8 ∧ SZ / 8 ≤ 128 := by omega
    have s1 : SZ.tdiv 8 = SZ / 8 := Int.tdiv_eq_ediv_of_nonneg (by omega)
    rw [Int.tdiv_eq_ediv_of_nonneg (a := Y) y0, Int.tdiv_eq_ediv_of_nonneg (a := X) x0, s1, Int.tmod_eq_emod_of_nonneg (a := Y) y0, Int.tmod_eq_emod_of_nonneg (a := X) x0]
    generalize SZ / 8 = s8 at *
    generalize Y / 8 = Yd at *
    generalize X / 8 = Xd at *
    generalize Y % 8 = Ym at *
    generalize X % 8 = Xm at *
    rw [wi64_in Yd (by omega) (by omega), wi64_in Xd (by omega) (by omega), wi64_in s8 (by omega) (by omega), wi64_in (Yd * s8) (by omega) (by omega), wi64_in (Ym * 8) (by omega) (by omega)]
    generalize Yd * s8 = M at *
    (repeat' (first | exact trivial | with_reducible rfl | exact decide_eq_true rfl | exact decide_eq_true trivial | exact sameB_self _ | with_reducible assumption | apply And.intro)) <;> try omega
    rintro y1 ⟨⟨hb, _⟩, hqb⟩
    rw [wi64_in (y1.n 90000 + M) (by omega) (by omega), wi64_in (y1.n 90000 + M + Xd) (by omega) (by omega), ← hqb]
    (repeat' (first | exact trivial | with_reducible rfl | exact decide_eq_true rfl | exact decide_eq_true trivial | exact sameB_self _ | with_reducible assumption | apply And.intro)) <;> try omega
    rintro y2 ⟨⟨hs, _⟩, hqs⟩
    rw [wi64_in (y2.n 90000) (by omega) (by omega), wi64_in (64 * y2.n 90000) (by omega) (by omega), ← hqs]
    (repeat' (first | exact trivial | with_reducible rfl | exact decide_eq_true rfl | exact decide_eq_true trivial | exact sameB_self _ | with_reducible assumption | apply And.intro)) <;> try omega
    rintro y3 ⟨⟨ht, _⟩, hqt⟩
    rw [wi64_in (y3.n 90000 + 64 * y2.n 90000) (by omega) (by omega), wi64_in (y3.n 90000 + 64 * y2.n 90000 + Ym * 8) (by omega) (by omega), wi64_in (y3.n 90000 + 64 * y2.n 90000 + Ym * 8 + Xm) (by omega) (by omega), ← hqt]
    (repeat' (first | exact trivial | with_reducible rfl | exact decide_eq_true rfl | exact decide_eq_true trivial | exact sameB_self _ | with_reducible assumption | apply And.intro)) <;> try omega
    rintro y4 ⟨⟨hu, _⟩, hqu⟩
    rw [wi64_in (y4.n 90000) (by omega) (by omega), ← hqu]
    (repeat' (first | exact trivial | with_reducible rfl | exact decide_eq_true rfl | exact decide_eq_true trivial | exact sameB_self _ | with_reducible assumption | apply And.intro)) <;> try omega
    rintro y5 ⟨⟨hv, _⟩, hqv⟩
    (repeat' (first | exact trivial | with_reducible rfl | exact decide_eq_true rfl | exact decide_eq_true trivial | exact sameB_self _ | with_reducible assumption | apply And.intro)) <;> (first | omega | done)
noncomputable def orcXR (E : World) : Orc := fun g vs s => match g with
  | 26 => (match frGo [mL, mS 2, rowB, rowB, rowB] vs s (fun vs0 π s1 s0 => match vs0 with
      | [.c (.p 0 0), .c (.i l2 .i64 x)] => some (hrG (pre := fun z => (ROk (z.l 2) (z.n 100026).toNat ∧ ROk (z.l 3) (z.n 100027).toNat) ∧ 2 ≤ z.n 1 ∧ 0 ≤ x ∧ x ≤ 239) (fun z hz hp => HR.args (vs := [.c (.p 0 0), .c (.i l2 .i64 x)]) (by simp [simL, SV.sim, C.sim]) (dirR_c E x z hz hp)) (by rfl) π s1 s0)
      | _ => none) with
    | some t => some t
    | none => (orcPR E) g vs s)
  | 27 => (match frGo [mL, mS 2, rowB, rowB, rowB] vs s (fun vs0 π s1 s0 => match vs0 with
      | [.c (.p 0 0), .c (.i l2 .i64 x)] => some (hrG (pre := fun z => (ROk (z.l 2) (z.n 100026).toNat ∧ ROk (z.l 3) (z.n 100027).toNat) ∧ 2 ≤ z.n 1 ∧ 0 ≤ x ∧ x ≤ 239) (fun z hz hp => HR.args (vs := [.c (.p 0 0), .c (.i l2 .i64 x)]) (by simp [simL, SV.sim, C.sim]) (idxR_c E x z hz hp)) (by rfl) π s1 s0)
      | _ => none) with
    | some t => some t
    | none => (orcPR E) g vs s)
  | 28 => (match frGo [mL, mS 2, rowB, rowB, rowB] vs s (fun vs0 π s1 s0 => match vs0 with
      | [.c (.p 0 0), .c (.i l2 .i64 x)] => some (hrG (pre := fun z => (ROk (z.l 2) (z.n 100026).toNat ∧ ROk (z.l 3) (z.n 100027).toNat) ∧ 2 ≤ z.n 1 ∧ 0 ≤ x ∧ x ≤ 239) (fun z hz hp => HR.args (vs := [.c (.p 0 0), .c (.i l2 .i64 x)]) (by simp [simL, SV.sim, C.sim]) (smlR_c E x z hz hp)) (by rfl) π s1 s0)
      | _ => none) with
    | some t => some t
    | none => (orcPR E) g vs s)
  | 29 => (match frGo [mL, mS 2, rowB, rowB, rowB] vs s (fun vs0 π s1 s0 => match vs0 with
      | [.c (.p 0 0), .c (.i l2 .i64 x)] => some (hrG (pre := fun z => (ROk (z.l 2) (z.n 100026).toNat ∧ ROk (z.l 3) (z.n 100027).toNat) ∧ 2 ≤ z.n 1 ∧ 0 ≤ x ∧ x ≤ 239) (fun z hz hp => HR.args (vs := [.c (.p 0 0), .c (.i l2 .i64 x)]) (by simp [simL, SV.sim, C.sim]) (trnR_c E x z hz hp)) (by rfl) π s1 s0)
      | _ => none) with
    | some t => some t
    | none => (orcPR E) g vs s)
  | g => (orcPR E) g vs s
theorem orcXR_ok {E : World} : OrcOK (pe E) (orcXR E) := by
  intro g vs s t h
  unfold orcXR at h
  split at h
  · split at h
    · rename_i hfr; cases h
      obtain ⟨π, s1, hq, hK, hv, hok, hpd⟩ := frGo_spec (P := pe E) hfr
      split at hK
      · rename_i heq; cases hK
        rw [heq] at hv hok
        exact hpd _ _ (hrG_ok _ _ (by rfl) π s1 hq hv hok)
      · cases hK
    · exact orcPR_ok _ _ _ _ h
  · split at h
    · rename_i hfr; cases h
      obtain ⟨π, s1, hq, hK, hv, hok, hpd⟩ := frGo_spec (P := pe E) hfr
      split at hK
      · rename_i heq; cases hK
        rw [heq] at hv hok
        exact hpd _ _ (hrG_ok _ _ (by rfl) π s1 hq hv hok)
      · cases hK
    · exact orcPR_ok _ _ _ _ h
  · split at h
    · rename_i hfr; cases h
      obtain ⟨π, s1, hq, hK, hv, hok, hpd⟩ := frGo_spec (P := pe E) hfr
      split at hK
      · rename_i heq; cases hK
        rw [heq] at hv hok
        exact hpd _ _ (hrG_ok _ _ (by rfl) π s1 hq hv hok)
      · cases hK
    · exact orcPR_ok _ _ _ _ h
  · split at h
    · rename_i hfr; cases h
      obtain ⟨π, s1, hq, hK, hv, hok, hpd⟩ := frGo_spec (P := pe E) hfr
      split at hK
      · rename_i heq; cases hK
        rw [heq] at hv hok
        exact hpd _ _ (hrG_ok _ _ (by rfl) π s1 hq hv hok)
      · cases hK
    · exact orcPR_ok _ _ _ _ h
  · exact orcPR_ok _ _ _ _ h
end Go.Proofs.Ytdomhmajoclpeaa

