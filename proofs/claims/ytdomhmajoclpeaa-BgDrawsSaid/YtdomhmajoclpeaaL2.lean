import Derived.Test.YtdomhmajoclpeaaL1
set_option linter.unusedVariables false
set_option linter.unusedSimpArgs false
namespace Go.Proofs.Ytdomhmajoclpeaa
open Go Go.Proofs Go.Proofs.Ytdomhmajoclpeaa.Ev Go.Proofs.Ytdomhmajoclpeaa.Ev.Ho Go.IntKind
set_option maxRecDepth 100000
theorem rshR_p (E : World) (z : PX) (i : Int) :
    (hoPr true [mSr 1, rowB, rowB, rowB] [] (.c .b) (fun z y => y.b 90000 = shF (z.n 0) i) z (fnTree (pe E) (orcQR E) (tabL fns) 20000 Try.f14 [.c (.p 0 0), .c (.i false .i64 i)] (mkM z [] [mSr 1, rowB, rowB, rowB] 0))) =
    ((decide (i ≥ 0) = true → (decide (i < 4) = true → decide (0 ≤ i64.wrap (8 + i)) = true ∧ ((((i64.wrap (z.n 0)).fdiv (2 ^ min (i64.wrap (8 + i)).toNat (64 : Nat))).tmod (2 : Int) == 1) = true → ((54 = 54 ∧ (rgS z 0 (True)) ∧ rw3 z 1 (([] : SW) = [])) ∧ True) ∧ ∀ (y : PX), ((0 ≤ y.n 90000 ∧ y.n 90000 ≤ 3) ∧ True) ∧ y.n 90000 = kdF (z.n 0) i → (decide (y.n 90000 > 0) = true → True ∧ mkM z [] [mSr (1 : Nat), rowB, rowB, rowB] (0 : Nat) = mkM z [] [mSr (1 : Nat), rowB, rowB, rowB] (0 : Nat) ∧ (((i64.wrap (z.n 0)).fdiv 128).tmod (2 : Int) == 0) = shF (z.n 0) i) ∧ (decide (y.n 90000 > 0) = false → True ∧ mkM z [] [mSr (1 : Nat), rowB, rowB, rowB] (0 : Nat) = mkM z [] [mSr (1 : Nat), rowB, rowB, rowB] (0 : Nat) ∧ false = shF (z.n 0) i)) ∧ ((((i64.wrap (z.n 0)).fdiv (2 ^ min (i64.wrap (8 + i)).toNat (64 : Nat))).tmod (2 : Int) == 1) = false → True ∧ mkM z [] [mSr (1 : Nat), rowB, rowB, rowB] (0 : Nat) = mkM z [] [mSr (1 : Nat), rowB, rowB, rowB] (0 : Nat) ∧ false = shF (z.n 0) i)) ∧ (decide (i < 4) = false → True ∧ mkM z [] [mSr (1 : Nat), rowB, rowB, rowB] (0 : Nat) = mkM z [] [mSr (1 : Nat), rowB, rowB, rowB] (0 : Nat) ∧ false = shF (z.n 0) i)) ∧ (decide (i ≥ 0) = false → True ∧ mkM z [] [mSr (1 : Nat), rowB, rowB, rowB] (0 : Nat) = mkM z [] [mSr (1 : Nat), rowB, rowB, rowB] (0 : Nat) ∧ false = shF (z.n 0) i)) := by kernel_rfl
theorem rshR_c (E : World) (i : Int) (z : PX) (hz : rgM z [mSr 1, rowB, rowB, rowB] 0) (hp : (fun _ => True) z) : HR (pe E) 14 [.c (.p 0 0), .c (.i false .i64 i)] [mSr 1, rowB, rowB, rowB] [] (.c .b) (fun z y => y.b 90000 = shF (z.n 0) i) z := by
  refine HR.mk true (by rfl) (by rfl) (fnTree_sound (P := pe E) orcQR_ok tab_ok tab_sz mixed 20000 Try.func14 (by decide) [.c (.p 0 0), .c (.i false .i64 i)] _) ⟨?_⟩
  rw [rshR_p]
  have hR1 : Row [.r .u8 0 255] (z.l 1) := hz.2.1.2
  have hR2 : Row [.r .u8 0 255] (z.l 2) := hz.2.2.1.2
  have hR3 : Row [.r .u8 0 255] (z.l 3) := hz.2.2.2.1.2
  have hF : flat [Sp.r .u8 0 255] = true := rfl
  obtain ⟨r0, r1, r2, r3, r4, r5, r6, r7, r8, r9, r10, r11, r12, r13, r14, r15, r16, r17, r18, r19, r20, r21, r22, r23, r24, r25, v26, v27, v28, _⟩ := hz.1
  replace r0 : 0 ≤ z.n 0 ∧ z.n 0 ≤ 65535 := r0
  by_cases hi : 0 ≤ i ∧ i ≤ 3
  · have e3 : IntKind.i64.wrap (8 + i) = 8 + i := wi64_in _ (by omega) (by omega)
    have e4 : min (8 + i).toNat 64 = (8 + i).toNat := Nat.min_eq_left (by omega)
    rw [e3, e4]
    simp only [btE (M := 2) r0 (show (0 : Int) < 128 by decide), btE (M := 2) r0 (show (0 : Int) < 2 ^ (8 + i).toNat from Int.pow_pos (by decide))]
    have hm := Int.emod_nonneg (z.n 0 / 2 ^ (8 + i).toNat) (show (2 : Int) ≠ 0 by decide)
    have hm2 := Int.emod_lt_of_pos (z.n 0 / 2 ^ (8 + i).toNat) (show (0 : Int) < 2 by decide)
    have key : ∀ b : Bool, (b = true ↔ (z.n 0 / 128 % 2 = 0 ∧ z.n 0 / 2 ^ (8 + i).toNat % 2 = 1 ∧ exP (z.n 0) i)) → b = shF (z.n 0) i := fun b hb => shF_iff (hb.trans ⟨fun h => ⟨hi, h⟩, fun h => h.2⟩)
    have kd : 0 < kdF (z.n 0) i ↔ exP (z.n 0) i := by
      unfold kdF exP
      (repeat' split) <;> omega
    generalize z.n 0 / 2 ^ (8 + i).toNat % 2 = q at *
    simp only [bandT, bandF, borT, borF, decide_eq_true_eq, decide_eq_false_iff_not, beq_iff_eq, beq_eq_false_iff_ne, bne_iff_ne, bne_eq_false_iff_eq, ne_eq, Bool.not_eq_true', Bool.not_eq_false']
    refine ⟨fun _ => ⟨fun _ => ⟨by omega, fun h1 => ⟨by (repeat' (first | exact trivial | with_reducible rfl | exact decide_eq_true rfl | exact decide_eq_true trivial | exact sameB_self _ | with_reducible assumption | apply And.intro)) <;> (first | omega | done), ?_⟩, fun h1 => ?_⟩, fun h => by omega⟩, fun h => by omega⟩
    · rintro y ⟨⟨hy, _⟩, hq⟩
      rw [hq]
      refine ⟨fun h2 => ⟨trivial, by first | rfl | trivial, key _ ?_⟩, fun h2 => ⟨trivial, by first | rfl | trivial, key _ ?_⟩⟩
      · simp only [beq_iff_eq]; exact ⟨fun h => ⟨h, h1, kd.1 h2⟩, fun h => h.1⟩
      · simp only [Bool.false_eq_true, false_iff]; exact fun h => h2 (kd.2 h.2.2)
    · refine ⟨trivial, by first | rfl | trivial, key _ ?_⟩
      simp only [Bool.false_eq_true, false_iff]; exact fun h => h1 h.2.1
  · have hf : false = shF (z.n 0) i := shF_iff ⟨fun h => absurd h (by decide), fun h => absurd h.1 hi⟩
    simp only [decide_eq_true_eq, decide_eq_false_iff_not]
    refine ⟨fun h1 => ⟨fun h2 => by omega, fun _ => ⟨trivial, by first | rfl | trivial, hf⟩⟩, fun _ => ⟨trivial, by first | rfl | trivial, hf⟩⟩
theorem textRr_p (E : World) (z : PX) (a x w q : Int) :
    (hoPr true [mSr 1, rowB, rowB, rowB] [] (.c (.r .u16 0 32768)) (fun z y => y.n 90000 = texF (scM z 0 (bR (z.l 1) (z.n 26).toNat) (z.n 26).toNat (bR (z.l 2) (z.n 27).toNat) (z.n 27).toNat) a x w q true) z (fnTree (pe E) (orcQR E) (tabL fns) 20000 Try.f32 [.c (.p 0 0), .c (.i false .i64 a), .c (.i false .i64 x), .c (.i false .i64 w), .c (.i false .i64 q), .c (.b true true)] (mkM z [] [mSr 1, rowB, rowB, rowB] 0))) =
    (((5 = 5 ∧ (flat [Sp.r u8 0 255] = true ∧ Row [Sp.r u8 0 255] (z.l 1)) ∧ ([] : SW) = []) ∧ ROk (z.l 1) (z.n 26).toNat ∧ (-1000000000) ≤ i64.wrap (a + i64.wrap (i64.wrap (8 * w) + x)) ∧ i64.wrap (a + i64.wrap (i64.wrap (8 * w) + x)) ≤ 1000000000) ∧ ∀ (y : PX), ((0 ≤ y.n 90000 ∧ y.n 90000 ≤ 255) ∧ True) ∧ y.n 90000 = bR (z.l 1) (z.n 26).toNat (i64.wrap (a + i64.wrap (i64.wrap (8 * w) + x))) → ((bif y.n 90000 == 0 then true else decide (i64.wrap (a + i64.wrap (i64.wrap (8 * w) + x)) ≥ 65536)) = true → (((0 : Int) ≤ (32768 : Int) ∧ (32768 : Int) ≤ 32768) ∧ True) ∧ mkM z [] [mSr (1 : Nat), rowB, rowB, rowB] (0 : Nat) = mkM z [] [mSr (1 : Nat), rowB, rowB, rowB] (0 : Nat) ∧ 32768 = texF (scM z 0 (bR (z.l 1) (z.n 26).toNat) (z.n 26).toNat (bR (z.l 2) (z.n 27).toNat) (z.n 27).toNat) a x w q true) ∧ ((bif y.n 90000 == 0 then true else decide (i64.wrap (a + i64.wrap (i64.wrap (8 * w) + x)) ≥ 65536)) = false → ((54 = 54 ∧ (rgS z 0 (True)) ∧ rw3 z 1 (([] : SW) = [])) ∧ (ROk (z.l 1) (↑(z.n 26).toNat : Int).toNat ∧ ROk (z.l 2) (↑(z.n 27).toNat : Int).toNat) ∧ 0 ≤ i64.wrap (0 + y.n 90000) ∧ i64.wrap (0 + y.n 90000) ≤ 1000000) ∧ ∀ (y_1 : PX), ((0 ≤ y_1.n 90000 ∧ y_1.n 90000 ≤ 32767) ∧ True) ∧ y_1.n 90000 = colF (bR (z.l 2) (↑(z.n 27).toNat : Int).toNat) (↑(z.n 27).toNat : Int).toNat (i64.wrap (0 + y.n 90000)) → ((0 ≤ y_1.n 90000 ∧ y_1.n 90000 ≤ 32768) ∧ True) ∧ mkM z [] [mSr (1 : Nat), rowB, rowB, rowB] (0 : Nat) = mkM z [] [mSr (1 : Nat), rowB, rowB, rowB] (0 : Nat) ∧ y_1.n 90000 = texF (scM z 0 (bR (z.l 1) (z.n 26).toNat) (z.n 26).toNat (bR (z.l 2) (z.n 27).toNat) (z.n 27).toNat) a x w q true)) := by kernel_rfl
theorem textRr_c (E : World) (a x w q : Int) (z : PX) (hz : rgM z [mSr 1, rowB, rowB, rowB] 0) (hp : (fun z => (ROk (z.l 1) (z.n 26).toNat ∧ ROk (z.l 2) (z.n 27).toNat) ∧ (0 ≤ a ∧ a ≤ 200000) ∧ (0 ≤ x ∧ x ≤ 7) ∧ (0 ≤ w ∧ w ≤ 7) ∧ 0 ≤ q ∧ q ≤ 15) z) : HR (pe E) 32 [.c (.p 0 0), .c (.i false .i64 a), .c (.i false .i64 x), .c (.i false .i64 w), .c (.i false .i64 q), .c (.b true true)] [mSr 1, rowB, rowB, rowB] [] (.c (.r .u16 0 32768)) (fun z y => y.n 90000 = texF (scM z 0 (bR (z.l 1) (z.n 26).toNat) (z.n 26).toNat (bR (z.l 2) (z.n 27).toNat) (z.n 27).toNat) a x w q true) z := by
  refine HR.mk true (by rfl) (by rfl) (fnTree_sound (P := pe E) orcQR_ok tab_ok tab_sz mixed 20000 Try.func32 (by decide) [.c (.p 0 0), .c (.i false .i64 a), .c (.i false .i64 x), .c (.i false .i64 w), .c (.i false .i64 q), .c (.b true true)] _) ⟨?_⟩
  rw [textRr_p]
  obtain ⟨⟨hK1, hK2⟩, ha, hx, hw, hq⟩ := hp
  have hR1 : Row [.r .u8 0 255] (z.l 1) := hz.2.1.2
  have hR2 : Row [.r .u8 0 255] (z.l 2) := hz.2.2.1.2
  have hR3 : Row [.r .u8 0 255] (z.l 3) := hz.2.2.2.1.2
  have hF : flat [Sp.r .u8 0 255] = true := rfl
  obtain ⟨r0, r1, r2, r3, r4, r5, r6, r7, r8, r9, r10, r11, r12, r13, r14, r15, r16, r17, r18, r19, r20, r21, r22, r23, r24, r25, v26, v27, v28, _⟩ := hz.1
  simp only [Int.toNat_natCast]
  rw [wi64_in (8 * w) (by omega) (by omega), wi64_in (8 * w + x) (by omega) (by omega), wi64_in (a + (8 * w + x)) (by omega) (by omega)]
  simp only [bandT, bandF, borT, borF, decide_eq_true_eq, decide_eq_false_iff_not, beq_iff_eq, beq_eq_false_iff_ne, bne_iff_ne, bne_eq_false_iff_eq, ne_eq, Bool.not_eq_true', Bool.not_eq_false']
  unfold texF
  simp only [if_true]
  refine ⟨by (repeat' (first | exact trivial | with_reducible rfl | exact decide_eq_true rfl | exact decide_eq_true trivial | exact sameB_self _ | with_reducible assumption | apply And.intro)) <;> (first | omega | done), ?_⟩
  rintro y ⟨⟨hy, _⟩, hq1⟩
  rw [← hq1, wi64_in (0 + y.n 90000) (by omega) (by omega), Int.zero_add]
  refine ⟨fun h => ?_, fun h => ⟨by (repeat' (first | exact trivial | with_reducible rfl | exact decide_eq_true rfl | exact decide_eq_true trivial | exact sameB_self _ | with_reducible assumption | apply And.intro)) <;> (first | omega | done), ?_⟩⟩
  · rw [if_pos (by omega)]
    (repeat' (first | exact trivial | with_reducible rfl | exact decide_eq_true rfl | exact decide_eq_true trivial | exact sameB_self _ | with_reducible assumption | apply And.intro)) <;> (first | omega | done)
  · rintro y1 ⟨⟨hy1, _⟩, hq2⟩
    rw [if_neg (by omega)]
    (repeat' (first | exact trivial | with_reducible rfl | exact decide_eq_true rfl | exact decide_eq_true trivial | exact sameB_self _ | with_reducible assumption | apply And.intro)) <;> (first | omega | done)
theorem texfR_p (E : World) (z : PX) (a x w q : Int) :
    (hoPr true [mSr 1, rowB, rowB, rowB] [] (.c (.r .u16 0 32768)) (fun z y => y.n 90000 = texF (scM z 0 (bR (z.l 1) (z.n 26).toNat) (z.n 26).toNat (bR (z.l 2) (z.n 27).toNat) (z.n 27).toNat) a x w q false) z (fnTree (pe E) (orcQR E) (tabL fns) 20000 Try.f32 [.c (.p 0 0), .c (.i false .i64 a), .c (.i false .i64 x), .c (.i false .i64 w), .c (.i false .i64 q), .c (.b true false)] (mkM z [] [mSr 1, rowB, rowB, rowB] 0))) =
    (((5 = 5 ∧ (flat [Sp.r u8 0 255] = true ∧ Row [Sp.r u8 0 255] (z.l 1)) ∧ ([] : SW) = []) ∧ ROk (z.l 1) (z.n 26).toNat ∧ (-1000000000) ≤ i64.wrap (a + i64.wrap (i64.wrap (4 * w) + i64.wrap (x.tdiv 2))) ∧ i64.wrap (a + i64.wrap (i64.wrap (4 * w) + i64.wrap (x.tdiv 2))) ≤ 1000000000) ∧ ∀ (y : PX), ((0 ≤ y.n 90000 ∧ y.n 90000 ≤ 255) ∧ True) ∧ y.n 90000 = bR (z.l 1) (z.n 26).toNat (i64.wrap (a + i64.wrap (i64.wrap (4 * w) + i64.wrap (x.tdiv 2)))) → ((bif (bif x.tmod (2 : Int) == 1 then i64.wrap ((y.n 90000).tdiv 16) else y.n 90000).tmod (16 : Int) == 0 then true else decide (i64.wrap (a + i64.wrap (i64.wrap (4 * w) + i64.wrap (x.tdiv 2))) ≥ 65536)) = true → (((0 : Int) ≤ (32768 : Int) ∧ (32768 : Int) ≤ 32768) ∧ True) ∧ mkM z [] [mSr (1 : Nat), rowB, rowB, rowB] (0 : Nat) = mkM z [] [mSr (1 : Nat), rowB, rowB, rowB] (0 : Nat) ∧ 32768 = texF (scM z 0 (bR (z.l 1) (z.n 26).toNat) (z.n 26).toNat (bR (z.l 2) (z.n 27).toNat) (z.n 27).toNat) a x w q false) ∧ ((bif (bif x.tmod (2 : Int) == 1 then i64.wrap ((y.n 90000).tdiv 16) else y.n 90000).tmod (16 : Int) == 0 then true else decide (i64.wrap (a + i64.wrap (i64.wrap (4 * w) + i64.wrap (x.tdiv 2))) ≥ 65536)) = false → ((54 = 54 ∧ (rgS z 0 (True)) ∧ rw3 z 1 (([] : SW) = [])) ∧ (ROk (z.l 1) (↑(z.n 26).toNat : Int).toNat ∧ ROk (z.l 2) (↑(z.n 27).toNat : Int).toNat) ∧ 0 ≤ i64.wrap (i64.wrap (16 * q) + (bif x.tmod (2 : Int) == 1 then i64.wrap ((y.n 90000).tdiv 16) else y.n 90000).tmod 16) ∧ i64.wrap (i64.wrap (16 * q) + (bif x.tmod (2 : Int) == 1 then i64.wrap ((y.n 90000).tdiv 16) else y.n 90000).tmod 16) ≤ 1000000) ∧ ∀ (y_1 : PX), ((0 ≤ y_1.n 90000 ∧ y_1.n 90000 ≤ 32767) ∧ True) ∧ y_1.n 90000 = colF (bR (z.l 2) (↑(z.n 27).toNat : Int).toNat) (↑(z.n 27).toNat : Int).toNat (i64.wrap (i64.wrap (16 * q) + (bif x.tmod (2 : Int) == 1 then i64.wrap ((y.n 90000).tdiv 16) else y.n 90000).tmod 16)) → ((0 ≤ y_1.n 90000 ∧ y_1.n 90000 ≤ 32768) ∧ True) ∧ mkM z [] [mSr (1 : Nat), rowB, rowB, rowB] (0 : Nat) = mkM z [] [mSr (1 : Nat), rowB, rowB, rowB] (0 : Nat) ∧ y_1.n 90000 = texF (scM z 0 (bR (z.l 1) (z.n 26).toNat) (z.n 26).toNat (bR (z.l 2) (z.n 27).toNat) (z.n 27).toNat) a x w q false)) := by kernel_rfl
theorem texfR_c (E : World) (a x w q : Int) (z : PX) (hz : rgM z [mSr 1, rowB, rowB, rowB] 0) (hp : (fun z => (ROk (z.l 1) (z.n 26).toNat ∧ ROk (z.l 2) (z.n 27).toNat) ∧ (0 ≤ a ∧ a ≤ 200000) ∧ (0 ≤ x ∧ x ≤ 7) ∧ (0 ≤ w ∧ w ≤ 7) ∧ 0 ≤ q ∧ q ≤ 15) z) : HR (pe E) 32 [.c (.p 0 0), .c (.i false .i64 a), .c (.i false .i64 x), .c (.i false .i64 w), .c (.i false .i64 q), .c (.b true false)] [mSr 1, rowB, rowB, rowB] [] (.c (.r .u16 0 32768)) (fun z y => y.n 90000 = texF (scM z 0 (bR (z.l 1) (z.n 26).toNat) (z.n 26).toNat (bR (z.l 2) (z.n 27).toNat) (z.n 27).toNat) a x w q false) z := by
  refine HR.mk true (by rfl) (by rfl) (fnTree_sound (P := pe E) orcQR_ok tab_ok tab_sz mixed 20000 Try.func32 (by decide) [.c (.p 0 0), .c (.i false .i64 a), .c (.i false .i64 x), .c (.i false .i64 w), .c (.i false .i64 q), .c (.b true false)] _) ⟨?_⟩
  rw [texfR_p]
  obtain ⟨⟨hK1, hK2⟩, ha, hx, hw, hq⟩ := hp
  have hR1 : Row [.r .u8 0 255] (z.l 1) := hz.2.1.2
  have hR2 : Row [.r .u8 0 255] (z.l 2) := hz.2.2.1.2
  have hR3 : Row [.r .u8 0 255] (z.l 3) := hz.2.2.2.1.2
  have hF : flat [Sp.r .u8 0 255] = true := rfl
  obtain ⟨r0, r1, r2, r3, r4, r5, r6, r7, r8, r9, r10, r11, r12, r13, r14, r15, r16, r17, r18, r19, r20, r21, r22, r23, r24, r25, v26, v27, v28, _⟩ := hz.1
  simp only [Int.toNat_natCast]
  rw [Int.tdiv_eq_ediv_of_nonneg hx.1, Int.tmod_eq_emod_of_nonneg hx.1, wi64_in (4 * w) (by omega) (by omega), wi64_in (x / 2) (by omega) (by omega), wi64_in (4 * w + x / 2) (by omega) (by omega), wi64_in (a + (4 * w + x / 2)) (by omega) (by omega), wi64_in (16 * q) (by omega) (by omega)]
  unfold texF
  simp only [Bool.false_eq_true, if_false]
  refine ⟨by (repeat' (first | exact trivial | with_reducible rfl | exact decide_eq_true rfl | exact decide_eq_true trivial | exact sameB_self _ | with_reducible assumption | apply And.intro)) <;> (first | omega | done), ?_⟩
  rintro y ⟨⟨hy, _⟩, hq1⟩
  rw [← hq1]
  have e : (bif x % 2 == 1 then IntKind.i64.wrap ((y.n 90000).tdiv 16) else y.n 90000).tmod 16 = (if x % 2 = 1 then y.n 90000 / 16 else y.n 90000 % 16) := by
    by_cases hb : x % 2 = 1
    · rw [hb, if_pos rfl, show ((1 : Int) == 1) = true from rfl, cond_true, Int.tdiv_eq_ediv_of_nonneg hy.1, wi64_in _ (by omega) (by omega), Int.tmod_eq_emod_of_nonneg (by omega)]; omega
    · rw [if_neg hb, show (x % 2 == 1) = false from by simpa using hb, cond_false, Int.tmod_eq_emod_of_nonneg hy.1]
  rw [e]
  have hN : 0 ≤ (if x % 2 = 1 then y.n 90000 / 16 else y.n 90000 % 16) ∧ (if x % 2 = 1 then y.n 90000 / 16 else y.n 90000 % 16) ≤ 15 := by split <;> omega
  generalize (if x % 2 = 1 then y.n 90000 / 16 else y.n 90000 % 16) = n at *
  rw [wi64_in (16 * q + n) (by omega) (by omega)]
  simp only [bandT, bandF, borT, borF, decide_eq_true_eq, decide_eq_false_iff_not, beq_iff_eq, beq_eq_false_iff_ne, bne_iff_ne, bne_eq_false_iff_eq, ne_eq, Bool.not_eq_true', Bool.not_eq_false']
  refine ⟨fun h => ?_, fun h => ⟨by (repeat' (first | exact trivial | with_reducible rfl | exact decide_eq_true rfl | exact decide_eq_true trivial | exact sameB_self _ | with_reducible assumption | apply And.intro)) <;> (first | omega | done), ?_⟩⟩
  · rw [if_pos (by omega)]
    (repeat' (first | exact trivial | with_reducible rfl | exact decide_eq_true rfl | exact decide_eq_true trivial | exact sameB_self _ | with_reducible assumption | apply And.intro)) <;> (first | omega | done)
  · rintro y1 ⟨⟨hy1, _⟩, hq2⟩
    rw [if_neg (by omega)]
    (repeat' (first | exact trivial | with_reducible rfl | exact decide_eq_true rfl | exact decide_eq_true trivial | exact sameB_self _ | with_reducible assumption | apply And.intro)) <;> (first | omega | done)
theorem texR_c (E : World) (a x w q : Int) (b : Bool) (z : PX) (hz : rgM z [mSr 1, rowB, rowB, rowB] 0) (hp : (fun z => (ROk (z.l 1) (z.n 26).toNat ∧ ROk (z.l 2) (z.n 27).toNat) ∧ (0 ≤ a ∧ a ≤ 200000) ∧ (0 ≤ x ∧ x ≤ 7) ∧ (0 ≤ w ∧ w ≤ 7) ∧ 0 ≤ q ∧ q ≤ 15) z) : HR (pe E) 32 [.c (.p 0 0), .c (.i false .i64 a), .c (.i false .i64 x), .c (.i false .i64 w), .c (.i false .i64 q), .c (.b false b)] [mSr 1, rowB, rowB, rowB] [] (.c (.r .u16 0 32768)) (fun z y => y.n 90000 = texF (scM z 0 (bR (z.l 1) (z.n 26).toNat) (z.n 26).toNat (bR (z.l 2) (z.n 27).toNat) (z.n 27).toNat) a x w q b) z := by
  cases b
  · exact HR.args (by simp [simL, SV.sim, C.sim]) (texfR_c E a x w q z hz hp)
  · exact HR.args (by simp [simL, SV.sim, C.sim]) (textRr_c E a x w q z hz hp)
noncomputable def orcRfR (E : World) : Orc := fun g vs s => match g with
  | 14 => (match frGo [mSr 1, rowB, rowB, rowB] vs s (fun vs0 π s1 s0 => match vs0 with
      | [.c (.p 0 0), .c (.i l2 .i64 i)] => some (hrG (pre := fun _ => True) (fun z hz hp => HR.args (vs := [.c (.p 0 0), .c (.i l2 .i64 i)]) (by simp [simL, SV.sim, C.sim]) (rshR_c E i z hz hp)) (by rfl) π s1 s0)
      | _ => none) with
    | some t => some t
    | none => (orcQR E) g vs s)
  | 32 => (match frGo [mSr 1, rowB, rowB, rowB] vs s (fun vs0 π s1 s0 => match vs0 with
      | [.c (.p 0 0), .c (.i l2 .i64 a), .c (.i l3 .i64 x), .c (.i l4 .i64 w), .c (.i l5 .i64 q), .c (.b l6 b)] => some (hrG (pre := fun z => (ROk (z.l 1) (z.n 26).toNat ∧ ROk (z.l 2) (z.n 27).toNat) ∧ (0 ≤ a ∧ a ≤ 200000) ∧ (0 ≤ x ∧ x ≤ 7) ∧ (0 ≤ w ∧ w ≤ 7) ∧ 0 ≤ q ∧ q ≤ 15) (fun z hz hp => HR.args (vs := [.c (.p 0 0), .c (.i l2 .i64 a), .c (.i l3 .i64 x), .c (.i l4 .i64 w), .c (.i l5 .i64 q), .c (.b l6 b)]) (by simp [simL, SV.sim, C.sim]) (texR_c E a x w q b z hz hp)) (by rfl) π s1 s0)
      | _ => none) with
    | some t => some t
    | none => (orcQR E) g vs s)
  | g => (orcQR E) g vs s
theorem orcRfR_ok {E : World} : OrcOK (pe E) (orcRfR E) := by
  intro g vs s t h
  unfold orcRfR at h
  split at h
  · split at h
    · rename_i hfr; cases h
      obtain ⟨π, s1, hq, hK, hv, hok, hpd⟩ := frGo_spec (P := pe E) hfr
      split at hK
      · rename_i heq; cases hK
        rw [heq] at hv hok
        exact hpd _ _ (hrG_ok _ _ (by rfl) π s1 hq hv hok)
      · cases hK
    · exact orcQR_ok _ _ _ _ h
  · split at h
    · rename_i hfr; cases h
      obtain ⟨π, s1, hq, hK, hv, hok, hpd⟩ := frGo_spec (P := pe E) hfr
      split at hK
      · rename_i heq; cases hK
        rw [heq] at hv hok
        exact hpd _ _ (hrG_ok _ _ (by rfl) π s1 hq hv hok)
      · cases hK
    · exact orcQR_ok _ _ _ _ h
  · exact orcQR_ok _ _ _ _ h
end Go.Proofs.Ytdomhmajoclpeaa

