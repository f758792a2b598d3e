import Derived.Test.YtdomhmajoclpeaaC
set_option linter.unusedVariables false
set_option linter.unusedSimpArgs false
namespace Go.Proofs.Ytdomhmajoclpeaa
open Go Go.Proofs Go.Proofs.Ytdomhmajoclpeaa.Ev Go.Proofs.Ytdomhmajoclpeaa.Ev.Ho Go.IntKind
set_option maxRecDepth 100000
theorem visR_p (E : World) (z : PX) (n : Int) :
    (hoPr true [mL, mS 2, rowB, rowB, rowB] [] (.c (.r .u16 0 32768)) (fun z y => y.n 90000 = visF (scM z 100000 (bR (z.l 2) (z.n 100026).toNat) (z.n 100026).toNat (bR (z.l 3) (z.n 100027).toNat) (z.n 100027).toNat) n) z (fnTree (pe E) (orcCR E) (tabL fns) 20000 Try.f38 [.c (.p 0 0), .c (.i false .i64 n)] (mkM z [] [mL, mS 2, rowB, rowB, rowB] 0))) =
    (((n == 0) = true → (((0 : Int) ≤ (32768 : Int) ∧ (32768 : Int) ≤ 32768) ∧ True) ∧ mkM z [] [mL, mS (2 : Nat), rowB, rowB, rowB] (0 : Nat) = mkM z [] [mL, mS (2 : Nat), rowB, rowB, rowB] (0 : Nat) ∧ 32768 = visF (scM z 100000 (bR (z.l 2) (z.n 100026).toNat) (z.n 100026).toNat (bR (z.l 3) (z.n 100027).toNat) (z.n 100027).toNat) n) ∧ ((n == 0) = false → ((31 = 31 ∧ (rgS z 100000 (True)) ∧ rw3 z 2 (([] : SW) = [])) ∧ (ROk (z.l 2) (↑(z.n 100026).toNat : Int).toNat ∧ ROk (z.l 3) (↑(z.n 100027).toNat : Int).toNat) ∧ 0 ≤ n ∧ n ≤ 1000000) ∧ ∀ (y : PX), ((0 ≤ y.n 90000 ∧ y.n 90000 ≤ 32767) ∧ True) ∧ y.n 90000 = colF (bR (z.l 3) (↑(z.n 100027).toNat : Int).toNat) (↑(z.n 100027).toNat : Int).toNat n → ((0 ≤ y.n 90000 ∧ y.n 90000 ≤ 32768) ∧ True) ∧ mkM z [] [mL, mS (2 : Nat), rowB, rowB, rowB] (0 : Nat) = mkM z [] [mL, mS (2 : Nat), rowB, rowB, rowB] (0 : Nat) ∧ y.n 90000 = visF (scM z 100000 (bR (z.l 2) (z.n 100026).toNat) (z.n 100026).toNat (bR (z.l 3) (z.n 100027).toNat) (z.n 100027).toNat) n)) := by kernel_rfl
theorem visR_c (E : World) (n : Int) (z : PX) (hz : rgM z [mL, mS 2, rowB, rowB, rowB] 0) (hp : (fun z => (ROk (z.l 2) (z.n 100026).toNat ∧ ROk (z.l 3) (z.n 100027).toNat) ∧ 0 ≤ n ∧ n ≤ 255) z) : HR (pe E) 38 [.c (.p 0 0), .c (.i false .i64 n)] [mL, mS 2, rowB, rowB, rowB] [] (.c (.r .u16 0 32768)) (fun z y => y.n 90000 = visF (scM z 100000 (bR (z.l 2) (z.n 100026).toNat) (z.n 100026).toNat (bR (z.l 3) (z.n 100027).toNat) (z.n 100027).toNat) n) z := by
  refine HR.mk true (by rfl) (by rfl) (fnTree_sound (P := pe E) orcCR_ok tab_ok tab_sz mixed 20000 Try.func38 (by decide) [.c (.p 0 0), .c (.i false .i64 n)] _) ⟨?_⟩
  rw [visR_p]
  obtain ⟨⟨hK1, hK2⟩, h0, h1⟩ := hp
  have hR1 : Row [.r .u8 0 255] (z.l 2) := hz.2.2.1.2
  have hR2 : Row [.r .u8 0 255] (z.l 3) := hz.2.2.2.1.2
  have hR3 : Row [.r .u8 0 255] (z.l 4) := hz.2.2.2.2.1.2
  have hF : flat [Sp.r .u8 0 255] = true := rfl
  obtain ⟨q1, q2, q3, q4, _⟩ := hz.1
  replace q1 : 0 ≤ z.n 1 ∧ z.n 1 ≤ 3 := q1
  replace q2 : 0 ≤ z.n 2 ∧ z.n 2 ≤ 65535 := q2
  replace q3 : 0 ≤ z.n 3 ∧ z.n 3 ≤ 159 := q3
  replace q4 : 0 ≤ z.n 4 ∧ z.n 4 ≤ 15 := q4
  obtain ⟨r0, r1, r2, r3, r4, r5, r6, r7, r8, r9, r10, r11, r12, r13, r14, r15, r16, r17, r18, r19, r20, r21, r22, r23, r24, r25, v26, v27, v28, _⟩ := hz.2.1
  simp only [Int.toNat_natCast]
  refine ⟨fun h => ?_, fun h => ⟨by (repeat' (first | exact trivial | with_reducible rfl | exact decide_eq_true rfl | exact decide_eq_true trivial | exact sameB_self _ | with_reducible assumption | apply And.intro)) <;> (first | omega | done), ?_⟩⟩
  · have h : n = 0 := by simpa using h
    unfold visF
    rw [if_pos h]
    (repeat' (first | exact trivial | with_reducible rfl | exact decide_eq_true rfl | exact decide_eq_true trivial | exact sameB_self _ | with_reducible assumption | apply And.intro)) <;> (first | omega | done)
  · have h : n ≠ 0 := by simpa using h
    rintro y ⟨⟨hy, _⟩, hq⟩
    unfold visF
    rw [if_neg h]
    (repeat' (first | exact trivial | with_reducible rfl | exact decide_eq_true rfl | exact decide_eq_true trivial | exact sameB_self _ | with_reducible assumption | apply And.intro)) <;> (first | omega | done)
theorem tileR_p (E : World) (z : PX) (n : Int) :
    (hoPr true [mL, mS 2, rowB, rowB, rowB] [] (.c (.r .u8 0 255)) (fun z y => y.n 90000 = tileF (scM z 100000 (bR (z.l 2) (z.n 100026).toNat) (z.n 100026).toNat (bR (z.l 3) (z.n 100027).toNat) (z.n 100027).toNat) n) z (fnTree (pe E) (orcCR E) (tabL fns) 20000 Try.f42 [.c (.p 0 0), .c (.i false .i64 n)] (mkM z [] [mL, mS 2, rowB, rowB, rowB] 0))) =
    ((decide (n ≥ 65536) = true → (((0 : Int) ≤ (0 : Int) ∧ (0 : Int) ≤ 255) ∧ True) ∧ mkM z [] [mL, mS (2 : Nat), rowB, rowB, rowB] (0 : Nat) = mkM z [] [mL, mS (2 : Nat), rowB, rowB, rowB] (0 : Nat) ∧ 0 = tileF (scM z 100000 (bR (z.l 2) (z.n 100026).toNat) (z.n 100026).toNat (bR (z.l 3) (z.n 100027).toNat) (z.n 100027).toNat) n) ∧ (decide (n ≥ 65536) = false → ((5 = 5 ∧ (flat [Sp.r u8 0 255] = true ∧ Row [Sp.r u8 0 255] (z.l 2)) ∧ ([] : SW) = []) ∧ ROk (z.l 2) (z.n 100026).toNat ∧ (-1000000000) ≤ n ∧ n ≤ 1000000000) ∧ ∀ (y : PX), ((0 ≤ y.n 90000 ∧ y.n 90000 ≤ 255) ∧ True) ∧ y.n 90000 = bR (z.l 2) (z.n 100026).toNat n → ((0 ≤ y.n 90000 ∧ y.n 90000 ≤ 255) ∧ True) ∧ mkM z [] [mL, mS (2 : Nat), rowB, rowB, rowB] (0 : Nat) = mkM z [] [mL, mS (2 : Nat), rowB, rowB, rowB] (0 : Nat) ∧ y.n 90000 = tileF (scM z 100000 (bR (z.l 2) (z.n 100026).toNat) (z.n 100026).toNat (bR (z.l 3) (z.n 100027).toNat) (z.n 100027).toNat) n)) := by kernel_rfl
theorem tileR_c (E : World) (n : Int) (z : PX) (hz : rgM z [mL, mS 2, rowB, rowB, rowB] 0) (hp : (fun z => (ROk (z.l 2) (z.n 100026).toNat ∧ ROk (z.l 3) (z.n 100027).toNat) ∧ 0 ≤ n ∧ n ≤ 1000000) z) : HR (pe E) 42 [.c (.p 0 0), .c (.i false .i64 n)] [mL, mS 2, rowB, rowB, rowB] [] (.c (.r .u8 0 255)) (fun z y => y.n 90000 = tileF (scM z 100000 (bR (z.l 2) (z.n 100026).toNat) (z.n 100026).toNat (bR (z.l 3) (z.n 100027).toNat) (z.n 100027).toNat) n) z := by
  refine HR.mk true (by rfl) (by rfl) (fnTree_sound (P := pe E) orcCR_ok tab_ok tab_sz mixed 20000 Try.func42 (by decide) [.c (.p 0 0), .c (.i false .i64 n)] _) ⟨?_⟩
  rw [tileR_p]
  obtain ⟨⟨hK1, hK2⟩, h0, h1⟩ := hp
  have hR1 : Row [.r .u8 0 255] (z.l 2) := hz.2.2.1.2
  have hR2 : Row [.r .u8 0 255] (z.l 3) := hz.2.2.2.1.2
  have hR3 : Row [.r .u8 0 255] (z.l 4) := hz.2.2.2.2.1.2
  have hF : flat [Sp.r .u8 0 255] = true := rfl
  obtain ⟨q1, q2, q3, q4, _⟩ := hz.1
  replace q1 : 0 ≤ z.n 1 ∧ z.n 1 ≤ 3 := q1
  replace q2 : 0 ≤ z.n 2 ∧ z.n 2 ≤ 65535 := q2
  replace q3 : 0 ≤ z.n 3 ∧ z.n 3 ≤ 159 := q3
  replace q4 : 0 ≤ z.n 4 ∧ z.n 4 ≤ 15 := q4
  obtain ⟨r0, r1, r2, r3, r4, r5, r6, r7, r8, r9, r10, r11, r12, r13, r14, r15, r16, r17, r18, r19, r20, r21, r22, r23, r24, r25, v26, v27, v28, _⟩ := hz.2.1
  simp only [Int.toNat_natCast]
  simp only [decide_eq_true_eq, decide_eq_false_iff_not]
  refine ⟨fun h => ?_, fun h => ⟨by (repeat' (first | exact trivial | with_reducible rfl | exact decide_eq_true rfl | exact decide_eq_true trivial | exact sameB_self _ | with_reducible assumption | apply And.intro)) <;> (first | omega | done), ?_⟩⟩
  · unfold tileF
    rw [if_neg (by omega)]
    (repeat' (first | exact trivial | with_reducible rfl | exact decide_eq_true rfl | exact decide_eq_true trivial | exact sameB_self _ | with_reducible assumption | apply And.intro)) <;> (first | omega | done)
  · rintro y ⟨⟨hy, _⟩, hq⟩
    unfold tileF
    rw [if_pos (by omega)]
    (repeat' (first | exact trivial | with_reducible rfl | exact decide_eq_true rfl | exact decide_eq_true trivial | exact sameB_self _ | with_reducible assumption | apply And.intro)) <;> (first | omega | done)
theorem tabR_p (E : World) (z : PX)  :
    (hoPr true [mL, mS 2, rowB, rowB, rowB] [] (.c (.r .i64 0 63488)) (fun z y => y.n 90000 = 2048 * (z.n 2 / 256 % 32)) z (fnTree (pe E) (orcCR E) (tabL fns) 20000 Try.f41 [.c (.p 0 0)] (mkM z [] [mL, mS 2, rowB, rowB, rowB] 0))) =
    (((0 ≤ i64.wrap (2048 * i64.wrap (bits BinOp.and u16 ((z.n 2).fdiv 256) 31)) ∧ i64.wrap (2048 * i64.wrap (bits BinOp.and u16 ((z.n 2).fdiv 256) 31)) ≤ 63488) ∧ True) ∧ mkM z [] [mL, mS (2 : Nat), rowB, rowB, rowB] (0 : Nat) = mkM z [] [mL, mS (2 : Nat), rowB, rowB, rowB] (0 : Nat) ∧ i64.wrap (2048 * i64.wrap (bits BinOp.and u16 ((z.n 2).fdiv 256) 31)) = 2048 * (z.n 2 / (256 : Int) % 32)) := by kernel_rfl
theorem tabR_c (E : World)  (z : PX) (hz : rgM z [mL, mS 2, rowB, rowB, rowB] 0) (hp : (fun z => (ROk (z.l 2) (z.n 100026).toNat ∧ ROk (z.l 3) (z.n 100027).toNat)) z) : HR (pe E) 41 [.c (.p 0 0)] [mL, mS 2, rowB, rowB, rowB] [] (.c (.r .i64 0 63488)) (fun z y => y.n 90000 = 2048 * (z.n 2 / 256 % 32)) z := by
  refine HR.mk true (by rfl) (by rfl) (fnTree_sound (P := pe E) orcCR_ok tab_ok tab_sz mixed 20000 Try.func41 (by decide) [.c (.p 0 0)] _) ⟨?_⟩
  rw [tabR_p]
  obtain ⟨hK1, hK2⟩ := hp
  have hR1 : Row [.r .u8 0 255] (z.l 2) := hz.2.2.1.2
  have hR2 : Row [.r .u8 0 255] (z.l 3) := hz.2.2.2.1.2
  have hR3 : Row [.r .u8 0 255] (z.l 4) := hz.2.2.2.2.1.2
  have hF : flat [Sp.r .u8 0 255] = true := rfl
  obtain ⟨q1, q2, q3, q4, _⟩ := hz.1
  replace q1 : 0 ≤ z.n 1 ∧ z.n 1 ≤ 3 := q1
  replace q2 : 0 ≤ z.n 2 ∧ z.n 2 ≤ 65535 := q2
  replace q3 : 0 ≤ z.n 3 ∧ z.n 3 ≤ 159 := q3
  replace q4 : 0 ≤ z.n 4 ∧ z.n 4 ≤ 15 := q4
  obtain ⟨r0, r1, r2, r3, r4, r5, r6, r7, r8, r9, r10, r11, r12, r13, r14, r15, r16, r17, r18, r19, r20, r21, r22, r23, r24, r25, v26, v27, v28, _⟩ := hz.2.1
  simp only [Int.toNat_natCast]
  rw [tbE _ q2]
  (repeat' (first | exact trivial | with_reducible rfl | exact decide_eq_true rfl | exact decide_eq_true trivial | exact sameB_self _ | with_reducible assumption | apply And.intro)) <;> (first | omega | done)
theorem tlsR_p (E : World) (z : PX)  :
    (hoPr true [mL, mS 2, rowB, rowB, rowB] [] (.c (.r .i64 0 49152)) (fun z y => y.n 90000 = 16384 * (z.n 2 / 4 % 4)) z (fnTree (pe E) (orcCR E) (tabL fns) 20000 Try.f43 [.c (.p 0 0)] (mkM z [] [mL, mS 2, rowB, rowB, rowB] 0))) =
    (((0 ≤ i64.wrap (16384 * i64.wrap (bits BinOp.and u16 ((z.n 2).fdiv 4) 3)) ∧ i64.wrap (16384 * i64.wrap (bits BinOp.and u16 ((z.n 2).fdiv 4) 3)) ≤ 49152) ∧ True) ∧ mkM z [] [mL, mS (2 : Nat), rowB, rowB, rowB] (0 : Nat) = mkM z [] [mL, mS (2 : Nat), rowB, rowB, rowB] (0 : Nat) ∧ i64.wrap (16384 * i64.wrap (bits BinOp.and u16 ((z.n 2).fdiv 4) 3)) = 16384 * (z.n 2 / (4 : Int) % 4)) := by kernel_rfl
theorem tlsR_c (E : World)  (z : PX) (hz : rgM z [mL, mS 2, rowB, rowB, rowB] 0) (hp : (fun z => (ROk (z.l 2) (z.n 100026).toNat ∧ ROk (z.l 3) (z.n 100027).toNat)) z) : HR (pe E) 43 [.c (.p 0 0)] [mL, mS 2, rowB, rowB, rowB] [] (.c (.r .i64 0 49152)) (fun z y => y.n 90000 = 16384 * (z.n 2 / 4 % 4)) z := by
  refine HR.mk true (by rfl) (by rfl) (fnTree_sound (P := pe E) orcCR_ok tab_ok tab_sz mixed 20000 Try.func43 (by decide) [.c (.p 0 0)] _) ⟨?_⟩
  rw [tlsR_p]
  obtain ⟨hK1, hK2⟩ := hp
  have hR1 : Row [.r .u8 0 255] (z.l 2) := hz.2.2.1.2
  have hR2 : Row [.r .u8 0 255] (z.l 3) := hz.2.2.2.1.2
  have hR3 : Row [.r .u8 0 255] (z.l 4) := hz.2.2.2.2.1.2
  have hF : flat [Sp.r .u8 0 255] = true := rfl
  obtain ⟨q1, q2, q3, q4, _⟩ := hz.1
  replace q1 : 0 ≤ z.n 1 ∧ z.n 1 ≤ 3 := q1
  replace q2 : 0 ≤ z.n 2 ∧ z.n 2 ≤ 65535 := q2
  replace q3 : 0 ≤ z.n 3 ∧ z.n 3 ≤ 159 := q3
  replace q4 : 0 ≤ z.n 4 ∧ z.n 4 ≤ 15 := q4
  obtain ⟨r0, r1, r2, r3, r4, r5, r6, r7, r8, r9, r10, r11, r12, r13, r14, r15, r16, r17, r18, r19, r20, r21, r22, r23, r24, r25, v26, v27, v28, _⟩ := hz.2.1
  simp only [Int.toNat_natCast]
  rw [tlE _ q2]
  (repeat' (first | exact trivial | with_reducible rfl | exact decide_eq_true rfl | exact decide_eq_true trivial | exact sameB_self _ | with_reducible assumption | apply And.intro)) <;> (first | omega | done)
theorem bmpR_p (E : World) (z : PX)  :
    (hoPr true [mL, mS 2, rowB, rowB, rowB] [] (.c (.r .i64 0 40960)) (fun z y => y.n 90000 = othF (z.n 100000)) z (fnTree (pe E) (orcCR E) (tabL fns) 20000 Try.f40 [.c (.p 0 0)] (mkM z [] [mL, mS 2, rowB, rowB, rowB] 0))) =
    (((bits BinOp.and u16 (z.n 100000) (16 : Int) != 0) = true → (((0 : Int) ≤ (40960 : Int) ∧ (40960 : Int) ≤ 40960) ∧ True) ∧ mkM z [] [mL, mS (2 : Nat), rowB, rowB, rowB] (0 : Nat) = mkM z [] [mL, mS (2 : Nat), rowB, rowB, rowB] (0 : Nat) ∧ 40960 = othF (z.n 100000)) ∧ ((bits BinOp.and u16 (z.n 100000) (16 : Int) != 0) = false → (((0 : Int) ≤ (0 : Int) ∧ (0 : Int) ≤ 40960) ∧ True) ∧ mkM z [] [mL, mS (2 : Nat), rowB, rowB, rowB] (0 : Nat) = mkM z [] [mL, mS (2 : Nat), rowB, rowB, rowB] (0 : Nat) ∧ 0 = othF (z.n 100000))) := by kernel_rfl
theorem bmpR_c (E : World)  (z : PX) (hz : rgM z [mL, mS 2, rowB, rowB, rowB] 0) (hp : (fun z => (ROk (z.l 2) (z.n 100026).toNat ∧ ROk (z.l 3) (z.n 100027).toNat)) z) : HR (pe E) 40 [.c (.p 0 0)] [mL, mS 2, rowB, rowB, rowB] [] (.c (.r .i64 0 40960)) (fun z y => y.n 90000 = othF (z.n 100000)) z := by
  refine HR.mk true (by rfl) (by rfl) (fnTree_sound (P := pe E) orcCR_ok tab_ok tab_sz mixed 20000 Try.func40 (by decide) [.c (.p 0 0)] _) ⟨?_⟩
  rw [bmpR_p]
  obtain ⟨hK1, hK2⟩ := hp
  have hR1 : Row [.r .u8 0 255] (z.l 2) := hz.2.2.1.2
  have hR2 : Row [.r .u8 0 255] (z.l 3) := hz.2.2.2.1.2
  have hR3 : Row [.r .u8 0 255] (z.l 4) := hz.2.2.2.2.1.2
  have hF : flat [Sp.r .u8 0 255] = true := rfl
  obtain ⟨q1, q2, q3, q4, _⟩ := hz.1
  replace q1 : 0 ≤ z.n 1 ∧ z.n 1 ≤ 3 := q1
  replace q2 : 0 ≤ z.n 2 ∧ z.n 2 ≤ 65535 := q2
  replace q3 : 0 ≤ z.n 3 ∧ z.n 3 ≤ 159 := q3
  replace q4 : 0 ≤ z.n 4 ∧ z.n 4 ≤ 15 := q4
  obtain ⟨r0, r1, r2, r3, r4, r5, r6, r7, r8, r9, r10, r11, r12, r13, r14, r15, r16, r17, r18, r19, r20, r21, r22, r23, r24, r25, v26, v27, v28, _⟩ := hz.2.1
  simp only [Int.toNat_natCast]
  rw [ab16 _ r0]
  unfold othF
  simp only [decide_eq_true_eq, decide_eq_false_iff_not]
  refine ⟨fun h => ?_, fun h => ?_⟩
  · rw [if_pos h]
    (repeat' (first | exact trivial | with_reducible rfl | exact decide_eq_true rfl | exact decide_eq_true trivial | exact sameB_self _ | with_reducible assumption | apply And.intro)) <;> (first | omega | done)
  · rw [if_neg h]
    (repeat' (first | exact trivial | with_reducible rfl | exact decide_eq_true rfl | exact decide_eq_true trivial | exact sameB_self _ | with_reducible assumption | apply And.intro)) <;> (first | omega | done)
noncomputable def orcVR (E : World) : Orc := fun g vs s => match g with
  | 38 => (match frGo [mL, mS 2, rowB, rowB, rowB] vs s (fun vs0 π s1 s0 => match vs0 with
      | [.c (.p 0 0), .c (.i l2 .i64 n)] => some (hrG (pre := fun z => (ROk (z.l 2) (z.n 100026).toNat ∧ ROk (z.l 3) (z.n 100027).toNat) ∧ 0 ≤ n ∧ n ≤ 255) (fun z hz hp => HR.args (vs := [.c (.p 0 0), .c (.i l2 .i64 n)]) (by simp [simL, SV.sim, C.sim]) (visR_c E n z hz hp)) (by rfl) π s1 s0)
      | _ => none) with
    | some t => some t
    | none => (orcCR E) g vs s)
  | 42 => (match frGo [mL, mS 2, rowB, rowB, rowB] vs s (fun vs0 π s1 s0 => match vs0 with
      | [.c (.p 0 0), .c (.i l2 .i64 n)] => some (hrG (pre := fun z => (ROk (z.l 2) (z.n 100026).toNat ∧ ROk (z.l 3) (z.n 100027).toNat) ∧ 0 ≤ n ∧ n ≤ 1000000) (fun z hz hp => HR.args (vs := [.c (.p 0 0), .c (.i l2 .i64 n)]) (by simp [simL, SV.sim, C.sim]) (tileR_c E n z hz hp)) (by rfl) π s1 s0)
      | _ => none) with
    | some t => some t
    | none => (orcCR E) g vs s)
  | 41 => (match frGo [mL, mS 2, rowB, rowB, rowB] vs s (fun vs0 π s1 s0 => match vs0 with
      | [.c (.p 0 0)] => some (hrG (pre := fun z => (ROk (z.l 2) (z.n 100026).toNat ∧ ROk (z.l 3) (z.n 100027).toNat)) (fun z hz hp => HR.args (vs := [.c (.p 0 0)]) (by simp [simL, SV.sim, C.sim]) (tabR_c E  z hz hp)) (by rfl) π s1 s0)
      | _ => none) with
    | some t => some t
    | none => (orcCR E) g vs s)
  | 43 => (match frGo [mL, mS 2, rowB, rowB, rowB] vs s (fun vs0 π s1 s0 => match vs0 with
      | [.c (.p 0 0)] => some (hrG (pre := fun z => (ROk (z.l 2) (z.n 100026).toNat ∧ ROk (z.l 3) (z.n 100027).toNat)) (fun z hz hp => HR.args (vs := [.c (.p 0 0)]) (by simp [simL, SV.sim, C.sim]) (tlsR_c E  z hz hp)) (by rfl) π s1 s0)
      | _ => none) with
    | some t => some t
    | none => (orcCR E) g vs s)
  | 40 => (match frGo [mL, mS 2, rowB, rowB, rowB] vs s (fun vs0 π s1 s0 => match vs0 with
      | [.c (.p 0 0)] => some (hrG (pre := fun z => (ROk (z.l 2) (z.n 100026).toNat ∧ ROk (z.l 3) (z.n 100027).toNat)) (fun z hz hp => HR.args (vs := [.c (.p 0 0)]) (by simp [simL, SV.sim, C.sim]) (bmpR_c E  z hz hp)) (by rfl) π s1 s0)
      | _ => none) with
    | some t => some t
    | none => (orcCR E) g vs s)
  | g => (orcCR E) g vs s
theorem orcVR_ok {E : World} : OrcOK (pe E) (orcVR E) := by
  intro g vs s t h
  unfold orcVR at h
  split at h
  · split at h
    · rename_i hfr; cases h
      obtain ⟨π, s1, hq, hK, hv, hok, hpd⟩ := frGo_spec (P := pe E) hfr
      split at hK
      · rename_i heq; cases hK
        rw [heq] at hv hok
        exact hpd _ _ (hrG_ok _ _ (by rfl) π s1 hq hv hok)
      · cases hK
    · exact orcCR_ok _ _ _ _ h
  · split at h
    · rename_i hfr; cases h
      obtain ⟨π, s1, hq, hK, hv, hok, hpd⟩ := frGo_spec (P := pe E) hfr
      split at hK
      · rename_i heq; cases hK
        rw [heq] at hv hok
        exact hpd _ _ (hrG_ok _ _ (by rfl) π s1 hq hv hok)
      · cases hK
    · exact orcCR_ok _ _ _ _ h
  · split at h
    · rename_i hfr; cases h
      obtain ⟨π, s1, hq, hK, hv, hok, hpd⟩ := frGo_spec (P := pe E) hfr
      split at hK
      · rename_i heq; cases hK
        rw [heq] at hv hok
        exact hpd _ _ (hrG_ok _ _ (by rfl) π s1 hq hv hok)
      · cases hK
    · exact orcCR_ok _ _ _ _ h
  · split at h
    · rename_i hfr; cases h
      obtain ⟨π, s1, hq, hK, hv, hok, hpd⟩ := frGo_spec (P := pe E) hfr
      split at hK
      · rename_i heq; cases hK
        rw [heq] at hv hok
        exact hpd _ _ (hrG_ok _ _ (by rfl) π s1 hq hv hok)
      · cases hK
    · exact orcCR_ok _ _ _ _ h
  · split at h
    · rename_i hfr; cases h
      obtain ⟨π, s1, hq, hK, hv, hok, hpd⟩ := frGo_spec (P := pe E) hfr
      split at hK
      · rename_i heq; cases hK
        rw [heq] at hv hok
        exact hpd _ _ (hrG_ok _ _ (by rfl) π s1 hq hv hok)
      · cases hK
    · exact orcCR_ok _ _ _ _ h
  · exact orcCR_ok _ _ _ _ h
end Go.Proofs.Ytdomhmajoclpeaa

