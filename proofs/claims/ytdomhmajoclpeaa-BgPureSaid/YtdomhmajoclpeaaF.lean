import Derived.Test.YtdomhmajoclpeaaD
set_option linter.unusedVariables false
set_option linter.unusedSimpArgs false
namespace Go.Proofs.Ytdomhmajoclpeaa
open Go Go.Proofs Go.Proofs.Ytdomhmajoclpeaa.Ev Go.Proofs.Ytdomhmajoclpeaa.Ev.Ho Go.IntKind
set_option maxRecDepth 100000
theorem tdotR_p (E : World) (z : PX) (e x w : Int) :
    (hoPr true [mL, mS 2, rowB, rowB, rowB] [] (.c (.r .u16 0 32768)) (fun z y => y.n 90000 = tdotF (scM z 100000 (bR (z.l 2) (z.n 100026).toNat) (z.n 100026).toNat (bR (z.l 3) (z.n 100027).toNat) (z.n 100027).toNat) (z.n 2) e x w) z (fnTree (pe E) (orcVR E) (tabL fns) 20000 Try.f44 [.c (.p 0 0), .c (.i false .u16 e), .c (.i false .i64 x), .c (.i false .i64 w)] (mkM z [] [mL, mS 2, rowB, rowB, rowB] 0))) =
    (((bits BinOp.and u16 (z.n 2) (128 : Int) != 0) = true → ((59 = 59 ∧ ((0 ≤ z.n 1 ∧ z.n 1 ≤ 3) ∧ (0 ≤ z.n 2 ∧ z.n 2 ≤ 65535) ∧ (0 ≤ z.n 3 ∧ z.n 3 ≤ 159) ∧ (0 ≤ z.n 4 ∧ z.n 4 ≤ 15) ∧ True) ∧ 31 = 31 ∧ (rgS z 100000 (True)) ∧ rw3 z 2 (([] : SW) = [])) ∧ ROk (z.l 2) (↑(z.n 100026).toNat : Int).toNat ∧ ROk (z.l 3) (↑(z.n 100027).toNat : Int).toNat) ∧ ∀ (y : PX), ((0 ≤ y.n 90000 ∧ y.n 90000 ≤ 49152) ∧ True) ∧ y.n 90000 = 16384 * (z.n 2 / (4 : Int) % 4) → ((59 = 59 ∧ ((0 ≤ z.n 1 ∧ z.n 1 ≤ 3) ∧ (0 ≤ z.n 2 ∧ z.n 2 ≤ 65535) ∧ (0 ≤ z.n 3 ∧ z.n 3 ≤ 159) ∧ (0 ≤ z.n 4 ∧ z.n 4 ≤ 15) ∧ True) ∧ 31 = 31 ∧ (rgS z 100000 (True)) ∧ rw3 z 2 (([] : SW) = [])) ∧ (ROk (z.l 2) (↑(z.n 100026).toNat : Int).toNat ∧ ROk (z.l 3) (↑(z.n 100027).toNat : Int).toNat) ∧ 0 ≤ i64.wrap (i64.wrap (i64.wrap (y.n 90000 + i64.wrap (64 * i64.wrap (bits BinOp.and u16 e 1023))) + i64.wrap (8 * bif bits BinOp.and u16 (e.fdiv 2048) (1 : Int) != 0 then i64.wrap (7 - w) else w)) + bif bits BinOp.and u16 (e.fdiv 1024) (1 : Int) != 0 then i64.wrap (7 - x) else x) ∧ i64.wrap (i64.wrap (i64.wrap (y.n 90000 + i64.wrap (64 * i64.wrap (bits BinOp.and u16 e 1023))) + i64.wrap (8 * bif bits BinOp.and u16 (e.fdiv 2048) (1 : Int) != 0 then i64.wrap (7 - w) else w)) + bif bits BinOp.and u16 (e.fdiv 1024) (1 : Int) != 0 then i64.wrap (7 - x) else x) ≤ 1000000) ∧ ∀ (y_1 : PX), ((0 ≤ y_1.n 90000 ∧ y_1.n 90000 ≤ 255) ∧ True) ∧ y_1.n 90000 = tileF (scM z 100000 (bR (z.l 2) (↑(z.n 100026).toNat : Int).toNat) (↑(z.n 100026).toNat : Int).toNat (bR (z.l 3) (↑(z.n 100027).toNat : Int).toNat) (↑(z.n 100027).toNat : Int).toNat) (i64.wrap (i64.wrap (i64.wrap (y.n 90000 + i64.wrap (64 * i64.wrap (bits BinOp.and u16 e 1023))) + i64.wrap (8 * bif bits BinOp.and u16 (e.fdiv 2048) (1 : Int) != 0 then i64.wrap (7 - w) else w)) + bif bits BinOp.and u16 (e.fdiv 1024) (1 : Int) != 0 then i64.wrap (7 - x) else x)) → ((59 = 59 ∧ ((0 ≤ z.n 1 ∧ z.n 1 ≤ 3) ∧ (0 ≤ z.n 2 ∧ z.n 2 ≤ 65535) ∧ (0 ≤ z.n 3 ∧ z.n 3 ≤ 159) ∧ (0 ≤ z.n 4 ∧ z.n 4 ≤ 15) ∧ True)
      ∧ 31 = 31 ∧ (rgS z 100000 (True)) ∧ rw3 z 2 (([] : SW) = [])) ∧ (ROk (z.l 2) (↑(z.n 100026).toNat : Int).toNat ∧ ROk (z.l 3) (↑(z.n 100027).toNat : Int).toNat) ∧ 0 ≤ i64.wrap (y_1.n 90000) ∧ i64.wrap (y_1.n 90000) ≤ 255) ∧ ∀ (y : PX), ((0 ≤ y.n 90000 ∧ y.n 90000 ≤ 32768) ∧ True) ∧ y.n 90000 = visF (scM z 100000 (bR (z.l 2) (↑(z.n 100026).toNat : Int).toNat) (↑(z.n 100026).toNat : Int).toNat (bR (z.l 3) (↑(z.n 100027).toNat : Int).toNat) (↑(z.n 100027).toNat : Int).toNat) (i64.wrap (y_1.n 90000)) → ((0 ≤ y.n 90000 ∧ y.n 90000 ≤ 32768) ∧ True) ∧ mkM z [] [mL, mS (2 : Nat), rowB, rowB, rowB] (0 : Nat) = mkM z [] [mL, mS (2 : Nat), rowB, rowB, rowB] (0 : Nat) ∧ y.n 90000 = tdotF (scM z 100000 (bR (z.l 2) (z.n 100026).toNat) (z.n 100026).toNat (bR (z.l 3) (z.n 100027).toNat) (z.n 100027).toNat) (z.n 2) e x w) ∧ ((bits BinOp.and u16 (z.n 2) (128 : Int) != 0) = false → ((59 = 59 ∧ ((0 ≤ z.n 1 ∧ z.n 1 ≤ 3) ∧ (0 ≤ z.n 2 ∧ z.n 2 ≤ 65535) ∧ (0 ≤ z.n 3 ∧ z.n 3 ≤ 159) ∧ (0 ≤ z.n 4 ∧ z.n 4 ≤ 15) ∧ True) ∧ 31 = 31 ∧ (rgS z 100000 (True)) ∧ rw3 z 2 (([] : SW) = [])) ∧ ROk (z.l 2) (↑(z.n 100026).toNat : Int).toNat ∧ ROk (z.l 3) (↑(z.n 100027).toNat : Int).toNat) ∧ ∀ (y : PX), ((0 ≤ y.n 90000 ∧ y.n 90000 ≤ 49152) ∧ True) ∧ y.n 90000 = 16384 * (z.n 2 / (4 : Int) % 4) → ((59 = 59 ∧ ((0 ≤ z.n 1 ∧ z.n 1 ≤ 3) ∧ (0 ≤ z.n 2 ∧ z.n 2 ≤ 65535) ∧ (0 ≤ z.n 3 ∧ z.n 3 ≤ 159) ∧ (0 ≤ z.n 4 ∧ z.n 4 ≤ 15) ∧ True) ∧ 31 = 31 ∧ (rgS z 100000 (True)) ∧ rw3 z 2 (([] : SW) = [])) ∧ (ROk (z.l 2) (↑(z.n 100026).toNat : Int).toNat ∧ ROk (z.l 3) (↑(z.n 100027).toNat : Int).toNat) ∧ 0 ≤ i64.wrap (i64.wrap (i64.wrap (y.n 90000 + i64.wrap (32 * i64.wrap (bits BinOp.and u16 e 1023))) + i64.wrap (4 * bif bits BinOp.and u16 (e.fdiv 2048) (1 : Int) != 0 then i64.wrap (7 - w) else w)) + i64.wrap ((bif bits BinOp.and u16 (e.fdiv 1024) (1 : Int) != 0 then i64.wrap (7 - x) else x).tdiv 2)) ∧ i64.wrap (i64.wrap (i64.wrap (y.n 90000 + i64.wrap (32 * i64.wrap (bits BinOp.and u16 e 1023))) + i64.wrap (4 * bif bits
      BinOp.and u16 (e.fdiv 2048) (1 : Int) != 0 then i64.wrap (7 - w) else w)) + i64.wrap ((bif bits BinOp.and u16 (e.fdiv 1024) (1 : Int) != 0 then i64.wrap (7 - x) else x).tdiv 2)) ≤ 1000000) ∧ ∀ (y_1 : PX), ((0 ≤ y_1.n 90000 ∧ y_1.n 90000 ≤ 255) ∧ True) ∧ y_1.n 90000 = tileF (scM z 100000 (bR (z.l 2) (↑(z.n 100026).toNat : Int).toNat) (↑(z.n 100026).toNat : Int).toNat (bR (z.l 3) (↑(z.n 100027).toNat : Int).toNat) (↑(z.n 100027).toNat : Int).toNat) (i64.wrap (i64.wrap (i64.wrap (y.n 90000 + i64.wrap (32 * i64.wrap (bits BinOp.and u16 e 1023))) + i64.wrap (4 * bif bits BinOp.and u16 (e.fdiv 2048) (1 : Int) != 0 then i64.wrap (7 - w) else w)) + i64.wrap ((bif bits BinOp.and u16 (e.fdiv 1024) (1 : Int) != 0 then i64.wrap (7 - x) else x).tdiv 2))) → decide (0 ≤ i64.wrap (4 * (bif bits BinOp.and u16 (e.fdiv 1024) (1 : Int) != 0 then i64.wrap (7 - x) else x).tmod 2)) = true ∧ ((i64.wrap (bits BinOp.and u8 ((y_1.n 90000).fdiv (2 ^ min (i64.wrap (4 * (bif bits BinOp.and u16 (e.fdiv 1024) (1 : Int) != 0 then i64.wrap (7 - x) else x).tmod 2)).toNat (8 : Nat))) 15) == 0) = true → (((0 : Int) ≤ (32768 : Int) ∧ (32768 : Int) ≤ 32768) ∧ True) ∧ mkM z [] [mL, mS (2 : Nat), rowB, rowB, rowB] (0 : Nat) = mkM z [] [mL, mS (2 : Nat), rowB, rowB, rowB] (0 : Nat) ∧ 32768 = tdotF (scM z 100000 (bR (z.l 2) (z.n 100026).toNat) (z.n 100026).toNat (bR (z.l 3) (z.n 100027).toNat) (z.n 100027).toNat) (z.n 2) e x w) ∧ ((i64.wrap (bits BinOp.and u8 ((y_1.n 90000).fdiv (2 ^ min (i64.wrap (4 * (bif bits BinOp.and u16 (e.fdiv 1024) (1 : Int) != 0 then i64.wrap (7 - x) else x).tmod 2)).toNat (8 : Nat))) 15) == 0) = false → ((31 = 31 ∧ (rgS z 100000 (True)) ∧ rw3 z 2 (([] : SW) = [])) ∧ (ROk (z.l 2) (↑(z.n 100026).toNat : Int).toNat ∧ ROk (z.l 3) (↑(z.n 100027).toNat : Int).toNat) ∧ 0 ≤ i64.wrap (i64.wrap (bits BinOp.and u8 ((y_1.n 90000).fdiv (2 ^ min (i64.wrap (4 * (bif bits BinOp.and u16 (e.fdiv 1024) (1 : Int) != 0 then i64.wrap (7 - x) else x).tmod 2)).toNat (8 : Nat))) 15) + i64.wrap (16 *
      i64.wrap (e.fdiv 4096))) ∧ i64.wrap (i64.wrap (bits BinOp.and u8 ((y_1.n 90000).fdiv (2 ^ min (i64.wrap (4 * (bif bits BinOp.and u16 (e.fdiv 1024) (1 : Int) != 0 then i64.wrap (7 - x) else x).tmod 2)).toNat (8 : Nat))) 15) + i64.wrap (16 * i64.wrap (e.fdiv 4096))) ≤ 1000000) ∧ ∀ (y : PX), ((0 ≤ y.n 90000 ∧ y.n 90000 ≤ 32767) ∧ True) ∧ y.n 90000 = colF (bR (z.l 3) (↑(z.n 100027).toNat : Int).toNat) (↑(z.n 100027).toNat : Int).toNat (i64.wrap (i64.wrap (bits BinOp.and u8 ((y_1.n 90000).fdiv (2 ^ min (i64.wrap (4 * (bif bits BinOp.and u16 (e.fdiv 1024) (1 : Int) != 0 then i64.wrap (7 - x) else x).tmod 2)).toNat (8 : Nat))) 15) + i64.wrap (16 * i64.wrap (e.fdiv 4096)))) → ((0 ≤ y.n 90000 ∧ y.n 90000 ≤ 32768) ∧ True) ∧ mkM z [] [mL, mS (2 : Nat), rowB, rowB, rowB] (0 : Nat) = mkM z [] [mL, mS (2 : Nat), rowB, rowB, rowB] (0 : Nat) ∧ y.n 90000 = tdotF (scM z 100000 (bR (z.l 2) (z.n 100026).toNat) (z.n 100026).toNat (bR (z.l 3) (z.n 100027).toNat) (z.n 100027).toNat) (z.n 2) e x w))) := by kernel_rfl
theorem tdotR_c (E : World) (e x w : Int) (z : PX) (hz : rgM z [mL, mS 2, rowB, rowB, rowB] 0) (hp : (fun z => (ROk (z.l 2) (z.n 100026).toNat ∧ ROk (z.l 3) (z.n 100027).toNat) ∧ (0 ≤ e ∧ e ≤ 65535) ∧ (0 ≤ x ∧ x ≤ 7) ∧ 0 ≤ w ∧ w ≤ 7) z) : HR (pe E) 44 [.c (.p 0 0), .c (.i false .u16 e), .c (.i false .i64 x), .c (.i false .i64 w)] [mL, mS 2, rowB, rowB, rowB] [] (.c (.r .u16 0 32768)) (fun z y => y.n 90000 = tdotF (scM z 100000 (bR (z.l 2) (z.n 100026).toNat) (z.n 100026).toNat (bR (z.l 3) (z.n 100027).toNat) (z.n 100027).toNat) (z.n 2) e x w) z := by
  refine HR.mk true (by rfl) (by rfl) (fnTree_sound (P := pe E) orcVR_ok tab_ok tab_sz mixed 20000 Try.func44 (by decide) [.c (.p 0 0), .c (.i false .u16 e), .c (.i false .i64 x), .c (.i false .i64 w)] _) ⟨?_⟩
  rw [tdotR_p]
  obtain ⟨⟨hK1, hK2⟩, he, hx, hw⟩ := hp
  have hR1 : Row [.r .u8 0 255] (z.l 2) := hz.2.2.1.2
  have hR2 : Row [.r .u8 0 255] (z.l 3) := hz.2.2.2.1.2
  have hR3 : Row [.r .u8 0 255] (z.l 4) := hz.2.2.2.2.1.2
  have hF : flat [Sp.r .u8 0 255] = true := rfl
  obtain ⟨q1, q2, q3, q4, _⟩ := hz.1
  replace q1 : 0 ≤ z.n 1 ∧ z.n 1 ≤ 3 := q1
  replace q2 : 0 ≤ z.n 2 ∧ z.n 2 ≤ 65535 := q2
  replace q3 : 0 ≤ z.n 3 ∧ z.n 3 ≤ 159 := q3
  replace q4 : 0 ≤ z.n 4 ∧ z.n 4 ≤ 15 := q4
  obtain ⟨r0, r1, r2, r3, r4, r5, r6, r7, r8, r9, r10, r11, r12, r13, r14, r15, r16, r17, r18, r19, r20, r21, r22, r23, r24, r25, v26, v27, v28, _⟩ := hz.2.1
  simp only [Int.toNat_natCast]
  rw [ab128 _ q2]
  unfold tdotF
  simp only [flipK e x 1024 (by decide) hx, flipK e w 2048 (by decide) hw]
  have hX : 0 ≤ (if e / 1024 % 2 = 1 then 7 - x else x) ∧ (if e / 1024 % 2 = 1 then 7 - x else x) ≤ 7 := by split <;> omega
  have hW : 0 ≤ (if e / 2048 % 2 = 1 then 7 - w else w) ∧ (if e / 2048 % 2 = 1 then 7 - w else w) ≤ 7 := by split <;> omega
  generalize (if e / 1024 % 2 = 1 then 7 - x else x) = X at *
  generalize (if e / 2048 % 2 = 1 then 7 - w else w) = W at *
  rw [a1023, fd e 4096 (by decide), wi64_in (e % 1024) (by omega) (by omega), wi64_in (e / 4096) (by omega) (by omega), wi64_in (64 * (e % 1024)) (by omega) (by omega), wi64_in (32 * (e % 1024)) (by omega) (by omega), wi64_in (16 * (e / 4096)) (by omega) (by omega), wi64_in (8 * W) (by omega) (by omega), wi64_in (4 * W) (by omega) (by omega), Int.tdiv_eq_ediv_of_nonneg hX.1, wi64_in (X / 2) (by omega) (by omega)]
  simp only [decide_eq_true_eq, decide_eq_false_iff_not]
  refine ⟨fun h => ⟨by (repeat' (first | exact trivial | with_reducible rfl | exact decide_eq_true rfl | exact decide_eq_true trivial | exact sameB_self _ | with_reducible assumption | apply And.intro)) <;> (first | omega | done), ?_⟩, fun h => ⟨by (repeat' (first | exact trivial | with_reducible rfl | exact decide_eq_true rfl | exact decide_eq_true trivial | exact sameB_self _ | with_reducible assumption | apply And.intro)) <;> (first | omega | done), ?_⟩⟩
  · rintro y ⟨⟨hy, _⟩, hq⟩
    rw [wi64_in (y.n 90000 + 64 * (e % 1024)) (by omega) (by omega), wi64_in (y.n 90000 + 64 * (e % 1024) + 8 * W) (by omega) (by omega), wi64_in (y.n 90000 + 64 * (e % 1024) + 8 * W + X) (by omega) (by omega)]
    refine ⟨by (repeat' (first | exact trivial | with_reducible rfl | exact decide_eq_true rfl | exact decide_eq_true trivial | exact sameB_self _ | with_reducible assumption | apply And.intro)) <;> (first | omega | done), ?_⟩
    rintro y1 ⟨⟨hy1, _⟩, hq1⟩
    rw [if_pos h, ← hq, ← hq1]
    rw [wi64_in (y1.n 90000) (by omega) (by omega)]
    refine ⟨by (repeat' (first | exact trivial | with_reducible rfl | exact decide_eq_true rfl | exact decide_eq_true trivial | exact sameB_self _ | with_reducible assumption | apply And.intro)) <;> (first | omega | done), ?_⟩
    rintro y2 ⟨⟨hy2, _⟩, hq2⟩
    (repeat' (first | exact trivial | with_reducible rfl | exact decide_eq_true rfl | exact decide_eq_true trivial | exact sameB_self _ | with_reducible assumption | apply And.intro)) <;> (first | omega | done)
  · rintro y ⟨⟨hy, _⟩, hq⟩
    rw [wi64_in (y.n 90000 + 32 * (e % 1024)) (by omega) (by omega), wi64_in (y.n 90000 + 32 * (e % 1024) + 4 * W) (by omega) (by omega), wi64_in (y.n 90000 + 32 * (e % 1024) + 4 * W + X / 2) (by omega) (by omega)]
    refine ⟨by (repeat' (first | exact trivial | with_reducible rfl | exact decide_eq_true rfl | exact decide_eq_true trivial | exact sameB_self _ | with_reducible assumption | apply And.intro)) <;> (first | omega | done), ?_⟩
    rintro y1 ⟨⟨hy1, _⟩, hq1⟩
    rw [if_neg h, ← hq, ← hq1]
    rw [nib _ _ hy1 hX]
    have hN : 0 ≤ (if X % 2 = 1 then y1.n 90000 / 16 else y1.n 90000 % 16) ∧ (if X % 2 = 1 then y1.n 90000 / 16 else y1.n 90000 % 16) ≤ 15 := by split <;> omega
    generalize (if X % 2 = 1 then y1.n 90000 / 16 else y1.n 90000 % 16) = n at *
    rw [wi64_in (n + 16 * (e / 4096)) (by omega) (by omega)]
    refine ⟨by rw [Int.tmod_eq_emod_of_nonneg hX.1, wi64]; omega, fun h' => ?_, fun h' => ⟨by (repeat' (first | exact trivial | with_reducible rfl | exact decide_eq_true rfl | exact decide_eq_true trivial | exact sameB_self _ | with_reducible assumption | apply And.intro)) <;> (first | omega | done), ?_⟩⟩
    · have h' : n = 0 := by simpa using h'
      rw [if_pos h']
      (repeat' (first | exact trivial | with_reducible rfl | exact decide_eq_true rfl | exact decide_eq_true trivial | exact sameB_self _ | with_reducible assumption | apply And.intro)) <;> (first | omega | done)
    · have h' : n ≠ 0 := by simpa using h'
      rintro y2 ⟨⟨hy2, _⟩, hq2⟩
      rw [if_neg h']
      (repeat' (first | exact trivial | with_reducible rfl | exact decide_eq_true rfl | exact decide_eq_true trivial | exact sameB_self _ | with_reducible assumption | apply And.intro)) <;> (first | omega | done)
noncomputable def orcTR (E : World) : Orc := fun g vs s => match g with
  | 44 => (match frGo [mL, mS 2, rowB, rowB, rowB] vs s (fun vs0 π s1 s0 => match vs0 with
      | [.c (.p 0 0), .c (.i l2 .u16 e), .c (.i l3 .i64 x), .c (.i l4 .i64 w)] => some (hrG (pre := fun z => (ROk (z.l 2) (z.n 100026).toNat ∧ ROk (z.l 3) (z.n 100027).toNat) ∧ (0 ≤ e ∧ e ≤ 65535) ∧ (0 ≤ x ∧ x ≤ 7) ∧ 0 ≤ w ∧ w ≤ 7) (fun z hz hp => HR.args (vs := [.c (.p 0 0), .c (.i l2 .u16 e), .c (.i l3 .i64 x), .c (.i l4 .i64 w)]) (by simp [simL, SV.sim, C.sim]) (tdotR_c E e x w z hz hp)) (by rfl) π s1 s0)
      | _ => none) with
    | some t => some t
    | none => (orcVR E) g vs s)
  | g => (orcVR E) g vs s
theorem orcTR_ok {E : World} : OrcOK (pe E) (orcTR E) := by
  intro g vs s t h
  unfold orcTR at h
  split at h
  · split at h
    · rename_i hfr; cases h
      obtain ⟨π, s1, hq, hK, hv, hok, hpd⟩ := frGo_spec (P := pe E) hfr
      split at hK
      · rename_i heq; cases hK
        rw [heq] at hv hok
        exact hpd _ _ (hrG_ok _ _ (by rfl) π s1 hq hv hok)
      · cases hK
    · exact orcVR_ok _ _ _ _ h
  · exact orcVR_ok _ _ _ _ h
end Go.Proofs.Ytdomhmajoclpeaa

