import Derived.Test.YtdomhmajoclpeaaF
set_option linter.unusedVariables false
set_option linter.unusedSimpArgs false
namespace Go.Proofs.Ytdomhmajoclpeaa
open Go Go.Proofs Go.Proofs.Ytdomhmajoclpeaa.Ev Go.Proofs.Ytdomhmajoclpeaa.Ev.Ho Go.IntKind
set_option maxRecDepth 100000
theorem xE (x X0 : Int) (h0 : 0 ≤ x) (h1 : x ≤ 239) (hX : 0 ≤ X0 ∧ X0 ≤ 65535) : (IntKind.i64.wrap (x + IntKind.i64.wrap (bits BinOp.and IntKind.u16 X0 511))) = x + X0 % 512 := by
  rw [a511, wi64_in (X0 % 512) (by omega) (by omega), wi64_in _ (by omega) (by omega)]
theorem adr (x l c t X0 Y0 : Int) (h0 : 0 ≤ x) (h1 : x ≤ 239) (hl : 0 ≤ l ∧ l ≤ 159) (hc : 0 ≤ c ∧ c ≤ 65535) (hX : 0 ≤ X0 ∧ X0 ≤ 65535) (hY : 0 ≤ Y0 ∧ Y0 ≤ 65535) (ht : 0 ≤ t ∧ t ≤ 63488) :
    (IntKind.i64.wrap (IntKind.i64.wrap (t + IntKind.i64.wrap (2048 * bif bits BinOp.and IntKind.u16 c 32768 != 0 then IntKind.i64.wrap ((IntKind.i64.wrap ((IntKind.i64.wrap (x + IntKind.i64.wrap (bits BinOp.and IntKind.u16 X0 511))).tdiv 256)).tmod (bif bits BinOp.and IntKind.u16 c 16384 != 0 then 2 else 1) + IntKind.i64.wrap ((IntKind.i64.wrap ((IntKind.i64.wrap (l + IntKind.i64.wrap (bits BinOp.and IntKind.u16 Y0 511))).tdiv 256)).tmod 2 * (bif bits BinOp.and IntKind.u16 c 16384 != 0 then 2 else 1))) else (IntKind.i64.wrap ((IntKind.i64.wrap (x + IntKind.i64.wrap (bits BinOp.and IntKind.u16 X0 511))).tdiv 256)).tmod (bif bits BinOp.and IntKind.u16 c 16384 != 0 then 2 else 1))) + IntKind.i64.wrap (2 * IntKind.i64.wrap (IntKind.i64.wrap (IntKind.i64.wrap (((IntKind.i64.wrap (l + IntKind.i64.wrap (bits BinOp.and IntKind.u16 Y0 511))).tmod 256).tdiv 8) * 32) + IntKind.i64.wrap (((IntKind.i64.wrap (x + IntKind.i64.wrap (bits BinOp.and IntKind.u16 X0 511))).tmod 256).tdiv 8))))) = t + 2048 * ((x + X0 % 512) / 256 % (if c / 16384 % 2 = 1 then 2 else 1) + (if c / 32768 % 2 = 1 then (l + Y0 % 512) / 256 % 2 * (if c / 16384 % 2 = 1 then 2 else 1) else 0)) + 2 * ((l + Y0 % 512) % 256 / 8 * 32 + (x + X0 % 512) % 256 / 8) ∧
    0 ≤ (x + X0 % 512) / 256 % (if c / 16384 % 2 = 1 then 2 else 1) + (if c / 32768 % 2 = 1 then (l + Y0 % 512) / 256 % 2 * (if c / 16384 % 2 = 1 then 2 else 1) else 0) ∧ (x + X0 % 512) / 256 % (if c / 16384 % 2 = 1 then 2 else 1) + (if c / 32768 % 2 = 1 then (l + Y0 % 512) / 256 % 2 * (if c / 16384 % 2 = 1 then 2 else 1) else 0) ≤ 3 := by
  rw [xE x X0 h0 h1 hX, xE l Y0 hl.1 (by omega) hY, ab16384 _ hc, ab32768 _ hc]
  have hX' : 0 ≤ x + X0 % 512 ∧ x + X0 % 512 ≤ 1000 := by omega
  have hY' : 0 ≤ l + Y0 % 512 ∧ l + Y0 % 512 ≤ 1000 := by omega
  generalize x + X0 % 512 = X at *
  generalize l + Y0 % 512 = Y at *
  clear hX hY h0 h1 hl
  have e1 : X.tmod 256 = X % 256 := Int.tmod_eq_emod_of_nonneg hX'.1
  have e2 : Y.tmod 256 = Y % 256 := Int.tmod_eq_emod_of_nonneg hY'.1
  have e3 : (X % 256).tdiv 8 = X % 256 / 8 := Int.tdiv_eq_ediv_of_nonneg (by omega)
  have e4 : (Y % 256).tdiv 8 = Y % 256 / 8 := Int.tdiv_eq_ediv_of_nonneg (by omega)
  have e5 : X.tdiv 256 = X / 256 := Int.tdiv_eq_ediv_of_nonneg hX'.1
  have e6 : Y.tdiv 256 = Y / 256 := Int.tdiv_eq_ediv_of_nonneg hY'.1
  have a1 : 0 ≤ X / 256 ∧ X / 256 ≤ 3 := by omega
  have a2 : 0 ≤ Y / 256 ∧ Y / 256 ≤ 3 := by omega
  have a3 : 0 ≤ X % 256 / 8 ∧ X % 256 / 8 ≤ 31 := by omega
  have a4 : 0 ≤ Y % 256 / 8 ∧ Y % 256 / 8 ≤ 31 := by omega
  rw [e1, e2, e3, e4, e5, e6]
  generalize X / 256 = p at *
  generalize Y / 256 = q at *
  generalize X % 256 / 8 = r at *
  generalize Y % 256 / 8 = s at *
  clear e1 e2 e3 e4 e5 e6 hX' hY' hc
  rw [wi64_in p (by omega) (by omega), wi64_in q (by omega) (by omega), wi64_in r (by omega) (by omega), wi64_in s (by omega) (by omega), wi64_in (s * 32) (by omega) (by omega), wi64_in (s * 32 + r) (by omega) (by omega), wi64_in (2 * (s * 32 + r)) (by omega) (by omega), Int.tmod_eq_emod_of_nonneg (a := q) a2.1, Int.tmod_eq_emod_of_nonneg (a := p) a1.1]
  by_cases b1 : c / 16384 % 2 = 1 <;> by_cases b2 : c / 32768 % 2 = 1 <;> simp only [b1, b2, decide_true, decide_false, cond_true, cond_false, if_true, if_false, Int.emod_one]
  all_goals (simp (disch := omega) only [wi64_in]; exact ⟨by first | trivial | omega, by omega, by omega⟩)
theorem textR_p (E : World) (z : PX) (x : Int) :
    (hoPr true [mL, mS 2, rowB, rowB, rowB] [] (.c (.r .u16 0 32768)) (fun z y => y.n 90000 = textF (scM z 100000 (bR (z.l 2) (z.n 100026).toNat) (z.n 100026).toNat (bR (z.l 3) (z.n 100027).toNat) (z.n 100027).toNat) (z.n 1) (z.n 2) x (z.n 3)) z (fnTree (pe E) (orcTR E) (tabL fns) 20000 Try.f30 [.c (.p 0 0), .c (.i false .i64 x)] (mkM z [] [mL, mS 2, rowB, rowB, rowB] 0))) =
    (inB (z.n 1) (4 : Nat) = true ∧ inB (z.n 1) (4 : Nat) = true ∧ (!decide ((bif bits BinOp.and u16 (z.n 2) (16384 : Int) != 0 then (2 : Int) else 1) = 0)) = true ∧ ((59 = 59 ∧ ((0 ≤ z.n 1 ∧ z.n 1 ≤ 3) ∧ (0 ≤ z.n 2 ∧ z.n 2 ≤ 65535) ∧ (0 ≤ z.n 3 ∧ z.n 3 ≤ 159) ∧ (0 ≤ z.n 4 ∧ z.n 4 ≤ 15) ∧ True) ∧ 31 = 31 ∧ (rgS z 100000 (True)) ∧ rw3 z 2 (([] : SW) = [])) ∧ ROk (z.l 2) (↑(z.n 100026).toNat : Int).toNat ∧ ROk (z.l 3) (↑(z.n 100027).toNat : Int).toNat) ∧ ∀ (y : PX), ((0 ≤ y.n 90000 ∧ y.n 90000 ≤ 63488) ∧ True) ∧ y.n 90000 = 2048 * (z.n 2 / (256 : Int) % 32) → kpS z 100000 (decide ((z.n 100026).toNat = (z.n 100026).toNat) = true ∧ decide ((z.n 100027).toNat = (z.n 100027).toNat) = true ∧ decide ((z.n 100028).toNat = (z.n 100028).toNat) = true ∧ sameB (Bl.mk (z.l 2) (5 : Nat)) (Bl.mk (z.l 2) (5 : Nat)) = true ∧ sameB (Bl.mk (z.l 3) (5 : Nat)) (Bl.mk (z.l 3) (5 : Nat)) = true ∧ sameB (Bl.mk (z.l 4) (5 : Nat)) (Bl.mk (z.l 4) (5 : Nat)) = true ∧ ((5 = 5 ∧ (flat [Sp.r u8 0 255] = true ∧ Row [Sp.r u8 0 255] (z.l 2)) ∧ ([] : SW) = []) ∧ ROk (z.l 2) (z.n 100026).toNat ∧ (-1000000000) ≤ i64.wrap (i64.wrap (y.n 90000 + i64.wrap (2048 * bif bits BinOp.and u16 (z.n 2) (32768 : Int) != 0 then i64.wrap ((i64.wrap ((i64.wrap (x + i64.wrap (bits BinOp.and u16 (selI [z.n 100005, z.n 100006, z.n 100007, z.n 100008] (z.n 1)) 511))).tdiv 256)).tmod (bif bits BinOp.and u16 (z.n 2) (16384 : Int) != 0 then (2 : Int) else 1) + i64.wrap ((i64.wrap ((i64.wrap (z.n 3 + i64.wrap (bits BinOp.and u16 (selI [z.n 100009, z.n 100010, z.n 100011, z.n 100012] (z.n 1)) 511))).tdiv 256)).tmod 2 * bif bits BinOp.and u16 (z.n 2) (16384 : Int) != 0 then (2 : Int) else 1)) else (i64.wrap ((i64.wrap (x + i64.wrap (bits BinOp.and u16 (selI [z.n 100005, z.n 100006, z.n 100007, z.n 100008] (z.n 1)) 511))).tdiv 256)).tmod (bif bits BinOp.and u16 (z.n 2) (16384 : Int) != 0 then (2 : Int) else 1))) + i64.wrap (2 * i64.wrap (i64.wrap (i64.wrap (((i64.wrap (z.n 3 + i64.wrap (bits BinOp.and u16 (selI [z.n 100009, z.n
      100010, z.n 100011, z.n 100012] (z.n 1)) 511))).tmod 256).tdiv 8) * 32) + i64.wrap (((i64.wrap (x + i64.wrap (bits BinOp.and u16 (selI [z.n 100005, z.n 100006, z.n 100007, z.n 100008] (z.n 1)) 511))).tmod 256).tdiv 8)))) ∧ i64.wrap (i64.wrap (y.n 90000 + i64.wrap (2048 * bif bits BinOp.and u16 (z.n 2) (32768 : Int) != 0 then i64.wrap ((i64.wrap ((i64.wrap (x + i64.wrap (bits BinOp.and u16 (selI [z.n 100005, z.n 100006, z.n 100007, z.n 100008] (z.n 1)) 511))).tdiv 256)).tmod (bif bits BinOp.and u16 (z.n 2) (16384 : Int) != 0 then (2 : Int) else 1) + i64.wrap ((i64.wrap ((i64.wrap (z.n 3 + i64.wrap (bits BinOp.and u16 (selI [z.n 100009, z.n 100010, z.n 100011, z.n 100012] (z.n 1)) 511))).tdiv 256)).tmod 2 * bif bits BinOp.and u16 (z.n 2) (16384 : Int) != 0 then (2 : Int) else 1)) else (i64.wrap ((i64.wrap (x + i64.wrap (bits BinOp.and u16 (selI [z.n 100005, z.n 100006, z.n 100007, z.n 100008] (z.n 1)) 511))).tdiv 256)).tmod (bif bits BinOp.and u16 (z.n 2) (16384 : Int) != 0 then (2 : Int) else 1))) + i64.wrap (2 * i64.wrap (i64.wrap (i64.wrap (((i64.wrap (z.n 3 + i64.wrap (bits BinOp.and u16 (selI [z.n 100009, z.n 100010, z.n 100011, z.n 100012] (z.n 1)) 511))).tmod 256).tdiv 8) * 32) + i64.wrap (((i64.wrap (x + i64.wrap (bits BinOp.and u16 (selI [z.n 100005, z.n 100006, z.n 100007, z.n 100008] (z.n 1)) 511))).tmod 256).tdiv 8)))) ≤ 1000000000) ∧ ∀ (y_1 : PX), ((0 ≤ y_1.n 90000 ∧ y_1.n 90000 ≤ 65535) ∧ True) ∧ y_1.n 90000 = halfF (bR (z.l 2) (z.n 100026).toNat) (z.n 100026).toNat (i64.wrap (i64.wrap (y.n 90000 + i64.wrap (2048 * bif bits BinOp.and u16 (z.n 2) (32768 : Int) != 0 then i64.wrap ((i64.wrap ((i64.wrap (x + i64.wrap (bits BinOp.and u16 (selI [z.n 100005, z.n 100006, z.n 100007, z.n 100008] (z.n 1)) 511))).tdiv 256)).tmod (bif bits BinOp.and u16 (z.n 2) (16384 : Int) != 0 then (2 : Int) else 1) + i64.wrap ((i64.wrap ((i64.wrap (z.n 3 + i64.wrap (bits BinOp.and u16 (selI [z.n 100009, z.n 100010, z.n 100011, z.n 100012] (z.n 1)) 511))).tdiv 256)).tmod 2
      * bif bits BinOp.and u16 (z.n 2) (16384 : Int) != 0 then (2 : Int) else 1)) else (i64.wrap ((i64.wrap (x + i64.wrap (bits BinOp.and u16 (selI [z.n 100005, z.n 100006, z.n 100007, z.n 100008] (z.n 1)) 511))).tdiv 256)).tmod (bif bits BinOp.and u16 (z.n 2) (16384 : Int) != 0 then (2 : Int) else 1))) + i64.wrap (2 * i64.wrap (i64.wrap (i64.wrap (((i64.wrap (z.n 3 + i64.wrap (bits BinOp.and u16 (selI [z.n 100009, z.n 100010, z.n 100011, z.n 100012] (z.n 1)) 511))).tmod 256).tdiv 8) * 32) + i64.wrap (((i64.wrap (x + i64.wrap (bits BinOp.and u16 (selI [z.n 100005, z.n 100006, z.n 100007, z.n 100008] (z.n 1)) 511))).tmod 256).tdiv 8))))) → kpS z 100000 (decide ((z.n 100026).toNat = (z.n 100026).toNat) = true ∧ decide ((z.n 100027).toNat = (z.n 100027).toNat) = true ∧ decide ((z.n 100028).toNat = (z.n 100028).toNat) = true ∧ sameB (Bl.mk (z.l 2) (5 : Nat)) (Bl.mk (z.l 2) (5 : Nat)) = true ∧ sameB (Bl.mk (z.l 3) (5 : Nat)) (Bl.mk (z.l 3) (5 : Nat)) = true ∧ sameB (Bl.mk (z.l 4) (5 : Nat)) (Bl.mk (z.l 4) (5 : Nat)) = true ∧ ((59 = 59 ∧ ((0 ≤ z.n 1 ∧ z.n 1 ≤ 3) ∧ (0 ≤ z.n 2 ∧ z.n 2 ≤ 65535) ∧ (0 ≤ z.n 3 ∧ z.n 3 ≤ 159) ∧ (0 ≤ z.n 4 ∧ z.n 4 ≤ 15) ∧ True) ∧ 31 = 31 ∧ (rgS z 100000 (True)) ∧ rw3 z 2 (([] : SW) = [])) ∧ (ROk (z.l 2) (↑(z.n 100026).toNat : Int).toNat ∧ ROk (z.l 3) (↑(z.n 100027).toNat : Int).toNat) ∧ (0 ≤ y_1.n 90000 ∧ y_1.n 90000 ≤ 65535) ∧ (0 ≤ (i64.wrap (x + i64.wrap (bits BinOp.and u16 (selI [z.n 100005, z.n 100006, z.n 100007, z.n 100008] (z.n 1)) 511))).tmod 8 ∧ (i64.wrap (x + i64.wrap (bits BinOp.and u16 (selI [z.n 100005, z.n 100006, z.n 100007, z.n 100008] (z.n 1)) 511))).tmod (8 : Int) ≤ 7) ∧ 0 ≤ (i64.wrap (z.n 3 + i64.wrap (bits BinOp.and u16 (selI [z.n 100009, z.n 100010, z.n 100011, z.n 100012] (z.n 1)) 511))).tmod 8 ∧ (i64.wrap (z.n 3 + i64.wrap (bits BinOp.and u16 (selI [z.n 100009, z.n 100010, z.n 100011, z.n 100012] (z.n 1)) 511))).tmod (8 : Int) ≤ 7) ∧ ∀ (y : PX), ((0 ≤ y.n 90000 ∧ y.n 90000 ≤ 32768) ∧ True) ∧ y.n 90000 = tdotF (scM z 100000 (bR (z.l 2) (↑(z.n 100026).toNat : Int).toNat) (↑(z.n 100026).toNat : Int).toNat (bR (z.l 3) (↑(z.n 100027).toNat : Int).toNat) (↑(z.n 100027).toNat : Int).toNat) (z.n 2) (y_1.n 90000) ((i64.wrap (x + i64.wrap (bits BinOp.and u16 (selI [z.n 100005, z.n 100006, z.n 100007, z.n 100008] (z.n 1)) 511))).tmod 8) ((i64.wrap (z.n 3 + i64.wrap (bits BinOp.and u16 (selI [z.n 100009, z.n 100010, z.n 100011, z.n 100012] (z.n 1)) 511))).tmod 8) → ((0 ≤ y.n 90000 ∧ y.n 90000 ≤ 32768) ∧ True) ∧ mkM z [] [mL, mS (2 : Nat), rowB, rowB, rowB] (0 : Nat) = mkM z [] [mL, mS (2 : Nat), rowB, rowB, rowB] (0 : Nat) ∧ y.n 90000 = textF (scM z 100000 (bR (z.l 2) (z.n 100026).toNat) (z.n 100026).toNat (bR (z.l 3) (z.n 100027).toNat) (z.n 100027).toNat) (z.n 1) (z.n 2) x (z.n 3)))) := by kernel_rfl
theorem textR_c (E : World) (x : Int) (z : PX) (hz : rgM z [mL, mS 2, rowB, rowB, rowB] 0) (hp : (fun z => (ROk (z.l 2) (z.n 100026).toNat ∧ ROk (z.l 3) (z.n 100027).toNat) ∧ 0 ≤ x ∧ x ≤ 239) z) : HR (pe E) 30 [.c (.p 0 0), .c (.i false .i64 x)] [mL, mS 2, rowB, rowB, rowB] [] (.c (.r .u16 0 32768)) (fun z y => y.n 90000 = textF (scM z 100000 (bR (z.l 2) (z.n 100026).toNat) (z.n 100026).toNat (bR (z.l 3) (z.n 100027).toNat) (z.n 100027).toNat) (z.n 1) (z.n 2) x (z.n 3)) z := by
  refine HR.mk true (by rfl) (by rfl) (fnTree_sound (P := pe E) orcTR_ok tab_ok tab_sz mixed 20000 Try.func30 (by decide) [.c (.p 0 0), .c (.i false .i64 x)] _) ⟨?_⟩
  rw [textR_p]
  obtain ⟨⟨hK1, hK2⟩, h0, h1⟩ := hp
  have hR1 : Row [.r .u8 0 255] (z.l 2) := hz.2.2.1.2
  have hR2 : Row [.r .u8 0 255] (z.l 3) := hz.2.2.2.1.2
  have hR3 : Row [.r .u8 0 255] (z.l 4) := hz.2.2.2.2.1.2
  have hF : flat [Sp.r .u8 0 255] = true := rfl
  obtain ⟨q1, q2, q3, q4, _⟩ := hz.1
  replace q1 : 0 ≤ z.n 1 ∧ z.n 1 ≤ 3 := q1
  replace q2 : 0 ≤ z.n 2 ∧ z.n 2 ≤ 65535 := q2
  replace q3 : 0 ≤ z.n 3 ∧ z.n 3 ≤ 159 := q3
  replace q4 : 0 ≤ z.n 4 ∧ z.n 4 ≤ 15 := q4
  obtain ⟨r0, r1, r2, r3, r4, r5, r6, r7, r8, r9, r10, r11, r12, r13, r14, r15, r16, r17, r18, r19, r20, r21, r22, r23, r24, r25, v26, v27, v28, _⟩ := hz.2.1
  simp only [Int.toNat_natCast]
  have sX : 0 ≤ selI [z.n 100005, z.n 100006, z.n 100007, z.n 100008] (z.n 1) ∧ selI [z.n 100005, z.n 100006, z.n 100007, z.n 100008] (z.n 1) ≤ 65535 := selI_rg _ _ q1.1 (by show z.n 1 < 4; omega) (by intro a ha; simp only [List.mem_cons, List.not_mem_nil, or_false] at ha; rcases ha with rfl | rfl | rfl | rfl <;> assumption)
  have sY : 0 ≤ selI [z.n 100009, z.n 100010, z.n 100011, z.n 100012] (z.n 1) ∧ selI [z.n 100009, z.n 100010, z.n 100011, z.n 100012] (z.n 1) ≤ 65535 := selI_rg _ _ q1.1 (by show z.n 1 < 4; omega) (by intro a ha; simp only [List.mem_cons, List.not_mem_nil, or_false] at ha; rcases ha with rfl | rfl | rfl | rfl <;> assumption)
  unfold textF
  simp only []
  generalize selI [z.n 100005, z.n 100006, z.n 100007, z.n 100008] (z.n 1) = X0 at *
  generalize selI [z.n 100009, z.n 100010, z.n 100011, z.n 100012] (z.n 1) = Y0 at *
  have hin : inB (z.n 1) 4 = true := inB_of q1.1 (by omega)
  refine ⟨hin, hin, by cases (bits BinOp.and IntKind.u16 (z.n 2) 16384 != 0) <;> rfl, by (repeat' (first | exact trivial | with_reducible rfl | exact decide_eq_true rfl | exact decide_eq_true trivial | exact sameB_self _ | with_reducible assumption | apply And.intro)) <;> (first | omega | done), ?_⟩
  rintro y ⟨⟨hy, _⟩, hq⟩
  obtain ⟨A1, A2, A3⟩ := adr x (z.n 3) (z.n 2) (y.n 90000) X0 Y0 h0 h1 q3 q2 sX sY hy
  rw [A1, ← hq]
  clear A1
  rw [xE x X0 h0 h1 sX, xE (z.n 3) Y0 q3.1 (by omega) sY]
  generalize (x + X0 % 512) / 256 % (if z.n 2 / 16384 % 2 = 1 then 2 else 1) + (if z.n 2 / 32768 % 2 = 1 then (z.n 3 + Y0 % 512) / 256 % 2 * (if z.n 2 / 16384 % 2 = 1 then 2 else 1) else 0) = B at *
  have hX' : 0 ≤ x + X0 % 512 := by omega
  have hY' : 0 ≤ z.n 3 + Y0 % 512 := by omega
  generalize x + X0 % 512 = X at *
  generalize z.n 3 + Y0 % 512 = Y at *
  have hr : 0 ≤ Y % 256 / 8 * 32 + X % 256 / 8 ∧ Y % 256 / 8 * 32 + X % 256 / 8 ≤ 1023 := by omega
  rw [Int.tmod_eq_emod_of_nonneg hX', Int.tmod_eq_emod_of_nonneg hY']
  have hx8 : 0 ≤ X % 8 ∧ X % 8 ≤ 7 := by omega
  have hy8 : 0 ≤ Y % 8 ∧ Y % 8 ≤ 7 := by omega
  generalize Y % 256 / 8 * 32 + X % 256 / 8 = R at *
  (repeat' (first | exact trivial | with_reducible rfl | exact decide_eq_true rfl | exact decide_eq_true trivial | exact sameB_self _ | with_reducible assumption | apply And.intro)) <;> try omega
  rintro y1 ⟨⟨hy1, _⟩, hq1⟩
  rw [← hq1]
  (repeat' (first | exact trivial | with_reducible rfl | exact decide_eq_true rfl | exact decide_eq_true trivial | exact sameB_self _ | with_reducible assumption | apply And.intro)) <;> try omega
  rintro y2 ⟨⟨hy2, _⟩, hq2⟩
  (repeat' (first | exact trivial | with_reducible rfl | exact decide_eq_true rfl | exact decide_eq_true trivial | exact sameB_self _ | with_reducible assumption | apply And.intro)) <;> (first | omega | done)
end Go.Proofs.Ytdomhmajoclpeaa

