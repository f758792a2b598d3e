import Derived.Test.YtdomhmajoclpeaaL2
set_option linter.unusedVariables false
set_option linter.unusedSimpArgs false
namespace Go.Proofs.Ytdomhmajoclpeaa
open Go Go.Proofs Go.Proofs.Ytdomhmajoclpeaa.Ev Go.Proofs.Ytdomhmajoclpeaa.Ev.Ho Go.IntKind
set_option maxRecDepth 100000
theorem pick2 (c : Int) : c % 2 = 0 ∨ c % 2 = 1 := by omega
theorem b2E {q : Int} (h : q = 0 ∨ q = 1) : (q == 1) = decide (q = 1) := by rcases h with rfl | rfl <;> decide
theorem tdot_tex (s : Sc) (c e x y : Int) : tdotF s c e x y = texF s (16384 * (c / 4 % 4) + (bif c / 128 % 2 == 1 then 64 else 32) * (e % 1024)) (if e / 1024 % 2 = 1 then 7 - x else x) (if e / 2048 % 2 = 1 then 7 - y else y) (e / 4096) (c / 128 % 2 == 1) := by
  unfold tdotF texF visF tileF
  generalize (if e / 1024 % 2 = 1 then 7 - x else x) = X
  generalize (if e / 2048 % 2 = 1 then 7 - y else y) = Y
  by_cases h : c / 128 % 2 = 1
  · rw [h, if_pos rfl, show ((1 : Int) == 1) = true from rfl]
    simp only [cond_true, if_true]
    have e1 : 16384 * (c / 4 % 4) + 64 * (e % 1024) + 8 * Y + X = 16384 * (c / 4 % 4) + 64 * (e % 1024) + (8 * Y + X) := by omega
    rw [e1]
    generalize 16384 * (c / 4 % 4) + 64 * (e % 1024) + (8 * Y + X) = a
    by_cases ha : a < 65536
    · rw [if_pos ha]
      by_cases hn : s.v a = 0
      · rw [if_pos hn, if_pos (Or.inl hn)]
      · rw [if_neg hn, if_neg (by omega)]
    · rw [if_neg ha, if_pos rfl, if_pos (by omega)]
  · rw [if_neg h, show (c / 128 % 2 == 1) = false by simpa using h]
    simp only [cond_false, Bool.false_eq_true, if_false]
    have e1 : 16384 * (c / 4 % 4) + 32 * (e % 1024) + 4 * Y + X / 2 = 16384 * (c / 4 % 4) + 32 * (e % 1024) + (4 * Y + X / 2) := by omega
    rw [e1]
    generalize 16384 * (c / 4 % 4) + 32 * (e % 1024) + (4 * Y + X / 2) = a
    by_cases ha : a < 65536
    · rw [if_pos ha]
      generalize (if X % 2 = 1 then s.v a / 16 else s.v a % 16) = n
      by_cases hn : n = 0
      · rw [if_pos hn, if_pos (Or.inl hn)]
      · rw [if_neg hn, if_neg (by omega), Int.add_comm]
    · have : (if X % 2 = 1 then (0 : Int) / 16 else 0 % 16) = 0 := by split <;> rfl
      rw [if_neg ha, this, if_pos rfl, if_pos (Or.inr (by omega))]
theorem rtextR_p (E : World) (z : PX) (i x l : Int) :
    (hoPr true [mSr 1, rowB, rowB, rowB] [] (.c (.r .u16 0 32768)) (fun z y => y.n 90000 = textF (scM z 0 (bR (z.l 1) (z.n 26).toNat) (z.n 26).toNat (bR (z.l 2) (z.n 27).toNat) (z.n 27).toNat) i (selI [z.n 1, z.n 2, z.n 3, z.n 4] i) x l) z (fnTree (pe E) (orcRfR E) (tabL fns) 20000 Try.f21 [.c (.p 0 0), .c (.i false .i64 i), .c (.i false .i64 x), .c (.i false .i64 l)] (mkM z [] [mSr 1, rowB, rowB, rowB] 0))) =
    (inB i (4 : Nat) = true ∧ inB i (4 : Nat) = true ∧ (!decide (i64.wrap (256 * i64.wrap (1 + ((i64.wrap (selI [z.n 1, z.n 2, z.n 3, z.n 4] i)).fdiv 16384).tmod 2)) = 0)) = true ∧ inB i (4 : Nat) = true ∧ (!decide (i64.wrap (256 * i64.wrap (1 + ((i64.wrap (selI [z.n 1, z.n 2, z.n 3, z.n 4] i)).fdiv 32768).tmod 2)) = 0)) = true ∧ kpS z 0 (decide ((z.n 26).toNat = (z.n 26).toNat) = true ∧ decide ((z.n 27).toNat = (z.n 27).toNat) = true ∧ decide ((z.n 28).toNat = (z.n 28).toNat) = true ∧ sameB (Bl.mk (z.l 1) (5 : Nat)) (Bl.mk (z.l 1) (5 : Nat)) = true ∧ sameB (Bl.mk (z.l 2) (5 : Nat)) (Bl.mk (z.l 2) (5 : Nat)) = true ∧ sameB (Bl.mk (z.l 3) (5 : Nat)) (Bl.mk (z.l 3) (5 : Nat)) = true ∧ ((5 = 5 ∧ (flat [Sp.r u8 0 255] = true ∧ Row [Sp.r u8 0 255] (z.l 1)) ∧ ([] : SW) = []) ∧ ROk (z.l 1) (z.n 26).toNat ∧ (-1000000000) ≤ i64.wrap (i64.wrap (i64.wrap (i64.wrap (2048 * ((i64.wrap (selI [z.n 1, z.n 2, z.n 3, z.n 4] i)).fdiv 256).tmod 32) + i64.wrap (2048 * i64.wrap (i64.wrap (((i64.wrap (x + i64.wrap ((selI [z.n 5, z.n 6, z.n 7, z.n 8] i).tmod 512))).tmod (i64.wrap (256 * i64.wrap (1 + ((i64.wrap (selI [z.n 1, z.n 2, z.n 3, z.n 4] i)).fdiv 16384).tmod 2)))).tdiv 256) + i64.wrap (i64.wrap (((i64.wrap (l + i64.wrap ((selI [z.n 9, z.n 10, z.n 11, z.n 12] i).tmod 512))).tmod (i64.wrap (256 * i64.wrap (1 + ((i64.wrap (selI [z.n 1, z.n 2, z.n 3, z.n 4] i)).fdiv 32768).tmod 2)))).tdiv 256) * i64.wrap ((i64.wrap (256 * i64.wrap (1 + ((i64.wrap (selI [z.n 1, z.n 2, z.n 3, z.n 4] i)).fdiv 16384).tmod 2))).tdiv 256))))) + i64.wrap (2 * i64.wrap ((((i64.wrap (x + i64.wrap ((selI [z.n 5, z.n 6, z.n 7, z.n 8] i).tmod 512))).tmod (i64.wrap (256 * i64.wrap (1 + ((i64.wrap (selI [z.n 1, z.n 2, z.n 3, z.n 4] i)).fdiv 16384).tmod 2)))).tmod 256).tdiv 8))) + i64.wrap (64 * i64.wrap ((((i64.wrap (l + i64.wrap ((selI [z.n 9, z.n 10, z.n 11, z.n 12] i).tmod 512))).tmod (i64.wrap (256 * i64.wrap (1 + ((i64.wrap (selI [z.n 1, z.n 2, z.n 3, z.n 4] i)).fdiv 32768).tmod 2)))).tmod 256).tdiv 8))) ∧
      i64.wrap (i64.wrap (i64.wrap (i64.wrap (2048 * ((i64.wrap (selI [z.n 1, z.n 2, z.n 3, z.n 4] i)).fdiv 256).tmod 32) + i64.wrap (2048 * i64.wrap (i64.wrap (((i64.wrap (x + i64.wrap ((selI [z.n 5, z.n 6, z.n 7, z.n 8] i).tmod 512))).tmod (i64.wrap (256 * i64.wrap (1 + ((i64.wrap (selI [z.n 1, z.n 2, z.n 3, z.n 4] i)).fdiv 16384).tmod 2)))).tdiv 256) + i64.wrap (i64.wrap (((i64.wrap (l + i64.wrap ((selI [z.n 9, z.n 10, z.n 11, z.n 12] i).tmod 512))).tmod (i64.wrap (256 * i64.wrap (1 + ((i64.wrap (selI [z.n 1, z.n 2, z.n 3, z.n 4] i)).fdiv 32768).tmod 2)))).tdiv 256) * i64.wrap ((i64.wrap (256 * i64.wrap (1 + ((i64.wrap (selI [z.n 1, z.n 2, z.n 3, z.n 4] i)).fdiv 16384).tmod 2))).tdiv 256))))) + i64.wrap (2 * i64.wrap ((((i64.wrap (x + i64.wrap ((selI [z.n 5, z.n 6, z.n 7, z.n 8] i).tmod 512))).tmod (i64.wrap (256 * i64.wrap (1 + ((i64.wrap (selI [z.n 1, z.n 2, z.n 3, z.n 4] i)).fdiv 16384).tmod 2)))).tmod 256).tdiv 8))) + i64.wrap (64 * i64.wrap ((((i64.wrap (l + i64.wrap ((selI [z.n 9, z.n 10, z.n 11, z.n 12] i).tmod 512))).tmod (i64.wrap (256 * i64.wrap (1 + ((i64.wrap (selI [z.n 1, z.n 2, z.n 3, z.n 4] i)).fdiv 32768).tmod 2)))).tmod 256).tdiv 8))) ≤ 1000000000) ∧ ∀ (y : PX), ((0 ≤ y.n 90000 ∧ y.n 90000 ≤ 65535) ∧ True) ∧ y.n 90000 = halfF (bR (z.l 1) (z.n 26).toNat) (z.n 26).toNat (i64.wrap (i64.wrap (i64.wrap (i64.wrap (2048 * ((i64.wrap (selI [z.n 1, z.n 2, z.n 3, z.n 4] i)).fdiv 256).tmod 32) + i64.wrap (2048 * i64.wrap (i64.wrap (((i64.wrap (x + i64.wrap ((selI [z.n 5, z.n 6, z.n 7, z.n 8] i).tmod 512))).tmod (i64.wrap (256 * i64.wrap (1 + ((i64.wrap (selI [z.n 1, z.n 2, z.n 3, z.n 4] i)).fdiv 16384).tmod 2)))).tdiv 256) + i64.wrap (i64.wrap (((i64.wrap (l + i64.wrap ((selI [z.n 9, z.n 10, z.n 11, z.n 12] i).tmod 512))).tmod (i64.wrap (256 * i64.wrap (1 + ((i64.wrap (selI [z.n 1, z.n 2, z.n 3, z.n 4] i)).fdiv 32768).tmod 2)))).tdiv 256) * i64.wrap ((i64.wrap (256 * i64.wrap (1 + ((i64.wrap (selI [z.n 1, z.n 2, z.n 3, z.n 4] i)).fdiv 16384).tmod 2))).tdiv
      256))))) + i64.wrap (2 * i64.wrap ((((i64.wrap (x + i64.wrap ((selI [z.n 5, z.n 6, z.n 7, z.n 8] i).tmod 512))).tmod (i64.wrap (256 * i64.wrap (1 + ((i64.wrap (selI [z.n 1, z.n 2, z.n 3, z.n 4] i)).fdiv 16384).tmod 2)))).tmod 256).tdiv 8))) + i64.wrap (64 * i64.wrap ((((i64.wrap (l + i64.wrap ((selI [z.n 9, z.n 10, z.n 11, z.n 12] i).tmod 512))).tmod (i64.wrap (256 * i64.wrap (1 + ((i64.wrap (selI [z.n 1, z.n 2, z.n 3, z.n 4] i)).fdiv 32768).tmod 2)))).tmod 256).tdiv 8)))) → kpS z 0 (decide ((z.n 26).toNat = (z.n 26).toNat) = true ∧ decide ((z.n 27).toNat = (z.n 27).toNat) = true ∧ decide ((z.n 28).toNat = (z.n 28).toNat) = true ∧ sameB (Bl.mk (z.l 1) (5 : Nat)) (Bl.mk (z.l 1) (5 : Nat)) = true ∧ sameB (Bl.mk (z.l 2) (5 : Nat)) (Bl.mk (z.l 2) (5 : Nat)) = true ∧ sameB (Bl.mk (z.l 3) (5 : Nat)) (Bl.mk (z.l 3) (5 : Nat)) = true ∧ ((54 = 54 ∧ (rgS z 0 (True)) ∧ rw3 z 1 (([] : SW) = [])) ∧ (ROk (z.l 1) (↑(z.n 26).toNat : Int).toNat ∧ ROk (z.l 2) (↑(z.n 27).toNat : Int).toNat) ∧ (0 ≤ i64.wrap (i64.wrap (16384 * ((i64.wrap (selI [z.n 1, z.n 2, z.n 3, z.n 4] i)).fdiv 4).tmod 4) + i64.wrap ((bif ((i64.wrap (selI [z.n 1, z.n 2, z.n 3, z.n 4] i)).fdiv 128).tmod (2 : Int) == 1 then (64 : Int) else 32) * (y.n 90000).tmod 1024)) ∧ i64.wrap (i64.wrap (16384 * ((i64.wrap (selI [z.n 1, z.n 2, z.n 3, z.n 4] i)).fdiv 4).tmod 4) + i64.wrap ((bif ((i64.wrap (selI [z.n 1, z.n 2, z.n 3, z.n 4] i)).fdiv 128).tmod (2 : Int) == 1 then (64 : Int) else 32) * (y.n 90000).tmod 1024)) ≤ 200000) ∧ ((0 ≤ bif (i64.wrap ((y.n 90000).tdiv 1024)).tmod (2 : Int) == 1 then i64.wrap (7 - ((i64.wrap (x + i64.wrap ((selI [z.n 5, z.n 6, z.n 7, z.n 8] i).tmod 512))).tmod (i64.wrap (256 * i64.wrap (1 + ((i64.wrap (selI [z.n 1, z.n 2, z.n 3, z.n 4] i)).fdiv 16384).tmod 2)))).tmod 8) else ((i64.wrap (x + i64.wrap ((selI [z.n 5, z.n 6, z.n 7, z.n 8] i).tmod 512))).tmod (i64.wrap (256 * i64.wrap (1 + ((i64.wrap (selI [z.n 1, z.n 2, z.n 3, z.n 4] i)).fdiv 16384).tmod 2)))).tmod 8) ∧ (bif (i64.wrap ((y.n
      90000).tdiv 1024)).tmod (2 : Int) == 1 then i64.wrap (7 - ((i64.wrap (x + i64.wrap ((selI [z.n 5, z.n 6, z.n 7, z.n 8] i).tmod 512))).tmod (i64.wrap (256 * i64.wrap (1 + ((i64.wrap (selI [z.n 1, z.n 2, z.n 3, z.n 4] i)).fdiv 16384).tmod 2)))).tmod 8) else ((i64.wrap (x + i64.wrap ((selI [z.n 5, z.n 6, z.n 7, z.n 8] i).tmod 512))).tmod (i64.wrap (256 * i64.wrap (1 + ((i64.wrap (selI [z.n 1, z.n 2, z.n 3, z.n 4] i)).fdiv 16384).tmod 2)))).tmod 8) ≤ 7) ∧ ((0 ≤ bif (i64.wrap ((y.n 90000).tdiv 2048)).tmod (2 : Int) == 1 then i64.wrap (7 - ((i64.wrap (l + i64.wrap ((selI [z.n 9, z.n 10, z.n 11, z.n 12] i).tmod 512))).tmod (i64.wrap (256 * i64.wrap (1 + ((i64.wrap (selI [z.n 1, z.n 2, z.n 3, z.n 4] i)).fdiv 32768).tmod 2)))).tmod 8) else ((i64.wrap (l + i64.wrap ((selI [z.n 9, z.n 10, z.n 11, z.n 12] i).tmod 512))).tmod (i64.wrap (256 * i64.wrap (1 + ((i64.wrap (selI [z.n 1, z.n 2, z.n 3, z.n 4] i)).fdiv 32768).tmod 2)))).tmod 8) ∧ (bif (i64.wrap ((y.n 90000).tdiv 2048)).tmod (2 : Int) == 1 then i64.wrap (7 - ((i64.wrap (l + i64.wrap ((selI [z.n 9, z.n 10, z.n 11, z.n 12] i).tmod 512))).tmod (i64.wrap (256 * i64.wrap (1 + ((i64.wrap (selI [z.n 1, z.n 2, z.n 3, z.n 4] i)).fdiv 32768).tmod 2)))).tmod 8) else ((i64.wrap (l + i64.wrap ((selI [z.n 9, z.n 10, z.n 11, z.n 12] i).tmod 512))).tmod (i64.wrap (256 * i64.wrap (1 + ((i64.wrap (selI [z.n 1, z.n 2, z.n 3, z.n 4] i)).fdiv 32768).tmod 2)))).tmod 8) ≤ 7) ∧ 0 ≤ i64.wrap ((y.n 90000).tdiv 4096) ∧ i64.wrap ((y.n 90000).tdiv 4096) ≤ 15) ∧ ∀ (y_1 : PX), ((0 ≤ y_1.n 90000 ∧ y_1.n 90000 ≤ 32768) ∧ True) ∧ y_1.n 90000 = texF (scM z 0 (bR (z.l 1) (↑(z.n 26).toNat : Int).toNat) (↑(z.n 26).toNat : Int).toNat (bR (z.l 2) (↑(z.n 27).toNat : Int).toNat) (↑(z.n 27).toNat : Int).toNat) (i64.wrap (i64.wrap (16384 * ((i64.wrap (selI [z.n 1, z.n 2, z.n 3, z.n 4] i)).fdiv 4).tmod 4) + i64.wrap ((bif ((i64.wrap (selI [z.n 1, z.n 2, z.n 3, z.n 4] i)).fdiv 128).tmod (2 : Int) == 1 then (64 : Int) else 32) * (y.n 90000).tmod 1024))) (bif
      (i64.wrap ((y.n 90000).tdiv 1024)).tmod (2 : Int) == 1 then i64.wrap (7 - ((i64.wrap (x + i64.wrap ((selI [z.n 5, z.n 6, z.n 7, z.n 8] i).tmod 512))).tmod (i64.wrap (256 * i64.wrap (1 + ((i64.wrap (selI [z.n 1, z.n 2, z.n 3, z.n 4] i)).fdiv 16384).tmod 2)))).tmod 8) else ((i64.wrap (x + i64.wrap ((selI [z.n 5, z.n 6, z.n 7, z.n 8] i).tmod 512))).tmod (i64.wrap (256 * i64.wrap (1 + ((i64.wrap (selI [z.n 1, z.n 2, z.n 3, z.n 4] i)).fdiv 16384).tmod 2)))).tmod 8) (bif (i64.wrap ((y.n 90000).tdiv 2048)).tmod (2 : Int) == 1 then i64.wrap (7 - ((i64.wrap (l + i64.wrap ((selI [z.n 9, z.n 10, z.n 11, z.n 12] i).tmod 512))).tmod (i64.wrap (256 * i64.wrap (1 + ((i64.wrap (selI [z.n 1, z.n 2, z.n 3, z.n 4] i)).fdiv 32768).tmod 2)))).tmod 8) else ((i64.wrap (l + i64.wrap ((selI [z.n 9, z.n 10, z.n 11, z.n 12] i).tmod 512))).tmod (i64.wrap (256 * i64.wrap (1 + ((i64.wrap (selI [z.n 1, z.n 2, z.n 3, z.n 4] i)).fdiv 32768).tmod 2)))).tmod 8) (i64.wrap ((y.n 90000).tdiv 4096)) (((i64.wrap (selI [z.n 1, z.n 2, z.n 3, z.n 4] i)).fdiv 128).tmod (2 : Int) == 1) → ((0 ≤ y_1.n 90000 ∧ y_1.n 90000 ≤ 32768) ∧ True) ∧ mkM z [] [mSr (1 : Nat), rowB, rowB, rowB] (0 : Nat) = mkM z [] [mSr (1 : Nat), rowB, rowB, rowB] (0 : Nat) ∧ y_1.n 90000 = textF (scM z 0 (bR (z.l 1) (z.n 26).toNat) (z.n 26).toNat (bR (z.l 2) (z.n 27).toNat) (z.n 27).toNat) i (selI [z.n 1, z.n 2, z.n 3, z.n 4] i) x l))) := by kernel_rfl
set_option maxHeartbeats 4000000 in
theorem rtextR_c (E : World) (i x l : Int) (z : PX) (hz : rgM z [mSr 1, rowB, rowB, rowB] 0) (hp : (fun z => (ROk (z.l 1) (z.n 26).toNat ∧ ROk (z.l 2) (z.n 27).toNat) ∧ (0 ≤ i ∧ i ≤ 3) ∧ (0 ≤ x ∧ x ≤ 239) ∧ 0 ≤ l ∧ l ≤ 159) z) : HR (pe E) 21 [.c (.p 0 0), .c (.i false .i64 i), .c (.i false .i64 x), .c (.i false .i64 l)] [mSr 1, rowB, rowB, rowB] [] (.c (.r .u16 0 32768)) (fun z y => y.n 90000 = textF (scM z 0 (bR (z.l 1) (z.n 26).toNat) (z.n 26).toNat (bR (z.l 2) (z.n 27).toNat) (z.n 27).toNat) i (selI [z.n 1, z.n 2, z.n 3, z.n 4] i) x l) z := by
  refine HR.mk true (by rfl) (by rfl) (fnTree_sound (P := pe E) orcRfR_ok tab_ok tab_sz mixed 20000 Try.func21 (by decide) [.c (.p 0 0), .c (.i false .i64 i), .c (.i false .i64 x), .c (.i false .i64 l)] _) ⟨?_⟩
  rw [rtextR_p]
  obtain ⟨⟨hK1, hK2⟩, hi, hx, hl⟩ := hp
  have hR1 : Row [.r .u8 0 255] (z.l 1) := hz.2.1.2
  have hR2 : Row [.r .u8 0 255] (z.l 2) := hz.2.2.1.2
  have hR3 : Row [.r .u8 0 255] (z.l 3) := hz.2.2.2.1.2
  have hF : flat [Sp.r .u8 0 255] = true := rfl
  obtain ⟨r0, r1, r2, r3, r4, r5, r6, r7, r8, r9, r10, r11, r12, r13, r14, r15, r16, r17, r18, r19, r20, r21, r22, r23, r24, r25, v26, v27, v28, _⟩ := hz.1
  simp only [Int.toNat_natCast]
  have hin : inB i 4 = true := inB_of hi.1 (by omega)
  have hc : 0 ≤ selI [z.n 1, z.n 2, z.n 3, z.n 4] i ∧ selI [z.n 1, z.n 2, z.n 3, z.n 4] i ≤ 65535 := selI_rg _ _ hi.1 (by show i < 4; omega) (by intro a ha; simp only [List.mem_cons, List.not_mem_nil, or_false] at ha; rcases ha with rfl | rfl | rfl | rfl <;> assumption)
  have sX : 0 ≤ selI [z.n 5, z.n 6, z.n 7, z.n 8] i ∧ selI [z.n 5, z.n 6, z.n 7, z.n 8] i ≤ 65535 := selI_rg _ _ hi.1 (by show i < 4; omega) (by intro a ha; simp only [List.mem_cons, List.not_mem_nil, or_false] at ha; rcases ha with rfl | rfl | rfl | rfl <;> assumption)
  have sY : 0 ≤ selI [z.n 9, z.n 10, z.n 11, z.n 12] i ∧ selI [z.n 9, z.n 10, z.n 11, z.n 12] i ≤ 65535 := selI_rg _ _ hi.1 (by show i < 4; omega) (by intro a ha; simp only [List.mem_cons, List.not_mem_nil, or_false] at ha; rcases ha with rfl | rfl | rfl | rfl <;> assumption)
  unfold textF
  dsimp only [scM]
  generalize selI [z.n 1, z.n 2, z.n 3, z.n 4] i = c at *
  generalize selI [z.n 5, z.n 6, z.n 7, z.n 8] i = X0 at *
  generalize selI [z.n 9, z.n 10, z.n 11, z.n 12] i = Y0 at *
  simp only [btE (M := 2) hc (show (0 : Int) < 16384 by decide), btE (M := 2) hc (show (0 : Int) < 32768 by decide), btE (M := 32) hc (show (0 : Int) < 256 by decide), btE (M := 4) hc (show (0 : Int) < 4 by decide), btE (M := 2) hc (show (0 : Int) < 128 by decide)]
  have cw := pick2 (c / 16384)
  have ch := pick2 (c / 32768)
  have cm := pick2 (c / 128)
  rw [Int.tmod_eq_emod_of_nonneg (a := X0) sX.1, Int.tmod_eq_emod_of_nonneg (a := Y0) sY.1, wi64_in (X0 % 512) (by omega) (by omega), wi64_in (Y0 % 512) (by omega) (by omega), wi64_in (x + X0 % 512) (by omega) (by omega), wi64_in (l + Y0 % 512) (by omega) (by omega), wi64_in (1 + c / 16384 % 2) (by omega) (by omega), wi64_in (1 + c / 32768 % 2) (by omega) (by omega), wi64_in (256 * (1 + c / 16384 % 2)) (by omega) (by omega), wi64_in (256 * (1 + c / 32768 % 2)) (by omega) (by omega)]
  have hX : 0 ≤ x + X0 % 512 ∧ x + X0 % 512 ≤ 750 := by omega
  have hY : 0 ≤ l + Y0 % 512 ∧ l + Y0 % 512 ≤ 750 := by omega
  generalize x + X0 % 512 = X at *
  generalize l + Y0 % 512 = Y at *
  have w0 : 0 ≤ 256 * (1 + c / 16384 % 2) := by omega
  rw [Int.tmod_eq_emod_of_nonneg (a := X) hX.1, Int.tmod_eq_emod_of_nonneg (a := Y) hY.1, Int.tdiv_eq_ediv_of_nonneg (a := 256 * (1 + c / 16384 % 2)) w0]
  have hP : (0 ≤ X % (256 * (1 + c / 16384 % 2)) ∧ X % (256 * (1 + c / 16384 % 2)) ≤ 511) ∧ X % (256 * (1 + c / 16384 % 2)) % 256 = X % 256 ∧ X % (256 * (1 + c / 16384 % 2)) % 8 = X % 8 ∧ X % (256 * (1 + c / 16384 % 2)) / 256 = X / 256 % (if c / 16384 % 2 = 1 then 2 else 1) := by
    rcases cw with h | h <;> rw [h] <;> simp only [Int.add_zero, Int.mul_one, Int.reduceAdd, Int.reduceMul, Int.reduceEq, if_true, if_false] <;> omega
  have hQ : (0 ≤ Y % (256 * (1 + c / 32768 % 2)) ∧ Y % (256 * (1 + c / 32768 % 2)) ≤ 511) ∧ Y % (256 * (1 + c / 32768 % 2)) % 256 = Y % 256 ∧ Y % (256 * (1 + c / 32768 % 2)) % 8 = Y % 8 ∧ Y % (256 * (1 + c / 32768 % 2)) / 256 * (256 * (1 + c / 16384 % 2) / 256) = (if c / 32768 % 2 = 1 then Y / 256 % 2 * (if c / 16384 % 2 = 1 then 2 else 1) else 0) := by
    rcases cw with h | h <;> rcases ch with h' | h' <;> rw [h, h'] <;> simp only [Int.add_zero, Int.mul_one, Int.reduceAdd, Int.reduceMul, Int.reduceEq, Int.reduceDiv, if_true, if_false] <;> omega
  have hB : 0 ≤ X / 256 % (if c / 16384 % 2 = 1 then 2 else 1) + (if c / 32768 % 2 = 1 then Y / 256 % 2 * (if c / 16384 % 2 = 1 then 2 else 1) else 0) ∧ X / 256 % (if c / 16384 % 2 = 1 then 2 else 1) + (if c / 32768 % 2 = 1 then Y / 256 % 2 * (if c / 16384 % 2 = 1 then 2 else 1) else 0) ≤ 3 := by
    rcases cw with h | h <;> rcases ch with h' | h' <;> rw [h, h'] <;> simp only [Int.reduceEq, if_true, if_false] <;> omega
  have hB1 : 0 ≤ X / 256 % (if c / 16384 % 2 = 1 then 2 else 1) ∧ X / 256 % (if c / 16384 % 2 = 1 then 2 else 1) ≤ 1 := by
    rcases cw with h | h <;> rw [h] <;> simp only [Int.reduceEq, if_true, if_false] <;> omega
  have hB2 : 0 ≤ (if c / 32768 % 2 = 1 then Y / 256 % 2 * (if c / 16384 % 2 = 1 then 2 else 1) else 0) ∧ (if c / 32768 % 2 = 1 then Y / 256 % 2 * (if c / 16384 % 2 = 1 then 2 else 1) else 0) ≤ 2 := by
    rcases cw with h | h <;> rcases ch with h' | h' <;> rw [h, h'] <;> simp only [Int.reduceEq, if_true, if_false] <;> omega
  have hW8 : 0 ≤ 256 * (1 + c / 16384 % 2) / 256 ∧ 256 * (1 + c / 16384 % 2) / 256 ≤ 2 := by omega
  have nz1 : (!decide (256 * (1 + c / 16384 % 2) = 0)) = true := by rw [decide_eq_false (by omega)]; rfl
  have nz2 : (!decide (256 * (1 + c / 32768 % 2) = 0)) = true := by rw [decide_eq_false (by omega)]; rfl
  generalize 256 * (1 + c / 16384 % 2) / 256 = w8 at *
  generalize X % (256 * (1 + c / 16384 % 2)) = P at *
  generalize Y % (256 * (1 + c / 32768 % 2)) = Q at *
  obtain ⟨hP0, hP1, hP2, hP3⟩ := hP
  obtain ⟨hQ0, hQ1, hQ2, hQ3⟩ := hQ
  have q2 : 0 ≤ Q / 256 ∧ Q / 256 ≤ 1 := by omega
  rw [Int.tmod_eq_emod_of_nonneg (a := P) hP0.1, Int.tmod_eq_emod_of_nonneg (a := Q) hQ0.1, Int.tmod_eq_emod_of_nonneg (a := P) hP0.1, Int.tmod_eq_emod_of_nonneg (a := Q) hQ0.1, Int.tdiv_eq_ediv_of_nonneg (a := P) hP0.1, Int.tdiv_eq_ediv_of_nonneg (a := Q) hQ0.1, hP1, hP2, hP3, hQ1, hQ2]
  rw [wi64_in (Q / 256) (by omega) (by omega), wi64_in w8 (by omega) (by omega), hQ3]
  generalize (if c / 32768 % 2 = 1 then Y / 256 % 2 * (if c / 16384 % 2 = 1 then 2 else 1) else 0) = Bq at *
  generalize X / 256 % (if c / 16384 % 2 = 1 then 2 else 1) = Bp at *
  rw [Int.tdiv_eq_ediv_of_nonneg (show 0 ≤ X % 256 by omega), Int.tdiv_eq_ediv_of_nonneg (show 0 ≤ Y % 256 by omega)]
  have hx8 : 0 ≤ X % 8 ∧ X % 8 ≤ 7 := by omega
  have hy8 : 0 ≤ Y % 8 ∧ Y % 8 ≤ 7 := by omega
  have hxd : 0 ≤ X % 256 / 8 ∧ X % 256 / 8 ≤ 31 := by omega
  have hyd : 0 ≤ Y % 256 / 8 ∧ Y % 256 / 8 ≤ 31 := by omega
  have ht : 0 ≤ c / 256 % 32 ∧ c / 256 % 32 ≤ 31 := by omega
  have hu : 0 ≤ c / 4 % 4 ∧ c / 4 % 4 ≤ 3 := by omega
  clear hP1 hP2 hP3 hQ1 hQ2 hQ3 hP0 hQ0 cw ch w0 hX hY hx hl sX sY
  generalize X % 256 / 8 = xd at *
  generalize Y % 256 / 8 = yd at *
  generalize X % 8 = x8 at *
  generalize Y % 8 = y8 at *
  rw [wi64_in Bp (by omega) (by omega), wi64_in Bq (by omega) (by omega), wi64_in (Bp + Bq) (by omega) (by omega), wi64_in xd (by omega) (by omega), wi64_in yd (by omega) (by omega), wi64_in (2048 * (c / 256 % 32)) (by omega) (by omega), wi64_in (2048 * (Bp + Bq)) (by omega) (by omega), wi64_in (2 * xd) (by omega) (by omega), wi64_in (64 * yd) (by omega) (by omega), wi64_in (16384 * (c / 4 % 4)) (by omega) (by omega), wi64_in (2048 * (c / 256 % 32) + 2048 * (Bp + Bq)) (by omega) (by omega), wi64_in (2048 * (c / 256 % 32) + 2048 * (Bp + Bq) + 2 * xd) (by omega) (by omega), wi64_in (2048 * (c / 256 % 32) + 2048 * (Bp + Bq) + 2 * xd + 64 * yd) (by omega) (by omega)]
  rw [show 2048 * (c / 256 % 32) + 2048 * (Bp + Bq) + 2 * (yd * 32 + xd) = 2048 * (c / 256 % 32) + 2048 * (Bp + Bq) + 2 * xd + 64 * yd by omega]
  have hAD : -1000000000 ≤ 2048 * (c / 256 % 32) + 2048 * (Bp + Bq) + 2 * xd + 64 * yd ∧ 2048 * (c / 256 % 32) + 2048 * (Bp + Bq) + 2 * xd + 64 * yd ≤ 1000000000 := by omega
  generalize 2048 * (c / 256 % 32) + 2048 * (Bp + Bq) + 2 * xd + 64 * yd = AD at *
  (repeat' (first | exact trivial | with_reducible rfl | exact decide_eq_true rfl | exact decide_eq_true trivial | exact sameB_self _ | with_reducible assumption | apply And.intro)) <;> try omega
  rintro y ⟨⟨hy, _⟩, hq⟩
  rw [← hq, tdot_tex]
  have f1 : (bif (IntKind.i64.wrap ((y.n 90000).tdiv 1024)).tmod 2 == 1 then IntKind.i64.wrap (7 - x8) else x8) = (if y.n 90000 / 1024 % 2 = 1 then 7 - x8 else x8) := by
    rw [Int.tdiv_eq_ediv_of_nonneg hy.1, wi64_in (y.n 90000 / 1024) (by omega) (by omega), Int.tmod_eq_emod_of_nonneg (by omega), wi64_in (7 - x8) (by omega) (by omega)]
    by_cases hb : y.n 90000 / 1024 % 2 = 1
    · rw [hb]; rfl
    · rw [if_neg hb, show (y.n 90000 / 1024 % 2 == 1) = false by simpa using hb]; rfl
  have f2 : (bif (IntKind.i64.wrap ((y.n 90000).tdiv 2048)).tmod 2 == 1 then IntKind.i64.wrap (7 - y8) else y8) = (if y.n 90000 / 2048 % 2 = 1 then 7 - y8 else y8) := by
    rw [Int.tdiv_eq_ediv_of_nonneg hy.1, wi64_in (y.n 90000 / 2048) (by omega) (by omega), Int.tmod_eq_emod_of_nonneg (by omega), wi64_in (7 - y8) (by omega) (by omega)]
    by_cases hb : y.n 90000 / 2048 % 2 = 1
    · rw [hb]; rfl
    · rw [if_neg hb, show (y.n 90000 / 2048 % 2 == 1) = false by simpa using hb]; rfl
  rw [f1, f2, Int.tdiv_eq_ediv_of_nonneg (b := 4096) hy.1, wi64_in (y.n 90000 / 4096) (by omega) (by omega), Int.tmod_eq_emod_of_nonneg (b := 1024) hy.1]
  have hS : (bif c / 128 % 2 == 1 then (64 : Int) else 32) = 64 ∨ (bif c / 128 % 2 == 1 then (64 : Int) else 32) = 32 := by cases (c / 128 % 2 == 1) <;> simp
  have gx : 0 ≤ (if y.n 90000 / 1024 % 2 = 1 then 7 - x8 else x8) ∧ (if y.n 90000 / 1024 % 2 = 1 then 7 - x8 else x8) ≤ 7 := by split <;> omega
  have gy : 0 ≤ (if y.n 90000 / 2048 % 2 = 1 then 7 - y8 else y8) ∧ (if y.n 90000 / 2048 % 2 = 1 then 7 - y8 else y8) ≤ 7 := by split <;> omega
  generalize (if y.n 90000 / 1024 % 2 = 1 then 7 - x8 else x8) = gX at *
  generalize (if y.n 90000 / 2048 % 2 = 1 then 7 - y8 else y8) = gY at *
  generalize (c / 128 % 2 == 1) = mb at *
  have hT : 0 ≤ (bif mb then (64 : Int) else 32) * (y.n 90000 % 1024) ∧ (bif mb then (64 : Int) else 32) * (y.n 90000 % 1024) ≤ 65472 := by rcases hS with h | h <;> rw [h] <;> omega
  rw [wi64_in ((bif mb then (64 : Int) else 32) * (y.n 90000 % 1024)) (by omega) (by omega)]
  generalize (bif mb then (64 : Int) else 32) * (y.n 90000 % 1024) = T at *
  rw [wi64_in (16384 * (c / 4 % 4) + T) (by omega) (by omega)]
  (repeat' (first | exact trivial | with_reducible rfl | exact decide_eq_true rfl | exact decide_eq_true trivial | exact sameB_self _ | with_reducible assumption | apply And.intro)) <;> try omega
  rintro y1 ⟨⟨hy1, _⟩, hq1⟩
  (repeat' (first | exact trivial | with_reducible rfl | exact decide_eq_true rfl | exact decide_eq_true trivial | exact sameB_self _ | with_reducible assumption | apply And.intro)) <;> (first | omega | done)
end Go.Proofs.Ytdomhmajoclpeaa

