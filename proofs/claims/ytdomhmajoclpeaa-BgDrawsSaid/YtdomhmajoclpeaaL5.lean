import Derived.Test.YtdomhmajoclpeaaL3
import Derived.Test.YtdomhmajoclpeaaL4
set_option linter.unusedVariables false
set_option linter.unusedSimpArgs false
namespace Go.Proofs.Ytdomhmajoclpeaa
open Go Go.Proofs Go.Proofs.Ytdomhmajoclpeaa.Ev Go.Proofs.Ytdomhmajoclpeaa.Ev.Ho Go.IntKind
set_option maxRecDepth 100000
theorem dvW {x W : Int} (h0 : 0 ≤ x ∧ x ≤ 239) (hW : 1 ≤ W ∧ W ≤ 16) : IntKind.i64.wrap (IntKind.i64.wrap (x.tdiv W) * W) = x / W * W ∧ 0 ≤ x / W * W ∧ x / W * W ≤ x := by
  have a := Int.emod_nonneg x (show W ≠ 0 by omega)
  have b := Int.emod_lt_of_pos x (show 0 < W by omega)
  have c := Int.emod_add_mul_ediv x W
  have d := Int.ediv_nonneg h0.1 (show 0 ≤ W by omega)
  have e := Int.mul_nonneg d (show 0 ≤ W by omega)
  have f : W * (x / W) = x / W * W := Int.mul_comm _ _
  have g : x / W ≤ x := Int.ediv_le_self _ h0.1
  rw [Int.tdiv_eq_ediv_of_nonneg h0.1, wi64_in (x / W) (by omega) (by omega), wi64_in _ (by omega) (by omega)]
  omega
theorem dv_sub (x W : Int) : x / W * W = x - x % W := by
  have c := Int.emod_add_mul_ediv x W
  have f : W * (x / W) = x / W * W := Int.mul_comm _ _
  omega
theorem dot_eq {s : Sc} {i line W H : Int} (h : shP s.ctl i) (h0 : 0 ≤ line) (h1 : line < 160) (hW : wdF s i = W) (hH : hgF s i = H) (x : Int) : dotF s i x line = pixF s i (x / W * W) (line - line % H) (line % H) := by
  unfold dotF
  rw [@if_pos _ (Classical.propDecidable _) ⟨h, h0, h1⟩, hW, hH]
theorem bm_pix {s : Sc} {i x l b px py : Int} (h : 3 ≤ s.ctl % 8 ∧ s.ctl % 8 ≤ 5) (hx : pxF s i x b = px) (hy : pyF s i x b = py) : pixF s i x l b = bmF s px py := by
  unfold bmF
  by_cases h5 : s.ctl % 8 = 5
  · rw [pix5 h5, if_pos h5, hx, hy]
  · rw [if_neg h5]
    by_cases h4 : s.ctl % 8 = 4
    · rw [pix4 h4, if_pos h4, hx, hy]
    · rw [pix3 (by omega), if_neg h4, if_neg (show ¬(3 : Int) < s.ctl % 8 by omega), hx, hy]
      unfold dirF
      rw [show 0 + 2 * (240 * py + px) = 2 * (py * 240 + px) by omega]
theorem w32b (u : Int) : -2147483648 ≤ IntKind.i32.wrap u ∧ IntKind.i32.wrap u ≤ 2147483647 := by rw [wi32]; omega
theorem s20 (a b : Int) : selI [a, b] (IntKind.i64.wrap (2 - 2)) = a := rfl
theorem s21 (a b : Int) : selI [a, b] (IntKind.i64.wrap (3 - 2)) = b := rfl
theorem kd_1 {c i : Int} (h : exP c i) : kdF c i = 1 ↔ (c % 8 = 0 ∨ (0 < c % 8 ∧ c % 8 < 3 ∧ i < 2)) := by
  unfold kdF; unfold exP at h; (repeat' split) <;> omega
theorem kd_2 {c i : Int} (h : exP c i) (h1 : ¬kdF c i = 1) : kdF c i = 2 ↔ (0 < c % 8 ∧ c % 8 < 3 ∧ 2 ≤ i) := by
  rw [kd_1 h] at h1; unfold kdF; unfold exP at h; (repeat' split) <;> omega
theorem kd_3 {c i : Int} (h : exP c i) (h1 : ¬kdF c i = 1) (h2 : ¬kdF c i = 2) : 3 ≤ c % 8 ∧ c % 8 ≤ 5 ∧ i = 2 := by
  rw [kd_2 h h1] at h2; rw [kd_1 h] at h1; unfold exP at h; omega
noncomputable def orcBR (E : World) : Orc := fun g vs s => match g with
  | 21 => (match frGo [mSr 1, rowB, rowB, rowB] vs s (fun vs0 π s1 s0 => match vs0 with
      | [.c (.p 0 0), .c (.i l2 .i64 i), .c (.i l3 .i64 x), .c (.i l4 .i64 l)] => some (hrG (pre := fun z => (ROk (z.l 1) (z.n 26).toNat ∧ ROk (z.l 2) (z.n 27).toNat) ∧ (0 ≤ i ∧ i ≤ 3) ∧ (0 ≤ x ∧ x ≤ 239) ∧ 0 ≤ l ∧ l ≤ 159) (fun z hz hp => HR.args (vs := [.c (.p 0 0), .c (.i l2 .i64 i), .c (.i l3 .i64 x), .c (.i l4 .i64 l)]) (by simp [simL, SV.sim, C.sim]) (rtextR_c E i x l z hz hp)) (by rfl) π s1 s0)
      | _ => none) with
    | some t => some t
    | none => (orcRfR E) g vs s)
  | 22 => (match frGo [mSr 1, rowB, rowB, rowB] vs s (fun vs0 π s1 s0 => match vs0 with
      | [.c (.p 0 0), .c (.i l2 .i64 i), .c (.i l3 .i64 x), .c (.i l4 .i64 w)] => some (hrG (pre := fun z => (ROk (z.l 1) (z.n 26).toNat ∧ ROk (z.l 2) (z.n 27).toNat) ∧ (0 ≤ i ∧ i ≤ 3) ∧ (-8388608 ≤ x ∧ x ≤ 8388607) ∧ -8388608 ≤ w ∧ w ≤ 8388607) (fun z hz hp => HR.args (vs := [.c (.p 0 0), .c (.i l2 .i64 i), .c (.i l3 .i64 x), .c (.i l4 .i64 w)]) (by simp [simL, SV.sim, C.sim]) (rturnR_c E i x w z hz hp)) (by rfl) π s1 s0)
      | _ => none) with
    | some t => some t
    | none => (orcRfR E) g vs s)
  | 24 => (match frGo [mSr 1, rowB, rowB, rowB] vs s (fun vs0 π s1 s0 => match vs0 with
      | [.c (.p 0 0), .c (.i l2 .i64 x), .c (.i l3 .i64 w)] => some (hrG (pre := fun z => (ROk (z.l 1) (z.n 26).toNat ∧ ROk (z.l 2) (z.n 27).toNat) ∧ (-8388608 ≤ x ∧ x ≤ 8388607) ∧ -8388608 ≤ w ∧ w ≤ 8388607) (fun z hz hp => HR.args (vs := [.c (.p 0 0), .c (.i l2 .i64 x), .c (.i l3 .i64 w)]) (by simp [simL, SV.sim, C.sim]) (rbitR_c E x w z hz hp)) (by rfl) π s1 s0)
      | _ => none) with
    | some t => some t
    | none => (orcRfR E) g vs s)
  | g => (orcRfR E) g vs s
theorem orcBR_ok {E : World} : OrcOK (pe E) (orcBR E) := by
  intro g vs s t h
  unfold orcBR at h
  split at h
  · split at h
    · rename_i hfr; cases h
      obtain ⟨π, s1, hq, hK, hv, hok, hpd⟩ := frGo_spec (P := pe E) hfr
      split at hK
      · rename_i heq; cases hK
        rw [heq] at hv hok
        exact hpd _ _ (hrG_ok _ _ (by rfl) π s1 hq hv hok)
      · cases hK
    · exact orcRfR_ok _ _ _ _ h
  · split at h
    · rename_i hfr; cases h
      obtain ⟨π, s1, hq, hK, hv, hok, hpd⟩ := frGo_spec (P := pe E) hfr
      split at hK
      · rename_i heq; cases hK
        rw [heq] at hv hok
        exact hpd _ _ (hrG_ok _ _ (by rfl) π s1 hq hv hok)
      · cases hK
    · exact orcRfR_ok _ _ _ _ h
  · split at h
    · rename_i hfr; cases h
      obtain ⟨π, s1, hq, hK, hv, hok, hpd⟩ := frGo_spec (P := pe E) hfr
      split at hK
      · rename_i heq; cases hK
        rw [heq] at hv hok
        exact hpd _ _ (hrG_ok _ _ (by rfl) π s1 hq hv hok)
      · cases hK
    · exact orcRfR_ok _ _ _ _ h
  · exact orcRfR_ok _ _ _ _ h
theorem dotR_p (E : World) (z : PX) (i x line : Int) :
    (hoPr true [mSr 1, rowB, rowB, rowB] [] (.c (.r .u16 0 32768)) (fun z y => y.n 90000 = dotF (scM z 0 (bR (z.l 1) (z.n 26).toNat) (z.n 26).toNat (bR (z.l 2) (z.n 27).toNat) (z.n 27).toNat) i x line) z (fnTree (pe E) (orcBR E) (tabL fns) 20000 Try.f12 [.c (.p 0 0), .c (.i false .i64 i), .c (.i false .i64 x), .c (.i false .i64 line)] (mkM z [] [mSr 1, rowB, rowB, rowB] 0))) =
    (((54 = 54 ∧ (rgS z 0 (True)) ∧ rw3 z 1 (([] : SW) = [])) ∧ True) ∧ ∀ (y : PX), True ∧ y.b 90000 = shF (z.n 0) i → ((!y.b 90000) = true → (((0 : Int) ≤ (32768 : Int) ∧ (32768 : Int) ≤ 32768) ∧ True) ∧ mkM z [] [mSr (1 : Nat), rowB, rowB, rowB] (0 : Nat) = mkM z [] [mSr (1 : Nat), rowB, rowB, rowB] (0 : Nat) ∧ 32768 = dotF (scM z 0 (bR (z.l 1) (z.n 26).toNat) (z.n 26).toNat (bR (z.l 2) (z.n 27).toNat) (z.n 27).toNat) i x line) ∧ ((!y.b 90000) = false → (decide (line < 0) = true → (((0 : Int) ≤ (32768 : Int) ∧ (32768 : Int) ≤ 32768) ∧ True) ∧ mkM z [] [mSr (1 : Nat), rowB, rowB, rowB] (0 : Nat) = mkM z [] [mSr (1 : Nat), rowB, rowB, rowB] (0 : Nat) ∧ 32768 = dotF (scM z 0 (bR (z.l 1) (z.n 26).toNat) (z.n 26).toNat (bR (z.l 2) (z.n 27).toNat) (z.n 27).toNat) i x line) ∧ (decide (line < 0) = false → (decide (line > 159) = true → (((0 : Int) ≤ (32768 : Int) ∧ (32768 : Int) ≤ 32768) ∧ True) ∧ mkM z [] [mSr (1 : Nat), rowB, rowB, rowB] (0 : Nat) = mkM z [] [mSr (1 : Nat), rowB, rowB, rowB] (0 : Nat) ∧ 32768 = dotF (scM z 0 (bR (z.l 1) (z.n 26).toNat) (z.n 26).toNat (bR (z.l 2) (z.n 27).toNat) (z.n 27).toNat) i x line) ∧ (decide (line > 159) = false → inB i (4 : Nat) = true ∧ ((((i64.wrap (selI [z.n 1, z.n 2, z.n 3, z.n 4] i)).fdiv 64).tmod (2 : Int) == 1) = true → (!decide (i64.wrap (((i64.wrap (z.n 25)).fdiv 1).tmod (16 : Int) + 1) = 0)) = true ∧ ((54 = 54 ∧ (rgS z 0 (True)) ∧ rw3 z 1 (([] : SW) = [])) ∧ True) ∧ ∀ (y : PX), ((0 ≤ y.n 90000 ∧ y.n 90000 ≤ 3) ∧ True) ∧ y.n 90000 = kdF (z.n 0) i → ((y.n 90000 == 1) = true → (!decide (i64.wrap (((i64.wrap (z.n 25)).fdiv 16).tmod (16 : Int) + 1) = 0)) = true ∧ ((54 = 54 ∧ (rgS z 0 (True)) ∧ rw3 z 1 (([] : SW) = [])) ∧ (ROk (z.l 1) (↑(z.n 26).toNat : Int).toNat ∧ ROk (z.l 2) (↑(z.n 27).toNat : Int).toNat) ∧ (0 ≤ i ∧ i ≤ 3) ∧ (0 ≤ i64.wrap (i64.wrap (x.tdiv (i64.wrap (((i64.wrap (z.n 25)).fdiv 1).tmod (16 : Int) + 1))) * i64.wrap (((i64.wrap (z.n 25)).fdiv 1).tmod (16 : Int) + 1)) ∧ i64.wrap (i64.wrap (x.tdiv (i64.wrap
      (((i64.wrap (z.n 25)).fdiv 1).tmod (16 : Int) + 1))) * i64.wrap (((i64.wrap (z.n 25)).fdiv 1).tmod (16 : Int) + 1)) ≤ 239) ∧ 0 ≤ i64.wrap (i64.wrap (line.tdiv (i64.wrap (((i64.wrap (z.n 25)).fdiv 16).tmod (16 : Int) + 1))) * i64.wrap (((i64.wrap (z.n 25)).fdiv 16).tmod (16 : Int) + 1)) ∧ i64.wrap (i64.wrap (line.tdiv (i64.wrap (((i64.wrap (z.n 25)).fdiv 16).tmod (16 : Int) + 1))) * i64.wrap (((i64.wrap (z.n 25)).fdiv 16).tmod (16 : Int) + 1)) ≤ 159) ∧ ∀ (y : PX), ((0 ≤ y.n 90000 ∧ y.n 90000 ≤ 32768) ∧ True) ∧ y.n 90000 = textF (scM z 0 (bR (z.l 1) (↑(z.n 26).toNat : Int).toNat) (↑(z.n 26).toNat : Int).toNat (bR (z.l 2) (↑(z.n 27).toNat : Int).toNat) (↑(z.n 27).toNat : Int).toNat) i (selI [z.n 1, z.n 2, z.n 3, z.n 4] i) (i64.wrap (i64.wrap (x.tdiv (i64.wrap (((i64.wrap (z.n 25)).fdiv 1).tmod (16 : Int) + 1))) * i64.wrap (((i64.wrap (z.n 25)).fdiv 1).tmod (16 : Int) + 1))) (i64.wrap (i64.wrap (line.tdiv (i64.wrap (((i64.wrap (z.n 25)).fdiv 16).tmod (16 : Int) + 1))) * i64.wrap (((i64.wrap (z.n 25)).fdiv 16).tmod (16 : Int) + 1))) → ((0 ≤ y.n 90000 ∧ y.n 90000 ≤ 32768) ∧ True) ∧ mkM z [] [mSr (1 : Nat), rowB, rowB, rowB] (0 : Nat) = mkM z [] [mSr (1 : Nat), rowB, rowB, rowB] (0 : Nat) ∧ y.n 90000 = dotF (scM z 0 (bR (z.l 1) (z.n 26).toNat) (z.n 26).toNat (bR (z.l 2) (z.n 27).toNat) (z.n 27).toNat) i x line) ∧ ((y.n 90000 == 1) = false → (!decide (i64.wrap (((i64.wrap (z.n 25)).fdiv 16).tmod (16 : Int) + 1) = 0)) = true ∧ inB (i64.wrap (i - 2)) (2 : Nat) = true ∧ inB (i64.wrap (i - 2)) (2 : Nat) = true ∧ inB (i64.wrap (i - 2)) (2 : Nat) = true ∧ inB (i64.wrap (i - 2)) (2 : Nat) = true ∧ inB (i64.wrap (i - 2)) (2 : Nat) = true ∧ inB (i64.wrap (i - 2)) (2 : Nat) = true ∧ ((54 = 54 ∧ (rgS z 0 (True)) ∧ rw3 z 1 (([] : SW) = [])) ∧ True) ∧ ∀ (y : PX), ((0 ≤ y.n 90000 ∧ y.n 90000 ≤ 3) ∧ True) ∧ y.n 90000 = kdF (z.n 0) i → ((y.n 90000 == 2) = true → (([] : SW) = [] ∧ (-2147483648) ≤ i32.wrap (i32.wrap (selI [z.n 21, z.n 23] (i64.wrap (i - 2)) + i32.wrap (i32.wrap
      (i64.wrap (i64.wrap (x.tdiv (i64.wrap (((i64.wrap (z.n 25)).fdiv 1).tmod (16 : Int) + 1))) * i64.wrap (((i64.wrap (z.n 25)).fdiv 1).tmod (16 : Int) + 1))) * i32.wrap (selI [z.n 13, z.n 17] (i64.wrap (i - 2))))) - i32.wrap (i32.wrap (line.tmod (i64.wrap (((i64.wrap (z.n 25)).fdiv 16).tmod (16 : Int) + 1))) * i32.wrap (selI [z.n 14, z.n 18] (i64.wrap (i - 2))))) ∧ i32.wrap (i32.wrap (selI [z.n 21, z.n 23] (i64.wrap (i - 2)) + i32.wrap (i32.wrap (i64.wrap (i64.wrap (x.tdiv (i64.wrap (((i64.wrap (z.n 25)).fdiv 1).tmod (16 : Int) + 1))) * i64.wrap (((i64.wrap (z.n 25)).fdiv 1).tmod (16 : Int) + 1))) * i32.wrap (selI [z.n 13, z.n 17] (i64.wrap (i - 2))))) - i32.wrap (i32.wrap (line.tmod (i64.wrap (((i64.wrap (z.n 25)).fdiv 16).tmod (16 : Int) + 1))) * i32.wrap (selI [z.n 14, z.n 18] (i64.wrap (i - 2))))) ≤ 2147483647) ∧ ∀ (y : PX), (((-8388608) ≤ y.n 90000 ∧ y.n 90000 ≤ 8388607) ∧ True) ∧ y.n 90000 = i32.wrap (i32.wrap (selI [z.n 21, z.n 23] (i64.wrap (i - 2)) + i32.wrap (i32.wrap (i64.wrap (i64.wrap (x.tdiv (i64.wrap (((i64.wrap (z.n 25)).fdiv 1).tmod (16 : Int) + 1))) * i64.wrap (((i64.wrap (z.n 25)).fdiv 1).tmod (16 : Int) + 1))) * i32.wrap (selI [z.n 13, z.n 17] (i64.wrap (i - 2))))) - i32.wrap (i32.wrap (line.tmod (i64.wrap (((i64.wrap (z.n 25)).fdiv 16).tmod (16 : Int) + 1))) * i32.wrap (selI [z.n 14, z.n 18] (i64.wrap (i - 2))))) / 256 → (([] : SW) = [] ∧ (-2147483648) ≤ i32.wrap (i32.wrap (selI [z.n 22, z.n 24] (i64.wrap (i - 2)) + i32.wrap (i32.wrap (i64.wrap (i64.wrap (x.tdiv (i64.wrap (((i64.wrap (z.n 25)).fdiv 1).tmod (16 : Int) + 1))) * i64.wrap (((i64.wrap (z.n 25)).fdiv 1).tmod (16 : Int) + 1))) * i32.wrap (selI [z.n 15, z.n 19] (i64.wrap (i - 2))))) - i32.wrap (i32.wrap (line.tmod (i64.wrap (((i64.wrap (z.n 25)).fdiv 16).tmod (16 : Int) + 1))) * i32.wrap (selI [z.n 16, z.n 20] (i64.wrap (i - 2))))) ∧ i32.wrap (i32.wrap (selI [z.n 22, z.n 24] (i64.wrap (i - 2)) + i32.wrap (i32.wrap (i64.wrap (i64.wrap (x.tdiv (i64.wrap (((i64.wrap (z.n 25)).fdiv
      1).tmod (16 : Int) + 1))) * i64.wrap (((i64.wrap (z.n 25)).fdiv 1).tmod (16 : Int) + 1))) * i32.wrap (selI [z.n 15, z.n 19] (i64.wrap (i - 2))))) - i32.wrap (i32.wrap (line.tmod (i64.wrap (((i64.wrap (z.n 25)).fdiv 16).tmod (16 : Int) + 1))) * i32.wrap (selI [z.n 16, z.n 20] (i64.wrap (i - 2))))) ≤ 2147483647) ∧ ∀ (y_1 : PX), (((-8388608) ≤ y_1.n 90000 ∧ y_1.n 90000 ≤ 8388607) ∧ True) ∧ y_1.n 90000 = i32.wrap (i32.wrap (selI [z.n 22, z.n 24] (i64.wrap (i - 2)) + i32.wrap (i32.wrap (i64.wrap (i64.wrap (x.tdiv (i64.wrap (((i64.wrap (z.n 25)).fdiv 1).tmod (16 : Int) + 1))) * i64.wrap (((i64.wrap (z.n 25)).fdiv 1).tmod (16 : Int) + 1))) * i32.wrap (selI [z.n 15, z.n 19] (i64.wrap (i - 2))))) - i32.wrap (i32.wrap (line.tmod (i64.wrap (((i64.wrap (z.n 25)).fdiv 16).tmod (16 : Int) + 1))) * i32.wrap (selI [z.n 16, z.n 20] (i64.wrap (i - 2))))) / 256 → ((54 = 54 ∧ (rgS z 0 (True)) ∧ rw3 z 1 (([] : SW) = [])) ∧ (ROk (z.l 1) (↑(z.n 26).toNat : Int).toNat ∧ ROk (z.l 2) (↑(z.n 27).toNat : Int).toNat) ∧ (0 ≤ i ∧ i ≤ 3) ∧ ((-8388608) ≤ y.n 90000 ∧ y.n 90000 ≤ 8388607) ∧ (-8388608) ≤ y_1.n 90000 ∧ y_1.n 90000 ≤ 8388607) ∧ ∀ (y_2 : PX), ((0 ≤ y_2.n 90000 ∧ y_2.n 90000 ≤ 32768) ∧ True) ∧ y_2.n 90000 = turnF (scM z 0 (bR (z.l 1) (↑(z.n 26).toNat : Int).toNat) (↑(z.n 26).toNat : Int).toNat (bR (z.l 2) (↑(z.n 27).toNat : Int).toNat) (↑(z.n 27).toNat : Int).toNat) (selI [z.n 1, z.n 2, z.n 3, z.n 4] i) (y.n 90000) (y_1.n 90000) → ((0 ≤ y_2.n 90000 ∧ y_2.n 90000 ≤ 32768) ∧ True) ∧ mkM z [] [mSr (1 : Nat), rowB, rowB, rowB] (0 : Nat) = mkM z [] [mSr (1 : Nat), rowB, rowB, rowB] (0 : Nat) ∧ y_2.n 90000 = dotF (scM z 0 (bR (z.l 1) (z.n 26).toNat) (z.n 26).toNat (bR (z.l 2) (z.n 27).toNat) (z.n 27).toNat) i x line) ∧ ((y.n 90000 == 2) = false → (([] : SW) = [] ∧ (-2147483648) ≤ i32.wrap (i32.wrap (selI [z.n 21, z.n 23] (i64.wrap (i - 2)) + i32.wrap (i32.wrap (i64.wrap (i64.wrap (x.tdiv (i64.wrap (((i64.wrap (z.n 25)).fdiv 1).tmod (16 : Int) + 1))) * i64.wrap (((i64.wrap (z.n 25)).fdiv
      1).tmod (16 : Int) + 1))) * i32.wrap (selI [z.n 13, z.n 17] (i64.wrap (i - 2))))) - i32.wrap (i32.wrap (line.tmod (i64.wrap (((i64.wrap (z.n 25)).fdiv 16).tmod (16 : Int) + 1))) * i32.wrap (selI [z.n 14, z.n 18] (i64.wrap (i - 2))))) ∧ i32.wrap (i32.wrap (selI [z.n 21, z.n 23] (i64.wrap (i - 2)) + i32.wrap (i32.wrap (i64.wrap (i64.wrap (x.tdiv (i64.wrap (((i64.wrap (z.n 25)).fdiv 1).tmod (16 : Int) + 1))) * i64.wrap (((i64.wrap (z.n 25)).fdiv 1).tmod (16 : Int) + 1))) * i32.wrap (selI [z.n 13, z.n 17] (i64.wrap (i - 2))))) - i32.wrap (i32.wrap (line.tmod (i64.wrap (((i64.wrap (z.n 25)).fdiv 16).tmod (16 : Int) + 1))) * i32.wrap (selI [z.n 14, z.n 18] (i64.wrap (i - 2))))) ≤ 2147483647) ∧ ∀ (y : PX), (((-8388608) ≤ y.n 90000 ∧ y.n 90000 ≤ 8388607) ∧ True) ∧ y.n 90000 = i32.wrap (i32.wrap (selI [z.n 21, z.n 23] (i64.wrap (i - 2)) + i32.wrap (i32.wrap (i64.wrap (i64.wrap (x.tdiv (i64.wrap (((i64.wrap (z.n 25)).fdiv 1).tmod (16 : Int) + 1))) * i64.wrap (((i64.wrap (z.n 25)).fdiv 1).tmod (16 : Int) + 1))) * i32.wrap (selI [z.n 13, z.n 17] (i64.wrap (i - 2))))) - i32.wrap (i32.wrap (line.tmod (i64.wrap (((i64.wrap (z.n 25)).fdiv 16).tmod (16 : Int) + 1))) * i32.wrap (selI [z.n 14, z.n 18] (i64.wrap (i - 2))))) / 256 → (([] : SW) = [] ∧ (-2147483648) ≤ i32.wrap (i32.wrap (selI [z.n 22, z.n 24] (i64.wrap (i - 2)) + i32.wrap (i32.wrap (i64.wrap (i64.wrap (x.tdiv (i64.wrap (((i64.wrap (z.n 25)).fdiv 1).tmod (16 : Int) + 1))) * i64.wrap (((i64.wrap (z.n 25)).fdiv 1).tmod (16 : Int) + 1))) * i32.wrap (selI [z.n 15, z.n 19] (i64.wrap (i - 2))))) - i32.wrap (i32.wrap (line.tmod (i64.wrap (((i64.wrap (z.n 25)).fdiv 16).tmod (16 : Int) + 1))) * i32.wrap (selI [z.n 16, z.n 20] (i64.wrap (i - 2))))) ∧ i32.wrap (i32.wrap (selI [z.n 22, z.n 24] (i64.wrap (i - 2)) + i32.wrap (i32.wrap (i64.wrap (i64.wrap (x.tdiv (i64.wrap (((i64.wrap (z.n 25)).fdiv 1).tmod (16 : Int) + 1))) * i64.wrap (((i64.wrap (z.n 25)).fdiv 1).tmod (16 : Int) + 1))) * i32.wrap (selI [z.n 15, z.n 19] (i64.wrap
      (i - 2))))) - i32.wrap (i32.wrap (line.tmod (i64.wrap (((i64.wrap (z.n 25)).fdiv 16).tmod (16 : Int) + 1))) * i32.wrap (selI [z.n 16, z.n 20] (i64.wrap (i - 2))))) ≤ 2147483647) ∧ ∀ (y_1 : PX), (((-8388608) ≤ y_1.n 90000 ∧ y_1.n 90000 ≤ 8388607) ∧ True) ∧ y_1.n 90000 = i32.wrap (i32.wrap (selI [z.n 22, z.n 24] (i64.wrap (i - 2)) + i32.wrap (i32.wrap (i64.wrap (i64.wrap (x.tdiv (i64.wrap (((i64.wrap (z.n 25)).fdiv 1).tmod (16 : Int) + 1))) * i64.wrap (((i64.wrap (z.n 25)).fdiv 1).tmod (16 : Int) + 1))) * i32.wrap (selI [z.n 15, z.n 19] (i64.wrap (i - 2))))) - i32.wrap (i32.wrap (line.tmod (i64.wrap (((i64.wrap (z.n 25)).fdiv 16).tmod (16 : Int) + 1))) * i32.wrap (selI [z.n 16, z.n 20] (i64.wrap (i - 2))))) / 256 → ((54 = 54 ∧ (rgS z 0 (True)) ∧ rw3 z 1 (([] : SW) = [])) ∧ (ROk (z.l 1) (↑(z.n 26).toNat : Int).toNat ∧ ROk (z.l 2) (↑(z.n 27).toNat : Int).toNat) ∧ ((-8388608) ≤ y.n 90000 ∧ y.n 90000 ≤ 8388607) ∧ (-8388608) ≤ y_1.n 90000 ∧ y_1.n 90000 ≤ 8388607) ∧ ∀ (y_2 : PX), ((0 ≤ y_2.n 90000 ∧ y_2.n 90000 ≤ 32768) ∧ True) ∧ y_2.n 90000 = bmF (scM z 0 (bR (z.l 1) (↑(z.n 26).toNat : Int).toNat) (↑(z.n 26).toNat : Int).toNat (bR (z.l 2) (↑(z.n 27).toNat : Int).toNat) (↑(z.n 27).toNat : Int).toNat) (y.n 90000) (y_1.n 90000) → ((0 ≤ y_2.n 90000 ∧ y_2.n 90000 ≤ 32768) ∧ True) ∧ mkM z [] [mSr (1 : Nat), rowB, rowB, rowB] (0 : Nat) = mkM z [] [mSr (1 : Nat), rowB, rowB, rowB] (0 : Nat) ∧ y_2.n 90000 = dotF (scM z 0 (bR (z.l 1) (z.n 26).toNat) (z.n 26).toNat (bR (z.l 2) (z.n 27).toNat) (z.n 27).toNat) i x line))) ∧ ((((i64.wrap (selI [z.n 1, z.n 2, z.n 3, z.n 4] i)).fdiv 64).tmod (2 : Int) == 1) = false → ((54 = 54 ∧ (rgS z 0 (True)) ∧ rw3 z 1 (([] : SW) = [])) ∧ True) ∧ ∀ (y : PX), ((0 ≤ y.n 90000 ∧ y.n 90000 ≤ 3) ∧ True) ∧ y.n 90000 = kdF (z.n 0) i → ((y.n 90000 == 1) = true → ((54 = 54 ∧ (rgS z 0 (True)) ∧ rw3 z 1 (([] : SW) = [])) ∧ (ROk (z.l 1) (↑(z.n 26).toNat : Int).toNat ∧ ROk (z.l 2) (↑(z.n 27).toNat : Int).toNat) ∧ (0 ≤ i ∧ i ≤ 3) ∧ (0 ≤ i64.wrap (i64.wrap
      (x.tdiv 1) * 1) ∧ i64.wrap (i64.wrap (x.tdiv 1) * 1) ≤ 239) ∧ 0 ≤ i64.wrap (i64.wrap (line.tdiv 1) * 1) ∧ i64.wrap (i64.wrap (line.tdiv 1) * 1) ≤ 159) ∧ ∀ (y : PX), ((0 ≤ y.n 90000 ∧ y.n 90000 ≤ 32768) ∧ True) ∧ y.n 90000 = textF (scM z 0 (bR (z.l 1) (↑(z.n 26).toNat : Int).toNat) (↑(z.n 26).toNat : Int).toNat (bR (z.l 2) (↑(z.n 27).toNat : Int).toNat) (↑(z.n 27).toNat : Int).toNat) i (selI [z.n 1, z.n 2, z.n 3, z.n 4] i) (i64.wrap (i64.wrap (x.tdiv 1) * 1)) (i64.wrap (i64.wrap (line.tdiv 1) * 1)) → ((0 ≤ y.n 90000 ∧ y.n 90000 ≤ 32768) ∧ True) ∧ mkM z [] [mSr (1 : Nat), rowB, rowB, rowB] (0 : Nat) = mkM z [] [mSr (1 : Nat), rowB, rowB, rowB] (0 : Nat) ∧ y.n 90000 = dotF (scM z 0 (bR (z.l 1) (z.n 26).toNat) (z.n 26).toNat (bR (z.l 2) (z.n 27).toNat) (z.n 27).toNat) i x line) ∧ ((y.n 90000 == 1) = false → inB (i64.wrap (i - 2)) (2 : Nat) = true ∧ inB (i64.wrap (i - 2)) (2 : Nat) = true ∧ inB (i64.wrap (i - 2)) (2 : Nat) = true ∧ inB (i64.wrap (i - 2)) (2 : Nat) = true ∧ inB (i64.wrap (i - 2)) (2 : Nat) = true ∧ inB (i64.wrap (i - 2)) (2 : Nat) = true ∧ ((54 = 54 ∧ (rgS z 0 (True)) ∧ rw3 z 1 (([] : SW) = [])) ∧ True) ∧ ∀ (y : PX), ((0 ≤ y.n 90000 ∧ y.n 90000 ≤ 3) ∧ True) ∧ y.n 90000 = kdF (z.n 0) i → ((y.n 90000 == 2) = true → (([] : SW) = [] ∧ (-2147483648) ≤ i32.wrap (i32.wrap (selI [z.n 21, z.n 23] (i64.wrap (i - 2)) + i32.wrap (i32.wrap (i64.wrap (i64.wrap (x.tdiv 1) * 1)) * i32.wrap (selI [z.n 13, z.n 17] (i64.wrap (i - 2))))) - i32.wrap (i32.wrap (line.tmod 1) * i32.wrap (selI [z.n 14, z.n 18] (i64.wrap (i - 2))))) ∧ i32.wrap (i32.wrap (selI [z.n 21, z.n 23] (i64.wrap (i - 2)) + i32.wrap (i32.wrap (i64.wrap (i64.wrap (x.tdiv 1) * 1)) * i32.wrap (selI [z.n 13, z.n 17] (i64.wrap (i - 2))))) - i32.wrap (i32.wrap (line.tmod 1) * i32.wrap (selI [z.n 14, z.n 18] (i64.wrap (i - 2))))) ≤ 2147483647) ∧ ∀ (y : PX), (((-8388608) ≤ y.n 90000 ∧ y.n 90000 ≤ 8388607) ∧ True) ∧ y.n 90000 = i32.wrap (i32.wrap (selI [z.n 21, z.n 23] (i64.wrap (i - 2)) + i32.wrap (i32.wrap
      (i64.wrap (i64.wrap (x.tdiv 1) * 1)) * i32.wrap (selI [z.n 13, z.n 17] (i64.wrap (i - 2))))) - i32.wrap (i32.wrap (line.tmod 1) * i32.wrap (selI [z.n 14, z.n 18] (i64.wrap (i - 2))))) / 256 → (([] : SW) = [] ∧ (-2147483648) ≤ i32.wrap (i32.wrap (selI [z.n 22, z.n 24] (i64.wrap (i - 2)) + i32.wrap (i32.wrap (i64.wrap (i64.wrap (x.tdiv 1) * 1)) * i32.wrap (selI [z.n 15, z.n 19] (i64.wrap (i - 2))))) - i32.wrap (i32.wrap (line.tmod 1) * i32.wrap (selI [z.n 16, z.n 20] (i64.wrap (i - 2))))) ∧ i32.wrap (i32.wrap (selI [z.n 22, z.n 24] (i64.wrap (i - 2)) + i32.wrap (i32.wrap (i64.wrap (i64.wrap (x.tdiv 1) * 1)) * i32.wrap (selI [z.n 15, z.n 19] (i64.wrap (i - 2))))) - i32.wrap (i32.wrap (line.tmod 1) * i32.wrap (selI [z.n 16, z.n 20] (i64.wrap (i - 2))))) ≤ 2147483647) ∧ ∀ (y_1 : PX), (((-8388608) ≤ y_1.n 90000 ∧ y_1.n 90000 ≤ 8388607) ∧ True) ∧ y_1.n 90000 = i32.wrap (i32.wrap (selI [z.n 22, z.n 24] (i64.wrap (i - 2)) + i32.wrap (i32.wrap (i64.wrap (i64.wrap (x.tdiv 1) * 1)) * i32.wrap (selI [z.n 15, z.n 19] (i64.wrap (i - 2))))) - i32.wrap (i32.wrap (line.tmod 1) * i32.wrap (selI [z.n 16, z.n 20] (i64.wrap (i - 2))))) / 256 → ((54 = 54 ∧ (rgS z 0 (True)) ∧ rw3 z 1 (([] : SW) = [])) ∧ (ROk (z.l 1) (↑(z.n 26).toNat : Int).toNat ∧ ROk (z.l 2) (↑(z.n 27).toNat : Int).toNat) ∧ (0 ≤ i ∧ i ≤ 3) ∧ ((-8388608) ≤ y.n 90000 ∧ y.n 90000 ≤ 8388607) ∧ (-8388608) ≤ y_1.n 90000 ∧ y_1.n 90000 ≤ 8388607) ∧ ∀ (y_2 : PX), ((0 ≤ y_2.n 90000 ∧ y_2.n 90000 ≤ 32768) ∧ True) ∧ y_2.n 90000 = turnF (scM z 0 (bR (z.l 1) (↑(z.n 26).toNat : Int).toNat) (↑(z.n 26).toNat : Int).toNat (bR (z.l 2) (↑(z.n 27).toNat : Int).toNat) (↑(z.n 27).toNat : Int).toNat) (selI [z.n 1, z.n 2, z.n 3, z.n 4] i) (y.n 90000) (y_1.n 90000) → ((0 ≤ y_2.n 90000 ∧ y_2.n 90000 ≤ 32768) ∧ True) ∧ mkM z [] [mSr (1 : Nat), rowB, rowB, rowB] (0 : Nat) = mkM z [] [mSr (1 : Nat), rowB, rowB, rowB] (0 : Nat) ∧ y_2.n 90000 = dotF (scM z 0 (bR (z.l 1) (z.n 26).toNat) (z.n 26).toNat (bR (z.l 2) (z.n 27).toNat) (z.n 27).toNat) i
      x line) ∧ ((y.n 90000 == 2) = false → (([] : SW) = [] ∧ (-2147483648) ≤ i32.wrap (i32.wrap (selI [z.n 21, z.n 23] (i64.wrap (i - 2)) + i32.wrap (i32.wrap (i64.wrap (i64.wrap (x.tdiv 1) * 1)) * i32.wrap (selI [z.n 13, z.n 17] (i64.wrap (i - 2))))) - i32.wrap (i32.wrap (line.tmod 1) * i32.wrap (selI [z.n 14, z.n 18] (i64.wrap (i - 2))))) ∧ i32.wrap (i32.wrap (selI [z.n 21, z.n 23] (i64.wrap (i - 2)) + i32.wrap (i32.wrap (i64.wrap (i64.wrap (x.tdiv 1) * 1)) * i32.wrap (selI [z.n 13, z.n 17] (i64.wrap (i - 2))))) - i32.wrap (i32.wrap (line.tmod 1) * i32.wrap (selI [z.n 14, z.n 18] (i64.wrap (i - 2))))) ≤ 2147483647) ∧ ∀ (y : PX), (((-8388608) ≤ y.n 90000 ∧ y.n 90000 ≤ 8388607) ∧ True) ∧ y.n 90000 = i32.wrap (i32.wrap (selI [z.n 21, z.n 23] (i64.wrap (i - 2)) + i32.wrap (i32.wrap (i64.wrap (i64.wrap (x.tdiv 1) * 1)) * i32.wrap (selI [z.n 13, z.n 17] (i64.wrap (i - 2))))) - i32.wrap (i32.wrap (line.tmod 1) * i32.wrap (selI [z.n 14, z.n 18] (i64.wrap (i - 2))))) / 256 → (([] : SW) = [] ∧ (-2147483648) ≤ i32.wrap (i32.wrap (selI [z.n 22, z.n 24] (i64.wrap (i - 2)) + i32.wrap (i32.wrap (i64.wrap (i64.wrap (x.tdiv 1) * 1)) * i32.wrap (selI [z.n 15, z.n 19] (i64.wrap (i - 2))))) - i32.wrap (i32.wrap (line.tmod 1) * i32.wrap (selI [z.n 16, z.n 20] (i64.wrap (i - 2))))) ∧ i32.wrap (i32.wrap (selI [z.n 22, z.n 24] (i64.wrap (i - 2)) + i32.wrap (i32.wrap (i64.wrap (i64.wrap (x.tdiv 1) * 1)) * i32.wrap (selI [z.n 15, z.n 19] (i64.wrap (i - 2))))) - i32.wrap (i32.wrap (line.tmod 1) * i32.wrap (selI [z.n 16, z.n 20] (i64.wrap (i - 2))))) ≤ 2147483647) ∧ ∀ (y_1 : PX), (((-8388608) ≤ y_1.n 90000 ∧ y_1.n 90000 ≤ 8388607) ∧ True) ∧ y_1.n 90000 = i32.wrap (i32.wrap (selI [z.n 22, z.n 24] (i64.wrap (i - 2)) + i32.wrap (i32.wrap (i64.wrap (i64.wrap (x.tdiv 1) * 1)) * i32.wrap (selI [z.n 15, z.n 19] (i64.wrap (i - 2))))) - i32.wrap (i32.wrap (line.tmod 1) * i32.wrap (selI [z.n 16, z.n 20] (i64.wrap (i - 2))))) / 256 → ((54 = 54 ∧ (rgS z 0 (True)) ∧ rw3 z 1 (([] : SW) = [])) ∧ (ROk (z.l 1) (↑(z.n 26).toNat : Int).toNat ∧ ROk (z.l 2) (↑(z.n 27).toNat : Int).toNat) ∧ ((-8388608) ≤ y.n 90000 ∧ y.n 90000 ≤ 8388607) ∧ (-8388608) ≤ y_1.n 90000 ∧ y_1.n 90000 ≤ 8388607) ∧ ∀ (y_2 : PX), ((0 ≤ y_2.n 90000 ∧ y_2.n 90000 ≤ 32768) ∧ True) ∧ y_2.n 90000 = bmF (scM z 0 (bR (z.l 1) (↑(z.n 26).toNat : Int).toNat) (↑(z.n 26).toNat : Int).toNat (bR (z.l 2) (↑(z.n 27).toNat : Int).toNat) (↑(z.n 27).toNat : Int).toNat) (y.n 90000) (y_1.n 90000) → ((0 ≤ y_2.n 90000 ∧ y_2.n 90000 ≤ 32768) ∧ True) ∧ mkM z [] [mSr (1 : Nat), rowB, rowB, rowB] (0 : Nat) = mkM z [] [mSr (1 : Nat), rowB, rowB, rowB] (0 : Nat) ∧ y_2.n 90000 = dotF (scM z 0 (bR (z.l 1) (z.n 26).toNat) (z.n 26).toNat (bR (z.l 2) (z.n 27).toNat) (z.n 27).toNat) i x line))))))) := by kernel_rfl
set_option maxHeartbeats 4000000 in
theorem dotR_c (E : World) (i x line : Int) (z : PX) (hz : rgM z [mSr 1, rowB, rowB, rowB] 0) (hp : (fun z => (ROk (z.l 1) (z.n 26).toNat ∧ ROk (z.l 2) (z.n 27).toNat) ∧ 0 ≤ x ∧ x ≤ 239) z) : HR (pe E) 12 [.c (.p 0 0), .c (.i false .i64 i), .c (.i false .i64 x), .c (.i false .i64 line)] [mSr 1, rowB, rowB, rowB] [] (.c (.r .u16 0 32768)) (fun z y => y.n 90000 = dotF (scM z 0 (bR (z.l 1) (z.n 26).toNat) (z.n 26).toNat (bR (z.l 2) (z.n 27).toNat) (z.n 27).toNat) i x line) z := by
  refine HR.mk true (by rfl) (by rfl) (fnTree_sound (P := pe E) orcBR_ok tab_ok tab_sz mixed 20000 Try.func12 (by decide) [.c (.p 0 0), .c (.i false .i64 i), .c (.i false .i64 x), .c (.i false .i64 line)] _) ⟨?_⟩
  rw [dotR_p]
  obtain ⟨⟨hK1, hK2⟩, h0, h1⟩ := hp
  have hR1 : Row [.r .u8 0 255] (z.l 1) := hz.2.1.2
  have hR2 : Row [.r .u8 0 255] (z.l 2) := hz.2.2.1.2
  have hR3 : Row [.r .u8 0 255] (z.l 3) := hz.2.2.2.1.2
  have hF : flat [Sp.r .u8 0 255] = true := rfl
  obtain ⟨r0, r1, r2, r3, r4, r5, r6, r7, r8, r9, r10, r11, r12, r13, r14, r15, r16, r17, r18, r19, r20, r21, r22, r23, r24, r25, v26, v27, v28, _⟩ := hz.1
  simp only [Int.toNat_natCast]
  replace r0 : 0 ≤ z.n 0 ∧ z.n 0 ≤ 65535 := r0
  have r25' : 0 ≤ z.n 25 ∧ z.n 25 ≤ 65535 := r25
  simp only [btE (M := 16) r25' (show (0 : Int) < 1 by decide), btE (M := 16) r25' (show (0 : Int) < 16 by decide), Int.ediv_one]
  refine ⟨by (repeat' (first | exact trivial | with_reducible rfl | exact decide_eq_true rfl | exact decide_eq_true trivial | exact sameB_self _ | with_reducible assumption | apply And.intro)) <;> (first | omega | done), ?_⟩
  rintro y ⟨_, hs⟩
  simp only [bandT, bandF, borT, borF, decide_eq_true_eq, decide_eq_false_iff_not, beq_iff_eq, beq_eq_false_iff_ne, bne_iff_ne, bne_eq_false_iff_eq, ne_eq, Bool.not_eq_true', Bool.not_eq_false']
  have hN : ¬(y.b 90000 = true ∧ 0 ≤ line ∧ line < 160) → (32768 : Int) = dotF (scM z 0 (bR (z.l 1) (z.n 26).toNat) (z.n 26).toNat (bR (z.l 2) (z.n 27).toNat) (z.n 27).toNat) i x line := by
    intro h
    refine dot_n (s := (scM z 0 (bR (z.l 1) (z.n 26).toNat) (z.n 26).toNat (bR (z.l 2) (z.n 27).toNat) (z.n 27).toNat)) (fun ⟨h1, h2, h3⟩ => h ⟨?_, h2, h3⟩) x
    cases hb : y.b 90000
    · exact absurd h1 (shF_f (hs.symm.trans hb))
    · rfl
  refine ⟨fun hb => ?_, fun hb => ⟨fun hl => ?_, fun hl => ⟨fun hl2 => ?_, fun hl2 => ?_⟩⟩⟩
  · have hn := hN (fun h => by rw [hb] at h; exact absurd h.1 (by decide))
    (repeat' (first | exact trivial | with_reducible rfl | exact decide_eq_true rfl | exact decide_eq_true trivial | exact sameB_self _ | with_reducible assumption | apply And.intro)) <;> (first | omega | done)
  · have hn := hN (fun h => by omega)
    (repeat' (first | exact trivial | with_reducible rfl | exact decide_eq_true rfl | exact decide_eq_true trivial | exact sameB_self _ | with_reducible assumption | apply And.intro)) <;> (first | omega | done)
  · have hn := hN (fun h => by omega)
    (repeat' (first | exact trivial | with_reducible rfl | exact decide_eq_true rfl | exact decide_eq_true trivial | exact sameB_self _ | with_reducible assumption | apply And.intro)) <;> (first | omega | done)
  have hbt : y.b 90000 = true := by
    cases h : y.b 90000
    · rw [h] at hb; simp at hb
    · rfl
  have hsh := shF_t (hs.symm.trans hbt)
  have hi := hsh.1
  have hex : exP (z.n 0) i := hsh.2.2.2
  have hl0 : 0 ≤ line := by omega
  have hl1 : line < 160 := by omega
  have hin : inB i 4 = true := inB_of hi.1 (by omega)
  have hc : 0 ≤ selI [z.n 1, z.n 2, z.n 3, z.n 4] i ∧ selI [z.n 1, z.n 2, z.n 3, z.n 4] i ≤ 65535 := selI_rg _ _ hi.1 (by show i < 4; omega) (by intro a ha; simp only [List.mem_cons, List.not_mem_nil, or_false] at ha; rcases ha with rfl | rfl | rfl | rfl <;> assumption)
  rw [btE (M := 2) hc (show (0 : Int) < 64 by decide)]
  have hmo : 0 ≤ z.n 25 % 16 + 1 ∧ z.n 25 % 16 + 1 ≤ 16 := by omega
  have hmo2 : 0 ≤ z.n 25 / 16 % 16 + 1 ∧ z.n 25 / 16 % 16 + 1 ≤ 16 := by omega
  rw [wi64_in (z.n 25 % 16 + 1) (by omega) (by omega), wi64_in (z.n 25 / 16 % 16 + 1) (by omega) (by omega)]
  refine ⟨hin, fun hm => ?_, fun hm => ?_⟩
  · have hwd : wdF (scM z 0 (bR (z.l 1) (z.n 26).toNat) (z.n 26).toNat (bR (z.l 2) (z.n 27).toNat) (z.n 27).toNat) i = z.n 25 % 16 + 1 := if_pos hm
    have hhg : hgF (scM z 0 (bR (z.l 1) (z.n 26).toNat) (z.n 26).toNat (bR (z.l 2) (z.n 27).toNat) (z.n 27).toNat) i = z.n 25 / 16 % 16 + 1 := if_pos hm
    have hW : 1 ≤ z.n 25 % 16 + 1 ∧ z.n 25 % 16 + 1 ≤ 16 := by omega
    have hH : 1 ≤ z.n 25 / 16 % 16 + 1 ∧ z.n 25 / 16 % 16 + 1 ≤ 16 := by omega
    have dl := dvW (x := line) (W := z.n 25 / 16 % 16 + 1) ⟨hl0, by omega⟩ hH
    have dx := dvW (x := x) (W := z.n 25 % 16 + 1) ⟨h0, h1⟩ hW
    have dm : line.tmod (z.n 25 / 16 % 16 + 1) = line % (z.n 25 / 16 % 16 + 1) := Int.tmod_eq_emod_of_nonneg hl0
    have ds := dv_sub line (z.n 25 / 16 % 16 + 1)
    rw [ds] at dl
    simp only [dx.1, dl.1, dm]
    (repeat' (first | exact trivial | with_reducible rfl | exact decide_eq_true rfl | exact decide_eq_true trivial | exact sameB_self _ | with_reducible assumption | apply And.intro)) <;> try omega
    rintro y1 ⟨⟨hy1, _⟩, hk⟩
    rw [hk]
    refine ⟨fun k1 => ?_, fun k1 => ?_⟩
    · (repeat' (first | exact trivial | with_reducible rfl | exact decide_eq_true rfl | exact decide_eq_true trivial | exact sameB_self _ | with_reducible assumption | apply And.intro)) <;> try omega
      rintro y2 ⟨⟨hy2, _⟩, hq⟩
      have e : y2.n 90000 = dotF (scM z 0 (bR (z.l 1) (z.n 26).toNat) (z.n 26).toNat (bR (z.l 2) (z.n 27).toNat) (z.n 27).toNat) i x line := by
        rw [hq, dot_eq (s := (scM z 0 (bR (z.l 1) (z.n 26).toNat) (z.n 26).toNat (bR (z.l 2) (z.n 27).toNat) (z.n 27).toNat)) hsh hl0 hl1 hwd hhg, pixT (s := (scM z 0 (bR (z.l 1) (z.n 26).toNat) (z.n 26).toNat (bR (z.l 2) (z.n 27).toNat) (z.n 27).toNat)) ((kd_1 hex).1 k1)]
      (repeat' (first | exact trivial | with_reducible rfl | exact decide_eq_true rfl | exact decide_eq_true trivial | exact sameB_self _ | with_reducible assumption | apply And.intro)) <;> (first | omega | done)
    · have hi23 : i = 2 ∨ i = 3 := by
        have hnk : ¬(z.n 0 % 8 = 0 ∨ (0 < z.n 0 % 8 ∧ z.n 0 % 8 < 3 ∧ i < 2)) := fun h => k1 ((kd_1 hex).2 h)
        unfold exP at hex
        omega
      have hin2 : inB (IntKind.i64.wrap (i - 2)) 2 = true := by rcases hi23 with rfl | rfl <;> rfl
      (repeat' (first | exact trivial | with_reducible rfl | exact decide_eq_true rfl | exact decide_eq_true trivial | exact sameB_self _ | with_reducible assumption | apply And.intro)) <;> try omega
      rintro y2 ⟨⟨hy2, _⟩, hk2⟩
      rw [hk2]
      refine ⟨fun k2 => ?_, fun k2 => ?_⟩
      · rcases hi23 with rfl | rfl
        · simp only [s20]
          (repeat' (first | exact trivial | with_reducible rfl | exact decide_eq_true rfl | exact decide_eq_true trivial | exact sameB_self _ | exact (w32b _).1 | exact (w32b _).2 | with_reducible assumption | apply And.intro)) <;> try omega
          rintro y3 ⟨⟨hy3, _⟩, hx3⟩
          (repeat' (first | exact trivial | with_reducible rfl | exact decide_eq_true rfl | exact decide_eq_true trivial | exact sameB_self _ | exact (w32b _).1 | exact (w32b _).2 | with_reducible assumption | apply And.intro)) <;> try omega
          rintro y4 ⟨⟨hy4, _⟩, hx4⟩
          (repeat' (first | exact trivial | with_reducible rfl | exact decide_eq_true rfl | exact decide_eq_true trivial | exact sameB_self _ | exact (w32b _).1 | exact (w32b _).2 | with_reducible assumption | apply And.intro)) <;> try omega
          rintro y5 ⟨⟨hy5, _⟩, hq⟩
          have e : y5.n 90000 = dotF (scM z 0 (bR (z.l 1) (z.n 26).toNat) (z.n 26).toNat (bR (z.l 2) (z.n 27).toNat) (z.n 27).toNat) 2 x line := by
            rw [hq, hx3, hx4, dot_eq (s := (scM z 0 (bR (z.l 1) (z.n 26).toNat) (z.n 26).toNat (bR (z.l 2) (z.n 27).toNat) (z.n 27).toNat)) hsh hl0 hl1 hwd hhg, pixA (s := (scM z 0 (bR (z.l 1) (z.n 26).toNat) (z.n 26).toNat (bR (z.l 2) (z.n 27).toNat) (z.n 27).toNat)) ((kd_2 hex k1).1 k2)]
            rfl
          (repeat' (first | exact trivial | with_reducible rfl | exact decide_eq_true rfl | exact decide_eq_true trivial | exact sameB_self _ | exact (w32b _).1 | exact (w32b _).2 | with_reducible assumption | apply And.intro)) <;> try omega
        · simp only [s21]
          (repeat' (first | exact trivial | with_reducible rfl | exact decide_eq_true rfl | exact decide_eq_true trivial | exact sameB_self _ | exact (w32b _).1 | exact (w32b _).2 | with_reducible assumption | apply And.intro)) <;> try omega
          rintro y3 ⟨⟨hy3, _⟩, hx3⟩
          (repeat' (first | exact trivial | with_reducible rfl | exact decide_eq_true rfl | exact decide_eq_true trivial | exact sameB_self _ | exact (w32b _).1 | exact (w32b _).2 | with_reducible assumption | apply And.intro)) <;> try omega
          rintro y4 ⟨⟨hy4, _⟩, hx4⟩
          (repeat' (first | exact trivial | with_reducible rfl | exact decide_eq_true rfl | exact decide_eq_true trivial | exact sameB_self _ | exact (w32b _).1 | exact (w32b _).2 | with_reducible assumption | apply And.intro)) <;> try omega
          rintro y5 ⟨⟨hy5, _⟩, hq⟩
          have e : y5.n 90000 = dotF (scM z 0 (bR (z.l 1) (z.n 26).toNat) (z.n 26).toNat (bR (z.l 2) (z.n 27).toNat) (z.n 27).toNat) 3 x line := by
            rw [hq, hx3, hx4, dot_eq (s := (scM z 0 (bR (z.l 1) (z.n 26).toNat) (z.n 26).toNat (bR (z.l 2) (z.n 27).toNat) (z.n 27).toNat)) hsh hl0 hl1 hwd hhg, pixA (s := (scM z 0 (bR (z.l 1) (z.n 26).toNat) (z.n 26).toNat (bR (z.l 2) (z.n 27).toNat) (z.n 27).toNat)) ((kd_2 hex k1).1 k2)]
            rfl
          (repeat' (first | exact trivial | with_reducible rfl | exact decide_eq_true rfl | exact decide_eq_true trivial | exact sameB_self _ | exact (w32b _).1 | exact (w32b _).2 | with_reducible assumption | apply And.intro)) <;> try omega
      · have k3 := kd_3 hex k1 k2
        have hi2 : i = 2 := k3.2.2
        subst hi2
        simp only [s20]
        (repeat' (first | exact trivial | with_reducible rfl | exact decide_eq_true rfl | exact decide_eq_true trivial | exact sameB_self _ | exact (w32b _).1 | exact (w32b _).2 | with_reducible assumption | apply And.intro)) <;> try omega
        rintro y3 ⟨⟨hy3, _⟩, hx3⟩
        (repeat' (first | exact trivial | with_reducible rfl | exact decide_eq_true rfl | exact decide_eq_true trivial | exact sameB_self _ | exact (w32b _).1 | exact (w32b _).2 | with_reducible assumption | apply And.intro)) <;> try omega
        rintro y4 ⟨⟨hy4, _⟩, hx4⟩
        (repeat' (first | exact trivial | with_reducible rfl | exact decide_eq_true rfl | exact decide_eq_true trivial | exact sameB_self _ | exact (w32b _).1 | exact (w32b _).2 | with_reducible assumption | apply And.intro)) <;> try omega
        rintro y5 ⟨⟨hy5, _⟩, hq⟩
        have e : y5.n 90000 = dotF (scM z 0 (bR (z.l 1) (z.n 26).toNat) (z.n 26).toNat (bR (z.l 2) (z.n 27).toNat) (z.n 27).toNat) 2 x line := by
          rw [hq, dot_eq (s := (scM z 0 (bR (z.l 1) (z.n 26).toNat) (z.n 26).toNat (bR (z.l 2) (z.n 27).toNat) (z.n 27).toNat)) hsh hl0 hl1 hwd hhg, bm_pix (s := (scM z 0 (bR (z.l 1) (z.n 26).toNat) (z.n 26).toNat (bR (z.l 2) (z.n 27).toNat) (z.n 27).toNat)) (i := 2) (x := x / (z.n 25 % 16 + 1) * (z.n 25 % 16 + 1)) (b := line % (z.n 25 / 16 % 16 + 1)) ⟨k3.1, k3.2.1⟩ (px := y3.n 90000) (py := y4.n 90000) hx3.symm hx4.symm]
        (repeat' (first | exact trivial | with_reducible rfl | exact decide_eq_true rfl | exact decide_eq_true trivial | exact sameB_self _ | exact (w32b _).1 | exact (w32b _).2 | with_reducible assumption | apply And.intro)) <;> try omega
  · have hwd : wdF (scM z 0 (bR (z.l 1) (z.n 26).toNat) (z.n 26).toNat (bR (z.l 2) (z.n 27).toNat) (z.n 27).toNat) i = 1 := if_neg hm
    have hhg : hgF (scM z 0 (bR (z.l 1) (z.n 26).toNat) (z.n 26).toNat (bR (z.l 2) (z.n 27).toNat) (z.n 27).toNat) i = 1 := if_neg hm
    have hW : (1 : Int) ≤ 1 ∧ (1 : Int) ≤ 16 := by decide
    have hH : (1 : Int) ≤ 1 ∧ (1 : Int) ≤ 16 := by decide
    have dl := dvW (x := line) (W := 1) ⟨hl0, by omega⟩ hH
    have dx := dvW (x := x) (W := 1) ⟨h0, h1⟩ hW
    have dm : line.tmod (1) = line % (1) := Int.tmod_eq_emod_of_nonneg hl0
    have ds := dv_sub line (1)
    rw [ds] at dl
    simp only [dx.1, dl.1, dm]
    (repeat' (first | exact trivial | with_reducible rfl | exact decide_eq_true rfl | exact decide_eq_true trivial | exact sameB_self _ | with_reducible assumption | apply And.intro)) <;> try omega
    rintro y1 ⟨⟨hy1, _⟩, hk⟩
    rw [hk]
    refine ⟨fun k1 => ?_, fun k1 => ?_⟩
    · (repeat' (first | exact trivial | with_reducible rfl | exact decide_eq_true rfl | exact decide_eq_true trivial | exact sameB_self _ | with_reducible assumption | apply And.intro)) <;> try omega
      rintro y2 ⟨⟨hy2, _⟩, hq⟩
      have e : y2.n 90000 = dotF (scM z 0 (bR (z.l 1) (z.n 26).toNat) (z.n 26).toNat (bR (z.l 2) (z.n 27).toNat) (z.n 27).toNat) i x line := by
        rw [hq, dot_eq (s := (scM z 0 (bR (z.l 1) (z.n 26).toNat) (z.n 26).toNat (bR (z.l 2) (z.n 27).toNat) (z.n 27).toNat)) hsh hl0 hl1 hwd hhg, pixT (s := (scM z 0 (bR (z.l 1) (z.n 26).toNat) (z.n 26).toNat (bR (z.l 2) (z.n 27).toNat) (z.n 27).toNat)) ((kd_1 hex).1 k1)]
      (repeat' (first | exact trivial | with_reducible rfl | exact decide_eq_true rfl | exact decide_eq_true trivial | exact sameB_self _ | with_reducible assumption | apply And.intro)) <;> (first | omega | done)
    · have hi23 : i = 2 ∨ i = 3 := by
        have hnk : ¬(z.n 0 % 8 = 0 ∨ (0 < z.n 0 % 8 ∧ z.n 0 % 8 < 3 ∧ i < 2)) := fun h => k1 ((kd_1 hex).2 h)
        unfold exP at hex
        omega
      have hin2 : inB (IntKind.i64.wrap (i - 2)) 2 = true := by rcases hi23 with rfl | rfl <;> rfl
      (repeat' (first | exact trivial | with_reducible rfl | exact decide_eq_true rfl | exact decide_eq_true trivial | exact sameB_self _ | with_reducible assumption | apply And.intro)) <;> try omega
      rintro y2 ⟨⟨hy2, _⟩, hk2⟩
      rw [hk2]
      refine ⟨fun k2 => ?_, fun k2 => ?_⟩
      · rcases hi23 with rfl | rfl
        · simp only [s20]
          (repeat' (first | exact trivial | with_reducible rfl | exact decide_eq_true rfl | exact decide_eq_true trivial | exact sameB_self _ | exact (w32b _).1 | exact (w32b _).2 | with_reducible assumption | apply And.intro)) <;> try omega
          rintro y3 ⟨⟨hy3, _⟩, hx3⟩
          (repeat' (first | exact trivial | with_reducible rfl | exact decide_eq_true rfl | exact decide_eq_true trivial | exact sameB_self _ | exact (w32b _).1 | exact (w32b _).2 | with_reducible assumption | apply And.intro)) <;> try omega
          rintro y4 ⟨⟨hy4, _⟩, hx4⟩
          (repeat' (first | exact trivial | with_reducible rfl | exact decide_eq_true rfl | exact decide_eq_true trivial | exact sameB_self _ | exact (w32b _).1 | exact (w32b _).2 | with_reducible assumption | apply And.intro)) <;> try omega
          rintro y5 ⟨⟨hy5, _⟩, hq⟩
          have e : y5.n 90000 = dotF (scM z 0 (bR (z.l 1) (z.n 26).toNat) (z.n 26).toNat (bR (z.l 2) (z.n 27).toNat) (z.n 27).toNat) 2 x line := by
            rw [hq, hx3, hx4, dot_eq (s := (scM z 0 (bR (z.l 1) (z.n 26).toNat) (z.n 26).toNat (bR (z.l 2) (z.n 27).toNat) (z.n 27).toNat)) hsh hl0 hl1 hwd hhg, pixA (s := (scM z 0 (bR (z.l 1) (z.n 26).toNat) (z.n 26).toNat (bR (z.l 2) (z.n 27).toNat) (z.n 27).toNat)) ((kd_2 hex k1).1 k2)]
            rfl
          (repeat' (first | exact trivial | with_reducible rfl | exact decide_eq_true rfl | exact decide_eq_true trivial | exact sameB_self _ | exact (w32b _).1 | exact (w32b _).2 | with_reducible assumption | apply And.intro)) <;> try omega
        · simp only [s21]
          (repeat' (first | exact trivial | with_reducible rfl | exact decide_eq_true rfl | exact decide_eq_true trivial | exact sameB_self _ | exact (w32b _).1 | exact (w32b _).2 | with_reducible assumption | apply And.intro)) <;> try omega
          rintro y3 ⟨⟨hy3, _⟩, hx3⟩
          (repeat' (first | exact trivial | with_reducible rfl | exact decide_eq_true rfl | exact decide_eq_true trivial | exact sameB_self _ | exact (w32b _).1 | exact (w32b _).2 | with_reducible assumption | apply And.intro)) <;> try omega
          rintro y4 ⟨⟨hy4, _⟩, hx4⟩
          (repeat' (first | exact trivial | with_reducible rfl | exact decide_eq_true rfl | exact decide_eq_true trivial | exact sameB_self _ | exact (w32b _).1 | exact (w32b _).2 | with_reducible assumption | apply And.intro)) <;> try omega
          rintro y5 ⟨⟨hy5, _⟩, hq⟩
          have e : y5.n 90000 = dotF (scM z 0 (bR (z.l 1) (z.n 26).toNat) (z.n 26).toNat (bR (z.l 2) (z.n 27).toNat) (z.n 27).toNat) 3 x line := by
            rw [hq, hx3, hx4, dot_eq (s := (scM z 0 (bR (z.l 1) (z.n 26).toNat) (z.n 26).toNat (bR (z.l 2) (z.n 27).toNat) (z.n 27).toNat)) hsh hl0 hl1 hwd hhg, pixA (s := (scM z 0 (bR (z.l 1) (z.n 26).toNat) (z.n 26).toNat (bR (z.l 2) (z.n 27).toNat) (z.n 27).toNat)) ((kd_2 hex k1).1 k2)]
            rfl
          (repeat' (first | exact trivial | with_reducible rfl | exact decide_eq_true rfl | exact decide_eq_true trivial | exact sameB_self _ | exact (w32b _).1 | exact (w32b _).2 | with_reducible assumption | apply And.intro)) <;> try omega
      · have k3 := kd_3 hex k1 k2
        have hi2 : i = 2 := k3.2.2
        subst hi2
        simp only [s20]
        (repeat' (first | exact trivial | with_reducible rfl | exact decide_eq_true rfl | exact decide_eq_true trivial | exact sameB_self _ | exact (w32b _).1 | exact (w32b _).2 | with_reducible assumption | apply And.intro)) <;> try omega
        rintro y3 ⟨⟨hy3, _⟩, hx3⟩
        (repeat' (first | exact trivial | with_reducible rfl | exact decide_eq_true rfl | exact decide_eq_true trivial | exact sameB_self _ | exact (w32b _).1 | exact (w32b _).2 | with_reducible assumption | apply And.intro)) <;> try omega
        rintro y4 ⟨⟨hy4, _⟩, hx4⟩
        (repeat' (first | exact trivial | with_reducible rfl | exact decide_eq_true rfl | exact decide_eq_true trivial | exact sameB_self _ | exact (w32b _).1 | exact (w32b _).2 | with_reducible assumption | apply And.intro)) <;> try omega
        rintro y5 ⟨⟨hy5, _⟩, hq⟩
        have e : y5.n 90000 = dotF (scM z 0 (bR (z.l 1) (z.n 26).toNat) (z.n 26).toNat (bR (z.l 2) (z.n 27).toNat) (z.n 27).toNat) 2 x line := by
          rw [hq, dot_eq (s := (scM z 0 (bR (z.l 1) (z.n 26).toNat) (z.n 26).toNat (bR (z.l 2) (z.n 27).toNat) (z.n 27).toNat)) hsh hl0 hl1 hwd hhg, bm_pix (s := (scM z 0 (bR (z.l 1) (z.n 26).toNat) (z.n 26).toNat (bR (z.l 2) (z.n 27).toNat) (z.n 27).toNat)) (i := 2) (x := x / (1) * (1)) (b := line % (1)) ⟨k3.1, k3.2.1⟩ (px := y3.n 90000) (py := y4.n 90000) hx3.symm hx4.symm]
        (repeat' (first | exact trivial | with_reducible rfl | exact decide_eq_true rfl | exact decide_eq_true trivial | exact sameB_self _ | exact (w32b _).1 | exact (w32b _).2 | with_reducible assumption | apply And.intro)) <;> try omega
end Go.Proofs.Ytdomhmajoclpeaa

