import Derived.Test.YtdomhmajoclpeaaKRp
import Derived.Test.YtdomhmajoclpeaaKR0
import Derived.Test.YtdomhmajoclpeaaKR1
import Derived.Test.YtdomhmajoclpeaaKR2
import Derived.Test.YtdomhmajoclpeaaKR3
import Derived.Test.YtdomhmajoclpeaaKR4
import Derived.Test.YtdomhmajoclpeaaKR5
set_option linter.unusedVariables false
set_option linter.unusedSimpArgs false
namespace Go.Proofs.Ytdomhmajoclpeaa
open Go Go.Proofs Go.Proofs.Ytdomhmajoclpeaa.Ev Go.Proofs.Ytdomhmajoclpeaa.Ev.Ho Go.IntKind
set_option maxRecDepth 100000
set_option maxHeartbeats 8000000 in
theorem drawR_c (E : World) (i line : Int) (z : PX) (hz : rgM z [mS 1, rowB, rowB, rowB] 0) (hp : (fun z => (ROk (z.l 1) (z.n 26).toNat ∧ ROk (z.l 2) (z.n 27).toNat) ∧ True) z) : HD (pe E) 11 [.c (.p 0 0), .c (.i false .i64 i), .c (.i false .i64 line)] [mS 1, rowB, rowB, rowB] [mS 1, rowB, rowB, rowB] (.a (List.replicate 240 (.i .u16))) (QdE i line) z := by
  refine HD.loop (P := pe E) orcXR_ok tab_ok tab_sz mixed Try.func11 (c := Try.f11.body.getD .skip) rfl (by decide) (Nat.le_of_ble_eq_true rfl) (by rfl) 20000 (2 ^ 200 - 1) (drawR_hs E i line z) (by rfl) (loopP_lfH ⟨?_⟩) ?_
  · rw [drawR_pro]
    obtain ⟨⟨hK1, hK2⟩, _⟩ := hp
    obtain ⟨r0, r1, r2, r3, r4, r5, r6, r7, r8, r9, r10, r11, r12, r13, r14, r15, r16, r17, r18, r19, r20, r21, r22, r23, r24, r25, v26, v27, v28, _⟩ := hz.1
    replace r0 : 0 ≤ z.n 0 ∧ z.n 0 ≤ 65535 := r0
    have hF : flat [Sp.r .u8 0 255] = true := rfl
    replace v26 : 0 ≤ z.n 26 := v26
    replace v27 : 0 ≤ z.n 27 := v27
    replace v28 : 0 ≤ z.n 28 := v28
    have t26 := Int.toNat_of_nonneg v26
    have t27 := Int.toNat_of_nonneg v27
    have t28 := Int.toNat_of_nonneg v28
    have hR1 : Row [.r .u8 0 255] (z.l 1) := hz.2.1.2
    have hR2 : Row [.r .u8 0 255] (z.l 2) := hz.2.2.1.2
    have hR3 : Row [.r .u8 0 255] (z.l 3) := hz.2.2.2.1.2
    have eR : EqR (z.l 1) (z.l 2) (z.l 3) (z.l 1) (z.l 2) (z.l 3) := ⟨rfl, rfl, rfl⟩
    simp only [Int.toNat_natCast]
    have em : IntKind.i64.wrap (bits .and .u16 (z.n 0) 7) = z.n 0 % 8 := by rw [a7, wi64_in _ (by omega) (by omega)]
    rw [em]
    simp only [decide_eq_true_eq, decide_eq_false_iff_not, beq_iff_eq, beq_eq_false_iff_ne, ne_eq, Bool.not_eq_true', Bool.not_eq_false', cand_t, cand_f]
    refine ⟨by (repeat' (first | exact trivial | with_reducible rfl | exact decide_eq_true rfl | exact decide_eq_true trivial | exact sameB_self _ | with_reducible assumption | apply And.intro)) <;> (first | omega | done), ?_⟩
    rintro y ⟨_, hs⟩
    have hN : ¬(y.b 90000 = true ∧ line ≥ 0 ∧ line < 160) → nshP (z.n 0) i line := by
      intro h ⟨h1, h2, h3⟩
      refine h ⟨?_, h2, h3⟩
      cases hb : y.b 90000
      · exact absurd h1 (shF_f (hs.symm.trans hb))
      · rfl
    refine ⟨fun hb => ⟨fun hl => ⟨fun h160 => ?_, fun h160 => ⟨?_, ?_⟩⟩, fun hl => ?_⟩, fun hb => ?_⟩
    · have hn := hN (fun h => by omega)
      (repeat' (first | exact trivial | with_reducible rfl | exact AllF_zero | exact hn | with_reducible assumption | apply And.intro | intro _)) <;> (first | omega | done)
    · have hsh := shF_t (hs.symm.trans hb)
      have hi := hsh.1
      (repeat' (first | exact trivial | with_reducible rfl | exact decide_eq_true rfl | exact decide_eq_true trivial | exact sameB_self _ | with_reducible assumption | apply And.intro)) <;> (first | omega | done)
    · have hsh := shF_t (hs.symm.trans hb)
      have hi := hsh.1
      have hx : exP (z.n 0) i := hsh.2.2.2
      unfold exP at hx
      rintro y2 ⟨⟨hw, hh, _⟩, hqw, hqh⟩
      obtain ⟨m1, m2⟩ := mod_b hl (by omega) hh
      have ht : line.tmod (y2.n 90001) = line % y2.n 90001 := Int.tmod_eq_emod_of_nonneg hl
      have hwr : IntKind.i64.wrap (line - line % y2.n 90001) = line - line % y2.n 90001 := wi64_in _ (by omega) (by omega)
      rw [ht, hwr]
      have sB : 0 ≤ selI [z.n 1, z.n 2, z.n 3, z.n 4] i ∧ selI [z.n 1, z.n 2, z.n 3, z.n 4] i ≤ 65535 := selI_rg _ _ hi.1 (by show i < 4; omega) (by intro a ha; simp only [List.mem_cons, List.not_mem_nil, or_false] at ha; rcases ha with rfl | rfl | rfl | rfl <;> assumption)
      have hin : inB i 4 = true := inB_of hi.1 (by omega)
      have hLay : Lay (scZ z) i line i (selI [z.n 1, z.n 2, z.n 3, z.n 4] i) (line - line % y2.n 90001) (line % y2.n 90001) (y2.n 90000) := ⟨rfl, rfl, by rw [hqh], by rw [hqh], hqw, hsh, hl, by omega⟩
      have hDot : DotP (scZ z) i line 0 32768 := ⟨fun h => absurd h (by decide)⟩
      (repeat' (first | exact trivial | with_reducible rfl | exact AllF_zero | exact hLay | exact hDot | exact rnR _ | exact decide_eq_true rfl | exact sameB_self _ | exact decide_eq_true trivial | with_reducible assumption | apply And.intro | intro _)) <;> (first | omega | done)
    · have hn := hN (fun h => by omega)
      (repeat' (first | exact trivial | with_reducible rfl | exact AllF_zero | exact hn | with_reducible assumption | apply And.intro | intro _)) <;> (first | omega | done)
    · have hn := hN (fun h => by rw [hb] at h; exact absurd h.1 (by decide))
      (repeat' (first | exact trivial | with_reducible rfl | exact AllF_zero | exact hn | with_reducible assumption | apply And.intro | intro _)) <;> (first | omega | done)
  · intro h hmem y hy1 hy2 hy3
    simp only [drawR_hs, List.mem_cons, List.not_mem_nil, or_false] at hmem
    rcases hmem with rfl | rfl | rfl | rfl | rfl | rfl
    · exact drawR_q0 E i line z hz hp y hy1 hy2 hy3
    · exact drawR_q1 E i line z hz hp y hy1 hy2 hy3
    · exact drawR_q2 E i line z hz hp y hy1 hy2 hy3
    · exact drawR_q3 E i line z hz hp y hy1 hy2 hy3
    · exact drawR_q4 E i line z hz hp y hy1 hy2 hy3
    · exact drawR_q5 E i line z hz hp y hy1 hy2 hy3
end Go.Proofs.Ytdomhmajoclpeaa

