import Derived.Test.YtdomhmajoclpeaaX6p
import Derived.Test.YtdomhmajoclpeaaX60
import Derived.Test.YtdomhmajoclpeaaX61
set_option linter.unusedVariables false
set_option linter.unusedSimpArgs false
namespace Go.Proofs.Ytdomhmajoclpeaa
open Go Go.Proofs Go.Proofs.Ytdomhmajoclpeaa.Ev Go.Proofs.Ytdomhmajoclpeaa.Ev.Ho Go.IntKind
set_option maxRecDepth 100000
set_option maxHeartbeats 8000000 in
theorem lawP_c (E : World) (a1 a2 a3 a4 : Option Addr) (n1 m1 n2 m2 n3 m3 n4 m4 : Nat) (c : Nat → Int) (i line : Int) (z : PX) (hz : rgM z [] 0) (hp : (fun _ => RgC c ∧ PK E a4 n4) z) : HD (pe E) 6 [.a [.i false .u16 (c 0), .i false .u16 (c 1), .i false .u16 (c 2), .i false .u16 (c 3), .i false .u16 (c 4), .i false .u16 (c 5), .i false .u16 (c 6), .i false .u16 (c 7), .i false .u16 (c 8), .i false .u16 (c 9), .i false .u16 (c 10), .i false .u16 (c 11), .i false .u16 (c 12), .i false .i16 (c 13), .i false .i16 (c 14), .i false .i16 (c 15), .i false .i16 (c 16), .i false .i16 (c 17), .i false .i16 (c 18), .i false .i16 (c 19), .i false .i16 (c 20), .i false .i32 (c 21), .i false .i32 (c 22), .i false .i32 (c 23), .i false .i32 (c 24), .i false .u16 (c 25), .es a1 n1 m1, .es a2 n2 m2, .es a3 n3 m3, .i false .u32 (c 26), .es a4 n4 m4], .c (.i false .i64 i), .c (.i false .i64 line)] [] [] (.c .b) (fun z y => y.b 90000 = true) z := by
  refine HD.loop (P := pe E) orcW6_ok tab_ok tab_sz mixed Try.func6 (c := Try.f6.body.getD .skip) rfl (by decide) (Nat.le_of_ble_eq_true rfl) (by rfl) 20000 (2 ^ 200 - 1) (lawP_hs E a1 a2 a3 a4 n1 m1 n2 m2 n3 m3 n4 m4 c i line z) (by rfl) (loopP_lfH ⟨?_⟩) ?_
  · rw [lawP_pro]
    obtain ⟨hc, hK⟩ := hp
    obtain ⟨r0, r1, r2, r3, r4, r5, r6, r7, r8, r9, r10, r11, r12, r13, r14, r15, r16, r17, r18, r19, r20, r21, r22, r23, r24, r25⟩ := hc
    refine ⟨by (repeat' (first | exact trivial | with_reducible rfl | with_reducible assumption | apply And.intro)) <;> (first | omega | done), ?_⟩
    rintro y ⟨⟨⟨q0, q1, q2, q3, q4, q5, q6, q7, q8, q9, q10, q11, q12, q13, q14, q15, q16, q17, q18, q19, q20, q21, q22, q23, q24, q25, _, _, _, _⟩, ⟨_, R1⟩, ⟨_, R2⟩, ⟨_, R3⟩, _⟩, _, ⟨e0, e1, e2, e3, e4, e5, e6, e7, e8, e9, e10, e11, e12, e13, e14, e15, e16, e17, e18, e19, e20, e21, e22, e23, e24, e25, e26, e27, e28, hL⟩, hy⟩
    refine ⟨by (repeat' (first | exact trivial | with_reducible rfl | with_reducible assumption | apply And.intro)) <;> (first | omega | done), ?_⟩
    rintro y1 ⟨_, _, _, hy1⟩
    have hyy : y = y1 := hy.trans hy1.symm
    subst hyy
    clear hy hy1
    have hF : flat [Sp.r .u8 0 255] = true := rfl
    have K1 : ROk (y.l 1) (y.n 26).toNat := ⟨R1, by rw [hL.h1, e26]; rfl, by rw [e26]; decide⟩
    have K2 : ROk (y.l 2) (y.n 27).toNat := ⟨R2, by rw [hL.h2, e27]; rfl, by rw [e27]; decide⟩
    simp only [Int.toNat_natCast]
    have p26 : 0 < (y.n 26).toNat := by rw [e26]; decide
    have p27 : 0 < (y.n 27).toNat := by rw [e27]; decide
    have p28 : 0 < (y.n 28).toNat := by rw [e28]; decide
    have hu1 := u8_of R1 K1.z
    have hu2 := u8_of R2 K2.z
    refine ⟨by (repeat' (first | exact trivial | with_reducible rfl | with_reducible assumption | apply And.intro)) <;> (first | omega | done), ?_⟩
    rintro y2 ⟨_, hA⟩
    refine ⟨by (repeat' (first | exact trivial | with_reducible rfl | with_reducible assumption | apply And.intro)) <;> (first | omega | done), ?_⟩
    rintro y3 ⟨_, hB⟩
    have hE : (true ^^ eqB ((cl y2 90000 60) ++ ((cl y2 90060 60) ++ ((cl y2 90120 60) ++ (cl y2 90180 60)))) ((cl y3 90000 60) ++ ((cl y3 90060 60) ++ ((cl y3 90120 60) ++ (cl y3 90180 60))))) = false := by rw [eqB_AllF hA hB (by simp only [List.length_append, cl_len]) (by simp only [List.length_append, cl_len])]; rfl
    refine ⟨fun h1 => absurd (h1.symm.trans hE) (by decide), fun _ => ?_⟩
    refine ⟨hu1, hu1, fun h1 => absurd h1 (by rw [ba_refl]; decide), fun _ => ⟨hu2, hu2, fun h1 => absurd h1 (by rw [ba_refl]; decide), fun _ => ⟨fun h1 => absurd h1 (by simp), fun _ => ⟨fun h1 => absurd h1 (by simp), fun _ => ⟨by (repeat' (first | exact trivial | with_reducible rfl | with_reducible assumption | apply And.intro)) <;> (first | omega | done), ?_⟩⟩⟩⟩⟩
    rintro y4 ⟨_, hs⟩
    have hN : ¬(y4.b 90000 = true ∧ line ≥ 0 ∧ line < 160) → nshP (y.n 0) i line := by
      intro h ⟨h1, h2, h3⟩
      refine h ⟨?_, h2, h3⟩
      cases hb : y4.b 90000
      · exact absurd h1 (shF_f (hs.symm.trans hb))
      · rfl
    have hLe := LeN_of hA (by simp only [List.length_append, cl_len])
    refine ⟨fun hb => ?_, fun hb => ⟨fun hl => ?_, fun hl => ⟨fun h16 => ?_, fun h16 => ?_⟩⟩⟩
    · have hn := AllF_none hA (hN (fun h => by rw [h.1] at hb; exact absurd hb (by decide)))
      (repeat' (first | exact trivial | with_reducible rfl | exact rnIi _ _ _ _ | exact hn | exact hLe | with_reducible assumption | apply And.intro)) <;> (first | omega | done)
    · have hn := AllF_none hA (hN (fun h => by have := of_decide_eq_true hl; omega))
      (repeat' (first | exact trivial | with_reducible rfl | exact rnIi _ _ _ _ | exact hn | exact hLe | with_reducible assumption | apply And.intro)) <;> (first | omega | done)
    · have hn := AllF_none hA (hN (fun h => by have := of_decide_eq_true h16; omega))
      (repeat' (first | exact trivial | with_reducible rfl | exact rnIi _ _ _ _ | exact hn | exact hLe | with_reducible assumption | apply And.intro)) <;> (first | omega | done)
    · (repeat' (first | exact trivial | with_reducible rfl | exact rnIi _ _ _ _ | exact hLe | with_reducible assumption | apply And.intro)) <;> (first | omega | done)
  · intro h hmem y hy1 hy2 hy3
    simp only [lawP_hs, List.mem_cons, List.not_mem_nil, or_false] at hmem
    rcases hmem with rfl | rfl
    · exact lawP_q0 E a1 a2 a3 a4 n1 m1 n2 m2 n3 m3 n4 m4 c i line z hp y hy1 hy2 hy3
    · exact lawP_q1 E a1 a2 a3 a4 n1 m1 n2 m2 n3 m3 n4 m4 c i line z hp y hy1 hy2 hy3
end Go.Proofs.Ytdomhmajoclpeaa

