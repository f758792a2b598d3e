import Derived.Test.YtdomhmajoclpeaaX7p
import Derived.Test.YtdomhmajoclpeaaX7r
set_option linter.unusedVariables false
set_option linter.unusedSimpArgs false
namespace Go.Proofs.Ytdomhmajoclpeaa
open Go Go.Proofs Go.Proofs.Ytdomhmajoclpeaa.Ev Go.Proofs.Ytdomhmajoclpeaa.Ev.Ho Go.IntKind
set_option maxRecDepth 100000
set_option maxHeartbeats 8000000 in
theorem lawD_c (E : World) (a1 a2 a3 a4 : Option Addr) (n1 m1 n2 m2 n3 m3 n4 m4 : Nat) (c : Nat → Int) (line : Int) (z : PX) (hz : rgM z [] 0) (hp : (fun _ => RgC c ∧ PK E a4 n4) z) : HD (pe E) 7 [.a [.i false .u16 (c 0), .i false .u16 (c 1), .i false .u16 (c 2), .i false .u16 (c 3), .i false .u16 (c 4), .i false .u16 (c 5), .i false .u16 (c 6), .i false .u16 (c 7), .i false .u16 (c 8), .i false .u16 (c 9), .i false .u16 (c 10), .i false .u16 (c 11), .i false .u16 (c 12), .i false .i16 (c 13), .i false .i16 (c 14), .i false .i16 (c 15), .i false .i16 (c 16), .i false .i16 (c 17), .i false .i16 (c 18), .i false .i16 (c 19), .i false .i16 (c 20), .i false .i32 (c 21), .i false .i32 (c 22), .i false .i32 (c 23), .i false .i32 (c 24), .i false .u16 (c 25), .es a1 n1 m1, .es a2 n2 m2, .es a3 n3 m3, .i false .u32 (c 26), .es a4 n4 m4], .c (.i false .i64 line)] [] [] (.c .b) (fun z y => y.b 90000 = true) z := by
  refine HD.loop (P := pe E) orcWR_ok tab_ok tab_sz mixed Try.func7 (c := Try.f7.body.getD .skip) rfl (by decide) (Nat.le_of_ble_eq_true rfl) (by rfl) 20000 (2 ^ 200 - 1) (lawD_hs E a1 a2 a3 a4 n1 m1 n2 m2 n3 m3 n4 m4 c line z) (by rfl) (loopP_lfH ⟨?_⟩) ?_
  · rw [lawD_pro]
    obtain ⟨hc, hK⟩ := hp
    obtain ⟨r0, r1, r2, r3, r4, r5, r6, r7, r8, r9, r10, r11, r12, r13, r14, r15, r16, r17, r18, r19, r20, r21, r22, r23, r24, r25⟩ := hc
    have hm := tmN line 160 (by decide) (by decide)
    generalize (IntKind.i64.wrap (line.tmod 160 + 160)).tmod 160 = m at *
    refine ⟨by (repeat' (first | exact trivial | with_reducible rfl | with_reducible assumption | apply And.intro)) <;> (first | omega | done), ?_⟩
    rintro y ⟨⟨⟨q0, q1, q2, q3, q4, q5, q6, q7, q8, q9, q10, q11, q12, q13, q14, q15, q16, q17, q18, q19, q20, q21, q22, q23, q24, q25, _, _, _, _⟩, ⟨_, R1⟩, ⟨_, R2⟩, ⟨_, R3⟩, _⟩, _, e0, e1, e2, e3, e4, e5, e6, e7, e8, e9, e10, e11, e12, e13, e14, e15, e16, e17, e18, e19, e20, e21, e22, e23, e24, e25, e26, e27, e28, hL⟩
    have hF : flat [Sp.r .u8 0 255] = true := rfl
    have K1 : ROk (y.l 1) (y.n 26).toNat := ⟨R1, by rw [hL.h1, e26]; rfl, by rw [e26]; decide⟩
    have K2 : ROk (y.l 2) (y.n 27).toNat := ⟨R2, by rw [hL.h2, e27]; rfl, by rw [e27]; decide⟩
    simp only [Int.toNat_natCast]
    have w1 : IntKind.i64.wrap (256 * m) = 256 * m := wi64_in _ (by omega) (by omega)
    have w2 : IntKind.i32.wrap (256 * m) = 256 * m := wi32_in _ (by omega) (by omega)
    simp only [w1, w2]
    obtain ⟨b6, ba, bb⟩ := bg6 (y.n 3) q3.1 q3.2
    have t26 : (((y.n 26).toNat : Nat) : Int) = 98304 := by rw [e26]; rfl
    refine ⟨by (repeat' (first | exact trivial | with_reducible rfl | with_reducible assumption | apply And.intro)) <;> (first | omega | done), ?_⟩
    rintro y1 ⟨_, hA⟩
    have hD : DT (y.l 1) m ((cl y1 90000 60) ++ ((cl y1 90060 60) ++ ((cl y1 90120 60) ++ (cl y1 90180 60)))) := fun x h0 h1 => by
      rw [sel_AllF hA (by simp only [List.length_append, cl_len]) h0 h1, dot_dir (by rfl) (by show selI [y.n 1, y.n 2, bits .andNot .u16 (y.n 3) 64, y.n 4] 2 / 64 % 2 = 0; rw [sel2]; exact b6) (by rfl) (by rfl) hm.1 hm.2 h0 h1]
      show halfF (bR (y.l 1) (y.n 26).toNat) (y.n 26).toNat (2 * (240 * m + x)) % 32768 = _
      rw [e26]
      rfl
    (repeat' (first | exact trivial | with_reducible rfl | exact hD | with_reducible assumption | apply And.intro)) <;> (first | omega | done)
  · intro h hmem y hy1 hy2 hy3
    simp only [lawD_hs, List.mem_cons, List.not_mem_nil, or_false] at hmem
    rcases hmem with rfl
    · exact lawD_q0 E a1 a2 a3 a4 n1 m1 n2 m2 n3 m3 n4 m4 c line z hp y hy1 hy2 hy3
end Go.Proofs.Ytdomhmajoclpeaa

