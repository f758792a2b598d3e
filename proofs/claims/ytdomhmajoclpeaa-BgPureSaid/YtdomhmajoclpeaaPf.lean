import Derived.Test.YtdomhmajoclpeaaPp
import Derived.Test.YtdomhmajoclpeaaP0
import Derived.Test.YtdomhmajoclpeaaP1
import Derived.Test.YtdomhmajoclpeaaP2
import Derived.Test.YtdomhmajoclpeaaP3
import Derived.Test.YtdomhmajoclpeaaP4
import Derived.Test.YtdomhmajoclpeaaP5
import Derived.Test.YtdomhmajoclpeaaP6
set_option linter.unusedVariables false
set_option linter.unusedSimpArgs false
namespace Go.Proofs.Ytdomhmajoclpeaa
open Go Go.Proofs Go.Proofs.Ytdomhmajoclpeaa.Ev Go.Proofs.Ytdomhmajoclpeaa.Ev.Ho Go.IntKind
set_option maxRecDepth 100000
set_option maxHeartbeats 8000000 in
theorem fil_c (E : World) (a1 a2 a3 a4 : Option Addr) (n1 m1 n2 m2 n3 m3 n4 m4 : Nat) (x0 x1 x2 x3 x4 x5 x6 x7 x8 x9 x10 x11 x12 x13 x14 x15 x16 x17 x18 x19 x20 x21 x22 x23 x24 x25 x26 : Int) (z : PX) (hz : rgM z [] 0) (hp : (preK E a4 n4 x0 x1 x2 x3 x4 x5 x6 x7 x8 x9 x10 x11 x12 x13 x14 x15 x16 x17 x18 x19 x20 x21 x22 x23 x24 x25) z) : HD (pe E) 9 [.a [.i false .u16 x0, .i false .u16 x1, .i false .u16 x2, .i false .u16 x3, .i false .u16 x4, .i false .u16 x5, .i false .u16 x6, .i false .u16 x7, .i false .u16 x8, .i false .u16 x9, .i false .u16 x10, .i false .u16 x11, .i false .u16 x12, .i false .i16 x13, .i false .i16 x14, .i false .i16 x15, .i false .i16 x16, .i false .i16 x17, .i false .i16 x18, .i false .i16 x19, .i false .i16 x20, .i false .i32 x21, .i false .i32 x22, .i false .i32 x23, .i false .i32 x24, .i false .u16 x25, .es a1 n1 m1, .es a2 n2 m2, .es a3 n3 m3, .i false .u32 x26, .es a4 n4 m4]] [] [mW 1, rowB, rowB, rowB] (.c (.c (.p 0 0))) (QF x0 x1 x2 x3 x4 x5 x6 x7 x8 x9 x10 x11 x12 x13 x14 x15 x16 x17 x18 x19 x20 x21 x22 x23 x24 x25) z := by
  refine HD.loop (P := pe E) orcNone_ok tab_ok tab_sz mixed Try.func9 (c := Try.f9.body.getD .skip) rfl (by decide) (Nat.le_of_ble_eq_true rfl) (by rfl) 20000 (2 ^ 200 - 1) (fil_hs E a1 a2 a3 a4 n1 m1 n2 m2 n3 m3 n4 m4 x0 x1 x2 x3 x4 x5 x6 x7 x8 x9 x10 x11 x12 x13 x14 x15 x16 x17 x18 x19 x20 x21 x22 x23 x24 x25 x26 z) (by rfl) (loopP_lfH ⟨?_⟩) ?_
  · rw [fil_pro]
    obtain ⟨hX, hK⟩ := hp
    obtain ⟨hx0, hx1, hx2, hx3, hx4, hx5, hx6, hx7, hx8, hx9, hx10, hx11, hx12, hx13, hx14, hx15, hx16, hx17, hx18, hx19, hx20, hx21, hx22, hx23, hx24, hx25⟩ := hX
    have hF : flat [Sp.r .u8 0 255] = true := rfl
    have hm := mxL
    have hb := hK.b
    (repeat' (first | exact trivial | with_reducible rfl | exact decide_eq_true rfl | exact sameR_rep _ _ | exact decide_eq_true trivial | exact decide_eq_true (by decide) | exact (rn5 _).1 | exact (rn5 _).2.1 | exact (rn5 _).2.2 | exact rnEs _ _ _ _ | exact rnIi _ _ _ _ | exact repU8 _ | exact len3_0 | with_reducible assumption | apply And.intro)) <;> (first | omega | decide | done)
  · intro h hmem y hy1 hy2 hy3
    simp only [fil_hs, List.mem_cons, List.not_mem_nil, or_false] at hmem
    rcases hmem with rfl | rfl | rfl | rfl | rfl | rfl | rfl
    · exact fil_q0 E a1 a2 a3 a4 n1 m1 n2 m2 n3 m3 n4 m4 x0 x1 x2 x3 x4 x5 x6 x7 x8 x9 x10 x11 x12 x13 x14 x15 x16 x17 x18 x19 x20 x21 x22 x23 x24 x25 x26 z hp y hy1 hy2 hy3
    · exact fil_q1 E a1 a2 a3 a4 n1 m1 n2 m2 n3 m3 n4 m4 x0 x1 x2 x3 x4 x5 x6 x7 x8 x9 x10 x11 x12 x13 x14 x15 x16 x17 x18 x19 x20 x21 x22 x23 x24 x25 x26 z hp y hy1 hy2 hy3
    · exact fil_q2 E a1 a2 a3 a4 n1 m1 n2 m2 n3 m3 n4 m4 x0 x1 x2 x3 x4 x5 x6 x7 x8 x9 x10 x11 x12 x13 x14 x15 x16 x17 x18 x19 x20 x21 x22 x23 x24 x25 x26 z hp y hy1 hy2 hy3
    · exact fil_q3 E a1 a2 a3 a4 n1 m1 n2 m2 n3 m3 n4 m4 x0 x1 x2 x3 x4 x5 x6 x7 x8 x9 x10 x11 x12 x13 x14 x15 x16 x17 x18 x19 x20 x21 x22 x23 x24 x25 x26 z hp y hy1 hy2 hy3
    · exact fil_q4 E a1 a2 a3 a4 n1 m1 n2 m2 n3 m3 n4 m4 x0 x1 x2 x3 x4 x5 x6 x7 x8 x9 x10 x11 x12 x13 x14 x15 x16 x17 x18 x19 x20 x21 x22 x23 x24 x25 x26 z hp y hy1 hy2 hy3
    · exact fil_q5 E a1 a2 a3 a4 n1 m1 n2 m2 n3 m3 n4 m4 x0 x1 x2 x3 x4 x5 x6 x7 x8 x9 x10 x11 x12 x13 x14 x15 x16 x17 x18 x19 x20 x21 x22 x23 x24 x25 x26 z hp y hy1 hy2 hy3
    · exact fil_q6 E a1 a2 a3 a4 n1 m1 n2 m2 n3 m3 n4 m4 x0 x1 x2 x3 x4 x5 x6 x7 x8 x9 x10 x11 x12 x13 x14 x15 x16 x17 x18 x19 x20 x21 x22 x23 x24 x25 x26 z hp y hy1 hy2 hy3
end Go.Proofs.Ytdomhmajoclpeaa

