import Derived.Test.YtdomhmajoclpeaaP
set_option linter.unusedVariables false
set_option linter.unusedSimpArgs false
namespace Go.Proofs.Ytdomhmajoclpeaa
open Go Go.Proofs Go.Proofs.Ytdomhmajoclpeaa.Ev Go.Proofs.Ytdomhmajoclpeaa.Ev.Ho Go.IntKind
set_option maxRecDepth 100000
theorem fil_r3 (E : World) (a1 a2 a3 a4 : Option Addr) (n1 m1 n2 m2 n3 m3 n4 m4 : Nat) (x0 x1 x2 x3 x4 x5 x6 x7 x8 x9 x10 x11 x12 x13 x14 x15 x16 x17 x18 x19 x20 x21 x22 x23 x24 x25 x26 : Int) (z : PX) (y : PX) :
    (loopP (pe E) Try.f9 (endR ([] : List MB).length [mW 1, rowB, rowB, rowB] (.c (.c (.p 0 0))) (QF x0 x1 x2 x3 x4 x5 x6 x7 x8 x9 x10 x11 x12 x13 x14 x15 x16 x17 x18 x19 x20 x21 x22 x23 x24 x25) z) (headR ([] : List MB).length Try.f9.ntmps (some ((fun y => n4 * 9223372036854775820 + 200000 + (1024 - y.n 91026).toNat) y)) (fil_hs E a1 a2 a3 a4 n1 m1 n2 m2 n3 m3 n4 m4 x0 x1 x2 x3 x4 x5 x6 x7 x8 x9 x10 x11 x12 x13 x14 x15 x16 x17 x18 x19 x20 x21 x22 x23 x24 x25 x26 z))  (run (pe E) (orcNone) (tabL fns) 20000 (2 ^ 200 - 1) (tdF Try.f9 0) (mkL Try.f9.ntmps (slC y (fsK3 a4 n4 m4))) (mkM y [] (ms0 a1 a2 a3 a4 n1 m1 n2 m2 n3 m3 n4 m4 x0 x1 x2 x3 x4 x5 x6 x7 x8 x9 x10 x11 x12 x13 x14 x15 x16 x17 x18 x19 x20 x21 x22 x23 x24 x25 x26) 0))) =
    ((decide (y.n 91026 < 1024) = true → inB (y.n 91026) (1024 : Nat) = true ∧ decide ((y.n 91026).toNat + (1 : Nat) ≤ (y.l 3).length) = true ∧ tdF Try.f9 (0 : Nat) = tdF Try.f9 (0 : Nat) ∧ 122 = 122 ∧ (True ∧ True ∧ (renC (posN [0, 1, 2, 3, 4]) (C.rs (2 : Nat) (1 : Nat) (98304 : Nat)) = C.rs (2 : Nat) (1 : Nat) (98304 : Nat) ∧ True) ∧ (renC (posN [0, 1, 2, 3, 4]) (C.rs (3 : Nat) (1 : Nat) (1024 : Nat)) = C.rs (3 : Nat) (1 : Nat) (1024 : Nat) ∧ True) ∧ (renC (posN [0, 1, 2, 3, 4]) (C.rs (4 : Nat) (1 : Nat) (1024 : Nat)) = C.rs (4 : Nat) (1 : Nat) (1024 : Nat) ∧ True) ∧ True ∧ (renC (posN [0, 1, 2, 3, 4]) (C.i false i64 1024) = C.i false i64 1024 ∧ True) ∧ ((0 ≤ i64.wrap (y.n 91026 + 1) ∧ i64.wrap (y.n 91026 + 1) ≤ 1024) ∧ True) ∧ True) ∧ (bxK a1 a2 a3 a4 n1 m1 n2 m2 n3 m3 n4 m4 x0 x1 x2 x3 x4 x5 x6 x7 x8 x9 x10 x11 x12 x13 x14 x15 x16 x17 x18 x19 x20 x21 x22 x23 x24 x25 x26 = bxK a1 a2 a3 a4 n1 m1 n2 m2 n3 m3 n4 m4 x0 x1 x2 x3 x4 x5 x6 x7 x8 x9 x10 x11 x12 x13 x14 x15 x16 x17 x18 x19 x20 x21 x22 x23 x24 x25 x26 ∧ scK x0 x1 x2 x3 x4 x5 x6 x7 x8 x9 x10 x11 x12 x13 x14 x15 x16 x17 x18 x19 x20 x21 x22 x23 x24 x25 = scK x0 x1 x2 x3 x4 x5 x6 x7 x8 x9 x10 x11 x12 x13 x14 x15 x16 x17 x18 x19 x20 x21 x22 x23 x24 x25 ∧ 5 = 5 ∧ (flat [Sp.r u8 0 255] = true ∧ Row [Sp.r u8 0 255] (y.l 2)) ∧ 5 = 5 ∧ (flat [Sp.r u8 0 255] = true ∧ Row [Sp.r u8 0 255] (rSet (y.l 3) (y.n 91026).toNat [C.i false u8 (u8.wrap ((u32.wrap (u32.wrap (y.n 91004 * 1664525) + 1013904223)).fdiv 16777216))])) ∧ 5 = 5 ∧ (flat [Sp.r u8 0 255] = true ∧ Row [Sp.r u8 0 255] (y.l 4)) ∧ ([] : SW) = []) ∧ Len3 (y.l 2) (rSet (y.l 3) (y.n 91026).toNat [C.i false u8 (u8.wrap ((u32.wrap (u32.wrap (y.n 91004 * 1664525) + 1013904223)).fdiv 16777216))]) (y.l 4) ∧ n4 * (9223372036854775820 : Nat) + (200000 : Nat) + (1024 - i64.wrap (y.n 91026 + 1)).toNat < n4 * (9223372036854775820 : Nat) + (200000 : Nat) + (1024 - y.n 91026).toNat ∧ True) ∧ (decide (y.n 91026 < 1024) = false → tdF Try.f9 (2 : Nat) = tdF Try.f9 (2 : Nat) ∧
      122 = 122 ∧ (True ∧ True ∧ (renC (posN [0, 1, 2, 3, 4]) (C.rs (2 : Nat) (1 : Nat) (98304 : Nat)) = C.rs (2 : Nat) (1 : Nat) (98304 : Nat) ∧ True) ∧ (renC (posN [0, 1, 2, 3, 4]) (C.rs (3 : Nat) (1 : Nat) (1024 : Nat)) = C.rs (3 : Nat) (1 : Nat) (1024 : Nat) ∧ True) ∧ (renC (posN [0, 1, 2, 3, 4]) (C.rs (4 : Nat) (1 : Nat) (1024 : Nat)) = C.rs (4 : Nat) (1 : Nat) (1024 : Nat) ∧ True) ∧ True ∧ (renC (posN [0, 1, 2, 3, 4]) (C.i false i64 98304) = C.i false i64 98304 ∧ True) ∧ (((0 : Int) ≤ (0 : Int) ∧ (0 : Int) ≤ 98304) ∧ True) ∧ True) ∧ (bxK a1 a2 a3 a4 n1 m1 n2 m2 n3 m3 n4 m4 x0 x1 x2 x3 x4 x5 x6 x7 x8 x9 x10 x11 x12 x13 x14 x15 x16 x17 x18 x19 x20 x21 x22 x23 x24 x25 x26 = bxK a1 a2 a3 a4 n1 m1 n2 m2 n3 m3 n4 m4 x0 x1 x2 x3 x4 x5 x6 x7 x8 x9 x10 x11 x12 x13 x14 x15 x16 x17 x18 x19 x20 x21 x22 x23 x24 x25 x26 ∧ scK x0 x1 x2 x3 x4 x5 x6 x7 x8 x9 x10 x11 x12 x13 x14 x15 x16 x17 x18 x19 x20 x21 x22 x23 x24 x25 = scK x0 x1 x2 x3 x4 x5 x6 x7 x8 x9 x10 x11 x12 x13 x14 x15 x16 x17 x18 x19 x20 x21 x22 x23 x24 x25 ∧ rw3 y 2 (([] : SW) = [])) ∧ Len3 (y.l 2) (y.l 3) (y.l 4) ∧ n4 * (9223372036854775820 : Nat) + (2000 : Nat) + ((98304 : Int) - 0).toNat < n4 * (9223372036854775820 : Nat) + (200000 : Nat) + (1024 - y.n 91026).toNat ∧ True)) := by kernel_rfl
set_option maxHeartbeats 8000000 in
theorem fil_q3 (E : World) (a1 a2 a3 a4 : Option Addr) (n1 m1 n2 m2 n3 m3 n4 m4 : Nat) (x0 x1 x2 x3 x4 x5 x6 x7 x8 x9 x10 x11 x12 x13 x14 x15 x16 x17 x18 x19 x20 x21 x22 x23 x24 x25 x26 : Int) (z : PX) (hp : (preK E a4 n4 x0 x1 x2 x3 x4 x5 x6 x7 x8 x9 x10 x11 x12 x13 x14 x15 x16 x17 x18 x19 x20 x21 x22 x23 x24 x25) z) (y : PX) (hy1 : rgM y (ms0 a1 a2 a3 a4 n1 m1 n2 m2 n3 m3 n4 m4 x0 x1 x2 x3 x4 x5 x6 x7 x8 x9 x10 x11 x12 x13 x14 x15 x16 x17 x18 x19 x20 x21 x22 x23 x24 x25 x26) 0) (hy2 : rgF y (fsK3 a4 n4 m4)) (hy3 : (fun y => Len3 (y.l 2) (y.l 3) (y.l 4)) y) : Holds ((run (pe E) (orcNone) (tabL fns) 20000 (2 ^ 200 - 1) (tdF Try.f9 0) (mkL Try.f9.ntmps (slC y (fsK3 a4 n4 m4))) (mkM y [] (ms0 a1 a2 a3 a4 n1 m1 n2 m2 n3 m3 n4 m4 x0 x1 x2 x3 x4 x5 x6 x7 x8 x9 x10 x11 x12 x13 x14 x15 x16 x17 x18 x19 x20 x21 x22 x23 x24 x25 x26) 0)).OK (lfP (pe E) Try.f9 (endR ([] : List MB).length [mW 1, rowB, rowB, rowB] (.c (.c (.p 0 0))) (QF x0 x1 x2 x3 x4 x5 x6 x7 x8 x9 x10 x11 x12 x13 x14 x15 x16 x17 x18 x19 x20 x21 x22 x23 x24 x25) z) (headR ([] : List MB).length Try.f9.ntmps (some ((fun y => n4 * 9223372036854775820 + 200000 + (1024 - y.n 91026).toNat) y)) (fil_hs E a1 a2 a3 a4 n1 m1 n2 m2 n3 m3 n4 m4 x0 x1 x2 x3 x4 x5 x6 x7 x8 x9 x10 x11 x12 x13 x14 x15 x16 x17 x18 x19 x20 x21 x22 x23 x24 x25 x26 z)))) := by
  refine loopP_lfH ⟨?_⟩
  rw [fil_r3]
  have hf : True ∧ True ∧ True ∧ True ∧ True ∧ True ∧ True ∧ (((0) ≤ y.n 91026 ∧ y.n 91026 ≤ (1024)) ∧ True) ∧ True := hy2
  obtain ⟨_, _, _, _, _, _, _, ⟨g26, _⟩, _⟩ := hf
  obtain ⟨hX, hK⟩ := hp
  obtain ⟨hx0, hx1, hx2, hx3, hx4, hx5, hx6, hx7, hx8, hx9, hx10, hx11, hx12, hx13, hx14, hx15, hx16, hx17, hx18, hx19, hx20, hx21, hx22, hx23, hx24, hx25⟩ := hX
  have hF : flat [Sp.r .u8 0 255] = true := rfl
  have hm := mxL
  have hb := hK.b
  have hR2 : Row [.r .u8 0 255] (y.l 2) := hy1.1.2
  have hR3 : Row [.r .u8 0 255] (y.l 3) := hy1.2.1.2
  have hR4 : Row [.r .u8 0 255] (y.l 4) := hy1.2.2.1.2
  have hL : Len3 (y.l 2) (y.l 3) (y.l 4) := hy3
  have l2 := hL.h1
  have l3 := hL.h2
  have l4 := hL.h3
  have g : 0 ≤ y.n 91026 ∧ y.n 91026 ≤ 1024 := g26
  skip
  have w1 : IntKind.i64.wrap (y.n 91026 + 1) = y.n 91026 + 1 := wi64_in _ (by omega) (by omega)
  have w8 : (0 : Int) = 0 := rfl
  simp only [w1]
  refine ⟨fun h => ?_, fun h => ?_⟩
  · have h := of_decide_eq_true h
    have hin : inB (y.n 91026) 1024 = true := inB_of (by omega) (by omega)
    have hd : decide ((y.n 91026).toNat + 1 ≤ (y.l 3).length) = true := decide_eq_true (by omega)
    (repeat' (first | exact trivial | with_reducible rfl | exact (rn5 _).1 | exact (rn5 _).2.1 | exact (rn5 _).2.2 | exact (rn6 _).1 | exact (rn6 _).2.1 | exact (rn6 _).2.2 | exact rnEs _ _ _ _ | exact rnIi _ _ _ _ | exact setU8 hR3 (by omega) (wu8b _) | exact len3_1 hL | exact len3_2 hL | exact len3_3 hL | with_reducible assumption | apply And.intro)) <;> (first | omega | done)
  · have h := of_decide_eq_false h
    (repeat' (first | exact trivial | with_reducible rfl | exact (rn5 _).1 | exact (rn5 _).2.1 | exact (rn5 _).2.2 | exact (rn6 _).1 | exact (rn6 _).2.1 | exact (rn6 _).2.2 | exact rnEs _ _ _ _ | exact rnIi _ _ _ _ | exact setU8 hR3 (by omega) (wu8b _) | exact len3_1 hL | exact len3_2 hL | exact len3_3 hL | with_reducible assumption | apply And.intro)) <;> (first | omega | done)
end Go.Proofs.Ytdomhmajoclpeaa

