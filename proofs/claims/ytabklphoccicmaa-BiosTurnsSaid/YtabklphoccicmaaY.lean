import Derived.Test.YtabklphoccicmaaX
set_option linter.unusedVariables false
set_option linter.unusedSimpArgs false
namespace Go.Proofs.Ytabklphoccicmaa
open Go Go.Proofs Go.Proofs.Ytabklphoccicmaa.Ev Go.Proofs.Ytabklphoccicmaa.Ev.Ho
set_option maxRecDepth 100000
noncomputable def c29_h0 (E : World) (f t n : Int) (z : PX) : Hd := ⟨4, anyH, (c29_td E), [(0, .c (.p 0 0)), (1, .r .u32 (0) (4294967295)), (2, .r .u32 (0) (4294967295)), (3, .r .i64 (0) (256)), (9, .r .i64 (0) (256))], [mB 3, rowB, .g HOLE, rowN], fun y => (bgF E ((clN n - y.n 91009).toNat) (y.n 91001) (y.n 91002) (Mm.mk (y.n 0) (y.n 1) (y.n 2) (y.l 1) (y.l 3)) = bgF E (clN n).toNat f t (Mm.mk (z.n 0) (z.n 1) (z.n 2) (z.l 1) (z.l 2)) ∧ okM (Mm.mk (y.n 0) (y.n 1) (y.n 2) (y.l 1) (y.l 3))) ∧ y.n 91003 = clN n ∧ y.n 91009 ≤ clN n ∧ y.n 2 + 6 * (clN n - y.n 91009) = z.n 2 + 6 * clN n, fun y => (clN n - y.n 91009).toNat⟩
noncomputable def c29_hs (E : World) (f t n : Int) (z : PX) : List Hd := [c29_h0 E f t n z]
theorem c29_r0 (E : World) (f t n : Int) (z : PX) (y : PX) :
    (loopP (pe E) Try.f29 (endR ([mB 2, rowB, rowN] : List MB).length [mB 3, rowB, .g HOLE, rowN] (.c (.r .i64 0 256)) (fun z y => ((Mm.mk (y.n 0) (y.n 1) (y.n 2) (y.l 1) (y.l 3)) = bgF E (clN n).toNat f t (Mm.mk (z.n 0) (z.n 1) (z.n 2) (z.l 1) (z.l 2)) ∧ y.n 90000 = clN n) ∧ okM (Mm.mk (y.n 0) (y.n 1) (y.n 2) (y.l 1) (y.l 3)) ∧ y.n 2 = z.n 2 + 6 * clN n) z) (headR ([mB 2, rowB, rowN] : List MB).length Try.f29.ntmps (some ((fun y => (clN n - y.n 91009).toNat) y)) (c29_hs E f t n z))  (run (pe E) (orcN E) (tabL fns) 20000 (2 ^ 2) (c29_td E) (mkL Try.f29.ntmps (slC y [(0, .c (.p 0 0)), (1, .r .u32 (0) (4294967295)), (2, .r .u32 (0) (4294967295)), (3, .r .i64 (0) (256)), (9, .r .i64 (0) (256))])) (mkM y [] [mB 3, rowB, .g HOLE, rowN] 0))) =
    ((decide (y.n (91009 : Nat) < y.n (91003 : Nat)) = true → (((44 : Nat) = (44 : Nat) ∧ True ∧ (5 : Nat) = (5 : Nat) ∧ (flat [Sp.r IntKind.u8 (0 : Int) (255 : Int)] = true ∧
      Row [Sp.r IntKind.u8 (0 : Int) (255 : Int)] (y.l (1 : Nat))) ∧ (59 : Nat) = (59 : Nat) ∧ (flat [Sp.i IntKind.u32, Sp.i IntKind.i64, Sp.i IntKind.u32] = true ∧ Row [Sp.i
      IntKind.u32, Sp.i IntKind.i64, Sp.i IntKind.u32] (y.l (3 : Nat))) ∧ ([] : SW) = []) ∧ okM (Mm.mk (y.n (0 : Nat)) (↑(y.n (1 : Nat)).toNat : Int) (↑(y.n (2 : Nat)).toNat :
      Int) (y.l (1 : Nat)) (y.l (3 : Nat)))) ∧ ∀ (y_1 : PX), (((0 : Int) ≤ y_1.n (1 : Nat) ∧ (0 : Int) ≤ y_1.n (2 : Nat) ∧ True) ∧ (flat [Sp.r IntKind.u8 (0 : Int) (255 : Int)]
      = true ∧ Row [Sp.r IntKind.u8 (0 : Int) (255 : Int)] (y_1.l (1 : Nat))) ∧ (flat [Sp.i IntKind.u32, Sp.i IntKind.i64, Sp.i IntKind.u32] = true ∧ Row [Sp.i IntKind.u32, Sp.i
      IntKind.i64, Sp.i IntKind.u32] (y_1.l (2 : Nat))) ∧ True) ∧ True ∧ Mm.mk (y_1.n (0 : Nat)) (y_1.n (1 : Nat)) (y_1.n (2 : Nat)) (y_1.l (1 : Nat)) (y_1.l (2 : Nat)) = Mm.mk
      (y.n (0 : Nat)) (↑(y.n (1 : Nat)).toNat : Int) (↑(y.n (2 : Nat)).toNat : Int) (y.l (1 : Nat)) (y.l (3 : Nat)) ∧ y_1.n (90000 : Nat) = rdv4 E (y.n (91001 : Nat)) (Mm.mk
      (y.n (0 : Nat)) (↑(y.n (1 : Nat)).toNat : Int) (↑(y.n (2 : Nat)).toNat : Int) (y.l (1 : Nat)) (y.l (3 : Nat))) → (((44 : Nat) = (44 : Nat) ∧ True ∧ (5 : Nat) = (5 : Nat) ∧
      (flat [Sp.r IntKind.u8 (0 : Int) (255 : Int)] = true ∧ Row [Sp.r IntKind.u8 (0 : Int) (255 : Int)] (y_1.l (1 : Nat))) ∧ (59 : Nat) = (59 : Nat) ∧ (flat [Sp.i IntKind.u32,
      Sp.i IntKind.i64, Sp.i IntKind.u32] = true ∧ Row [Sp.i IntKind.u32, Sp.i IntKind.i64, Sp.i IntKind.u32] (y_1.l (2 : Nat))) ∧ ([] : SW) = []) ∧ okM (Mm.mk (y_1.n (0 : Nat))
      (↑(y_1.n (1 : Nat)).toNat : Int) (↑(y_1.n (2 : Nat)).toNat : Int) (y_1.l (1 : Nat)) (y_1.l (2 : Nat)))) ∧ ∀ (y_2 : PX), (((0 : Int) ≤ y_2.n (1 : Nat) ∧ (0 : Int) ≤ y_2.n
      (2 : Nat) ∧ True) ∧ (flat [Sp.r IntKind.u8 (0 : Int) (255 : Int)] = true ∧ Row [Sp.r IntKind.u8 (0 : Int) (255 : Int)] (y_2.l (1 : Nat))) ∧ (flat [Sp.i IntKind.u32, Sp.i
      IntKind.i64, Sp.i IntKind.u32] = true ∧ Row [Sp.i IntKind.u32, Sp.i IntKind.i64, Sp.i IntKind.u32] (y_2.l (2 : Nat))) ∧ True) ∧ True ∧ Mm.mk (y_2.n (0 : Nat)) (y_2.n (1 :
      Nat)) (y_2.n (2 : Nat)) (y_2.l (1 : Nat)) (y_2.l (2 : Nat)) = Mm.mk (y_1.n (0 : Nat)) (↑(y_1.n (1 : Nat)).toNat : Int) (↑(y_1.n (2 : Nat)).toNat : Int) (y_1.l (1 : Nat))
      (y_1.l (2 : Nat)) ∧ y_2.n (90000 : Nat) = rdv4 E (IntKind.u32.wrap (y.n (91001 : Nat) + (4 : Int))) (Mm.mk (y_1.n (0 : Nat)) (↑(y_1.n (1 : Nat)).toNat : Int) (↑(y_1.n (2 :
      Nat)).toNat : Int) (y_1.l (1 : Nat)) (y_1.l (2 : Nat))) → (((44 : Nat) = (44 : Nat) ∧ True ∧ (5 : Nat) = (5 : Nat) ∧ (flat [Sp.r IntKind.u8 (0 : Int) (255 : Int)] = true ∧
      Row [Sp.r IntKind.u8 (0 : Int) (255 : Int)] (y_2.l (1 : Nat))) ∧ (59 : Nat) = (59 : Nat) ∧ (flat [Sp.i IntKind.u32, Sp.i IntKind.i64, Sp.i IntKind.u32] = true ∧ Row [Sp.i
      IntKind.u32, Sp.i IntKind.i64, Sp.i IntKind.u32] (y_2.l (2 : Nat))) ∧ ([] : SW) = []) ∧ okM (Mm.mk (y_2.n (0 : Nat)) (↑(y_2.n (1 : Nat)).toNat : Int) (↑(y_2.n (2 :
      Nat)).toNat : Int) (y_2.l (1 : Nat)) (y_2.l (2 : Nat)))) ∧ ∀ (y_3 : PX), (((0 : Int) ≤ y_3.n (1 : Nat) ∧ (0 : Int) ≤ y_3.n (2 : Nat) ∧ True) ∧ (flat [Sp.r IntKind.u8 (0 :
      Int) (255 : Int)] = true ∧ Row [Sp.r IntKind.u8 (0 : Int) (255 : Int)] (y_3.l (1 : Nat))) ∧ (flat [Sp.i IntKind.u32, Sp.i IntKind.i64, Sp.i IntKind.u32] = true ∧ Row [Sp.i
      IntKind.u32, Sp.i IntKind.i64, Sp.i IntKind.u32] (y_3.l (2 : Nat))) ∧ True) ∧ (((0 : Int) ≤ y_3.n (90000 : Nat) ∧ y_3.n (90000 : Nat) ≤ (65535 : Int)) ∧ True) ∧ Mm.mk
      (y_3.n (0 : Nat)) (y_3.n (1 : Nat)) (y_3.n (2 : Nat)) (y_3.l (1 : Nat)) (y_3.l (2 : Nat)) = Mm.mk (y_2.n (0 : Nat)) (↑(y_2.n (1 : Nat)).toNat : Int) (↑(y_2.n (2 :
      Nat)).toNat : Int) (y_2.l (1 : Nat)) (y_2.l (2 : Nat)) ∧ y_3.n (90000 : Nat) = rdv2 E (IntKind.u32.wrap (y.n (91001 : Nat) + (8 : Int))) (Mm.mk (y_2.n (0 : Nat)) (↑(y_2.n
      (1 : Nat)).toNat : Int) (↑(y_2.n (2 : Nat)).toNat : Int) (y_2.l (1 : Nat)) (y_2.l (2 : Nat))) → (([] : SW) = [] ∧ (0 : Int) ≤ y_3.n (90000 : Nat) ∧ y_3.n (90000 : Nat) ≤
      (4294967295 : Int)) ∧ ∀ (y_4 : PX), True ∧ (((-32768 : Int) ≤ y_4.n (90000 : Nat) ∧ y_4.n (90000 : Nat) ≤ (32767 : Int)) ∧ True) ∧ y_4.n (90000 : Nat) = IntKind.i16.wrap
      (y_3.n (90000 : Nat)) → (((44 : Nat) = (44 : Nat) ∧ True ∧ (5 : Nat) = (5 : Nat) ∧ (flat [Sp.r IntKind.u8 (0 : Int) (255 : Int)] = true ∧ Row [Sp.r IntKind.u8 (0 : Int)
      (255 : Int)] (y_3.l (1 : Nat))) ∧ (59 : Nat) = (59 : Nat) ∧ (flat [Sp.i IntKind.u32, Sp.i IntKind.i64, Sp.i IntKind.u32] = true ∧ Row [Sp.i IntKind.u32, Sp.i IntKind.i64,
      Sp.i IntKind.u32] (y_3.l (2 : Nat))) ∧ ([] : SW) = []) ∧ okM (Mm.mk (y_3.n (0 : Nat)) (↑(y_3.n (1 : Nat)).toNat : Int) (↑(y_3.n (2 : Nat)).toNat : Int) (y_3.l (1 : Nat))
      (y_3.l (2 : Nat)))) ∧ ∀ (y_5 : PX), (((0 : Int) ≤ y_5.n (1 : Nat) ∧ (0 : Int) ≤ y_5.n (2 : Nat) ∧ True) ∧ (flat [Sp.r IntKind.u8 (0 : Int) (255 : Int)] = true ∧ Row [Sp.r
      IntKind.u8 (0 : Int) (255 : Int)] (y_5.l (1 : Nat))) ∧ (flat [Sp.i IntKind.u32, Sp.i IntKind.i64, Sp.i IntKind.u32] = true ∧ Row [Sp.i IntKind.u32, Sp.i IntKind.i64, Sp.i
      IntKind.u32] (y_5.l (2 : Nat))) ∧ True) ∧ (((0 : Int) ≤ y_5.n (90000 : Nat) ∧ y_5.n (90000 : Nat) ≤ (65535 : Int)) ∧ True) ∧ Mm.mk (y_5.n (0 : Nat)) (y_5.n (1 : Nat))
      (y_5.n (2 : Nat)) (y_5.l (1 : Nat)) (y_5.l (2 : Nat)) = Mm.mk (y_3.n (0 : Nat)) (↑(y_3.n (1 : Nat)).toNat : Int) (↑(y_3.n (2 : Nat)).toNat : Int) (y_3.l (1 : Nat)) (y_3.l
      (2 : Nat)) ∧ y_5.n (90000 : Nat) = rdv2 E (IntKind.u32.wrap (y.n (91001 : Nat) + (10 : Int))) (Mm.mk (y_3.n (0 : Nat)) (↑(y_3.n (1 : Nat)).toNat : Int) (↑(y_3.n (2 :
      Nat)).toNat : Int) (y_3.l (1 : Nat)) (y_3.l (2 : Nat))) → (([] : SW) = [] ∧ (0 : Int) ≤ y_5.n (90000 : Nat) ∧ y_5.n (90000 : Nat) ≤ (4294967295 : Int)) ∧ ∀ (y_6 : PX),
      True ∧ (((-32768 : Int) ≤ y_6.n (90000 : Nat) ∧ y_6.n (90000 : Nat) ≤ (32767 : Int)) ∧ True) ∧ y_6.n (90000 : Nat) = IntKind.i16.wrap (y_5.n (90000 : Nat)) → (((44 : Nat)
      = (44 : Nat) ∧ True ∧ (5 : Nat) = (5 : Nat) ∧ (flat [Sp.r IntKind.u8 (0 : Int) (255 : Int)] = true ∧ Row [Sp.r IntKind.u8 (0 : Int) (255 : Int)] (y_5.l (1 : Nat))) ∧ (59 :
      Nat) = (59 : Nat) ∧ (flat [Sp.i IntKind.u32, Sp.i IntKind.i64, Sp.i IntKind.u32] = true ∧ Row [Sp.i IntKind.u32, Sp.i IntKind.i64, Sp.i IntKind.u32] (y_5.l (2 : Nat))) ∧
      ([] : SW) = []) ∧ okM (Mm.mk (y_5.n (0 : Nat)) (↑(y_5.n (1 : Nat)).toNat : Int) (↑(y_5.n (2 : Nat)).toNat : Int) (y_5.l (1 : Nat)) (y_5.l (2 : Nat)))) ∧ ∀ (y_7 : PX), (((0
      : Int) ≤ y_7.n (1 : Nat) ∧ (0 : Int) ≤ y_7.n (2 : Nat) ∧ True) ∧ (flat [Sp.r IntKind.u8 (0 : Int) (255 : Int)] = true ∧ Row [Sp.r IntKind.u8 (0 : Int) (255 : Int)] (y_7.l
      (1 : Nat))) ∧ (flat [Sp.i IntKind.u32, Sp.i IntKind.i64, Sp.i IntKind.u32] = true ∧ Row [Sp.i IntKind.u32, Sp.i IntKind.i64, Sp.i IntKind.u32] (y_7.l (2 : Nat))) ∧ True) ∧
      (((0 : Int) ≤ y_7.n (90000 : Nat) ∧ y_7.n (90000 : Nat) ≤ (65535 : Int)) ∧ True) ∧ Mm.mk (y_7.n (0 : Nat)) (y_7.n (1 : Nat)) (y_7.n (2 : Nat)) (y_7.l (1 : Nat)) (y_7.l (2
      : Nat)) = Mm.mk (y_5.n (0 : Nat)) (↑(y_5.n (1 : Nat)).toNat : Int) (↑(y_5.n (2 : Nat)).toNat : Int) (y_5.l (1 : Nat)) (y_5.l (2 : Nat)) ∧ y_7.n (90000 : Nat) = rdv2 E
      (IntKind.u32.wrap (y.n (91001 : Nat) + (12 : Int))) (Mm.mk (y_5.n (0 : Nat)) (↑(y_5.n (1 : Nat)).toNat : Int) (↑(y_5.n (2 : Nat)).toNat : Int) (y_5.l (1 : Nat)) (y_5.l (2
      : Nat))) → (([] : SW) = [] ∧ (0 : Int) ≤ y_7.n (90000 : Nat) ∧ y_7.n (90000 : Nat) ≤ (4294967295 : Int)) ∧ ∀ (y_8 : PX), True ∧ (((-32768 : Int) ≤ y_8.n (90000 : Nat) ∧
      y_8.n (90000 : Nat) ≤ (32767 : Int)) ∧ True) ∧ y_8.n (90000 : Nat) = IntKind.i16.wrap (y_7.n (90000 : Nat)) → (((44 : Nat) = (44 : Nat) ∧ True ∧ (5 : Nat) = (5 : Nat) ∧
      (flat [Sp.r IntKind.u8 (0 : Int) (255 : Int)] = true ∧ Row [Sp.r IntKind.u8 (0 : Int) (255 : Int)] (y_7.l (1 : Nat))) ∧ (59 : Nat) = (59 : Nat) ∧ (flat [Sp.i IntKind.u32,
      Sp.i IntKind.i64, Sp.i IntKind.u32] = true ∧ Row [Sp.i IntKind.u32, Sp.i IntKind.i64, Sp.i IntKind.u32] (y_7.l (2 : Nat))) ∧ ([] : SW) = []) ∧ okM (Mm.mk (y_7.n (0 : Nat))
      (↑(y_7.n (1 : Nat)).toNat : Int) (↑(y_7.n (2 : Nat)).toNat : Int) (y_7.l (1 : Nat)) (y_7.l (2 : Nat)))) ∧ ∀ (y_9 : PX), (((0 : Int) ≤ y_9.n (1 : Nat) ∧ (0 : Int) ≤ y_9.n
      (2 : Nat) ∧ True) ∧ (flat [Sp.r IntKind.u8 (0 : Int) (255 : Int)] = true ∧ Row [Sp.r IntKind.u8 (0 : Int) (255 : Int)] (y_9.l (1 : Nat))) ∧ (flat [Sp.i IntKind.u32, Sp.i
      IntKind.i64, Sp.i IntKind.u32] = true ∧ Row [Sp.i IntKind.u32, Sp.i IntKind.i64, Sp.i IntKind.u32] (y_9.l (2 : Nat))) ∧ True) ∧ (((0 : Int) ≤ y_9.n (90000 : Nat) ∧ y_9.n
      (90000 : Nat) ≤ (65535 : Int)) ∧ True) ∧ Mm.mk (y_9.n (0 : Nat)) (y_9.n (1 : Nat)) (y_9.n (2 : Nat)) (y_9.l (1 : Nat)) (y_9.l (2 : Nat)) = Mm.mk (y_7.n (0 : Nat)) (↑(y_7.n
      (1 : Nat)).toNat : Int) (↑(y_7.n (2 : Nat)).toNat : Int) (y_7.l (1 : Nat)) (y_7.l (2 : Nat)) ∧ y_9.n (90000 : Nat) = rdv2 E (IntKind.u32.wrap (IntKind.u32.wrap (y.n (91001
      : Nat) + (12 : Int)) + (2 : Int))) (Mm.mk (y_7.n (0 : Nat)) (↑(y_7.n (1 : Nat)).toNat : Int) (↑(y_7.n (2 : Nat)).toNat : Int) (y_7.l (1 : Nat)) (y_7.l (2 : Nat))) → (([] :
      SW) = [] ∧ (0 : Int) ≤ y_9.n (90000 : Nat) ∧ y_9.n (90000 : Nat) ≤ (4294967295 : Int)) ∧ ∀ (y_10 : PX), True ∧ (((-32768 : Int) ≤ y_10.n (90000 : Nat) ∧ y_10.n (90000 :
      Nat) ≤ (32767 : Int)) ∧ True) ∧ y_10.n (90000 : Nat) = IntKind.i16.wrap (y_9.n (90000 : Nat)) → (((44 : Nat) = (44 : Nat) ∧ True ∧ (5 : Nat) = (5 : Nat) ∧ (flat [Sp.r
      IntKind.u8 (0 : Int) (255 : Int)] = true ∧ Row [Sp.r IntKind.u8 (0 : Int) (255 : Int)] (y_9.l (1 : Nat))) ∧ (59 : Nat) = (59 : Nat) ∧ (flat [Sp.i IntKind.u32, Sp.i
      IntKind.i64, Sp.i IntKind.u32] = true ∧ Row [Sp.i IntKind.u32, Sp.i IntKind.i64, Sp.i IntKind.u32] (y_9.l (2 : Nat))) ∧ ([] : SW) = []) ∧ okM (Mm.mk (y_9.n (0 : Nat))
      (↑(y_9.n (1 : Nat)).toNat : Int) (↑(y_9.n (2 : Nat)).toNat : Int) (y_9.l (1 : Nat)) (y_9.l (2 : Nat)))) ∧ ∀ (y_11 : PX), (((0 : Int) ≤ y_11.n (1 : Nat) ∧ (0 : Int) ≤
      y_11.n (2 : Nat) ∧ True) ∧ (flat [Sp.r IntKind.u8 (0 : Int) (255 : Int)] = true ∧ Row [Sp.r IntKind.u8 (0 : Int) (255 : Int)] (y_11.l (1 : Nat))) ∧ (flat [Sp.i
      IntKind.u32, Sp.i IntKind.i64, Sp.i IntKind.u32] = true ∧ Row [Sp.i IntKind.u32, Sp.i IntKind.i64, Sp.i IntKind.u32] (y_11.l (2 : Nat))) ∧ True) ∧ (((0 : Int) ≤ y_11.n
      (90000 : Nat) ∧ y_11.n (90000 : Nat) ≤ (65535 : Int)) ∧ True) ∧ Mm.mk (y_11.n (0 : Nat)) (y_11.n (1 : Nat)) (y_11.n (2 : Nat)) (y_11.l (1 : Nat)) (y_11.l (2 : Nat)) =
      Mm.mk (y_9.n (0 : Nat)) (↑(y_9.n (1 : Nat)).toNat : Int) (↑(y_9.n (2 : Nat)).toNat : Int) (y_9.l (1 : Nat)) (y_9.l (2 : Nat)) ∧ y_11.n (90000 : Nat) = rdv2 E
      (IntKind.u32.wrap (IntKind.u32.wrap (y.n (91001 : Nat) + (12 : Int)) + (4 : Int))) (Mm.mk (y_9.n (0 : Nat)) (↑(y_9.n (1 : Nat)).toNat : Int) (↑(y_9.n (2 : Nat)).toNat :
      Int) (y_9.l (1 : Nat)) (y_9.l (2 : Nat))) → (([] : SW) = [] ∧ (0 : Int) ≤ IntKind.i64.wrap ((IntKind.u32.wrap ((y_11.n (90000 : Nat)).tdiv (256 : Int))).tmod (256 : Int))
      ∧ IntKind.i64.wrap ((IntKind.u32.wrap ((y_11.n (90000 : Nat)).tdiv (256 : Int))).tmod (256 : Int)) ≤ (1000 : Int)) ∧ ∀ (y_12 : PX), True ∧ (((-16384 : Int) ≤ y_12.n (90000
      : Nat) ∧ y_12.n (90000 : Nat) ≤ (16384 : Int)) ∧ True) ∧ y_12.n (90000 : Nat) = sn (IntKind.i64.wrap ((IntKind.u32.wrap ((y_11.n (90000 : Nat)).tdiv (256 : Int))).tmod
      (256 : Int))) → (([] : SW) = [] ∧ (0 : Int) ≤ IntKind.i64.wrap (IntKind.i64.wrap ((IntKind.u32.wrap ((y_11.n (90000 : Nat)).tdiv (256 : Int))).tmod (256 : Int)) + (64 :
      Int)) ∧ IntKind.i64.wrap (IntKind.i64.wrap ((IntKind.u32.wrap ((y_11.n (90000 : Nat)).tdiv (256 : Int))).tmod (256 : Int)) + (64 : Int)) ≤ (1000 : Int)) ∧ ∀ (y_13 : PX),
      True ∧ (((-16384 : Int) ≤ y_13.n (90000 : Nat) ∧ y_13.n (90000 : Nat) ≤ (16384 : Int)) ∧ True) ∧ y_13.n (90000 : Nat) = sn (IntKind.i64.wrap (IntKind.i64.wrap
      ((IntKind.u32.wrap ((y_11.n (90000 : Nat)).tdiv (256 : Int))).tmod (256 : Int)) + (64 : Int))) → (([] : SW) = [] ∧ (0 : Int) ≤ IntKind.u32.wrap ((IntKind.i64.wrap (y_8.n
      (90000 : Nat) * y_13.n (90000 : Nat))).fdiv (16384 : Int)) ∧ IntKind.u32.wrap ((IntKind.i64.wrap (y_8.n (90000 : Nat) * y_13.n (90000 : Nat))).fdiv (16384 : Int)) ≤
      (4294967295 : Int)) ∧ ∀ (y_14 : PX), True ∧ (((-32768 : Int) ≤ y_14.n (90000 : Nat) ∧ y_14.n (90000 : Nat) ≤ (32767 : Int)) ∧ True) ∧ y_14.n (90000 : Nat) =
      IntKind.i16.wrap (IntKind.u32.wrap ((IntKind.i64.wrap (y_8.n (90000 : Nat) * y_13.n (90000 : Nat))).fdiv (16384 : Int))) → (([] : SW) = [] ∧ (0 : Int) ≤ IntKind.u32.wrap
      ((IntKind.i64.wrap (IntKind.i64.wrap ((0 : Int) - y_8.n (90000 : Nat)) * y_12.n (90000 : Nat))).fdiv (16384 : Int)) ∧ IntKind.u32.wrap ((IntKind.i64.wrap (IntKind.i64.wrap
      ((0 : Int) - y_8.n (90000 : Nat)) * y_12.n (90000 : Nat))).fdiv (16384 : Int)) ≤ (4294967295 : Int)) ∧ ∀ (y_15 : PX), True ∧ (((-32768 : Int) ≤ y_15.n (90000 : Nat) ∧
      y_15.n (90000 : Nat) ≤ (32767 : Int)) ∧ True) ∧ y_15.n (90000 : Nat) = IntKind.i16.wrap (IntKind.u32.wrap ((IntKind.i64.wrap (IntKind.i64.wrap ((0 : Int) - y_8.n (90000 :
      Nat)) * y_12.n (90000 : Nat))).fdiv (16384 : Int))) → (([] : SW) = [] ∧ (0 : Int) ≤ IntKind.u32.wrap ((IntKind.i64.wrap (y_10.n (90000 : Nat) * y_12.n (90000 : Nat))).fdiv
      (16384 : Int)) ∧ IntKind.u32.wrap ((IntKind.i64.wrap (y_10.n (90000 : Nat) * y_12.n (90000 : Nat))).fdiv (16384 : Int)) ≤ (4294967295 : Int)) ∧ ∀ (y_16 : PX), True ∧
      (((-32768 : Int) ≤ y_16.n (90000 : Nat) ∧ y_16.n (90000 : Nat) ≤ (32767 : Int)) ∧ True) ∧ y_16.n (90000 : Nat) = IntKind.i16.wrap (IntKind.u32.wrap ((IntKind.i64.wrap
      (y_10.n (90000 : Nat) * y_12.n (90000 : Nat))).fdiv (16384 : Int))) → (([] : SW) = [] ∧ (0 : Int) ≤ IntKind.u32.wrap ((IntKind.i64.wrap (y_10.n (90000 : Nat) * y_13.n
      (90000 : Nat))).fdiv (16384 : Int)) ∧ IntKind.u32.wrap ((IntKind.i64.wrap (y_10.n (90000 : Nat) * y_13.n (90000 : Nat))).fdiv (16384 : Int)) ≤ (4294967295 : Int)) ∧ ∀
      (y_17 : PX), True ∧ (((-32768 : Int) ≤ y_17.n (90000 : Nat) ∧ y_17.n (90000 : Nat) ≤ (32767 : Int)) ∧ True) ∧ y_17.n (90000 : Nat) = IntKind.i16.wrap (IntKind.u32.wrap
      ((IntKind.i64.wrap (y_10.n (90000 : Nat) * y_13.n (90000 : Nat))).fdiv (16384 : Int))) → (((44 : Nat) = (44 : Nat) ∧ True ∧ (5 : Nat) = (5 : Nat) ∧ (flat [Sp.r IntKind.u8
      (0 : Int) (255 : Int)] = true ∧ Row [Sp.r IntKind.u8 (0 : Int) (255 : Int)] (y_11.l (1 : Nat))) ∧ (59 : Nat) = (59 : Nat) ∧ (flat [Sp.i IntKind.u32, Sp.i IntKind.i64, Sp.i
      IntKind.u32] = true ∧ Row [Sp.i IntKind.u32, Sp.i IntKind.i64, Sp.i IntKind.u32] (y_11.l (2 : Nat))) ∧ ([] : SW) = []) ∧ okM (Mm.mk (y_11.n (0 : Nat)) (↑(y_11.n (1 :
      Nat)).toNat : Int) (↑(y_11.n (2 : Nat)).toNat : Int) (y_11.l (1 : Nat)) (y_11.l (2 : Nat)))) ∧ ∀ (y_18 : PX), (((0 : Int) ≤ y_18.n (1 : Nat) ∧ (0 : Int) ≤ y_18.n (2 : Nat)
      ∧ True) ∧ (flat [Sp.r IntKind.u8 (0 : Int) (255 : Int)] = true ∧ Row [Sp.r IntKind.u8 (0 : Int) (255 : Int)] (y_18.l (1 : Nat))) ∧ (flat [Sp.i IntKind.u32, Sp.i
      IntKind.i64, Sp.i IntKind.u32] = true ∧ Row [Sp.i IntKind.u32, Sp.i IntKind.i64, Sp.i IntKind.u32] (y_18.l (3 : Nat))) ∧ True) ∧ True ∧ grM (Mm.mk (y_11.n (0 : Nat))
      (↑(y_11.n (1 : Nat)).toNat : Int) (↑(y_11.n (2 : Nat)).toNat : Int) (y_11.l (1 : Nat)) (y_11.l (2 : Nat))) (Mm.mk (y_18.n (0 : Nat)) (y_18.n (1 : Nat)) (y_18.n (2 : Nat))
      (y_18.l (1 : Nat)) (y_18.l (3 : Nat))) ∧ Mm.mk (y_18.n (0 : Nat)) (y_18.n (1 : Nat)) (y_18.n (2 : Nat)) (y_18.l (1 : Nat)) (y_18.l (3 : Nat)) = wrm2 E (IntKind.u32.wrap
      (y.n (91002 : Nat) + (0 : Int))) ((IntKind.u32.wrap (y_14.n (90000 : Nat))).tmod (65536 : Int)) (Mm.mk (y_11.n (0 : Nat)) (↑(y_11.n (1 : Nat)).toNat : Int) (↑(y_11.n (2 :
      Nat)).toNat : Int) (y_11.l (1 : Nat)) (y_11.l (2 : Nat))) → (((44 : Nat) = (44 : Nat) ∧ True ∧ (5 : Nat) = (5 : Nat) ∧ (flat [Sp.r IntKind.u8 (0 : Int) (255 : Int)] = true
      ∧ Row [Sp.r IntKind.u8 (0 : Int) (255 : Int)] (y_18.l (1 : Nat))) ∧ (59 : Nat) = (59 : Nat) ∧ (flat [Sp.i IntKind.u32, Sp.i IntKind.i64, Sp.i IntKind.u32] = true ∧ Row
      [Sp.i IntKind.u32, Sp.i IntKind.i64, Sp.i IntKind.u32] (y_18.l (3 : Nat))) ∧ ([] : SW) = []) ∧ okM (Mm.mk (y_18.n (0 : Nat)) (↑(y_18.n (1 : Nat)).toNat : Int) (↑(y_18.n (2
      : Nat)).toNat : Int) (y_18.l (1 : Nat)) (y_18.l (3 : Nat)))) ∧ ∀ (y_19 : PX), (((0 : Int) ≤ y_19.n (1 : Nat) ∧ (0 : Int) ≤ y_19.n (2 : Nat) ∧ True) ∧ (flat [Sp.r
      IntKind.u8 (0 : Int) (255 : Int)] = true ∧ Row [Sp.r IntKind.u8 (0 : Int) (255 : Int)] (y_19.l (1 : Nat))) ∧ (flat [Sp.i IntKind.u32, Sp.i IntKind.i64, Sp.i IntKind.u32] =
      true ∧ Row [Sp.i IntKind.u32, Sp.i IntKind.i64, Sp.i IntKind.u32] (y_19.l (3 : Nat))) ∧ True) ∧ True ∧ grM (Mm.mk (y_18.n (0 : Nat)) (↑(y_18.n (1 : Nat)).toNat : Int)
      (↑(y_18.n (2 : Nat)).toNat : Int) (y_18.l (1 : Nat)) (y_18.l (3 : Nat))) (Mm.mk (y_19.n (0 : Nat)) (y_19.n (1 : Nat)) (y_19.n (2 : Nat)) (y_19.l (1 : Nat)) (y_19.l (3 :
      Nat))) ∧ Mm.mk (y_19.n (0 : Nat)) (y_19.n (1 : Nat)) (y_19.n (2 : Nat)) (y_19.l (1 : Nat)) (y_19.l (3 : Nat)) = wrm2 E (IntKind.u32.wrap (y.n (91002 : Nat) + (2 : Int)))
      ((IntKind.u32.wrap (y_15.n (90000 : Nat))).tmod (65536 : Int)) (Mm.mk (y_18.n (0 : Nat)) (↑(y_18.n (1 : Nat)).toNat : Int) (↑(y_18.n (2 : Nat)).toNat : Int) (y_18.l (1 :
      Nat)) (y_18.l (3 : Nat))) → (((44 : Nat) = (44 : Nat) ∧ True ∧ (5 : Nat) = (5 : Nat) ∧ (flat [Sp.r IntKind.u8 (0 : Int) (255 : Int)] = true ∧ Row [Sp.r IntKind.u8 (0 :
      Int) (255 : Int)] (y_19.l (1 : Nat))) ∧ (59 : Nat) = (59 : Nat) ∧ (flat [Sp.i IntKind.u32, Sp.i IntKind.i64, Sp.i IntKind.u32] = true ∧ Row [Sp.i IntKind.u32, Sp.i
      IntKind.i64, Sp.i IntKind.u32] (y_19.l (3 : Nat))) ∧ ([] : SW) = []) ∧ okM (Mm.mk (y_19.n (0 : Nat)) (↑(y_19.n (1 : Nat)).toNat : Int) (↑(y_19.n (2 : Nat)).toNat : Int)
      (y_19.l (1 : Nat)) (y_19.l (3 : Nat)))) ∧ ∀ (y_20 : PX), (((0 : Int) ≤ y_20.n (1 : Nat) ∧ (0 : Int) ≤ y_20.n (2 : Nat) ∧ True) ∧ (flat [Sp.r IntKind.u8 (0 : Int) (255 :
      Int)] = true ∧ Row [Sp.r IntKind.u8 (0 : Int) (255 : Int)] (y_20.l (1 : Nat))) ∧ (flat [Sp.i IntKind.u32, Sp.i IntKind.i64, Sp.i IntKind.u32] = true ∧ Row [Sp.i
      IntKind.u32, Sp.i IntKind.i64, Sp.i IntKind.u32] (y_20.l (3 : Nat))) ∧ True) ∧ True ∧ grM (Mm.mk (y_19.n (0 : Nat)) (↑(y_19.n (1 : Nat)).toNat : Int) (↑(y_19.n (2 :
      Nat)).toNat : Int) (y_19.l (1 : Nat)) (y_19.l (3 : Nat))) (Mm.mk (y_20.n (0 : Nat)) (y_20.n (1 : Nat)) (y_20.n (2 : Nat)) (y_20.l (1 : Nat)) (y_20.l (3 : Nat))) ∧ Mm.mk
      (y_20.n (0 : Nat)) (y_20.n (1 : Nat)) (y_20.n (2 : Nat)) (y_20.l (1 : Nat)) (y_20.l (3 : Nat)) = wrm2 E (IntKind.u32.wrap (y.n (91002 : Nat) + (4 : Int)))
      ((IntKind.u32.wrap (y_16.n (90000 : Nat))).tmod (65536 : Int)) (Mm.mk (y_19.n (0 : Nat)) (↑(y_19.n (1 : Nat)).toNat : Int) (↑(y_19.n (2 : Nat)).toNat : Int) (y_19.l (1 :
      Nat)) (y_19.l (3 : Nat))) → (((44 : Nat) = (44 : Nat) ∧ True ∧ (5 : Nat) = (5 : Nat) ∧ (flat [Sp.r IntKind.u8 (0 : Int) (255 : Int)] = true ∧ Row [Sp.r IntKind.u8 (0 :
      Int) (255 : Int)] (y_20.l (1 : Nat))) ∧ (59 : Nat) = (59 : Nat) ∧ (flat [Sp.i IntKind.u32, Sp.i IntKind.i64, Sp.i IntKind.u32] = true ∧ Row [Sp.i IntKind.u32, Sp.i
      IntKind.i64, Sp.i IntKind.u32] (y_20.l (3 : Nat))) ∧ ([] : SW) = []) ∧ okM (Mm.mk (y_20.n (0 : Nat)) (↑(y_20.n (1 : Nat)).toNat : Int) (↑(y_20.n (2 : Nat)).toNat : Int)
      (y_20.l (1 : Nat)) (y_20.l (3 : Nat)))) ∧ ∀ (y_21 : PX), (((0 : Int) ≤ y_21.n (1 : Nat) ∧ (0 : Int) ≤ y_21.n (2 : Nat) ∧ True) ∧ (flat [Sp.r IntKind.u8 (0 : Int) (255 :
      Int)] = true ∧ Row [Sp.r IntKind.u8 (0 : Int) (255 : Int)] (y_21.l (1 : Nat))) ∧ (flat [Sp.i IntKind.u32, Sp.i IntKind.i64, Sp.i IntKind.u32] = true ∧ Row [Sp.i
      IntKind.u32, Sp.i IntKind.i64, Sp.i IntKind.u32] (y_21.l (3 : Nat))) ∧ True) ∧ True ∧ grM (Mm.mk (y_20.n (0 : Nat)) (↑(y_20.n (1 : Nat)).toNat : Int) (↑(y_20.n (2 :
      Nat)).toNat : Int) (y_20.l (1 : Nat)) (y_20.l (3 : Nat))) (Mm.mk (y_21.n (0 : Nat)) (y_21.n (1 : Nat)) (y_21.n (2 : Nat)) (y_21.l (1 : Nat)) (y_21.l (3 : Nat))) ∧ Mm.mk
      (y_21.n (0 : Nat)) (y_21.n (1 : Nat)) (y_21.n (2 : Nat)) (y_21.l (1 : Nat)) (y_21.l (3 : Nat)) = wrm2 E (IntKind.u32.wrap (y.n (91002 : Nat) + (6 : Int)))
      ((IntKind.u32.wrap (y_17.n (90000 : Nat))).tmod (65536 : Int)) (Mm.mk (y_20.n (0 : Nat)) (↑(y_20.n (1 : Nat)).toNat : Int) (↑(y_20.n (2 : Nat)).toNat : Int) (y_20.l (1 :
      Nat)) (y_20.l (3 : Nat))) → (((44 : Nat) = (44 : Nat) ∧ True ∧ (5 : Nat) = (5 : Nat) ∧ (flat [Sp.r IntKind.u8 (0 : Int) (255 : Int)] = true ∧ Row [Sp.r IntKind.u8 (0 :
      Int) (255 : Int)] (y_21.l (1 : Nat))) ∧ (59 : Nat) = (59 : Nat) ∧ (flat [Sp.i IntKind.u32, Sp.i IntKind.i64, Sp.i IntKind.u32] = true ∧ Row [Sp.i IntKind.u32, Sp.i
      IntKind.i64, Sp.i IntKind.u32] (y_21.l (3 : Nat))) ∧ ([] : SW) = []) ∧ okM (Mm.mk (y_21.n (0 : Nat)) (↑(y_21.n (1 : Nat)).toNat : Int) (↑(y_21.n (2 : Nat)).toNat : Int)
      (y_21.l (1 : Nat)) (y_21.l (3 : Nat)))) ∧ ∀ (y_22 : PX), (((0 : Int) ≤ y_22.n (1 : Nat) ∧ (0 : Int) ≤ y_22.n (2 : Nat) ∧ True) ∧ (flat [Sp.r IntKind.u8 (0 : Int) (255 :
      Int)] = true ∧ Row [Sp.r IntKind.u8 (0 : Int) (255 : Int)] (y_22.l (1 : Nat))) ∧ (flat [Sp.i IntKind.u32, Sp.i IntKind.i64, Sp.i IntKind.u32] = true ∧ Row [Sp.i
      IntKind.u32, Sp.i IntKind.i64, Sp.i IntKind.u32] (y_22.l (3 : Nat))) ∧ True) ∧ True ∧ grM (Mm.mk (y_21.n (0 : Nat)) (↑(y_21.n (1 : Nat)).toNat : Int) (↑(y_21.n (2 :
      Nat)).toNat : Int) (y_21.l (1 : Nat)) (y_21.l (3 : Nat))) (Mm.mk (y_22.n (0 : Nat)) (y_22.n (1 : Nat)) (y_22.n (2 : Nat)) (y_22.l (1 : Nat)) (y_22.l (3 : Nat))) ∧ Mm.mk
      (y_22.n (0 : Nat)) (y_22.n (1 : Nat)) (y_22.n (2 : Nat)) (y_22.l (1 : Nat)) (y_22.l (3 : Nat)) = wrm4 E (IntKind.u32.wrap (y.n (91002 : Nat) + (8 : Int)))
      (IntKind.u32.wrap (IntKind.i64.wrap (IntKind.i64.wrap (IntKind.i64.wrap (y_1.n (90000 : Nat)) - IntKind.i64.wrap (y_14.n (90000 : Nat) * y_4.n (90000 : Nat))) -
      IntKind.i64.wrap (y_15.n (90000 : Nat) * y_6.n (90000 : Nat))))) (Mm.mk (y_21.n (0 : Nat)) (↑(y_21.n (1 : Nat)).toNat : Int) (↑(y_21.n (2 : Nat)).toNat : Int) (y_21.l (1 :
      Nat)) (y_21.l (3 : Nat))) → (((44 : Nat) = (44 : Nat) ∧ True ∧ (5 : Nat) = (5 : Nat) ∧ (flat [Sp.r IntKind.u8 (0 : Int) (255 : Int)] = true ∧ Row [Sp.r IntKind.u8 (0 :
      Int) (255 : Int)] (y_22.l (1 : Nat))) ∧ (59 : Nat) = (59 : Nat) ∧ (flat [Sp.i IntKind.u32, Sp.i IntKind.i64, Sp.i IntKind.u32] = true ∧ Row [Sp.i IntKind.u32, Sp.i
      IntKind.i64, Sp.i IntKind.u32] (y_22.l (3 : Nat))) ∧ ([] : SW) = []) ∧ okM (Mm.mk (y_22.n (0 : Nat)) (↑(y_22.n (1 : Nat)).toNat : Int) (↑(y_22.n (2 : Nat)).toNat : Int)
      (y_22.l (1 : Nat)) (y_22.l (3 : Nat)))) ∧ ∀ (y_23 : PX), (((0 : Int) ≤ y_23.n (1 : Nat) ∧ (0 : Int) ≤ y_23.n (2 : Nat) ∧ True) ∧ (flat [Sp.r IntKind.u8 (0 : Int) (255 :
      Int)] = true ∧ Row [Sp.r IntKind.u8 (0 : Int) (255 : Int)] (y_23.l (1 : Nat))) ∧ (flat [Sp.i IntKind.u32, Sp.i IntKind.i64, Sp.i IntKind.u32] = true ∧ Row [Sp.i
      IntKind.u32, Sp.i IntKind.i64, Sp.i IntKind.u32] (y_23.l (3 : Nat))) ∧ True) ∧ True ∧ grM (Mm.mk (y_22.n (0 : Nat)) (↑(y_22.n (1 : Nat)).toNat : Int) (↑(y_22.n (2 :
      Nat)).toNat : Int) (y_22.l (1 : Nat)) (y_22.l (3 : Nat))) (Mm.mk (y_23.n (0 : Nat)) (y_23.n (1 : Nat)) (y_23.n (2 : Nat)) (y_23.l (1 : Nat)) (y_23.l (3 : Nat))) ∧ Mm.mk
      (y_23.n (0 : Nat)) (y_23.n (1 : Nat)) (y_23.n (2 : Nat)) (y_23.l (1 : Nat)) (y_23.l (3 : Nat)) = wrm4 E (IntKind.u32.wrap (y.n (91002 : Nat) + (12 : Int)))
      (IntKind.u32.wrap (IntKind.i64.wrap (IntKind.i64.wrap (IntKind.i64.wrap (y_2.n (90000 : Nat)) - IntKind.i64.wrap (y_16.n (90000 : Nat) * y_4.n (90000 : Nat))) -
      IntKind.i64.wrap (y_17.n (90000 : Nat) * y_6.n (90000 : Nat))))) (Mm.mk (y_22.n (0 : Nat)) (↑(y_22.n (1 : Nat)).toNat : Int) (↑(y_22.n (2 : Nat)).toNat : Int) (y_22.l (1 :
      Nat)) (y_22.l (3 : Nat))) → c29_td E = c29_td E ∧ (105 : Nat) = (105 : Nat) ∧ (True ∧ (((0 : Int) ≤ IntKind.u32.wrap (y.n (91001 : Nat) + (20 : Int)) ∧ IntKind.u32.wrap
      (y.n (91001 : Nat) + (20 : Int)) ≤ (4294967295 : Int)) ∧ True) ∧ (((0 : Int) ≤ IntKind.u32.wrap (y.n (91002 : Nat) + (16 : Int)) ∧ IntKind.u32.wrap (y.n (91002 : Nat) +
      (16 : Int)) ≤ (4294967295 : Int)) ∧ True) ∧ (((0 : Int) ≤ y.n (91003 : Nat) ∧ y.n (91003 : Nat) ≤ (256 : Int)) ∧ True) ∧ (((0 : Int) ≤ IntKind.i64.wrap (y.n (91009 : Nat)
      + (1 : Int)) ∧ IntKind.i64.wrap (y.n (91009 : Nat) + (1 : Int)) ≤ (256 : Int)) ∧ True) ∧ True) ∧ ((44 : Nat) = (44 : Nat) ∧ True ∧ (5 : Nat) = (5 : Nat) ∧ (flat [Sp.r
      IntKind.u8 (0 : Int) (255 : Int)] = true ∧ Row [Sp.r IntKind.u8 (0 : Int) (255 : Int)] (y_23.l (1 : Nat))) ∧ (4294967295 : Nat) = (4294967295 : Nat) ∧ (59 : Nat) = (59 :
      Nat) ∧ (flat [Sp.i IntKind.u32, Sp.i IntKind.i64, Sp.i IntKind.u32] = true ∧ Row [Sp.i IntKind.u32, Sp.i IntKind.i64, Sp.i IntKind.u32] (y_23.l (3 : Nat))) ∧ ([] : SW) =
      []) ∧ ((bgF E (clN n - IntKind.i64.wrap (y.n (91009 : Nat) + (1 : Int))).toNat (IntKind.u32.wrap (y.n (91001 : Nat) + (20 : Int))) (IntKind.u32.wrap (y.n (91002 : Nat) +
      (16 : Int))) (Mm.mk (y_23.n (0 : Nat)) (↑(y_23.n (1 : Nat)).toNat : Int) (↑(y_23.n (2 : Nat)).toNat : Int) (y_23.l (1 : Nat)) (y_23.l (3 : Nat))) = bgF E (clN n).toNat f t
      (Mm.mk (z.n (0 : Nat)) (z.n (1 : Nat)) (z.n (2 : Nat)) (z.l (1 : Nat)) (z.l (2 : Nat))) ∧ okM (Mm.mk (y_23.n (0 : Nat)) (↑(y_23.n (1 : Nat)).toNat : Int) (↑(y_23.n (2 :
      Nat)).toNat : Int) (y_23.l (1 : Nat)) (y_23.l (3 : Nat)))) ∧ y.n (91003 : Nat) = clN n ∧ IntKind.i64.wrap (y.n (91009 : Nat) + (1 : Int)) ≤ clN n ∧ (↑(y_23.n (2 :
      Nat)).toNat : Int) + (6 : Int) * (clN n - IntKind.i64.wrap (y.n (91009 : Nat) + (1 : Int))) = z.n (2 : Nat) + (6 : Int) * clN n) ∧ (clN n - IntKind.i64.wrap (y.n (91009 :
      Nat) + (1 : Int))).toNat < (clN n - y.n (91009 : Nat)).toNat ∧ True) ∧ (decide (y.n (91009 : Nat) < y.n (91003 : Nat)) = false → ((44 : Nat) = (44 : Nat) ∧ True ∧ (5 :
      Nat) = (5 : Nat) ∧ (flat [Sp.r IntKind.u8 (0 : Int) (255 : Int)] = true ∧ Row [Sp.r IntKind.u8 (0 : Int) (255 : Int)] (y.l (1 : Nat))) ∧ (4294967295 : Nat) = (4294967295 :
      Nat) ∧ (59 : Nat) = (59 : Nat) ∧ (flat [Sp.i IntKind.u32, Sp.i IntKind.i64, Sp.i IntKind.u32] = true ∧ Row [Sp.i IntKind.u32, Sp.i IntKind.i64, Sp.i IntKind.u32] (y.l (3 :
      Nat))) ∧ ([] : SW) = []) ∧ (((0 : Int) ≤ y.n (91003 : Nat) ∧ y.n (91003 : Nat) ≤ (256 : Int)) ∧ True) ∧ (Mm.mk (y.n (0 : Nat)) (↑(y.n (1 : Nat)).toNat : Int) (↑(y.n (2 :
      Nat)).toNat : Int) (y.l (1 : Nat)) (y.l (3 : Nat)) = bgF E (clN n).toNat f t (Mm.mk (z.n (0 : Nat)) (z.n (1 : Nat)) (z.n (2 : Nat)) (z.l (1 : Nat)) (z.l (2 : Nat))) ∧ y.n
      (91003 : Nat) = clN n) ∧ okM (Mm.mk (y.n (0 : Nat)) (↑(y.n (1 : Nat)).toNat : Int) (↑(y.n (2 : Nat)).toNat : Int) (y.l (1 : Nat)) (y.l (3 : Nat))) ∧ (↑(y.n (2 :
      Nat)).toNat : Int) = z.n (2 : Nat) + (6 : Int) * clN n)) := by kernel_rfl
set_option maxHeartbeats 8000000 in
theorem c29_q0 (E : World) (f t n : Int) (z : PX) (hp : (fun z => okM (Mm.mk (z.n 0) (z.n 1) (z.n 2) (z.l 1) (z.l 2)) ∧ z.n 2 ≤ 100000 ∧ (0 ≤ f ∧ f ≤ 4294967295) ∧ (0 ≤ t ∧ t ≤ 4294967295)) z) (y : PX) (hy1 : rgM y [mB 3, rowB, .g HOLE, rowN] 0) (hy2 : rgF y [(0, .c (.p 0 0)), (1, .r .u32 (0) (4294967295)), (2, .r .u32 (0) (4294967295)), (3, .r .i64 (0) (256)), (9, .r .i64 (0) (256))]) (hy3 : (fun y => (bgF E ((clN n - y.n 91009).toNat) (y.n 91001) (y.n 91002) (Mm.mk (y.n 0) (y.n 1) (y.n 2) (y.l 1) (y.l 3)) = bgF E (clN n).toNat f t (Mm.mk (z.n 0) (z.n 1) (z.n 2) (z.l 1) (z.l 2)) ∧ okM (Mm.mk (y.n 0) (y.n 1) (y.n 2) (y.l 1) (y.l 3))) ∧ y.n 91003 = clN n ∧ y.n 91009 ≤ clN n ∧ y.n 2 + 6 * (clN n - y.n 91009) = z.n 2 + 6 * clN n) y) : Holds ((run (pe E) (orcN E) (tabL fns) 20000 (2 ^ 2) (c29_td E) (mkL Try.f29.ntmps (slC y [(0, .c (.p 0 0)), (1, .r .u32 (0) (4294967295)), (2, .r .u32 (0) (4294967295)), (3, .r .i64 (0) (256)), (9, .r .i64 (0) (256))])) (mkM y [] [mB 3, rowB, .g HOLE, rowN] 0)).OK (lfP (pe E) Try.f29 (endR ([mB 2, rowB, rowN] : List MB).length [mB 3, rowB, .g HOLE, rowN] (.c (.r .i64 0 256)) (fun z y => ((Mm.mk (y.n 0) (y.n 1) (y.n 2) (y.l 1) (y.l 3)) = bgF E (clN n).toNat f t (Mm.mk (z.n 0) (z.n 1) (z.n 2) (z.l 1) (z.l 2)) ∧ y.n 90000 = clN n) ∧ okM (Mm.mk (y.n 0) (y.n 1) (y.n 2) (y.l 1) (y.l 3)) ∧ y.n 2 = z.n 2 + 6 * clN n) z) (headR ([mB 2, rowB, rowN] : List MB).length Try.f29.ntmps (some ((fun y => (clN n - y.n 91009).toNat) y)) (c29_hs E f t n z)))) := by
  refine loopP_lfH ⟨?_⟩
  rw [c29_r0]
  have hf : True ∧ (((0) ≤ y.n 91001 ∧ y.n 91001 ≤ (4294967295)) ∧ True) ∧ (((0) ≤ y.n 91002 ∧ y.n 91002 ≤ (4294967295)) ∧ True) ∧ (((0) ≤ y.n 91003 ∧ y.n 91003 ≤ (256)) ∧ True) ∧ (((0) ≤ y.n 91009 ∧ y.n 91009 ≤ (256)) ∧ True) ∧ True := hy2
  obtain ⟨_, ⟨g1, _⟩, ⟨g2, _⟩, ⟨g3, _⟩, ⟨g9, _⟩, _⟩ := hf
  obtain ⟨⟨hE, hK0⟩, e3, hle, hnn⟩ := hy3
  obtain ⟨_, hz2, hf0, ht0⟩ := hp
  have hR1 := hy1.2.1.2
  have hR2 := hy1.2.2.1.2
  have hf1 : flat [Sp.r .u8 0 255] = true := rfl
  have hf2 : flat [Sp.i .u32, Sp.i .i64, Sp.i .u32] = true := rfl
  have T1 : ((y.n 1).toNat : Int) = y.n 1 := Int.toNat_of_nonneg hK0.b0
  have T2 : ((y.n 2).toNat : Int) = y.n 2 := Int.toNat_of_nonneg hK0.n0
  simp only [T1, T2]
  have hcb := cl_bd n
  refine ⟨fun hl => ?_, fun hl => ?_⟩
  · have hl := of_decide_eq_true hl
    refine ⟨⟨by ((repeat' (first | exact trivial | with_reducible rfl | assumption | exact rfl | apply And.intro)) <;> omega), hK0⟩, ?_⟩
    rintro y1 ⟨⟨⟨p1a, p1b, _⟩, ⟨_, rb1⟩, ⟨_, rn1⟩, _⟩, _, q1, v1⟩
    have S1a : ((y1.n 1).toNat : Int) = y1.n 1 := Int.toNat_of_nonneg p1a
    have S1b : ((y1.n 2).toNat : Int) = y1.n 2 := Int.toNat_of_nonneg p1b
    simp only [S1a, S1b]
    have hK1 : okM (Mm.mk (y1.n 0) (y1.n 1) (y1.n 2) (y1.l 1) (y1.l 2)) := by rw [q1]; exact hK0
    refine ⟨⟨by ((repeat' (first | exact trivial | with_reducible rfl | assumption | exact rfl | apply And.intro)) <;> omega), hK1⟩, ?_⟩
    rintro y2 ⟨⟨⟨p2a, p2b, _⟩, ⟨_, rb2⟩, ⟨_, rn2⟩, _⟩, _, q2, v2⟩
    have S2a : ((y2.n 1).toNat : Int) = y2.n 1 := Int.toNat_of_nonneg p2a
    have S2b : ((y2.n 2).toNat : Int) = y2.n 2 := Int.toNat_of_nonneg p2b
    simp only [S2a, S2b]
    replace q2 := q2.trans q1
    rw [q1] at v2
    have hK2 : okM (Mm.mk (y2.n 0) (y2.n 1) (y2.n 2) (y2.l 1) (y2.l 2)) := by rw [q2]; exact hK0
    refine ⟨⟨by ((repeat' (first | exact trivial | with_reducible rfl | assumption | exact rfl | apply And.intro)) <;> omega), hK2⟩, ?_⟩
    rintro y3 ⟨⟨⟨p3a, p3b, _⟩, ⟨_, rb3⟩, ⟨_, rn3⟩, _⟩, ⟨gr3, _⟩, q3, v3⟩
    have S3a : ((y3.n 1).toNat : Int) = y3.n 1 := Int.toNat_of_nonneg p3a
    have S3b : ((y3.n 2).toNat : Int) = y3.n 2 := Int.toNat_of_nonneg p3b
    simp only [S3a, S3b]
    replace q3 := q3.trans q2
    rw [q2] at v3
    have hK3 : okM (Mm.mk (y3.n 0) (y3.n 1) (y3.n 2) (y3.l 1) (y3.l 2)) := by rw [q3]; exact hK0
    refine ⟨⟨by trivial, ⟨gr3.1, by omega⟩⟩, ?_⟩
    rintro y4 ⟨_, ⟨gr4, _⟩, v4⟩
    refine ⟨⟨by ((repeat' (first | exact trivial | with_reducible rfl | assumption | exact rfl | apply And.intro)) <;> omega), hK3⟩, ?_⟩
    rintro y5 ⟨⟨⟨p5a, p5b, _⟩, ⟨_, rb5⟩, ⟨_, rn5⟩, _⟩, ⟨gr5, _⟩, q5, v5⟩
    have S5a : ((y5.n 1).toNat : Int) = y5.n 1 := Int.toNat_of_nonneg p5a
    have S5b : ((y5.n 2).toNat : Int) = y5.n 2 := Int.toNat_of_nonneg p5b
    simp only [S5a, S5b]
    replace q5 := q5.trans q3
    rw [q3] at v5
    have hK5 : okM (Mm.mk (y5.n 0) (y5.n 1) (y5.n 2) (y5.l 1) (y5.l 2)) := by rw [q5]; exact hK0
    refine ⟨⟨by trivial, ⟨gr5.1, by omega⟩⟩, ?_⟩
    rintro y6 ⟨_, ⟨gr6, _⟩, v6⟩
    refine ⟨⟨by ((repeat' (first | exact trivial | with_reducible rfl | assumption | exact rfl | apply And.intro)) <;> omega), hK5⟩, ?_⟩
    rintro y7 ⟨⟨⟨p7a, p7b, _⟩, ⟨_, rb7⟩, ⟨_, rn7⟩, _⟩, ⟨gr7, _⟩, q7, v7⟩
    have S7a : ((y7.n 1).toNat : Int) = y7.n 1 := Int.toNat_of_nonneg p7a
    have S7b : ((y7.n 2).toNat : Int) = y7.n 2 := Int.toNat_of_nonneg p7b
    simp only [S7a, S7b]
    replace q7 := q7.trans q5
    rw [q5] at v7
    have hK7 : okM (Mm.mk (y7.n 0) (y7.n 1) (y7.n 2) (y7.l 1) (y7.l 2)) := by rw [q7]; exact hK0
    refine ⟨⟨by trivial, ⟨gr7.1, by omega⟩⟩, ?_⟩
    rintro y8 ⟨_, ⟨gr8, _⟩, v8⟩
    refine ⟨⟨by ((repeat' (first | exact trivial | with_reducible rfl | assumption | exact rfl | apply And.intro)) <;> omega), hK7⟩, ?_⟩
    rintro y9 ⟨⟨⟨p9a, p9b, _⟩, ⟨_, rb9⟩, ⟨_, rn9⟩, _⟩, ⟨gr9, _⟩, q9, v9⟩
    have S9a : ((y9.n 1).toNat : Int) = y9.n 1 := Int.toNat_of_nonneg p9a
    have S9b : ((y9.n 2).toNat : Int) = y9.n 2 := Int.toNat_of_nonneg p9b
    simp only [S9a, S9b]
    replace q9 := q9.trans q7
    rw [q7] at v9
    have hK9 : okM (Mm.mk (y9.n 0) (y9.n 1) (y9.n 2) (y9.l 1) (y9.l 2)) := by rw [q9]; exact hK0
    refine ⟨⟨by trivial, ⟨gr9.1, by omega⟩⟩, ?_⟩
    rintro y10 ⟨_, ⟨gr10, _⟩, v10⟩
    refine ⟨⟨by ((repeat' (first | exact trivial | with_reducible rfl | assumption | exact rfl | apply And.intro)) <;> omega), hK9⟩, ?_⟩
    rintro y11 ⟨⟨⟨p11a, p11b, _⟩, ⟨_, rb11⟩, ⟨_, rn11⟩, _⟩, ⟨gr11, _⟩, q11, v11⟩
    have S11a : ((y11.n 1).toNat : Int) = y11.n 1 := Int.toNat_of_nonneg p11a
    have S11b : ((y11.n 2).toNat : Int) = y11.n 2 := Int.toNat_of_nonneg p11b
    simp only [S11a, S11b]
    replace q11 := q11.trans q9
    rw [q9] at v11
    have hK11 : okM (Mm.mk (y11.n 0) (y11.n 1) (y11.n 2) (y11.l 1) (y11.l 2)) := by rw [q11]; exact hK0
    simp only [anR _ gr11, a64]
    refine ⟨⟨by trivial, a64b _⟩, ?_⟩
    rintro y12 ⟨_, ⟨gr12, _⟩, v12⟩
    refine ⟨⟨by trivial, a64c _⟩, ?_⟩
    rintro y13 ⟨_, ⟨gr13, _⟩, v13⟩
    rw [e16'] at v8 v10 v4 v6
    rw [v8, v10]
    simp only [en64]
    refine ⟨⟨by trivial, ur _⟩, ?_⟩
    rintro y14 ⟨_, ⟨gr14, _⟩, v14⟩
    refine ⟨⟨by trivial, ur _⟩, ?_⟩
    rintro y15 ⟨_, ⟨gr15, _⟩, v15⟩
    refine ⟨⟨by trivial, ur _⟩, ?_⟩
    rintro y16 ⟨_, ⟨gr16, _⟩, v16⟩
    refine ⟨⟨by trivial, ur _⟩, ?_⟩
    rintro y17 ⟨_, ⟨gr17, _⟩, v17⟩
    rw [e16', eA' _ _ (hS_bd _) gr13] at v14
    rw [e16', eA' _ _ (hS_ng _) gr12] at v15
    rw [e16', eA' _ _ (hS_bd _) gr12] at v16
    rw [e16', eA' _ _ (hS_bd _) gr13] at v17
    simp only [eM', eW', Int.add_zero]
    refine ⟨⟨by ((repeat' (first | exact trivial | with_reducible rfl | assumption | exact rfl | apply And.intro)) <;> omega), hK11⟩, ?_⟩
    rintro y18 ⟨⟨⟨p18a, p18b, _⟩, ⟨_, rb18⟩, ⟨_, rn18⟩, _⟩, _, g18, q18⟩
    have S18a : ((y18.n 1).toNat : Int) = y18.n 1 := Int.toNat_of_nonneg p18a
    have S18b : ((y18.n 2).toNat : Int) = y18.n 2 := Int.toNat_of_nonneg p18b
    simp only [S18a, S18b]
    have c11 : y11.n 2 = y.n 2 := congrArg Mm.nn q11
    have c18 : y18.n 2 = y11.n 2 + 1 := g18.1
    have hK18 := hK11.gr g18 (show y11.n 2 < 1000000 by omega)
    rw [q11] at q18
    refine ⟨⟨by ((repeat' (first | exact trivial | with_reducible rfl | assumption | exact rfl | apply And.intro)) <;> omega), hK18⟩, ?_⟩
    rintro y19 ⟨⟨⟨p19a, p19b, _⟩, ⟨_, rb19⟩, ⟨_, rn19⟩, _⟩, _, g19, q19⟩
    have S19a : ((y19.n 1).toNat : Int) = y19.n 1 := Int.toNat_of_nonneg p19a
    have S19b : ((y19.n 2).toNat : Int) = y19.n 2 := Int.toNat_of_nonneg p19b
    simp only [S19a, S19b]
    have c19 : y19.n 2 = y18.n 2 + 1 := g19.1
    have hK19 := hK18.gr g19 (show y18.n 2 < 1000000 by omega)
    refine ⟨⟨by ((repeat' (first | exact trivial | with_reducible rfl | assumption | exact rfl | apply And.intro)) <;> omega), hK19⟩, ?_⟩
    rintro y20 ⟨⟨⟨p20a, p20b, _⟩, ⟨_, rb20⟩, ⟨_, rn20⟩, _⟩, _, g20, q20⟩
    have S20a : ((y20.n 1).toNat : Int) = y20.n 1 := Int.toNat_of_nonneg p20a
    have S20b : ((y20.n 2).toNat : Int) = y20.n 2 := Int.toNat_of_nonneg p20b
    simp only [S20a, S20b]
    have c20 : y20.n 2 = y19.n 2 + 1 := g20.1
    have hK20 := hK19.gr g20 (show y19.n 2 < 1000000 by omega)
    refine ⟨⟨by ((repeat' (first | exact trivial | with_reducible rfl | assumption | exact rfl | apply And.intro)) <;> omega), hK20⟩, ?_⟩
    rintro y21 ⟨⟨⟨p21a, p21b, _⟩, ⟨_, rb21⟩, ⟨_, rn21⟩, _⟩, _, g21, q21⟩
    have S21a : ((y21.n 1).toNat : Int) = y21.n 1 := Int.toNat_of_nonneg p21a
    have S21b : ((y21.n 2).toNat : Int) = y21.n 2 := Int.toNat_of_nonneg p21b
    simp only [S21a, S21b]
    have c21 : y21.n 2 = y20.n 2 + 1 := g21.1
    have hK21 := hK20.gr g21 (show y20.n 2 < 1000000 by omega)
    refine ⟨⟨by ((repeat' (first | exact trivial | with_reducible rfl | assumption | exact rfl | apply And.intro)) <;> omega), hK21⟩, ?_⟩
    rintro y22 ⟨⟨⟨p22a, p22b, _⟩, ⟨_, rb22⟩, ⟨_, rn22⟩, _⟩, _, g22, q22⟩
    have S22a : ((y22.n 1).toNat : Int) = y22.n 1 := Int.toNat_of_nonneg p22a
    have S22b : ((y22.n 2).toNat : Int) = y22.n 2 := Int.toNat_of_nonneg p22b
    simp only [S22a, S22b]
    have c22 : y22.n 2 = y21.n 2 + 1 := g22.1
    have hK22 := hK21.gr g22 (show y21.n 2 < 1000000 by omega)
    refine ⟨⟨by ((repeat' (first | exact trivial | with_reducible rfl | assumption | exact rfl | apply And.intro)) <;> omega), hK22⟩, ?_⟩
    rintro y23 ⟨⟨⟨p23a, p23b, _⟩, ⟨_, rb23⟩, ⟨_, rn23⟩, _⟩, _, g23, q23⟩
    have S23a : ((y23.n 1).toNat : Int) = y23.n 1 := Int.toNat_of_nonneg p23a
    have S23b : ((y23.n 2).toNat : Int) = y23.n 2 := Int.toNat_of_nonneg p23b
    simp only [S23a, S23b]
    have c23 : y23.n 2 = y22.n 2 + 1 := g23.1
    have hK23 := hK22.gr g23 (show y22.n 2 < 1000000 by omega)
    have hlt : y.n 91009 < clN n := by omega
    have hS := bgF_s hE hlt
    have hW : bgS E (y.n 91001) (y.n 91002) (Mm.mk (y.n 0) (y.n 1) (y.n 2) (y.l 1) (y.l 3)) = (Mm.mk (y23.n 0) (y23.n 1) (y23.n 2) (y23.l 1) (y23.l 3)) := by
      rw [q23, q22, q21, q20, q19, q18]
      simp only [bgS, bgM, tnF, u32w, uadd, Int.reduceAdd, Int.add_zero, v17, v16, v15, v14, v13, v12, v11, v9, v7, v6, v5, v4, v3, v2, v1]
    rw [hW] at hS
    have w1 : IntKind.i64.wrap (y.n 91009 + 1) = y.n 91009 + 1 := by rw [wi64]; omega
    rw [w1]
    have u1 := ur (y.n 91001 + 20)
    have u2 := ur (y.n 91002 + 16)
    ((repeat' (first | exact trivial | with_reducible rfl | assumption | exact rfl | apply And.intro)) <;> omega)
  · have hl := of_decide_eq_false hl
    have e0 : (clN n - y.n 91009).toNat = 0 := by omega
    rw [e0] at hE
    have hE : (Mm.mk (y.n 0) (y.n 1) (y.n 2) (y.l 1) (y.l 3)) = bgF E (clN n).toNat f t (Mm.mk (z.n 0) (z.n 1) (z.n 2) (z.l 1) (z.l 2)) := hE
    ((repeat' (first | exact trivial | with_reducible rfl | assumption | exact rfl | apply And.intro)) <;> omega)
theorem c29_pro (E : World) (f t n : Int) (z : PX) :
    (loopP (pe E) Try.f29 (endR ([mB 2, rowB, rowN] : List MB).length [mB 3, rowB, .g HOLE, rowN] (.c (.r .i64 0 256)) (fun z y => ((Mm.mk (y.n 0) (y.n 1) (y.n 2) (y.l 1) (y.l 3)) = bgF E (clN n).toNat f t (Mm.mk (z.n 0) (z.n 1) (z.n 2) (z.l 1) (z.l 2)) ∧ y.n 90000 = clN n) ∧ okM (Mm.mk (y.n 0) (y.n 1) (y.n 2) (y.l 1) (y.l 3)) ∧ y.n 2 = z.n 2 + 6 * clN n) z) (headR ([mB 2, rowB, rowN] : List MB).length Try.f29.ntmps none (c29_hs E f t n z)) (run (pe E) (orcN E) (tabL fns) 20000 (2 ^ 2) [.code (Try.f29.body.getD .skip)] ⟨Try.f29.ntmps, mkFrGo (Tr.mk 12) 0 [.c (.p 0 0), .c (.i false .u32 f), .c (.i false .u32 t), .c (.i false .i64 n)]⟩ (mkM z [] [mB 2, rowB, rowN] 0))) =
    (c29_td E = c29_td E ∧ (105 : Nat) = (105 : Nat) ∧ (True ∧ (((0 : Int) ≤ f ∧ f ≤ (4294967295 : Int)) ∧ True) ∧ (((0 : Int) ≤ t ∧ t ≤ (4294967295 : Int)) ∧ True) ∧ ((((0 :
      Int) ≤ if (if n < (256 : Int) then n else (256 : Int)) > (0 : Int) then if n < (256 : Int) then n else (256 : Int) else (0 : Int)) ∧ (if (if n < (256 : Int) then n else
      (256 : Int)) > (0 : Int) then if n < (256 : Int) then n else (256 : Int) else (0 : Int)) ≤ (256 : Int)) ∧ True) ∧ (((0 : Int) ≤ (0 : Int) ∧ (0 : Int) ≤ (256 : Int)) ∧
      True) ∧ True) ∧ ((44 : Nat) = (44 : Nat) ∧ True ∧ (5 : Nat) = (5 : Nat) ∧ (flat [Sp.r IntKind.u8 (0 : Int) (255 : Int)] = true ∧ Row [Sp.r IntKind.u8 (0 : Int) (255 :
      Int)] (z.l (1 : Nat))) ∧ (4294967295 : Nat) = (4294967295 : Nat) ∧ (59 : Nat) = (59 : Nat) ∧ (flat [Sp.i IntKind.u32, Sp.i IntKind.i64, Sp.i IntKind.u32] = true ∧ Row
      [Sp.i IntKind.u32, Sp.i IntKind.i64, Sp.i IntKind.u32] (z.l (2 : Nat))) ∧ ([] : SW) = []) ∧ ((bgF E (clN n - (0 : Int)).toNat f t (Mm.mk (z.n (0 : Nat)) (↑(z.n (1 :
      Nat)).toNat : Int) (↑(z.n (2 : Nat)).toNat : Int) (z.l (1 : Nat)) (z.l (2 : Nat))) = bgF E (clN n).toNat f t (Mm.mk (z.n (0 : Nat)) (z.n (1 : Nat)) (z.n (2 : Nat)) (z.l (1
      : Nat)) (z.l (2 : Nat))) ∧ okM (Mm.mk (z.n (0 : Nat)) (↑(z.n (1 : Nat)).toNat : Int) (↑(z.n (2 : Nat)).toNat : Int) (z.l (1 : Nat)) (z.l (2 : Nat)))) ∧ (if (if n < (256 :
      Int) then n else (256 : Int)) > (0 : Int) then if n < (256 : Int) then n else (256 : Int) else (0 : Int)) = clN n ∧ (0 : Int) ≤ clN n ∧ (↑(z.n (2 : Nat)).toNat : Int) + (6
      : Int) * (clN n - (0 : Int)) = z.n (2 : Nat) + (6 : Int) * clN n) ∧ True) := by kernel_rfl
set_option maxHeartbeats 8000000 in
theorem c29_c (E : World) (f t n : Int) (z : PX) (hz : rgM z [mB 2, rowB, rowN] 0) (hp : (fun z => okM (Mm.mk (z.n 0) (z.n 1) (z.n 2) (z.l 1) (z.l 2)) ∧ z.n 2 ≤ 100000 ∧ (0 ≤ f ∧ f ≤ 4294967295) ∧ (0 ≤ t ∧ t ≤ 4294967295)) z) : HD (pe E) 29 [.c (.p 0 0), .c (.i false .u32 f), .c (.i false .u32 t), .c (.i false .i64 n)] [mB 2, rowB, rowN] [mB 3, rowB, .g HOLE, rowN] (.c (.r .i64 0 256)) (fun z y => ((Mm.mk (y.n 0) (y.n 1) (y.n 2) (y.l 1) (y.l 3)) = bgF E (clN n).toNat f t (Mm.mk (z.n 0) (z.n 1) (z.n 2) (z.l 1) (z.l 2)) ∧ y.n 90000 = clN n) ∧ okM (Mm.mk (y.n 0) (y.n 1) (y.n 2) (y.l 1) (y.l 3)) ∧ y.n 2 = z.n 2 + 6 * clN n) z := by
  refine HD.loop (P := pe E) orcN_ok tab_ok tab_sz mixed Try.func29 (c := Try.f29.body.getD .skip) rfl (by decide) (Nat.le_of_ble_eq_true rfl) (by rfl) 20000 (2 ^ 2) (c29_hs E f t n z) (by rfl) (loopP_lfH ⟨?_⟩) ?_
  · rw [c29_pro]
    obtain ⟨hK, hz2, hf0, ht0⟩ := hp
    have hR1 := hz.2.1.2
    have hR2 := hz.2.2.1.2
    have hf1 : flat [Sp.r .u8 0 255] = true := rfl
    have hf2 : flat [Sp.i .u32, Sp.i .i64, Sp.i .u32] = true := rfl
    have T1 : ((z.n 1).toNat : Int) = z.n 1 := Int.toNat_of_nonneg hK.b0
    have T2 : ((z.n 2).toNat : Int) = z.n 2 := Int.toNat_of_nonneg hK.n0
    have eP : (if 256 < (if 0 > n then 0 else n) then 256 else (if 0 > n then 0 else n)) = clN n := by unfold clN; repeat' split <;> omega
    have eR : (if (if n < 256 then n else 256) > 0 then (if n < 256 then n else 256) else 0) = clN n := by unfold clN; repeat' split <;> omega
    have hcb := cl_bd n
    simp only [T1, T2, eP, eR, Int.sub_zero]
    ((repeat' (first | exact trivial | with_reducible rfl | assumption | exact rfl | apply And.intro)) <;> omega)
  · intro h hmem y hy1 hy2 hy3
    simp only [c29_hs, List.mem_cons, List.not_mem_nil, or_false] at hmem
    rcases hmem with rfl
    · exact c29_q0 E f t n z hp y hy1 hy2 hy3
end Go.Proofs.Ytabklphoccicmaa

