import Derived.Test.YtabklphoccicmaaX
set_option linter.unusedVariables false
set_option linter.unusedSimpArgs false
namespace Go.Proofs.Ytabklphoccicmaa
open Go Go.Proofs Go.Proofs.Ytabklphoccicmaa.Ev Go.Proofs.Ytabklphoccicmaa.Ev.Ho
set_option maxRecDepth 100000
noncomputable def c31_h0 (E : World) (f t n ap : Int) (z : PX) : Hd := ⟨4, anyH, (c31_td E), [(0, .c (.p 0 0)), (1, .r .u32 (0) (4294967295)), (2, .r .u32 (0) (4294967295)), (3, .r .i64 (0) (256)), (4, .q (.i false .u32 ap)), (11, .r .i64 (0) (256))], [mB 3, rowB, .g HOLE, rowN], fun y => (obF E ap ((clN n - y.n 91011).toNat) (y.n 91001) (y.n 91002) (Mm.mk (y.n 0) (y.n 1) (y.n 2) (y.l 1) (y.l 3)) = obF E ap (clN n).toNat f t (Mm.mk (z.n 0) (z.n 1) (z.n 2) (z.l 1) (z.l 2)) ∧ okM (Mm.mk (y.n 0) (y.n 1) (y.n 2) (y.l 1) (y.l 3))) ∧ y.n 91003 = clN n ∧ y.n 91011 ≤ clN n ∧ y.n 2 + 4 * (clN n - y.n 91011) = z.n 2 + 4 * clN n, fun y => (clN n - y.n 91011).toNat⟩
noncomputable def c31_hs (E : World) (f t n ap : Int) (z : PX) : List Hd := [c31_h0 E f t n ap z]
theorem c31_r0 (E : World) (f t n ap : Int) (z : PX) (y : PX) :
    (loopP (pe E) Try.f31 (endR ([mB 2, rowB, rowN] : List MB).length [mB 3, rowB, .g HOLE, rowN] (.c (.r .i64 0 256)) (fun z y => ((Mm.mk (y.n 0) (y.n 1) (y.n 2) (y.l 1) (y.l 3)) = obF E ap (clN n).toNat f t (Mm.mk (z.n 0) (z.n 1) (z.n 2) (z.l 1) (z.l 2)) ∧ y.n 90000 = clN n) ∧ okM (Mm.mk (y.n 0) (y.n 1) (y.n 2) (y.l 1) (y.l 3)) ∧ y.n 2 = z.n 2 + 4 * clN n) z) (headR ([mB 2, rowB, rowN] : List MB).length Try.f31.ntmps (some ((fun y => (clN n - y.n 91011).toNat) y)) (c31_hs E f t n ap z))  (run (pe E) (orcN E) (tabL fns) 20000 (2 ^ 2) (c31_td E) (mkL Try.f31.ntmps (slC y [(0, .c (.p 0 0)), (1, .r .u32 (0) (4294967295)), (2, .r .u32 (0) (4294967295)), (3, .r .i64 (0) (256)), (4, .q (.i false .u32 ap)), (11, .r .i64 (0) (256))])) (mkM y [] [mB 3, rowB, .g HOLE, rowN] 0))) =
    ((decide (y.n (91011 : Nat) < y.n (91003 : Nat)) = true → (((44 : Nat) = (44 : Nat) ∧ True ∧ (5 : Nat) = (5 : Nat) ∧ (flat [Sp.r IntKind.u8 (0 : Int) (255 : Int)] = true ∧
      Row [Sp.r IntKind.u8 (0 : Int) (255 : Int)] (y.l (1 : Nat))) ∧ (59 : Nat) = (59 : Nat) ∧ (flat [Sp.i IntKind.u32, Sp.i IntKind.i64, Sp.i IntKind.u32] = true ∧ Row [Sp.i
      IntKind.u32, Sp.i IntKind.i64, Sp.i IntKind.u32] (y.l (3 : Nat))) ∧ ([] : SW) = []) ∧ okM (Mm.mk (y.n (0 : Nat)) (↑(y.n (1 : Nat)).toNat : Int) (↑(y.n (2 : Nat)).toNat :
      Int) (y.l (1 : Nat)) (y.l (3 : Nat)))) ∧ ∀ (y_1 : PX), (((0 : Int) ≤ y_1.n (1 : Nat) ∧ (0 : Int) ≤ y_1.n (2 : Nat) ∧ True) ∧ (flat [Sp.r IntKind.u8 (0 : Int) (255 : Int)]
      = true ∧ Row [Sp.r IntKind.u8 (0 : Int) (255 : Int)] (y_1.l (1 : Nat))) ∧ (flat [Sp.i IntKind.u32, Sp.i IntKind.i64, Sp.i IntKind.u32] = true ∧ Row [Sp.i IntKind.u32, Sp.i
      IntKind.i64, Sp.i IntKind.u32] (y_1.l (2 : Nat))) ∧ True) ∧ (((0 : Int) ≤ y_1.n (90000 : Nat) ∧ y_1.n (90000 : Nat) ≤ (65535 : Int)) ∧ True) ∧ Mm.mk (y_1.n (0 : Nat))
      (y_1.n (1 : Nat)) (y_1.n (2 : Nat)) (y_1.l (1 : Nat)) (y_1.l (2 : Nat)) = Mm.mk (y.n (0 : Nat)) (↑(y.n (1 : Nat)).toNat : Int) (↑(y.n (2 : Nat)).toNat : Int) (y.l (1 :
      Nat)) (y.l (3 : Nat)) ∧ y_1.n (90000 : Nat) = rdv2 E (y.n (91001 : Nat)) (Mm.mk (y.n (0 : Nat)) (↑(y.n (1 : Nat)).toNat : Int) (↑(y.n (2 : Nat)).toNat : Int) (y.l (1 :
      Nat)) (y.l (3 : Nat))) → (([] : SW) = [] ∧ (0 : Int) ≤ y_1.n (90000 : Nat) ∧ y_1.n (90000 : Nat) ≤ (4294967295 : Int)) ∧ ∀ (y_2 : PX), True ∧ (((-32768 : Int) ≤ y_2.n
      (90000 : Nat) ∧ y_2.n (90000 : Nat) ≤ (32767 : Int)) ∧ True) ∧ y_2.n (90000 : Nat) = IntKind.i16.wrap (y_1.n (90000 : Nat)) → (((44 : Nat) = (44 : Nat) ∧ True ∧ (5 : Nat)
      = (5 : Nat) ∧ (flat [Sp.r IntKind.u8 (0 : Int) (255 : Int)] = true ∧ Row [Sp.r IntKind.u8 (0 : Int) (255 : Int)] (y_1.l (1 : Nat))) ∧ (59 : Nat) = (59 : Nat) ∧ (flat [Sp.i
      IntKind.u32, Sp.i IntKind.i64, Sp.i IntKind.u32] = true ∧ Row [Sp.i IntKind.u32, Sp.i IntKind.i64, Sp.i IntKind.u32] (y_1.l (2 : Nat))) ∧ ([] : SW) = []) ∧ okM (Mm.mk
      (y_1.n (0 : Nat)) (↑(y_1.n (1 : Nat)).toNat : Int) (↑(y_1.n (2 : Nat)).toNat : Int) (y_1.l (1 : Nat)) (y_1.l (2 : Nat)))) ∧ ∀ (y_3 : PX), (((0 : Int) ≤ y_3.n (1 : Nat) ∧
      (0 : Int) ≤ y_3.n (2 : Nat) ∧ True) ∧ (flat [Sp.r IntKind.u8 (0 : Int) (255 : Int)] = true ∧ Row [Sp.r IntKind.u8 (0 : Int) (255 : Int)] (y_3.l (1 : Nat))) ∧ (flat [Sp.i
      IntKind.u32, Sp.i IntKind.i64, Sp.i IntKind.u32] = true ∧ Row [Sp.i IntKind.u32, Sp.i IntKind.i64, Sp.i IntKind.u32] (y_3.l (2 : Nat))) ∧ True) ∧ (((0 : Int) ≤ y_3.n
      (90000 : Nat) ∧ y_3.n (90000 : Nat) ≤ (65535 : Int)) ∧ True) ∧ Mm.mk (y_3.n (0 : Nat)) (y_3.n (1 : Nat)) (y_3.n (2 : Nat)) (y_3.l (1 : Nat)) (y_3.l (2 : Nat)) = Mm.mk
      (y_1.n (0 : Nat)) (↑(y_1.n (1 : Nat)).toNat : Int) (↑(y_1.n (2 : Nat)).toNat : Int) (y_1.l (1 : Nat)) (y_1.l (2 : Nat)) ∧ y_3.n (90000 : Nat) = rdv2 E (IntKind.u32.wrap
      (y.n (91001 : Nat) + (2 : Int))) (Mm.mk (y_1.n (0 : Nat)) (↑(y_1.n (1 : Nat)).toNat : Int) (↑(y_1.n (2 : Nat)).toNat : Int) (y_1.l (1 : Nat)) (y_1.l (2 : Nat))) → (([] :
      SW) = [] ∧ (0 : Int) ≤ y_3.n (90000 : Nat) ∧ y_3.n (90000 : Nat) ≤ (4294967295 : Int)) ∧ ∀ (y_4 : PX), True ∧ (((-32768 : Int) ≤ y_4.n (90000 : Nat) ∧ y_4.n (90000 : Nat)
      ≤ (32767 : Int)) ∧ True) ∧ y_4.n (90000 : Nat) = IntKind.i16.wrap (y_3.n (90000 : Nat)) → (((44 : Nat) = (44 : Nat) ∧ True ∧ (5 : Nat) = (5 : Nat) ∧ (flat [Sp.r IntKind.u8
      (0 : Int) (255 : Int)] = true ∧ Row [Sp.r IntKind.u8 (0 : Int) (255 : Int)] (y_3.l (1 : Nat))) ∧ (59 : Nat) = (59 : Nat) ∧ (flat [Sp.i IntKind.u32, Sp.i IntKind.i64, Sp.i
      IntKind.u32] = true ∧ Row [Sp.i IntKind.u32, Sp.i IntKind.i64, Sp.i IntKind.u32] (y_3.l (2 : Nat))) ∧ ([] : SW) = []) ∧ okM (Mm.mk (y_3.n (0 : Nat)) (↑(y_3.n (1 :
      Nat)).toNat : Int) (↑(y_3.n (2 : Nat)).toNat : Int) (y_3.l (1 : Nat)) (y_3.l (2 : Nat)))) ∧ ∀ (y_5 : PX), (((0 : Int) ≤ y_5.n (1 : Nat) ∧ (0 : Int) ≤ y_5.n (2 : Nat) ∧
      True) ∧ (flat [Sp.r IntKind.u8 (0 : Int) (255 : Int)] = true ∧ Row [Sp.r IntKind.u8 (0 : Int) (255 : Int)] (y_5.l (1 : Nat))) ∧ (flat [Sp.i IntKind.u32, Sp.i IntKind.i64,
      Sp.i IntKind.u32] = true ∧ Row [Sp.i IntKind.u32, Sp.i IntKind.i64, Sp.i IntKind.u32] (y_5.l (2 : Nat))) ∧ True) ∧ (((0 : Int) ≤ y_5.n (90000 : Nat) ∧ y_5.n (90000 : Nat)
      ≤ (65535 : Int)) ∧ True) ∧ Mm.mk (y_5.n (0 : Nat)) (y_5.n (1 : Nat)) (y_5.n (2 : Nat)) (y_5.l (1 : Nat)) (y_5.l (2 : Nat)) = Mm.mk (y_3.n (0 : Nat)) (↑(y_3.n (1 :
      Nat)).toNat : Int) (↑(y_3.n (2 : Nat)).toNat : Int) (y_3.l (1 : Nat)) (y_3.l (2 : Nat)) ∧ y_5.n (90000 : Nat) = rdv2 E (IntKind.u32.wrap (y.n (91001 : Nat) + (4 : Int)))
      (Mm.mk (y_3.n (0 : Nat)) (↑(y_3.n (1 : Nat)).toNat : Int) (↑(y_3.n (2 : Nat)).toNat : Int) (y_3.l (1 : Nat)) (y_3.l (2 : Nat))) → (([] : SW) = [] ∧ (0 : Int) ≤
      IntKind.i64.wrap ((IntKind.u32.wrap ((y_5.n (90000 : Nat)).tdiv (256 : Int))).tmod (256 : Int)) ∧ IntKind.i64.wrap ((IntKind.u32.wrap ((y_5.n (90000 : Nat)).tdiv (256 :
      Int))).tmod (256 : Int)) ≤ (1000 : Int)) ∧ ∀ (y_6 : PX), True ∧ (((-16384 : Int) ≤ y_6.n (90000 : Nat) ∧ y_6.n (90000 : Nat) ≤ (16384 : Int)) ∧ True) ∧ y_6.n (90000 : Nat)
      = sn (IntKind.i64.wrap ((IntKind.u32.wrap ((y_5.n (90000 : Nat)).tdiv (256 : Int))).tmod (256 : Int))) → (([] : SW) = [] ∧ (0 : Int) ≤ IntKind.i64.wrap (IntKind.i64.wrap
      ((IntKind.u32.wrap ((y_5.n (90000 : Nat)).tdiv (256 : Int))).tmod (256 : Int)) + (64 : Int)) ∧ IntKind.i64.wrap (IntKind.i64.wrap ((IntKind.u32.wrap ((y_5.n (90000 :
      Nat)).tdiv (256 : Int))).tmod (256 : Int)) + (64 : Int)) ≤ (1000 : Int)) ∧ ∀ (y_7 : PX), True ∧ (((-16384 : Int) ≤ y_7.n (90000 : Nat) ∧ y_7.n (90000 : Nat) ≤ (16384 :
      Int)) ∧ True) ∧ y_7.n (90000 : Nat) = sn (IntKind.i64.wrap (IntKind.i64.wrap ((IntKind.u32.wrap ((y_5.n (90000 : Nat)).tdiv (256 : Int))).tmod (256 : Int)) + (64 : Int)))
      → (([] : SW) = [] ∧ (0 : Int) ≤ IntKind.u32.wrap ((IntKind.i64.wrap (y_2.n (90000 : Nat) * y_7.n (90000 : Nat))).fdiv (16384 : Int)) ∧ IntKind.u32.wrap ((IntKind.i64.wrap
      (y_2.n (90000 : Nat) * y_7.n (90000 : Nat))).fdiv (16384 : Int)) ≤ (4294967295 : Int)) ∧ ∀ (y_8 : PX), True ∧ (((-32768 : Int) ≤ y_8.n (90000 : Nat) ∧ y_8.n (90000 : Nat)
      ≤ (32767 : Int)) ∧ True) ∧ y_8.n (90000 : Nat) = IntKind.i16.wrap (IntKind.u32.wrap ((IntKind.i64.wrap (y_2.n (90000 : Nat) * y_7.n (90000 : Nat))).fdiv (16384 : Int))) →
      (([] : SW) = [] ∧ (0 : Int) ≤ IntKind.u32.wrap ((IntKind.i64.wrap (IntKind.i64.wrap ((0 : Int) - y_2.n (90000 : Nat)) * y_6.n (90000 : Nat))).fdiv (16384 : Int)) ∧
      IntKind.u32.wrap ((IntKind.i64.wrap (IntKind.i64.wrap ((0 : Int) - y_2.n (90000 : Nat)) * y_6.n (90000 : Nat))).fdiv (16384 : Int)) ≤ (4294967295 : Int)) ∧ ∀ (y_9 : PX),
      True ∧ (((-32768 : Int) ≤ y_9.n (90000 : Nat) ∧ y_9.n (90000 : Nat) ≤ (32767 : Int)) ∧ True) ∧ y_9.n (90000 : Nat) = IntKind.i16.wrap (IntKind.u32.wrap ((IntKind.i64.wrap
      (IntKind.i64.wrap ((0 : Int) - y_2.n (90000 : Nat)) * y_6.n (90000 : Nat))).fdiv (16384 : Int))) → (([] : SW) = [] ∧ (0 : Int) ≤ IntKind.u32.wrap ((IntKind.i64.wrap (y_4.n
      (90000 : Nat) * y_6.n (90000 : Nat))).fdiv (16384 : Int)) ∧ IntKind.u32.wrap ((IntKind.i64.wrap (y_4.n (90000 : Nat) * y_6.n (90000 : Nat))).fdiv (16384 : Int)) ≤
      (4294967295 : Int)) ∧ ∀ (y_10 : PX), True ∧ (((-32768 : Int) ≤ y_10.n (90000 : Nat) ∧ y_10.n (90000 : Nat) ≤ (32767 : Int)) ∧ True) ∧ y_10.n (90000 : Nat) =
      IntKind.i16.wrap (IntKind.u32.wrap ((IntKind.i64.wrap (y_4.n (90000 : Nat) * y_6.n (90000 : Nat))).fdiv (16384 : Int))) → (([] : SW) = [] ∧ (0 : Int) ≤ IntKind.u32.wrap
      ((IntKind.i64.wrap (y_4.n (90000 : Nat) * y_7.n (90000 : Nat))).fdiv (16384 : Int)) ∧ IntKind.u32.wrap ((IntKind.i64.wrap (y_4.n (90000 : Nat) * y_7.n (90000 : Nat))).fdiv
      (16384 : Int)) ≤ (4294967295 : Int)) ∧ ∀ (y_11 : PX), True ∧ (((-32768 : Int) ≤ y_11.n (90000 : Nat) ∧ y_11.n (90000 : Nat) ≤ (32767 : Int)) ∧ True) ∧ y_11.n (90000 : Nat)
      = IntKind.i16.wrap (IntKind.u32.wrap ((IntKind.i64.wrap (y_4.n (90000 : Nat) * y_7.n (90000 : Nat))).fdiv (16384 : Int))) → (((44 : Nat) = (44 : Nat) ∧ True ∧ (5 : Nat) =
      (5 : Nat) ∧ (flat [Sp.r IntKind.u8 (0 : Int) (255 : Int)] = true ∧ Row [Sp.r IntKind.u8 (0 : Int) (255 : Int)] (y_5.l (1 : Nat))) ∧ (59 : Nat) = (59 : Nat) ∧ (flat [Sp.i
      IntKind.u32, Sp.i IntKind.i64, Sp.i IntKind.u32] = true ∧ Row [Sp.i IntKind.u32, Sp.i IntKind.i64, Sp.i IntKind.u32] (y_5.l (2 : Nat))) ∧ ([] : SW) = []) ∧ okM (Mm.mk
      (y_5.n (0 : Nat)) (↑(y_5.n (1 : Nat)).toNat : Int) (↑(y_5.n (2 : Nat)).toNat : Int) (y_5.l (1 : Nat)) (y_5.l (2 : Nat)))) ∧ ∀ (y_12 : PX), (((0 : Int) ≤ y_12.n (1 : Nat) ∧
      (0 : Int) ≤ y_12.n (2 : Nat) ∧ True) ∧ (flat [Sp.r IntKind.u8 (0 : Int) (255 : Int)] = true ∧ Row [Sp.r IntKind.u8 (0 : Int) (255 : Int)] (y_12.l (1 : Nat))) ∧ (flat [Sp.i
      IntKind.u32, Sp.i IntKind.i64, Sp.i IntKind.u32] = true ∧ Row [Sp.i IntKind.u32, Sp.i IntKind.i64, Sp.i IntKind.u32] (y_12.l (3 : Nat))) ∧ True) ∧ True ∧ grM (Mm.mk (y_5.n
      (0 : Nat)) (↑(y_5.n (1 : Nat)).toNat : Int) (↑(y_5.n (2 : Nat)).toNat : Int) (y_5.l (1 : Nat)) (y_5.l (2 : Nat))) (Mm.mk (y_12.n (0 : Nat)) (y_12.n (1 : Nat)) (y_12.n (2 :
      Nat)) (y_12.l (1 : Nat)) (y_12.l (3 : Nat))) ∧ Mm.mk (y_12.n (0 : Nat)) (y_12.n (1 : Nat)) (y_12.n (2 : Nat)) (y_12.l (1 : Nat)) (y_12.l (3 : Nat)) = wrm2 E (y.n (91002 :
      Nat)) ((IntKind.u32.wrap (y_8.n (90000 : Nat))).tmod (65536 : Int)) (Mm.mk (y_5.n (0 : Nat)) (↑(y_5.n (1 : Nat)).toNat : Int) (↑(y_5.n (2 : Nat)).toNat : Int) (y_5.l (1 :
      Nat)) (y_5.l (2 : Nat))) → (((44 : Nat) = (44 : Nat) ∧ True ∧ (5 : Nat) = (5 : Nat) ∧ (flat [Sp.r IntKind.u8 (0 : Int) (255 : Int)] = true ∧ Row [Sp.r IntKind.u8 (0 : Int)
      (255 : Int)] (y_12.l (1 : Nat))) ∧ (59 : Nat) = (59 : Nat) ∧ (flat [Sp.i IntKind.u32, Sp.i IntKind.i64, Sp.i IntKind.u32] = true ∧ Row [Sp.i IntKind.u32, Sp.i IntKind.i64,
      Sp.i IntKind.u32] (y_12.l (3 : Nat))) ∧ ([] : SW) = []) ∧ okM (Mm.mk (y_12.n (0 : Nat)) (↑(y_12.n (1 : Nat)).toNat : Int) (↑(y_12.n (2 : Nat)).toNat : Int) (y_12.l (1 :
      Nat)) (y_12.l (3 : Nat)))) ∧ ∀ (y_13 : PX), (((0 : Int) ≤ y_13.n (1 : Nat) ∧ (0 : Int) ≤ y_13.n (2 : Nat) ∧ True) ∧ (flat [Sp.r IntKind.u8 (0 : Int) (255 : Int)] = true ∧
      Row [Sp.r IntKind.u8 (0 : Int) (255 : Int)] (y_13.l (1 : Nat))) ∧ (flat [Sp.i IntKind.u32, Sp.i IntKind.i64, Sp.i IntKind.u32] = true ∧ Row [Sp.i IntKind.u32, Sp.i
      IntKind.i64, Sp.i IntKind.u32] (y_13.l (3 : Nat))) ∧ True) ∧ True ∧ grM (Mm.mk (y_12.n (0 : Nat)) (↑(y_12.n (1 : Nat)).toNat : Int) (↑(y_12.n (2 : Nat)).toNat : Int)
      (y_12.l (1 : Nat)) (y_12.l (3 : Nat))) (Mm.mk (y_13.n (0 : Nat)) (y_13.n (1 : Nat)) (y_13.n (2 : Nat)) (y_13.l (1 : Nat)) (y_13.l (3 : Nat))) ∧ Mm.mk (y_13.n (0 : Nat))
      (y_13.n (1 : Nat)) (y_13.n (2 : Nat)) (y_13.l (1 : Nat)) (y_13.l (3 : Nat)) = wrm2 E (IntKind.u32.wrap (y.n (91002 : Nat) + ap)) ((IntKind.u32.wrap (y_9.n (90000 :
      Nat))).tmod (65536 : Int)) (Mm.mk (y_12.n (0 : Nat)) (↑(y_12.n (1 : Nat)).toNat : Int) (↑(y_12.n (2 : Nat)).toNat : Int) (y_12.l (1 : Nat)) (y_12.l (3 : Nat))) → (((44 :
      Nat) = (44 : Nat) ∧ True ∧ (5 : Nat) = (5 : Nat) ∧ (flat [Sp.r IntKind.u8 (0 : Int) (255 : Int)] = true ∧ Row [Sp.r IntKind.u8 (0 : Int) (255 : Int)] (y_13.l (1 : Nat))) ∧
      (59 : Nat) = (59 : Nat) ∧ (flat [Sp.i IntKind.u32, Sp.i IntKind.i64, Sp.i IntKind.u32] = true ∧ Row [Sp.i IntKind.u32, Sp.i IntKind.i64, Sp.i IntKind.u32] (y_13.l (3 :
      Nat))) ∧ ([] : SW) = []) ∧ okM (Mm.mk (y_13.n (0 : Nat)) (↑(y_13.n (1 : Nat)).toNat : Int) (↑(y_13.n (2 : Nat)).toNat : Int) (y_13.l (1 : Nat)) (y_13.l (3 : Nat)))) ∧ ∀
      (y_14 : PX), (((0 : Int) ≤ y_14.n (1 : Nat) ∧ (0 : Int) ≤ y_14.n (2 : Nat) ∧ True) ∧ (flat [Sp.r IntKind.u8 (0 : Int) (255 : Int)] = true ∧ Row [Sp.r IntKind.u8 (0 : Int)
      (255 : Int)] (y_14.l (1 : Nat))) ∧ (flat [Sp.i IntKind.u32, Sp.i IntKind.i64, Sp.i IntKind.u32] = true ∧ Row [Sp.i IntKind.u32, Sp.i IntKind.i64, Sp.i IntKind.u32] (y_14.l
      (3 : Nat))) ∧ True) ∧ True ∧ grM (Mm.mk (y_13.n (0 : Nat)) (↑(y_13.n (1 : Nat)).toNat : Int) (↑(y_13.n (2 : Nat)).toNat : Int) (y_13.l (1 : Nat)) (y_13.l (3 : Nat)))
      (Mm.mk (y_14.n (0 : Nat)) (y_14.n (1 : Nat)) (y_14.n (2 : Nat)) (y_14.l (1 : Nat)) (y_14.l (3 : Nat))) ∧ Mm.mk (y_14.n (0 : Nat)) (y_14.n (1 : Nat)) (y_14.n (2 : Nat))
      (y_14.l (1 : Nat)) (y_14.l (3 : Nat)) = wrm2 E (IntKind.u32.wrap (IntKind.u32.wrap (y.n (91002 : Nat) + ap) + ap)) ((IntKind.u32.wrap (y_10.n (90000 : Nat))).tmod (65536 :
      Int)) (Mm.mk (y_13.n (0 : Nat)) (↑(y_13.n (1 : Nat)).toNat : Int) (↑(y_13.n (2 : Nat)).toNat : Int) (y_13.l (1 : Nat)) (y_13.l (3 : Nat))) → (((44 : Nat) = (44 : Nat) ∧
      True ∧ (5 : Nat) = (5 : Nat) ∧ (flat [Sp.r IntKind.u8 (0 : Int) (255 : Int)] = true ∧ Row [Sp.r IntKind.u8 (0 : Int) (255 : Int)] (y_14.l (1 : Nat))) ∧ (59 : Nat) = (59 :
      Nat) ∧ (flat [Sp.i IntKind.u32, Sp.i IntKind.i64, Sp.i IntKind.u32] = true ∧ Row [Sp.i IntKind.u32, Sp.i IntKind.i64, Sp.i IntKind.u32] (y_14.l (3 : Nat))) ∧ ([] : SW) =
      []) ∧ okM (Mm.mk (y_14.n (0 : Nat)) (↑(y_14.n (1 : Nat)).toNat : Int) (↑(y_14.n (2 : Nat)).toNat : Int) (y_14.l (1 : Nat)) (y_14.l (3 : Nat)))) ∧ ∀ (y_15 : PX), (((0 :
      Int) ≤ y_15.n (1 : Nat) ∧ (0 : Int) ≤ y_15.n (2 : Nat) ∧ True) ∧ (flat [Sp.r IntKind.u8 (0 : Int) (255 : Int)] = true ∧ Row [Sp.r IntKind.u8 (0 : Int) (255 : Int)] (y_15.l
      (1 : Nat))) ∧ (flat [Sp.i IntKind.u32, Sp.i IntKind.i64, Sp.i IntKind.u32] = true ∧ Row [Sp.i IntKind.u32, Sp.i IntKind.i64, Sp.i IntKind.u32] (y_15.l (3 : Nat))) ∧ True)
      ∧ True ∧ grM (Mm.mk (y_14.n (0 : Nat)) (↑(y_14.n (1 : Nat)).toNat : Int) (↑(y_14.n (2 : Nat)).toNat : Int) (y_14.l (1 : Nat)) (y_14.l (3 : Nat))) (Mm.mk (y_15.n (0 : Nat))
      (y_15.n (1 : Nat)) (y_15.n (2 : Nat)) (y_15.l (1 : Nat)) (y_15.l (3 : Nat))) ∧ Mm.mk (y_15.n (0 : Nat)) (y_15.n (1 : Nat)) (y_15.n (2 : Nat)) (y_15.l (1 : Nat)) (y_15.l (3
      : Nat)) = wrm2 E (IntKind.u32.wrap (IntKind.u32.wrap (IntKind.u32.wrap (y.n (91002 : Nat) + ap) + ap) + ap)) ((IntKind.u32.wrap (y_11.n (90000 : Nat))).tmod (65536 : Int))
      (Mm.mk (y_14.n (0 : Nat)) (↑(y_14.n (1 : Nat)).toNat : Int) (↑(y_14.n (2 : Nat)).toNat : Int) (y_14.l (1 : Nat)) (y_14.l (3 : Nat))) → c31_td E = c31_td E ∧ (44 : Nat) =
      (44 : Nat) ∧ (True ∧ (((0 : Int) ≤ IntKind.u32.wrap (y.n (91001 : Nat) + (8 : Int)) ∧ IntKind.u32.wrap (y.n (91001 : Nat) + (8 : Int)) ≤ (4294967295 : Int)) ∧ True) ∧ (((0
      : Int) ≤ IntKind.u32.wrap (IntKind.u32.wrap (IntKind.u32.wrap (IntKind.u32.wrap (y.n (91002 : Nat) + ap) + ap) + ap) + ap) ∧ IntKind.u32.wrap (IntKind.u32.wrap
      (IntKind.u32.wrap (IntKind.u32.wrap (y.n (91002 : Nat) + ap) + ap) + ap) + ap) ≤ (4294967295 : Int)) ∧ True) ∧ (((0 : Int) ≤ y.n (91003 : Nat) ∧ y.n (91003 : Nat) ≤ (256 :
      Int)) ∧ True) ∧ (renC (posN [(0 : Nat), (1 : Nat), (1000000000002 : Nat), (8 : Nat)]) (C.i false IntKind.u32 ap) = C.i false IntKind.u32 ap ∧ True) ∧ (((0 : Int) ≤
      IntKind.i64.wrap (y.n (91011 : Nat) + (1 : Int)) ∧ IntKind.i64.wrap (y.n (91011 : Nat) + (1 : Int)) ≤ (256 : Int)) ∧ True) ∧ True) ∧ ((44 : Nat) = (44 : Nat) ∧ True ∧ (5 :
      Nat) = (5 : Nat) ∧ (flat [Sp.r IntKind.u8 (0 : Int) (255 : Int)] = true ∧ Row [Sp.r IntKind.u8 (0 : Int) (255 : Int)] (y_15.l (1 : Nat))) ∧ (4294967295 : Nat) =
      (4294967295 : Nat) ∧ (59 : Nat) = (59 : Nat) ∧ (flat [Sp.i IntKind.u32, Sp.i IntKind.i64, Sp.i IntKind.u32] = true ∧ Row [Sp.i IntKind.u32, Sp.i IntKind.i64, Sp.i
      IntKind.u32] (y_15.l (3 : Nat))) ∧ ([] : SW) = []) ∧ ((obF E ap (clN n - IntKind.i64.wrap (y.n (91011 : Nat) + (1 : Int))).toNat (IntKind.u32.wrap (y.n (91001 : Nat) + (8
      : Int))) (IntKind.u32.wrap (IntKind.u32.wrap (IntKind.u32.wrap (IntKind.u32.wrap (y.n (91002 : Nat) + ap) + ap) + ap) + ap)) (Mm.mk (y_15.n (0 : Nat)) (↑(y_15.n (1 :
      Nat)).toNat : Int) (↑(y_15.n (2 : Nat)).toNat : Int) (y_15.l (1 : Nat)) (y_15.l (3 : Nat))) = obF E ap (clN n).toNat f t (Mm.mk (z.n (0 : Nat)) (z.n (1 : Nat)) (z.n (2 :
      Nat)) (z.l (1 : Nat)) (z.l (2 : Nat))) ∧ okM (Mm.mk (y_15.n (0 : Nat)) (↑(y_15.n (1 : Nat)).toNat : Int) (↑(y_15.n (2 : Nat)).toNat : Int) (y_15.l (1 : Nat)) (y_15.l (3 :
      Nat)))) ∧ y.n (91003 : Nat) = clN n ∧ IntKind.i64.wrap (y.n (91011 : Nat) + (1 : Int)) ≤ clN n ∧ (↑(y_15.n (2 : Nat)).toNat : Int) + (4 : Int) * (clN n - IntKind.i64.wrap
      (y.n (91011 : Nat) + (1 : Int))) = z.n (2 : Nat) + (4 : Int) * clN n) ∧ (clN n - IntKind.i64.wrap (y.n (91011 : Nat) + (1 : Int))).toNat < (clN n - y.n (91011 :
      Nat)).toNat ∧ True) ∧ (decide (y.n (91011 : Nat) < y.n (91003 : Nat)) = false → ((44 : Nat) = (44 : Nat) ∧ True ∧ (5 : Nat) = (5 : Nat) ∧ (flat [Sp.r IntKind.u8 (0 : Int)
      (255 : Int)] = true ∧ Row [Sp.r IntKind.u8 (0 : Int) (255 : Int)] (y.l (1 : Nat))) ∧ (4294967295 : Nat) = (4294967295 : Nat) ∧ (59 : Nat) = (59 : Nat) ∧ (flat [Sp.i
      IntKind.u32, Sp.i IntKind.i64, Sp.i IntKind.u32] = true ∧ Row [Sp.i IntKind.u32, Sp.i IntKind.i64, Sp.i IntKind.u32] (y.l (3 : Nat))) ∧ ([] : SW) = []) ∧ (((0 : Int) ≤ y.n
      (91003 : Nat) ∧ y.n (91003 : Nat) ≤ (256 : Int)) ∧ True) ∧ (Mm.mk (y.n (0 : Nat)) (↑(y.n (1 : Nat)).toNat : Int) (↑(y.n (2 : Nat)).toNat : Int) (y.l (1 : Nat)) (y.l (3 :
      Nat)) = obF E ap (clN n).toNat f t (Mm.mk (z.n (0 : Nat)) (z.n (1 : Nat)) (z.n (2 : Nat)) (z.l (1 : Nat)) (z.l (2 : Nat))) ∧ y.n (91003 : Nat) = clN n) ∧ okM (Mm.mk (y.n
      (0 : Nat)) (↑(y.n (1 : Nat)).toNat : Int) (↑(y.n (2 : Nat)).toNat : Int) (y.l (1 : Nat)) (y.l (3 : Nat))) ∧ (↑(y.n (2 : Nat)).toNat : Int) = z.n (2 : Nat) + (4 : Int) *
      clN n)) := by kernel_rfl
set_option maxHeartbeats 8000000 in
theorem c31_q0 (E : World) (f t n ap : Int) (z : PX) (hp : (fun z => okM (Mm.mk (z.n 0) (z.n 1) (z.n 2) (z.l 1) (z.l 2)) ∧ z.n 2 ≤ 100000 ∧ (0 ≤ f ∧ f ≤ 4294967295) ∧ (0 ≤ t ∧ t ≤ 4294967295) ∧ (0 ≤ ap ∧ ap ≤ 4294967295)) z) (y : PX) (hy1 : rgM y [mB 3, rowB, .g HOLE, rowN] 0) (hy2 : rgF y [(0, .c (.p 0 0)), (1, .r .u32 (0) (4294967295)), (2, .r .u32 (0) (4294967295)), (3, .r .i64 (0) (256)), (4, .q (.i false .u32 ap)), (11, .r .i64 (0) (256))]) (hy3 : (fun y => (obF E ap ((clN n - y.n 91011).toNat) (y.n 91001) (y.n 91002) (Mm.mk (y.n 0) (y.n 1) (y.n 2) (y.l 1) (y.l 3)) = obF E ap (clN n).toNat f t (Mm.mk (z.n 0) (z.n 1) (z.n 2) (z.l 1) (z.l 2)) ∧ okM (Mm.mk (y.n 0) (y.n 1) (y.n 2) (y.l 1) (y.l 3))) ∧ y.n 91003 = clN n ∧ y.n 91011 ≤ clN n ∧ y.n 2 + 4 * (clN n - y.n 91011) = z.n 2 + 4 * clN n) y) : Holds ((run (pe E) (orcN E) (tabL fns) 20000 (2 ^ 2) (c31_td E) (mkL Try.f31.ntmps (slC y [(0, .c (.p 0 0)), (1, .r .u32 (0) (4294967295)), (2, .r .u32 (0) (4294967295)), (3, .r .i64 (0) (256)), (4, .q (.i false .u32 ap)), (11, .r .i64 (0) (256))])) (mkM y [] [mB 3, rowB, .g HOLE, rowN] 0)).OK (lfP (pe E) Try.f31 (endR ([mB 2, rowB, rowN] : List MB).length [mB 3, rowB, .g HOLE, rowN] (.c (.r .i64 0 256)) (fun z y => ((Mm.mk (y.n 0) (y.n 1) (y.n 2) (y.l 1) (y.l 3)) = obF E ap (clN n).toNat f t (Mm.mk (z.n 0) (z.n 1) (z.n 2) (z.l 1) (z.l 2)) ∧ y.n 90000 = clN n) ∧ okM (Mm.mk (y.n 0) (y.n 1) (y.n 2) (y.l 1) (y.l 3)) ∧ y.n 2 = z.n 2 + 4 * clN n) z) (headR ([mB 2, rowB, rowN] : List MB).length Try.f31.ntmps (some ((fun y => (clN n - y.n 91011).toNat) y)) (c31_hs E f t n ap z)))) := by
  refine loopP_lfH ⟨?_⟩
  rw [c31_r0]
  have hf : True ∧ (((0) ≤ y.n 91001 ∧ y.n 91001 ≤ (4294967295)) ∧ True) ∧ (((0) ≤ y.n 91002 ∧ y.n 91002 ≤ (4294967295)) ∧ True) ∧ (((0) ≤ y.n 91003 ∧ y.n 91003 ≤ (256)) ∧ True) ∧ True ∧ (((0) ≤ y.n 91011 ∧ y.n 91011 ≤ (256)) ∧ True) ∧ True := hy2
  obtain ⟨_, ⟨g1, _⟩, ⟨g2, _⟩, ⟨g3, _⟩, _, ⟨g11, _⟩, _⟩ := hf
  obtain ⟨⟨hE, hK0⟩, e3, hle, hnn⟩ := hy3
  obtain ⟨_, hz2, hf0, ht0, hap⟩ := hp
  have hR1 := hy1.2.1.2
  have hR2 := hy1.2.2.1.2
  have hf1 : flat [Sp.r .u8 0 255] = true := rfl
  have hf2 : flat [Sp.i .u32, Sp.i .i64, Sp.i .u32] = true := rfl
  have T1 : ((y.n 1).toNat : Int) = y.n 1 := Int.toNat_of_nonneg hK0.b0
  have T2 : ((y.n 2).toNat : Int) = y.n 2 := Int.toNat_of_nonneg hK0.n0
  simp only [T1, T2]
  have hcb := cl_bd n
  refine ⟨fun hl => ?_, fun hl => ?_⟩
  · have hl := of_decide_eq_true hl
    refine ⟨⟨by ((repeat' (first | exact trivial | with_reducible rfl | assumption | exact rfl | apply And.intro)) <;> omega), hK0⟩, ?_⟩
    rintro y1 ⟨⟨⟨p1a, p1b, _⟩, ⟨_, rb1⟩, ⟨_, rn1⟩, _⟩, ⟨gr1, _⟩, q1, v1⟩
    have S1a : ((y1.n 1).toNat : Int) = y1.n 1 := Int.toNat_of_nonneg p1a
    have S1b : ((y1.n 2).toNat : Int) = y1.n 2 := Int.toNat_of_nonneg p1b
    simp only [S1a, S1b]
    have hK1 : okM (Mm.mk (y1.n 0) (y1.n 1) (y1.n 2) (y1.l 1) (y1.l 2)) := by rw [q1]; exact hK0
    refine ⟨⟨by trivial, ⟨gr1.1, by omega⟩⟩, ?_⟩
    rintro y2 ⟨_, ⟨gr2, _⟩, v2⟩
    refine ⟨⟨by ((repeat' (first | exact trivial | with_reducible rfl | assumption | exact rfl | apply And.intro)) <;> omega), hK1⟩, ?_⟩
    rintro y3 ⟨⟨⟨p3a, p3b, _⟩, ⟨_, rb3⟩, ⟨_, rn3⟩, _⟩, ⟨gr3, _⟩, q3, v3⟩
    have S3a : ((y3.n 1).toNat : Int) = y3.n 1 := Int.toNat_of_nonneg p3a
    have S3b : ((y3.n 2).toNat : Int) = y3.n 2 := Int.toNat_of_nonneg p3b
    simp only [S3a, S3b]
    replace q3 := q3.trans q1
    rw [q1] at v3
    have hK3 : okM (Mm.mk (y3.n 0) (y3.n 1) (y3.n 2) (y3.l 1) (y3.l 2)) := by rw [q3]; exact hK0
    refine ⟨⟨by trivial, ⟨gr3.1, by omega⟩⟩, ?_⟩
    rintro y4 ⟨_, ⟨gr4, _⟩, v4⟩
    refine ⟨⟨by ((repeat' (first | exact trivial | with_reducible rfl | assumption | exact rfl | apply And.intro)) <;> omega), hK3⟩, ?_⟩
    rintro y5 ⟨⟨⟨p5a, p5b, _⟩, ⟨_, rb5⟩, ⟨_, rn5⟩, _⟩, ⟨gr5, _⟩, q5, v5⟩
    have S5a : ((y5.n 1).toNat : Int) = y5.n 1 := Int.toNat_of_nonneg p5a
    have S5b : ((y5.n 2).toNat : Int) = y5.n 2 := Int.toNat_of_nonneg p5b
    simp only [S5a, S5b]
    replace q5 := q5.trans q3
    rw [q3] at v5
    have hK5 : okM (Mm.mk (y5.n 0) (y5.n 1) (y5.n 2) (y5.l 1) (y5.l 2)) := by rw [q5]; exact hK0
    simp only [anR _ gr5, a64]
    refine ⟨⟨by trivial, a64b _⟩, ?_⟩
    rintro y6 ⟨_, ⟨gr6, _⟩, v6⟩
    refine ⟨⟨by trivial, a64c _⟩, ?_⟩
    rintro y7 ⟨_, ⟨gr7, _⟩, v7⟩
    rw [e16'] at v2 v4
    rw [v2, v4]
    simp only [en64]
    refine ⟨⟨by trivial, ur _⟩, ?_⟩
    rintro y8 ⟨_, ⟨gr8, _⟩, v8⟩
    refine ⟨⟨by trivial, ur _⟩, ?_⟩
    rintro y9 ⟨_, ⟨gr9, _⟩, v9⟩
    refine ⟨⟨by trivial, ur _⟩, ?_⟩
    rintro y10 ⟨_, ⟨gr10, _⟩, v10⟩
    refine ⟨⟨by trivial, ur _⟩, ?_⟩
    rintro y11 ⟨_, ⟨gr11, _⟩, v11⟩
    rw [e16', eA' _ _ (hS_bd _) gr7] at v8
    rw [e16', eA' _ _ (hS_ng _) gr6] at v9
    rw [e16', eA' _ _ (hS_bd _) gr6] at v10
    rw [e16', eA' _ _ (hS_bd _) gr7] at v11
    simp only [eM']
    refine ⟨⟨by ((repeat' (first | exact trivial | with_reducible rfl | assumption | exact rfl | apply And.intro)) <;> omega), hK5⟩, ?_⟩
    rintro y12 ⟨⟨⟨p12a, p12b, _⟩, ⟨_, rb12⟩, ⟨_, rn12⟩, _⟩, _, g12, q12⟩
    have S12a : ((y12.n 1).toNat : Int) = y12.n 1 := Int.toNat_of_nonneg p12a
    have S12b : ((y12.n 2).toNat : Int) = y12.n 2 := Int.toNat_of_nonneg p12b
    simp only [S12a, S12b]
    have c5 : y5.n 2 = y.n 2 := congrArg Mm.nn q5
    have c12 : y12.n 2 = y5.n 2 + 1 := g12.1
    have hK12 := hK5.gr g12 (show y5.n 2 < 1000000 by omega)
    rw [q5] at q12
    refine ⟨⟨by ((repeat' (first | exact trivial | with_reducible rfl | assumption | exact rfl | apply And.intro)) <;> omega), hK12⟩, ?_⟩
    rintro y13 ⟨⟨⟨p13a, p13b, _⟩, ⟨_, rb13⟩, ⟨_, rn13⟩, _⟩, _, g13, q13⟩
    have S13a : ((y13.n 1).toNat : Int) = y13.n 1 := Int.toNat_of_nonneg p13a
    have S13b : ((y13.n 2).toNat : Int) = y13.n 2 := Int.toNat_of_nonneg p13b
    simp only [S13a, S13b]
    have c13 : y13.n 2 = y12.n 2 + 1 := g13.1
    have hK13 := hK12.gr g13 (show y12.n 2 < 1000000 by omega)
    refine ⟨⟨by ((repeat' (first | exact trivial | with_reducible rfl | assumption | exact rfl | apply And.intro)) <;> omega), hK13⟩, ?_⟩
    rintro y14 ⟨⟨⟨p14a, p14b, _⟩, ⟨_, rb14⟩, ⟨_, rn14⟩, _⟩, _, g14, q14⟩
    have S14a : ((y14.n 1).toNat : Int) = y14.n 1 := Int.toNat_of_nonneg p14a
    have S14b : ((y14.n 2).toNat : Int) = y14.n 2 := Int.toNat_of_nonneg p14b
    simp only [S14a, S14b]
    have c14 : y14.n 2 = y13.n 2 + 1 := g14.1
    have hK14 := hK13.gr g14 (show y13.n 2 < 1000000 by omega)
    refine ⟨⟨by ((repeat' (first | exact trivial | with_reducible rfl | assumption | exact rfl | apply And.intro)) <;> omega), hK14⟩, ?_⟩
    rintro y15 ⟨⟨⟨p15a, p15b, _⟩, ⟨_, rb15⟩, ⟨_, rn15⟩, _⟩, _, g15, q15⟩
    have S15a : ((y15.n 1).toNat : Int) = y15.n 1 := Int.toNat_of_nonneg p15a
    have S15b : ((y15.n 2).toNat : Int) = y15.n 2 := Int.toNat_of_nonneg p15b
    simp only [S15a, S15b]
    have c15 : y15.n 2 = y14.n 2 + 1 := g15.1
    have hK15 := hK14.gr g15 (show y14.n 2 < 1000000 by omega)
    have hlt : y.n 91011 < clN n := by omega
    have hS := obF_s hE hlt
    have hW : obS E (y.n 91001) (y.n 91002) ap (Mm.mk (y.n 0) (y.n 1) (y.n 2) (y.l 1) (y.l 3)) = (Mm.mk (y15.n 0) (y15.n 1) (y15.n 2) (y15.l 1) (y15.l 3)) := by
      rw [q15, q14, q13, q12]
      simp only [obS, tnF, u32w, uadd, Int.reduceAdd, Int.add_zero, v11, v10, v9, v8, v7, v6, v5, v3, v1]
    rw [hW] at hS
    have w1 : IntKind.i64.wrap (y.n 91011 + 1) = y.n 91011 + 1 := by rw [wi64]; omega
    rw [w1]
    have u1 := ur (y.n 91001 + 8)
    have u2 := ur (IntKind.u32.wrap (IntKind.u32.wrap (IntKind.u32.wrap (y.n 91002 + ap) + ap) + ap) + ap)
    ((repeat' (first | exact trivial | with_reducible rfl | assumption | exact rfl | apply And.intro)) <;> omega)
  · have hl := of_decide_eq_false hl
    have e0 : (clN n - y.n 91011).toNat = 0 := by omega
    rw [e0] at hE
    have hE : (Mm.mk (y.n 0) (y.n 1) (y.n 2) (y.l 1) (y.l 3)) = obF E ap (clN n).toNat f t (Mm.mk (z.n 0) (z.n 1) (z.n 2) (z.l 1) (z.l 2)) := hE
    ((repeat' (first | exact trivial | with_reducible rfl | assumption | exact rfl | apply And.intro)) <;> omega)
theorem c31_pro (E : World) (f t n ap : Int) (z : PX) :
    (loopP (pe E) Try.f31 (endR ([mB 2, rowB, rowN] : List MB).length [mB 3, rowB, .g HOLE, rowN] (.c (.r .i64 0 256)) (fun z y => ((Mm.mk (y.n 0) (y.n 1) (y.n 2) (y.l 1) (y.l 3)) = obF E ap (clN n).toNat f t (Mm.mk (z.n 0) (z.n 1) (z.n 2) (z.l 1) (z.l 2)) ∧ y.n 90000 = clN n) ∧ okM (Mm.mk (y.n 0) (y.n 1) (y.n 2) (y.l 1) (y.l 3)) ∧ y.n 2 = z.n 2 + 4 * clN n) z) (headR ([mB 2, rowB, rowN] : List MB).length Try.f31.ntmps none (c31_hs E f t n ap z)) (run (pe E) (orcN E) (tabL fns) 20000 (2 ^ 2) [.code (Try.f31.body.getD .skip)] ⟨Try.f31.ntmps, mkFrGo (Tr.mk 12) 0 [.c (.p 0 0), .c (.i false .u32 f), .c (.i false .u32 t), .c (.i false .i64 n), .c (.i false .u32 ap)]⟩ (mkM z [] [mB 2, rowB, rowN] 0))) =
    (c31_td E = c31_td E ∧ (44 : Nat) = (44 : Nat) ∧ (True ∧ (((0 : Int) ≤ f ∧ f ≤ (4294967295 : Int)) ∧ True) ∧ (((0 : Int) ≤ t ∧ t ≤ (4294967295 : Int)) ∧ True) ∧ ((((0 :
      Int) ≤ if (if n < (256 : Int) then n else (256 : Int)) > (0 : Int) then if n < (256 : Int) then n else (256 : Int) else (0 : Int)) ∧ (if (if n < (256 : Int) then n else
      (256 : Int)) > (0 : Int) then if n < (256 : Int) then n else (256 : Int) else (0 : Int)) ≤ (256 : Int)) ∧ True) ∧ (renC (posN [(0 : Nat), (1 : Nat), (1000000000002 : Nat),
      (2 : Nat)]) (C.i false IntKind.u32 ap) = C.i false IntKind.u32 ap ∧ True) ∧ (((0 : Int) ≤ (0 : Int) ∧ (0 : Int) ≤ (256 : Int)) ∧ True) ∧ True) ∧ ((44 : Nat) = (44 : Nat) ∧
      True ∧ (5 : Nat) = (5 : Nat) ∧ (flat [Sp.r IntKind.u8 (0 : Int) (255 : Int)] = true ∧ Row [Sp.r IntKind.u8 (0 : Int) (255 : Int)] (z.l (1 : Nat))) ∧ (4294967295 : Nat) =
      (4294967295 : Nat) ∧ (59 : Nat) = (59 : Nat) ∧ (flat [Sp.i IntKind.u32, Sp.i IntKind.i64, Sp.i IntKind.u32] = true ∧ Row [Sp.i IntKind.u32, Sp.i IntKind.i64, Sp.i
      IntKind.u32] (z.l (2 : Nat))) ∧ ([] : SW) = []) ∧ ((obF E ap (clN n - (0 : Int)).toNat f t (Mm.mk (z.n (0 : Nat)) (↑(z.n (1 : Nat)).toNat : Int) (↑(z.n (2 : Nat)).toNat :
      Int) (z.l (1 : Nat)) (z.l (2 : Nat))) = obF E ap (clN n).toNat f t (Mm.mk (z.n (0 : Nat)) (z.n (1 : Nat)) (z.n (2 : Nat)) (z.l (1 : Nat)) (z.l (2 : Nat))) ∧ okM (Mm.mk
      (z.n (0 : Nat)) (↑(z.n (1 : Nat)).toNat : Int) (↑(z.n (2 : Nat)).toNat : Int) (z.l (1 : Nat)) (z.l (2 : Nat)))) ∧ (if (if n < (256 : Int) then n else (256 : Int)) > (0 :
      Int) then if n < (256 : Int) then n else (256 : Int) else (0 : Int)) = clN n ∧ (0 : Int) ≤ clN n ∧ (↑(z.n (2 : Nat)).toNat : Int) + (4 : Int) * (clN n - (0 : Int)) = z.n
      (2 : Nat) + (4 : Int) * clN n) ∧ True) := by kernel_rfl
set_option maxHeartbeats 8000000 in
theorem c31_c (E : World) (f t n ap : Int) (z : PX) (hz : rgM z [mB 2, rowB, rowN] 0) (hp : (fun z => okM (Mm.mk (z.n 0) (z.n 1) (z.n 2) (z.l 1) (z.l 2)) ∧ z.n 2 ≤ 100000 ∧ (0 ≤ f ∧ f ≤ 4294967295) ∧ (0 ≤ t ∧ t ≤ 4294967295) ∧ (0 ≤ ap ∧ ap ≤ 4294967295)) z) : HD (pe E) 31 [.c (.p 0 0), .c (.i false .u32 f), .c (.i false .u32 t), .c (.i false .i64 n), .c (.i false .u32 ap)] [mB 2, rowB, rowN] [mB 3, rowB, .g HOLE, rowN] (.c (.r .i64 0 256)) (fun z y => ((Mm.mk (y.n 0) (y.n 1) (y.n 2) (y.l 1) (y.l 3)) = obF E ap (clN n).toNat f t (Mm.mk (z.n 0) (z.n 1) (z.n 2) (z.l 1) (z.l 2)) ∧ y.n 90000 = clN n) ∧ okM (Mm.mk (y.n 0) (y.n 1) (y.n 2) (y.l 1) (y.l 3)) ∧ y.n 2 = z.n 2 + 4 * clN n) z := by
  refine HD.loop (P := pe E) orcN_ok tab_ok tab_sz mixed Try.func31 (c := Try.f31.body.getD .skip) rfl (by decide) (Nat.le_of_ble_eq_true rfl) (by rfl) 20000 (2 ^ 2) (c31_hs E f t n ap z) (by rfl) (loopP_lfH ⟨?_⟩) ?_
  · rw [c31_pro]
    obtain ⟨hK, hz2, hf0, ht0, hap⟩ := hp
    have hR1 := hz.2.1.2
    have hR2 := hz.2.2.1.2
    have hf1 : flat [Sp.r .u8 0 255] = true := rfl
    have hf2 : flat [Sp.i .u32, Sp.i .i64, Sp.i .u32] = true := rfl
    have T1 : ((z.n 1).toNat : Int) = z.n 1 := Int.toNat_of_nonneg hK.b0
    have T2 : ((z.n 2).toNat : Int) = z.n 2 := Int.toNat_of_nonneg hK.n0
    have eP : (if 256 < (if 0 > n then 0 else n) then 256 else (if 0 > n then 0 else n)) = clN n := by unfold clN; repeat' split <;> omega
    have eR : (if (if n < 256 then n else 256) > 0 then (if n < 256 then n else 256) else 0) = clN n := by unfold clN; repeat' split <;> omega
    have hcb := cl_bd n
    simp only [T1, T2, eP, eR, Int.sub_zero]
    ((repeat' (first | exact trivial | with_reducible rfl | assumption | exact rfl | apply And.intro)) <;> omega)
  · intro h hmem y hy1 hy2 hy3
    simp only [c31_hs, List.mem_cons, List.not_mem_nil, or_false] at hmem
    rcases hmem with rfl
    · exact c31_q0 E f t n ap z hp y hy1 hy2 hy3
end Go.Proofs.Ytabklphoccicmaa

