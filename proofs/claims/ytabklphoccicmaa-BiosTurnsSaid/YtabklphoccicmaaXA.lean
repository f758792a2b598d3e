import Derived.Test.YtabklphoccicmaaX
set_option linter.unusedVariables false
set_option linter.unusedSimpArgs false
namespace Go.Proofs.Ytabklphoccicmaa
open Go Go.Proofs Go.Proofs.Ytabklphoccicmaa.Ev Go.Proofs.Ytabklphoccicmaa.Ev.Ho
set_option maxRecDepth 100000
noncomputable def c30_h0 (E : World) (f t n ap : Int) (z : PX) : Hd := ⟨4, anyH, (c30_td E), [(0, .c (.ifc 36 0 0)), (1, .r .u32 (0) (4294967295)), (2, .r .u32 (0) (4294967295)), (3, .r .i64 (0) (256)), (4, .q (.i false .u32 ap)), (19, .r .i64 (0) (256)), (20, .r .i64 (0) (256))], [mB 3, rowB, .g HOLE, rowN], fun y => (obF E ap ((clN n - y.n 91020).toNat) (y.n 91001) (y.n 91002) (Mm.mk (y.n 0) (y.n 1) (y.n 2) (y.l 1) (y.l 3)) = obF E ap (clN n).toNat f t (Mm.mk (z.n 0) (z.n 1) (z.n 2) (z.l 1) (z.l 2)) ∧ okM (Mm.mk (y.n 0) (y.n 1) (y.n 2) (y.l 1) (y.l 3))) ∧ y.n 91003 = clN n ∧ y.n 91020 ≤ clN n ∧ y.n 2 + 4 * (clN n - y.n 91020) = z.n 2 + 4 * clN n ∧ y.n 91019 = clN n, fun y => (clN n - y.n 91020).toNat⟩
noncomputable def c30_hs (E : World) (f t n ap : Int) (z : PX) : List Hd := [c30_h0 E f t n ap z]
theorem c30_r0 (E : World) (f t n ap : Int) (z : PX) (y : PX) :
    (loopP (pe E) Try.f30 (endR ([mB 2, rowB, rowN] : List MB).length [mB 3, rowB, .g HOLE, rowN] (.c (.r .i64 0 256)) (fun z y => ((Mm.mk (y.n 0) (y.n 1) (y.n 2) (y.l 1) (y.l 3)) = obF E ap (clN n).toNat f t (Mm.mk (z.n 0) (z.n 1) (z.n 2) (z.l 1) (z.l 2)) ∧ y.n 90000 = clN n) ∧ okM (Mm.mk (y.n 0) (y.n 1) (y.n 2) (y.l 1) (y.l 3)) ∧ y.n 2 = z.n 2 + 4 * clN n) z) (headR ([mB 2, rowB, rowN] : List MB).length Try.f30.ntmps (some ((fun y => (clN n - y.n 91020).toNat) y)) (c30_hs E f t n ap z))  (run (pe E) (orcN E) (tabL fns) 20000 (2 ^ 2) (c30_td E) (mkL Try.f30.ntmps (slC y [(0, .c (.ifc 36 0 0)), (1, .r .u32 (0) (4294967295)), (2, .r .u32 (0) (4294967295)), (3, .r .i64 (0) (256)), (4, .q (.i false .u32 ap)), (19, .r .i64 (0) (256)), (20, .r .i64 (0) (256))])) (mkM y [] [mB 3, rowB, .g HOLE, rowN] 0))) =
    ((decide (y.n (91020 : Nat) < y.n (91019 : Nat)) = true → (((44 : Nat) = (44 : Nat) ∧ True ∧ (5 : Nat) = (5 : Nat) ∧ (flat [Sp.r IntKind.u8 (0 : Int) (255 : Int)] = true ∧
      Row [Sp.r IntKind.u8 (0 : Int) (255 : Int)] (y.l (1 : Nat))) ∧ (59 : Nat) = (59 : Nat) ∧ (flat [Sp.i IntKind.u32, Sp.i IntKind.i64, Sp.i IntKind.u32] = true ∧ Row [Sp.i
      IntKind.u32, Sp.i IntKind.i64, Sp.i IntKind.u32] (y.l (3 : Nat))) ∧ ([] : SW) = []) ∧ okM (Mm.mk (y.n (0 : Nat)) (↑(y.n (1 : Nat)).toNat : Int) (↑(y.n (2 : Nat)).toNat :
      Int) (y.l (1 : Nat)) (y.l (3 : Nat)))) ∧ ∀ (y_1 : PX), (((0 : Int) ≤ y_1.n (1 : Nat) ∧ (0 : Int) ≤ y_1.n (2 : Nat) ∧ True) ∧ (flat [Sp.r IntKind.u8 (0 : Int) (255 : Int)]
      = true ∧ Row [Sp.r IntKind.u8 (0 : Int) (255 : Int)] (y_1.l (1 : Nat))) ∧ (flat [Sp.i IntKind.u32, Sp.i IntKind.i64, Sp.i IntKind.u32] = true ∧ Row [Sp.i IntKind.u32, Sp.i
      IntKind.i64, Sp.i IntKind.u32] (y_1.l (2 : Nat))) ∧ True) ∧ (((0 : Int) ≤ y_1.n (90000 : Nat) ∧ y_1.n (90000 : Nat) ≤ (65535 : Int)) ∧ True) ∧ Mm.mk (y_1.n (0 : Nat))
      (y_1.n (1 : Nat)) (y_1.n (2 : Nat)) (y_1.l (1 : Nat)) (y_1.l (2 : Nat)) = Mm.mk (y.n (0 : Nat)) (↑(y.n (1 : Nat)).toNat : Int) (↑(y.n (2 : Nat)).toNat : Int) (y.l (1 :
      Nat)) (y.l (3 : Nat)) ∧ y_1.n (90000 : Nat) = rdv2 E (y.n (91001 : Nat)) (Mm.mk (y.n (0 : Nat)) (↑(y.n (1 : Nat)).toNat : Int) (↑(y.n (2 : Nat)).toNat : Int) (y.l (1 :
      Nat)) (y.l (3 : Nat))) → (((44 : Nat) = (44 : Nat) ∧ True ∧ (5 : Nat) = (5 : Nat) ∧ (flat [Sp.r IntKind.u8 (0 : Int) (255 : Int)] = true ∧ Row [Sp.r IntKind.u8 (0 : Int)
      (255 : Int)] (y_1.l (1 : Nat))) ∧ (59 : Nat) = (59 : Nat) ∧ (flat [Sp.i IntKind.u32, Sp.i IntKind.i64, Sp.i IntKind.u32] = true ∧ Row [Sp.i IntKind.u32, Sp.i IntKind.i64,
      Sp.i IntKind.u32] (y_1.l (2 : Nat))) ∧ ([] : SW) = []) ∧ okM (Mm.mk (y_1.n (0 : Nat)) (↑(y_1.n (1 : Nat)).toNat : Int) (↑(y_1.n (2 : Nat)).toNat : Int) (y_1.l (1 : Nat))
      (y_1.l (2 : Nat)))) ∧ ∀ (y_2 : PX), (((0 : Int) ≤ y_2.n (1 : Nat) ∧ (0 : Int) ≤ y_2.n (2 : Nat) ∧ True) ∧ (flat [Sp.r IntKind.u8 (0 : Int) (255 : Int)] = true ∧ Row [Sp.r
      IntKind.u8 (0 : Int) (255 : Int)] (y_2.l (1 : Nat))) ∧ (flat [Sp.i IntKind.u32, Sp.i IntKind.i64, Sp.i IntKind.u32] = true ∧ Row [Sp.i IntKind.u32, Sp.i IntKind.i64, Sp.i
      IntKind.u32] (y_2.l (2 : Nat))) ∧ True) ∧ (((0 : Int) ≤ y_2.n (90000 : Nat) ∧ y_2.n (90000 : Nat) ≤ (65535 : Int)) ∧ True) ∧ Mm.mk (y_2.n (0 : Nat)) (y_2.n (1 : Nat))
      (y_2.n (2 : Nat)) (y_2.l (1 : Nat)) (y_2.l (2 : Nat)) = Mm.mk (y_1.n (0 : Nat)) (↑(y_1.n (1 : Nat)).toNat : Int) (↑(y_1.n (2 : Nat)).toNat : Int) (y_1.l (1 : Nat)) (y_1.l
      (2 : Nat)) ∧ y_2.n (90000 : Nat) = rdv2 E (IntKind.u32.wrap (y.n (91001 : Nat) + (2 : Int))) (Mm.mk (y_1.n (0 : Nat)) (↑(y_1.n (1 : Nat)).toNat : Int) (↑(y_1.n (2 :
      Nat)).toNat : Int) (y_1.l (1 : Nat)) (y_1.l (2 : Nat))) → (((44 : Nat) = (44 : Nat) ∧ True ∧ (5 : Nat) = (5 : Nat) ∧ (flat [Sp.r IntKind.u8 (0 : Int) (255 : Int)] = true ∧
      Row [Sp.r IntKind.u8 (0 : Int) (255 : Int)] (y_2.l (1 : Nat))) ∧ (59 : Nat) = (59 : Nat) ∧ (flat [Sp.i IntKind.u32, Sp.i IntKind.i64, Sp.i IntKind.u32] = true ∧ Row [Sp.i
      IntKind.u32, Sp.i IntKind.i64, Sp.i IntKind.u32] (y_2.l (2 : Nat))) ∧ ([] : SW) = []) ∧ okM (Mm.mk (y_2.n (0 : Nat)) (↑(y_2.n (1 : Nat)).toNat : Int) (↑(y_2.n (2 :
      Nat)).toNat : Int) (y_2.l (1 : Nat)) (y_2.l (2 : Nat)))) ∧ ∀ (y_3 : PX), (((0 : Int) ≤ y_3.n (1 : Nat) ∧ (0 : Int) ≤ y_3.n (2 : Nat) ∧ True) ∧ (flat [Sp.r IntKind.u8 (0 :
      Int) (255 : Int)] = true ∧ Row [Sp.r IntKind.u8 (0 : Int) (255 : Int)] (y_3.l (1 : Nat))) ∧ (flat [Sp.i IntKind.u32, Sp.i IntKind.i64, Sp.i IntKind.u32] = true ∧ Row [Sp.i
      IntKind.u32, Sp.i IntKind.i64, Sp.i IntKind.u32] (y_3.l (2 : Nat))) ∧ True) ∧ (((0 : Int) ≤ y_3.n (90000 : Nat) ∧ y_3.n (90000 : Nat) ≤ (65535 : Int)) ∧ True) ∧ Mm.mk
      (y_3.n (0 : Nat)) (y_3.n (1 : Nat)) (y_3.n (2 : Nat)) (y_3.l (1 : Nat)) (y_3.l (2 : Nat)) = Mm.mk (y_2.n (0 : Nat)) (↑(y_2.n (1 : Nat)).toNat : Int) (↑(y_2.n (2 :
      Nat)).toNat : Int) (y_2.l (1 : Nat)) (y_2.l (2 : Nat)) ∧ y_3.n (90000 : Nat) = rdv2 E (IntKind.u32.wrap (IntKind.u32.wrap (y.n (91001 : Nat) + (2 : Int)) + (2 : Int)))
      (Mm.mk (y_2.n (0 : Nat)) (↑(y_2.n (1 : Nat)).toNat : Int) (↑(y_2.n (2 : Nat)).toNat : Int) (y_2.l (1 : Nat)) (y_2.l (2 : Nat))) → (([] : SW) = [] ∧ (0 : Int) ≤
      IntKind.i64.wrap ((IntKind.u16.wrap (IntKind.i32.wrap (IntKind.i16.wrap (y_3.n (90000 : Nat))))).fdiv (256 : Int)) ∧ IntKind.i64.wrap ((IntKind.u16.wrap (IntKind.i32.wrap
      (IntKind.i16.wrap (y_3.n (90000 : Nat))))).fdiv (256 : Int)) ≤ (1000 : Int)) ∧ ∀ (y_4 : PX), True ∧ (((-16384 : Int) ≤ y_4.n (90000 : Nat) ∧ y_4.n (90000 : Nat) ≤ (16384 :
      Int)) ∧ True) ∧ y_4.n (90000 : Nat) = sn (IntKind.i64.wrap ((IntKind.u16.wrap (IntKind.i32.wrap (IntKind.i16.wrap (y_3.n (90000 : Nat))))).fdiv (256 : Int))) → (([] : SW)
      = [] ∧ (0 : Int) ≤ IntKind.i64.wrap (IntKind.i64.wrap ((IntKind.u16.wrap (IntKind.i32.wrap (IntKind.i16.wrap (y_3.n (90000 : Nat))))).fdiv (256 : Int)) + (64 : Int)) ∧
      IntKind.i64.wrap (IntKind.i64.wrap ((IntKind.u16.wrap (IntKind.i32.wrap (IntKind.i16.wrap (y_3.n (90000 : Nat))))).fdiv (256 : Int)) + (64 : Int)) ≤ (1000 : Int)) ∧ ∀ (y_5
      : PX), True ∧ (((-16384 : Int) ≤ y_5.n (90000 : Nat) ∧ y_5.n (90000 : Nat) ≤ (16384 : Int)) ∧ True) ∧ y_5.n (90000 : Nat) = sn (IntKind.i64.wrap (IntKind.i64.wrap
      ((IntKind.u16.wrap (IntKind.i32.wrap (IntKind.i16.wrap (y_3.n (90000 : Nat))))).fdiv (256 : Int)) + (64 : Int))) → (((44 : Nat) = (44 : Nat) ∧ True ∧ (5 : Nat) = (5 : Nat)
      ∧ (flat [Sp.r IntKind.u8 (0 : Int) (255 : Int)] = true ∧ Row [Sp.r IntKind.u8 (0 : Int) (255 : Int)] (y_3.l (1 : Nat))) ∧ (59 : Nat) = (59 : Nat) ∧ (flat [Sp.i
      IntKind.u32, Sp.i IntKind.i64, Sp.i IntKind.u32] = true ∧ Row [Sp.i IntKind.u32, Sp.i IntKind.i64, Sp.i IntKind.u32] (y_3.l (2 : Nat))) ∧ ([] : SW) = []) ∧ okM (Mm.mk
      (y_3.n (0 : Nat)) (↑(y_3.n (1 : Nat)).toNat : Int) (↑(y_3.n (2 : Nat)).toNat : Int) (y_3.l (1 : Nat)) (y_3.l (2 : Nat)))) ∧ ∀ (y_6 : PX), (((0 : Int) ≤ y_6.n (1 : Nat) ∧
      (0 : Int) ≤ y_6.n (2 : Nat) ∧ True) ∧ (flat [Sp.r IntKind.u8 (0 : Int) (255 : Int)] = true ∧ Row [Sp.r IntKind.u8 (0 : Int) (255 : Int)] (y_6.l (1 : Nat))) ∧ (flat [Sp.i
      IntKind.u32, Sp.i IntKind.i64, Sp.i IntKind.u32] = true ∧ Row [Sp.i IntKind.u32, Sp.i IntKind.i64, Sp.i IntKind.u32] (y_6.l (3 : Nat))) ∧ True) ∧ True ∧ grM (Mm.mk (y_3.n
      (0 : Nat)) (↑(y_3.n (1 : Nat)).toNat : Int) (↑(y_3.n (2 : Nat)).toNat : Int) (y_3.l (1 : Nat)) (y_3.l (2 : Nat))) (Mm.mk (y_6.n (0 : Nat)) (y_6.n (1 : Nat)) (y_6.n (2 :
      Nat)) (y_6.l (1 : Nat)) (y_6.l (3 : Nat))) ∧ Mm.mk (y_6.n (0 : Nat)) (y_6.n (1 : Nat)) (y_6.n (2 : Nat)) (y_6.l (1 : Nat)) (y_6.l (3 : Nat)) = wrm2 E (y.n (91002 : Nat))
      (bits BinOp.and IntKind.u32 (IntKind.u32.wrap (IntKind.i32.wrap (IntKind.i16.wrap ((IntKind.i32.wrap (IntKind.i32.wrap (IntKind.i16.wrap (y_1.n (90000 : Nat))) *
      IntKind.i32.wrap (y_5.n (90000 : Nat)))).fdiv (16384 : Int))))) (65535 : Int)) (Mm.mk (y_3.n (0 : Nat)) (↑(y_3.n (1 : Nat)).toNat : Int) (↑(y_3.n (2 : Nat)).toNat : Int)
      (y_3.l (1 : Nat)) (y_3.l (2 : Nat))) → (((44 : Nat) = (44 : Nat) ∧ True ∧ (5 : Nat) = (5 : Nat) ∧ (flat [Sp.r IntKind.u8 (0 : Int) (255 : Int)] = true ∧ Row [Sp.r
      IntKind.u8 (0 : Int) (255 : Int)] (y_6.l (1 : Nat))) ∧ (59 : Nat) = (59 : Nat) ∧ (flat [Sp.i IntKind.u32, Sp.i IntKind.i64, Sp.i IntKind.u32] = true ∧ Row [Sp.i
      IntKind.u32, Sp.i IntKind.i64, Sp.i IntKind.u32] (y_6.l (3 : Nat))) ∧ ([] : SW) = []) ∧ okM (Mm.mk (y_6.n (0 : Nat)) (↑(y_6.n (1 : Nat)).toNat : Int) (↑(y_6.n (2 :
      Nat)).toNat : Int) (y_6.l (1 : Nat)) (y_6.l (3 : Nat)))) ∧ ∀ (y_7 : PX), (((0 : Int) ≤ y_7.n (1 : Nat) ∧ (0 : Int) ≤ y_7.n (2 : Nat) ∧ True) ∧ (flat [Sp.r IntKind.u8 (0 :
      Int) (255 : Int)] = true ∧ Row [Sp.r IntKind.u8 (0 : Int) (255 : Int)] (y_7.l (1 : Nat))) ∧ (flat [Sp.i IntKind.u32, Sp.i IntKind.i64, Sp.i IntKind.u32] = true ∧ Row [Sp.i
      IntKind.u32, Sp.i IntKind.i64, Sp.i IntKind.u32] (y_7.l (3 : Nat))) ∧ True) ∧ True ∧ grM (Mm.mk (y_6.n (0 : Nat)) (↑(y_6.n (1 : Nat)).toNat : Int) (↑(y_6.n (2 :
      Nat)).toNat : Int) (y_6.l (1 : Nat)) (y_6.l (3 : Nat))) (Mm.mk (y_7.n (0 : Nat)) (y_7.n (1 : Nat)) (y_7.n (2 : Nat)) (y_7.l (1 : Nat)) (y_7.l (3 : Nat))) ∧ Mm.mk (y_7.n (0
      : Nat)) (y_7.n (1 : Nat)) (y_7.n (2 : Nat)) (y_7.l (1 : Nat)) (y_7.l (3 : Nat)) = wrm2 E (IntKind.u32.wrap (y.n (91002 : Nat) + ap)) (bits BinOp.and IntKind.u32
      (IntKind.u32.wrap (IntKind.i32.wrap (IntKind.i16.wrap ((IntKind.i32.wrap (IntKind.i32.wrap ((0 : Int) - IntKind.i32.wrap (IntKind.i16.wrap (y_1.n (90000 : Nat)))) *
      IntKind.i32.wrap (y_4.n (90000 : Nat)))).fdiv (16384 : Int))))) (65535 : Int)) (Mm.mk (y_6.n (0 : Nat)) (↑(y_6.n (1 : Nat)).toNat : Int) (↑(y_6.n (2 : Nat)).toNat : Int)
      (y_6.l (1 : Nat)) (y_6.l (3 : Nat))) → (((44 : Nat) = (44 : Nat) ∧ True ∧ (5 : Nat) = (5 : Nat) ∧ (flat [Sp.r IntKind.u8 (0 : Int) (255 : Int)] = true ∧ Row [Sp.r
      IntKind.u8 (0 : Int) (255 : Int)] (y_7.l (1 : Nat))) ∧ (59 : Nat) = (59 : Nat) ∧ (flat [Sp.i IntKind.u32, Sp.i IntKind.i64, Sp.i IntKind.u32] = true ∧ Row [Sp.i
      IntKind.u32, Sp.i IntKind.i64, Sp.i IntKind.u32] (y_7.l (3 : Nat))) ∧ ([] : SW) = []) ∧ okM (Mm.mk (y_7.n (0 : Nat)) (↑(y_7.n (1 : Nat)).toNat : Int) (↑(y_7.n (2 :
      Nat)).toNat : Int) (y_7.l (1 : Nat)) (y_7.l (3 : Nat)))) ∧ ∀ (y_8 : PX), (((0 : Int) ≤ y_8.n (1 : Nat) ∧ (0 : Int) ≤ y_8.n (2 : Nat) ∧ True) ∧ (flat [Sp.r IntKind.u8 (0 :
      Int) (255 : Int)] = true ∧ Row [Sp.r IntKind.u8 (0 : Int) (255 : Int)] (y_8.l (1 : Nat))) ∧ (flat [Sp.i IntKind.u32, Sp.i IntKind.i64, Sp.i IntKind.u32] = true ∧ Row [Sp.i
      IntKind.u32, Sp.i IntKind.i64, Sp.i IntKind.u32] (y_8.l (3 : Nat))) ∧ True) ∧ True ∧ grM (Mm.mk (y_7.n (0 : Nat)) (↑(y_7.n (1 : Nat)).toNat : Int) (↑(y_7.n (2 :
      Nat)).toNat : Int) (y_7.l (1 : Nat)) (y_7.l (3 : Nat))) (Mm.mk (y_8.n (0 : Nat)) (y_8.n (1 : Nat)) (y_8.n (2 : Nat)) (y_8.l (1 : Nat)) (y_8.l (3 : Nat))) ∧ Mm.mk (y_8.n (0
      : Nat)) (y_8.n (1 : Nat)) (y_8.n (2 : Nat)) (y_8.l (1 : Nat)) (y_8.l (3 : Nat)) = wrm2 E (IntKind.u32.wrap (IntKind.u32.wrap (y.n (91002 : Nat) + ap) + ap)) (bits
      BinOp.and IntKind.u32 (IntKind.u32.wrap (IntKind.i32.wrap (IntKind.i16.wrap ((IntKind.i32.wrap (IntKind.i32.wrap (IntKind.i16.wrap (y_2.n (90000 : Nat))) *
      IntKind.i32.wrap (y_4.n (90000 : Nat)))).fdiv (16384 : Int))))) (65535 : Int)) (Mm.mk (y_7.n (0 : Nat)) (↑(y_7.n (1 : Nat)).toNat : Int) (↑(y_7.n (2 : Nat)).toNat : Int)
      (y_7.l (1 : Nat)) (y_7.l (3 : Nat))) → (((44 : Nat) = (44 : Nat) ∧ True ∧ (5 : Nat) = (5 : Nat) ∧ (flat [Sp.r IntKind.u8 (0 : Int) (255 : Int)] = true ∧ Row [Sp.r
      IntKind.u8 (0 : Int) (255 : Int)] (y_8.l (1 : Nat))) ∧ (59 : Nat) = (59 : Nat) ∧ (flat [Sp.i IntKind.u32, Sp.i IntKind.i64, Sp.i IntKind.u32] = true ∧ Row [Sp.i
      IntKind.u32, Sp.i IntKind.i64, Sp.i IntKind.u32] (y_8.l (3 : Nat))) ∧ ([] : SW) = []) ∧ okM (Mm.mk (y_8.n (0 : Nat)) (↑(y_8.n (1 : Nat)).toNat : Int) (↑(y_8.n (2 :
      Nat)).toNat : Int) (y_8.l (1 : Nat)) (y_8.l (3 : Nat)))) ∧ ∀ (y_9 : PX), (((0 : Int) ≤ y_9.n (1 : Nat) ∧ (0 : Int) ≤ y_9.n (2 : Nat) ∧ True) ∧ (flat [Sp.r IntKind.u8 (0 :
      Int) (255 : Int)] = true ∧ Row [Sp.r IntKind.u8 (0 : Int) (255 : Int)] (y_9.l (1 : Nat))) ∧ (flat [Sp.i IntKind.u32, Sp.i IntKind.i64, Sp.i IntKind.u32] = true ∧ Row [Sp.i
      IntKind.u32, Sp.i IntKind.i64, Sp.i IntKind.u32] (y_9.l (3 : Nat))) ∧ True) ∧ True ∧ grM (Mm.mk (y_8.n (0 : Nat)) (↑(y_8.n (1 : Nat)).toNat : Int) (↑(y_8.n (2 :
      Nat)).toNat : Int) (y_8.l (1 : Nat)) (y_8.l (3 : Nat))) (Mm.mk (y_9.n (0 : Nat)) (y_9.n (1 : Nat)) (y_9.n (2 : Nat)) (y_9.l (1 : Nat)) (y_9.l (3 : Nat))) ∧ Mm.mk (y_9.n (0
      : Nat)) (y_9.n (1 : Nat)) (y_9.n (2 : Nat)) (y_9.l (1 : Nat)) (y_9.l (3 : Nat)) = wrm2 E (IntKind.u32.wrap (IntKind.u32.wrap (IntKind.u32.wrap (y.n (91002 : Nat) + ap) +
      ap) + ap)) (bits BinOp.and IntKind.u32 (IntKind.u32.wrap (IntKind.i32.wrap (IntKind.i16.wrap ((IntKind.i32.wrap (IntKind.i32.wrap (IntKind.i16.wrap (y_2.n (90000 : Nat)))
      * IntKind.i32.wrap (y_5.n (90000 : Nat)))).fdiv (16384 : Int))))) (65535 : Int)) (Mm.mk (y_8.n (0 : Nat)) (↑(y_8.n (1 : Nat)).toNat : Int) (↑(y_8.n (2 : Nat)).toNat : Int)
      (y_8.l (1 : Nat)) (y_8.l (3 : Nat))) → c30_td E = c30_td E ∧ (51 : Nat) = (51 : Nat) ∧ (True ∧ (((0 : Int) ≤ IntKind.u32.wrap (y.n (91001 : Nat) + (8 : Int)) ∧
      IntKind.u32.wrap (y.n (91001 : Nat) + (8 : Int)) ≤ (4294967295 : Int)) ∧ True) ∧ (((0 : Int) ≤ IntKind.u32.wrap (IntKind.u32.wrap (IntKind.u32.wrap (IntKind.u32.wrap (y.n
      (91002 : Nat) + ap) + ap) + ap) + ap) ∧ IntKind.u32.wrap (IntKind.u32.wrap (IntKind.u32.wrap (IntKind.u32.wrap (y.n (91002 : Nat) + ap) + ap) + ap) + ap) ≤ (4294967295 :
      Int)) ∧ True) ∧ (((0 : Int) ≤ y.n (91003 : Nat) ∧ y.n (91003 : Nat) ≤ (256 : Int)) ∧ True) ∧ (renC (posN [(0 : Nat), (1 : Nat), (1000000000002 : Nat), (10 : Nat)]) (C.i
      false IntKind.u32 ap) = C.i false IntKind.u32 ap ∧ True) ∧ (((0 : Int) ≤ y.n (91019 : Nat) ∧ y.n (91019 : Nat) ≤ (256 : Int)) ∧ True) ∧ (((0 : Int) ≤ IntKind.i64.wrap (y.n
      (91020 : Nat) + (1 : Int)) ∧ IntKind.i64.wrap (y.n (91020 : Nat) + (1 : Int)) ≤ (256 : Int)) ∧ True) ∧ True) ∧ ((44 : Nat) = (44 : Nat) ∧ True ∧ (5 : Nat) = (5 : Nat) ∧
      (flat [Sp.r IntKind.u8 (0 : Int) (255 : Int)] = true ∧ Row [Sp.r IntKind.u8 (0 : Int) (255 : Int)] (y_9.l (1 : Nat))) ∧ (4294967295 : Nat) = (4294967295 : Nat) ∧ (59 :
      Nat) = (59 : Nat) ∧ (flat [Sp.i IntKind.u32, Sp.i IntKind.i64, Sp.i IntKind.u32] = true ∧ Row [Sp.i IntKind.u32, Sp.i IntKind.i64, Sp.i IntKind.u32] (y_9.l (3 : Nat))) ∧
      ([] : SW) = []) ∧ ((obF E ap (clN n - IntKind.i64.wrap (y.n (91020 : Nat) + (1 : Int))).toNat (IntKind.u32.wrap (y.n (91001 : Nat) + (8 : Int))) (IntKind.u32.wrap
      (IntKind.u32.wrap (IntKind.u32.wrap (IntKind.u32.wrap (y.n (91002 : Nat) + ap) + ap) + ap) + ap)) (Mm.mk (y_9.n (0 : Nat)) (↑(y_9.n (1 : Nat)).toNat : Int) (↑(y_9.n (2 :
      Nat)).toNat : Int) (y_9.l (1 : Nat)) (y_9.l (3 : Nat))) = obF E ap (clN n).toNat f t (Mm.mk (z.n (0 : Nat)) (z.n (1 : Nat)) (z.n (2 : Nat)) (z.l (1 : Nat)) (z.l (2 :
      Nat))) ∧ okM (Mm.mk (y_9.n (0 : Nat)) (↑(y_9.n (1 : Nat)).toNat : Int) (↑(y_9.n (2 : Nat)).toNat : Int) (y_9.l (1 : Nat)) (y_9.l (3 : Nat)))) ∧ y.n (91003 : Nat) = clN n ∧
      IntKind.i64.wrap (y.n (91020 : Nat) + (1 : Int)) ≤ clN n ∧ (↑(y_9.n (2 : Nat)).toNat : Int) + (4 : Int) * (clN n - IntKind.i64.wrap (y.n (91020 : Nat) + (1 : Int))) = z.n
      (2 : Nat) + (4 : Int) * clN n ∧ y.n (91019 : Nat) = clN n) ∧ (clN n - IntKind.i64.wrap (y.n (91020 : Nat) + (1 : Int))).toNat < (clN n - y.n (91020 : Nat)).toNat ∧ True) ∧
      (decide (y.n (91020 : Nat) < y.n (91019 : Nat)) = false → ((44 : Nat) = (44 : Nat) ∧ True ∧ (5 : Nat) = (5 : Nat) ∧ (flat [Sp.r IntKind.u8 (0 : Int) (255 : Int)] = true ∧
      Row [Sp.r IntKind.u8 (0 : Int) (255 : Int)] (y.l (1 : Nat))) ∧ (4294967295 : Nat) = (4294967295 : Nat) ∧ (59 : Nat) = (59 : Nat) ∧ (flat [Sp.i IntKind.u32, Sp.i
      IntKind.i64, Sp.i IntKind.u32] = true ∧ Row [Sp.i IntKind.u32, Sp.i IntKind.i64, Sp.i IntKind.u32] (y.l (3 : Nat))) ∧ ([] : SW) = []) ∧ (((0 : Int) ≤ y.n (91003 : Nat) ∧
      y.n (91003 : Nat) ≤ (256 : Int)) ∧ True) ∧ (Mm.mk (y.n (0 : Nat)) (↑(y.n (1 : Nat)).toNat : Int) (↑(y.n (2 : Nat)).toNat : Int) (y.l (1 : Nat)) (y.l (3 : Nat)) = obF E ap
      (clN n).toNat f t (Mm.mk (z.n (0 : Nat)) (z.n (1 : Nat)) (z.n (2 : Nat)) (z.l (1 : Nat)) (z.l (2 : Nat))) ∧ y.n (91003 : Nat) = clN n) ∧ okM (Mm.mk (y.n (0 : Nat)) (↑(y.n
      (1 : Nat)).toNat : Int) (↑(y.n (2 : Nat)).toNat : Int) (y.l (1 : Nat)) (y.l (3 : Nat))) ∧ (↑(y.n (2 : Nat)).toNat : Int) = z.n (2 : Nat) + (4 : Int) * clN n)) := by kernel_rfl
set_option maxHeartbeats 8000000 in
theorem c30_q0 (E : World) (f t n ap : Int) (z : PX) (hp : (fun z => okM (Mm.mk (z.n 0) (z.n 1) (z.n 2) (z.l 1) (z.l 2)) ∧ z.n 2 ≤ 100000 ∧ (0 ≤ f ∧ f ≤ 4294967295) ∧ (0 ≤ t ∧ t ≤ 4294967295) ∧ (0 ≤ ap ∧ ap ≤ 4294967295)) z) (y : PX) (hy1 : rgM y [mB 3, rowB, .g HOLE, rowN] 0) (hy2 : rgF y [(0, .c (.ifc 36 0 0)), (1, .r .u32 (0) (4294967295)), (2, .r .u32 (0) (4294967295)), (3, .r .i64 (0) (256)), (4, .q (.i false .u32 ap)), (19, .r .i64 (0) (256)), (20, .r .i64 (0) (256))]) (hy3 : (fun y => (obF E ap ((clN n - y.n 91020).toNat) (y.n 91001) (y.n 91002) (Mm.mk (y.n 0) (y.n 1) (y.n 2) (y.l 1) (y.l 3)) = obF E ap (clN n).toNat f t (Mm.mk (z.n 0) (z.n 1) (z.n 2) (z.l 1) (z.l 2)) ∧ okM (Mm.mk (y.n 0) (y.n 1) (y.n 2) (y.l 1) (y.l 3))) ∧ y.n 91003 = clN n ∧ y.n 91020 ≤ clN n ∧ y.n 2 + 4 * (clN n - y.n 91020) = z.n 2 + 4 * clN n ∧ y.n 91019 = clN n) y) : Holds ((run (pe E) (orcN E) (tabL fns) 20000 (2 ^ 2) (c30_td E) (mkL Try.f30.ntmps (slC y [(0, .c (.ifc 36 0 0)), (1, .r .u32 (0) (4294967295)), (2, .r .u32 (0) (4294967295)), (3, .r .i64 (0) (256)), (4, .q (.i false .u32 ap)), (19, .r .i64 (0) (256)), (20, .r .i64 (0) (256))])) (mkM y [] [mB 3, rowB, .g HOLE, rowN] 0)).OK (lfP (pe E) Try.f30 (endR ([mB 2, rowB, rowN] : List MB).length [mB 3, rowB, .g HOLE, rowN] (.c (.r .i64 0 256)) (fun z y => ((Mm.mk (y.n 0) (y.n 1) (y.n 2) (y.l 1) (y.l 3)) = obF E ap (clN n).toNat f t (Mm.mk (z.n 0) (z.n 1) (z.n 2) (z.l 1) (z.l 2)) ∧ y.n 90000 = clN n) ∧ okM (Mm.mk (y.n 0) (y.n 1) (y.n 2) (y.l 1) (y.l 3)) ∧ y.n 2 = z.n 2 + 4 * clN n) z) (headR ([mB 2, rowB, rowN] : List MB).length Try.f30.ntmps (some ((fun y => (clN n - y.n 91020).toNat) y)) (c30_hs E f t n ap z)))) := by
  refine loopP_lfH ⟨?_⟩
  rw [c30_r0]
  have hf : True ∧ (((0) ≤ y.n 91001 ∧ y.n 91001 ≤ (4294967295)) ∧ True) ∧ (((0) ≤ y.n 91002 ∧ y.n 91002 ≤ (4294967295)) ∧ True) ∧ (((0) ≤ y.n 91003 ∧ y.n 91003 ≤ (256)) ∧ True) ∧ True ∧ (((0) ≤ y.n 91019 ∧ y.n 91019 ≤ (256)) ∧ True) ∧ (((0) ≤ y.n 91020 ∧ y.n 91020 ≤ (256)) ∧ True) ∧ True := hy2
  obtain ⟨_, ⟨g1, _⟩, ⟨g2, _⟩, ⟨g3, _⟩, _, ⟨g19, _⟩, ⟨g20, _⟩, _⟩ := hf
  obtain ⟨⟨hE, hK0⟩, e3, hle, hnn, e19⟩ := hy3
  obtain ⟨_, hz2, hf0, ht0, hap⟩ := hp
  have hR1 := hy1.2.1.2
  have hR2 := hy1.2.2.1.2
  have hf1 : flat [Sp.r .u8 0 255] = true := rfl
  have hf2 : flat [Sp.i .u32, Sp.i .i64, Sp.i .u32] = true := rfl
  have T1 : ((y.n 1).toNat : Int) = y.n 1 := Int.toNat_of_nonneg hK0.b0
  have T2 : ((y.n 2).toNat : Int) = y.n 2 := Int.toNat_of_nonneg hK0.n0
  simp only [T1, T2]
  have hcb := cl_bd n
  refine ⟨fun hl => ?_, fun hl => ?_⟩
  · have hl := of_decide_eq_true hl
    refine ⟨⟨by ((repeat' (first | exact trivial | with_reducible rfl | assumption | exact rfl | apply And.intro)) <;> omega), hK0⟩, ?_⟩
    rintro y1 ⟨⟨⟨p1a, p1b, _⟩, ⟨_, rb1⟩, ⟨_, rn1⟩, _⟩, ⟨gr1, _⟩, q1, v1⟩
    have S1a : ((y1.n 1).toNat : Int) = y1.n 1 := Int.toNat_of_nonneg p1a
    have S1b : ((y1.n 2).toNat : Int) = y1.n 2 := Int.toNat_of_nonneg p1b
    simp only [S1a, S1b]
    have hK1 : okM (Mm.mk (y1.n 0) (y1.n 1) (y1.n 2) (y1.l 1) (y1.l 2)) := by rw [q1]; exact hK0
    refine ⟨⟨by ((repeat' (first | exact trivial | with_reducible rfl | assumption | exact rfl | apply And.intro)) <;> omega), hK1⟩, ?_⟩
    rintro y2 ⟨⟨⟨p2a, p2b, _⟩, ⟨_, rb2⟩, ⟨_, rn2⟩, _⟩, ⟨gr2, _⟩, q2, v2⟩
    have S2a : ((y2.n 1).toNat : Int) = y2.n 1 := Int.toNat_of_nonneg p2a
    have S2b : ((y2.n 2).toNat : Int) = y2.n 2 := Int.toNat_of_nonneg p2b
    simp only [S2a, S2b]
    replace q2 := q2.trans q1
    rw [q1] at v2
    have hK2 : okM (Mm.mk (y2.n 0) (y2.n 1) (y2.n 2) (y2.l 1) (y2.l 2)) := by rw [q2]; exact hK0
    refine ⟨⟨by ((repeat' (first | exact trivial | with_reducible rfl | assumption | exact rfl | apply And.intro)) <;> omega), hK2⟩, ?_⟩
    rintro y3 ⟨⟨⟨p3a, p3b, _⟩, ⟨_, rb3⟩, ⟨_, rn3⟩, _⟩, ⟨gr3, _⟩, q3, v3⟩
    have S3a : ((y3.n 1).toNat : Int) = y3.n 1 := Int.toNat_of_nonneg p3a
    have S3b : ((y3.n 2).toNat : Int) = y3.n 2 := Int.toNat_of_nonneg p3b
    simp only [S3a, S3b]
    replace q3 := q3.trans q2
    rw [q2] at v3
    have hK3 : okM (Mm.mk (y3.n 0) (y3.n 1) (y3.n 2) (y3.l 1) (y3.l 2)) := by rw [q3]; exact hK0
    simp only [anP _ gr3, a64]
    refine ⟨⟨by trivial, a64b _⟩, ?_⟩
    rintro y4 ⟨_, ⟨gr4, _⟩, v4⟩
    refine ⟨⟨by trivial, a64c _⟩, ?_⟩
    rintro y5 ⟨_, ⟨gr5, _⟩, v5⟩
    simp only [i32c _ gr4, i32c _ gr5, e16, en32, eA (hS (y1.n 90000)) (y5.n 90000) (hS_bd _) gr5, eA (-hS (y1.n 90000)) (y4.n 90000) (hS_ng _) gr4, eA (hS (y2.n 90000)) (y4.n 90000) (hS_bd _) gr4, eA (hS (y2.n 90000)) (y5.n 90000) (hS_bd _) gr5, eM]
    refine ⟨⟨by ((repeat' (first | exact trivial | with_reducible rfl | assumption | exact rfl | apply And.intro)) <;> omega), hK3⟩, ?_⟩
    rintro y6 ⟨⟨⟨p6a, p6b, _⟩, ⟨_, rb6⟩, ⟨_, rn6⟩, _⟩, _, g6, q6⟩
    have S6a : ((y6.n 1).toNat : Int) = y6.n 1 := Int.toNat_of_nonneg p6a
    have S6b : ((y6.n 2).toNat : Int) = y6.n 2 := Int.toNat_of_nonneg p6b
    simp only [S6a, S6b]
    have c3 : y3.n 2 = y.n 2 := congrArg Mm.nn q3
    have c6 : y6.n 2 = y3.n 2 + 1 := g6.1
    have hK6 := hK3.gr g6 (show y3.n 2 < 1000000 by omega)
    rw [q3] at q6
    refine ⟨⟨by ((repeat' (first | exact trivial | with_reducible rfl | assumption | exact rfl | apply And.intro)) <;> omega), hK6⟩, ?_⟩
    rintro y7 ⟨⟨⟨p7a, p7b, _⟩, ⟨_, rb7⟩, ⟨_, rn7⟩, _⟩, _, g7, q7⟩
    have S7a : ((y7.n 1).toNat : Int) = y7.n 1 := Int.toNat_of_nonneg p7a
    have S7b : ((y7.n 2).toNat : Int) = y7.n 2 := Int.toNat_of_nonneg p7b
    simp only [S7a, S7b]
    have c7 : y7.n 2 = y6.n 2 + 1 := g7.1
    have hK7 := hK6.gr g7 (show y6.n 2 < 1000000 by omega)
    refine ⟨⟨by ((repeat' (first | exact trivial | with_reducible rfl | assumption | exact rfl | apply And.intro)) <;> omega), hK7⟩, ?_⟩
    rintro y8 ⟨⟨⟨p8a, p8b, _⟩, ⟨_, rb8⟩, ⟨_, rn8⟩, _⟩, _, g8, q8⟩
    have S8a : ((y8.n 1).toNat : Int) = y8.n 1 := Int.toNat_of_nonneg p8a
    have S8b : ((y8.n 2).toNat : Int) = y8.n 2 := Int.toNat_of_nonneg p8b
    simp only [S8a, S8b]
    have c8 : y8.n 2 = y7.n 2 + 1 := g8.1
    have hK8 := hK7.gr g8 (show y7.n 2 < 1000000 by omega)
    refine ⟨⟨by ((repeat' (first | exact trivial | with_reducible rfl | assumption | exact rfl | apply And.intro)) <;> omega), hK8⟩, ?_⟩
    rintro y9 ⟨⟨⟨p9a, p9b, _⟩, ⟨_, rb9⟩, ⟨_, rn9⟩, _⟩, _, g9, q9⟩
    have S9a : ((y9.n 1).toNat : Int) = y9.n 1 := Int.toNat_of_nonneg p9a
    have S9b : ((y9.n 2).toNat : Int) = y9.n 2 := Int.toNat_of_nonneg p9b
    simp only [S9a, S9b]
    have c9 : y9.n 2 = y8.n 2 + 1 := g9.1
    have hK9 := hK8.gr g9 (show y8.n 2 < 1000000 by omega)
    have hlt : y.n 91020 < clN n := by omega
    have hS := obF_s hE hlt
    have hW : obS E (y.n 91001) (y.n 91002) ap (Mm.mk (y.n 0) (y.n 1) (y.n 2) (y.l 1) (y.l 3)) = (Mm.mk (y9.n 0) (y9.n 1) (y9.n 2) (y9.l 1) (y9.l 3)) := by
      rw [q9, q8, q7, q6]
      simp only [obS, tnF, u32w, uadd, Int.reduceAdd, Int.add_zero, v5, v4, v3, v2, v1]
    rw [hW] at hS
    have w1 : IntKind.i64.wrap (y.n 91020 + 1) = y.n 91020 + 1 := by rw [wi64]; omega
    rw [w1]
    have u1 := ur (y.n 91001 + 8)
    have u2 := ur (IntKind.u32.wrap (IntKind.u32.wrap (IntKind.u32.wrap (y.n 91002 + ap) + ap) + ap) + ap)
    ((repeat' (first | exact trivial | with_reducible rfl | assumption | exact rfl | apply And.intro)) <;> omega)
  · have hl := of_decide_eq_false hl
    have e0 : (clN n - y.n 91020).toNat = 0 := by omega
    rw [e0] at hE
    have hE : (Mm.mk (y.n 0) (y.n 1) (y.n 2) (y.l 1) (y.l 3)) = obF E ap (clN n).toNat f t (Mm.mk (z.n 0) (z.n 1) (z.n 2) (z.l 1) (z.l 2)) := hE
    ((repeat' (first | exact trivial | with_reducible rfl | assumption | exact rfl | apply And.intro)) <;> omega)
theorem c30_pro (E : World) (f t n ap : Int) (z : PX) :
    (loopP (pe E) Try.f30 (endR ([mB 2, rowB, rowN] : List MB).length [mB 3, rowB, .g HOLE, rowN] (.c (.r .i64 0 256)) (fun z y => ((Mm.mk (y.n 0) (y.n 1) (y.n 2) (y.l 1) (y.l 3)) = obF E ap (clN n).toNat f t (Mm.mk (z.n 0) (z.n 1) (z.n 2) (z.l 1) (z.l 2)) ∧ y.n 90000 = clN n) ∧ okM (Mm.mk (y.n 0) (y.n 1) (y.n 2) (y.l 1) (y.l 3)) ∧ y.n 2 = z.n 2 + 4 * clN n) z) (headR ([mB 2, rowB, rowN] : List MB).length Try.f30.ntmps none (c30_hs E f t n ap z)) (run (pe E) (orcN E) (tabL fns) 20000 (2 ^ 2) [.code (Try.f30.body.getD .skip)] ⟨Try.f30.ntmps, mkFrGo (Tr.mk 12) 0 [.c (.ifc 36 0 0), .c (.i false .u32 f), .c (.i false .u32 t), .c (.i false .i64 n), .c (.i false .u32 ap)]⟩ (mkM z [] [mB 2, rowB, rowN] 0))) =
    (c30_td E = c30_td E ∧ (51 : Nat) = (51 : Nat) ∧ (True ∧ (((0 : Int) ≤ f ∧ f ≤ (4294967295 : Int)) ∧ True) ∧ (((0 : Int) ≤ t ∧ t ≤ (4294967295 : Int)) ∧ True) ∧ ((((0 :
      Int) ≤ if (256 : Int) < if (0 : Int) > n then (0 : Int) else n then (256 : Int) else if (0 : Int) > n then (0 : Int) else n) ∧ (if (256 : Int) < if (0 : Int) > n then (0 :
      Int) else n then (256 : Int) else if (0 : Int) > n then (0 : Int) else n) ≤ (256 : Int)) ∧ True) ∧ (renC (posN [(0 : Nat), (1 : Nat), (1000000000002 : Nat), (2 : Nat)])
      (C.i false IntKind.u32 ap) = C.i false IntKind.u32 ap ∧ True) ∧ ((((0 : Int) ≤ if (256 : Int) < if (0 : Int) > n then (0 : Int) else n then (256 : Int) else if (0 : Int) >
      n then (0 : Int) else n) ∧ (if (256 : Int) < if (0 : Int) > n then (0 : Int) else n then (256 : Int) else if (0 : Int) > n then (0 : Int) else n) ≤ (256 : Int)) ∧ True) ∧
      (((0 : Int) ≤ (0 : Int) ∧ (0 : Int) ≤ (256 : Int)) ∧ True) ∧ True) ∧ ((44 : Nat) = (44 : Nat) ∧ True ∧ (5 : Nat) = (5 : Nat) ∧ (flat [Sp.r IntKind.u8 (0 : Int) (255 :
      Int)] = true ∧ Row [Sp.r IntKind.u8 (0 : Int) (255 : Int)] (z.l (1 : Nat))) ∧ (4294967295 : Nat) = (4294967295 : Nat) ∧ (59 : Nat) = (59 : Nat) ∧ (flat [Sp.i IntKind.u32,
      Sp.i IntKind.i64, Sp.i IntKind.u32] = true ∧ Row [Sp.i IntKind.u32, Sp.i IntKind.i64, Sp.i IntKind.u32] (z.l (2 : Nat))) ∧ ([] : SW) = []) ∧ ((obF E ap (clN n - (0 :
      Int)).toNat f t (Mm.mk (z.n (0 : Nat)) (↑(z.n (1 : Nat)).toNat : Int) (↑(z.n (2 : Nat)).toNat : Int) (z.l (1 : Nat)) (z.l (2 : Nat))) = obF E ap (clN n).toNat f t (Mm.mk
      (z.n (0 : Nat)) (z.n (1 : Nat)) (z.n (2 : Nat)) (z.l (1 : Nat)) (z.l (2 : Nat))) ∧ okM (Mm.mk (z.n (0 : Nat)) (↑(z.n (1 : Nat)).toNat : Int) (↑(z.n (2 : Nat)).toNat : Int)
      (z.l (1 : Nat)) (z.l (2 : Nat)))) ∧ (if (256 : Int) < if (0 : Int) > n then (0 : Int) else n then (256 : Int) else if (0 : Int) > n then (0 : Int) else n) = clN n ∧ (0 :
      Int) ≤ clN n ∧ (↑(z.n (2 : Nat)).toNat : Int) + (4 : Int) * (clN n - (0 : Int)) = z.n (2 : Nat) + (4 : Int) * clN n ∧ (if (256 : Int) < if (0 : Int) > n then (0 : Int)
      else n then (256 : Int) else if (0 : Int) > n then (0 : Int) else n) = clN n) ∧ True) := by kernel_rfl
set_option maxHeartbeats 8000000 in
theorem c30_c (E : World) (f t n ap : Int) (z : PX) (hz : rgM z [mB 2, rowB, rowN] 0) (hp : (fun z => okM (Mm.mk (z.n 0) (z.n 1) (z.n 2) (z.l 1) (z.l 2)) ∧ z.n 2 ≤ 100000 ∧ (0 ≤ f ∧ f ≤ 4294967295) ∧ (0 ≤ t ∧ t ≤ 4294967295) ∧ (0 ≤ ap ∧ ap ≤ 4294967295)) z) : HD (pe E) 30 [.c (.ifc 36 0 0), .c (.i false .u32 f), .c (.i false .u32 t), .c (.i false .i64 n), .c (.i false .u32 ap)] [mB 2, rowB, rowN] [mB 3, rowB, .g HOLE, rowN] (.c (.r .i64 0 256)) (fun z y => ((Mm.mk (y.n 0) (y.n 1) (y.n 2) (y.l 1) (y.l 3)) = obF E ap (clN n).toNat f t (Mm.mk (z.n 0) (z.n 1) (z.n 2) (z.l 1) (z.l 2)) ∧ y.n 90000 = clN n) ∧ okM (Mm.mk (y.n 0) (y.n 1) (y.n 2) (y.l 1) (y.l 3)) ∧ y.n 2 = z.n 2 + 4 * clN n) z := by
  refine HD.loop (P := pe E) orcN_ok tab_ok tab_sz mixed Try.func30 (c := Try.f30.body.getD .skip) rfl (by decide) (Nat.le_of_ble_eq_true rfl) (by rfl) 20000 (2 ^ 2) (c30_hs E f t n ap z) (by rfl) (loopP_lfH ⟨?_⟩) ?_
  · rw [c30_pro]
    obtain ⟨hK, hz2, hf0, ht0, hap⟩ := hp
    have hR1 := hz.2.1.2
    have hR2 := hz.2.2.1.2
    have hf1 : flat [Sp.r .u8 0 255] = true := rfl
    have hf2 : flat [Sp.i .u32, Sp.i .i64, Sp.i .u32] = true := rfl
    have T1 : ((z.n 1).toNat : Int) = z.n 1 := Int.toNat_of_nonneg hK.b0
    have T2 : ((z.n 2).toNat : Int) = z.n 2 := Int.toNat_of_nonneg hK.n0
    have eP : (if 256 < (if 0 > n then 0 else n) then 256 else (if 0 > n then 0 else n)) = clN n := by unfold clN; repeat' split <;> omega
    have eR : (if (if n < 256 then n else 256) > 0 then (if n < 256 then n else 256) else 0) = clN n := by unfold clN; repeat' split <;> omega
    have hcb := cl_bd n
    simp only [T1, T2, eP, eR, Int.sub_zero]
    ((repeat' (first | exact trivial | with_reducible rfl | assumption | exact rfl | apply And.intro)) <;> omega)
  · intro h hmem y hy1 hy2 hy3
    simp only [c30_hs, List.mem_cons, List.not_mem_nil, or_false] at hmem
    rcases hmem with rfl
    · exact c30_q0 E f t n ap z hp y hy1 hy2 hy3
end Go.Proofs.Ytabklphoccicmaa

