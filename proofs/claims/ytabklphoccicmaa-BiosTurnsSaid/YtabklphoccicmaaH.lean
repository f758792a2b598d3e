import Derived.Test.YtabklphoccicmaaG
set_option linter.unusedVariables false
set_option linter.unusedSimpArgs false
namespace Go.Proofs.Ytabklphoccicmaa
open Go Go.Proofs Go.Proofs.Ytabklphoccicmaa.Ev Go.Proofs.Ytabklphoccicmaa.Ev.Ho
set_option maxRecDepth 100000
noncomputable def c22_h0 (E : World) (f t c : Int) (fast : Bool) (z : PX) : Hd := ⟨4, (litT 11 4), (c22_td E), [(0, .c (.ifc 36 0 0)), (1, .r .u32 (0) (4294967295)), (2, .r .u32 (0) (4294967295)), (3, .q (.i false .u32 c)), (11, .c (.i true .i64 4)), (12, .r .i64 (0) (65536)), (39, .r .i64 (0) (65536)), (40, .r .i64 (0) (65536))], [mB 3, rowB, .g HOLE, rowN], fun y => (cpF E 4 (incB c) ((y.n 91039 - y.n 91040).toNat) (y.n 91001) (y.n 91002) (Mm.mk (y.n 0) (y.n 1) (y.n 2) (y.l 1) (y.l 3)) = cpR E c fast f t (Mm.mk (z.n 0) (z.n 1) (z.n 2) (z.l 1) (z.l 2)) ∧ okM (Mm.mk (y.n 0) (y.n 1) (y.n 2) (y.l 1) (y.l 3))) ∧ y.n 91039 = cnt c fast ∧ y.n 91012 = cnt c fast ∧ y.n 91040 ≤ y.n 91039 ∧ y.n 2 + (y.n 91039 - y.n 91040) = z.n 2 + cnt c fast, fun y => (y.n 91039 - y.n 91040).toNat⟩
noncomputable def c22_h1 (E : World) (f t c : Int) (fast : Bool) (z : PX) : Hd := ⟨4, (litT 11 2), (c22_td E), [(0, .c (.ifc 36 0 0)), (1, .r .u32 (0) (4294967295)), (2, .r .u32 (0) (4294967295)), (3, .q (.i false .u32 c)), (11, .c (.i true .i64 2)), (12, .r .i64 (0) (65536)), (39, .r .i64 (0) (65536)), (40, .r .i64 (0) (65536))], [mB 3, rowB, .g HOLE, rowN], fun y => (cpF E 2 (incB c) ((y.n 91039 - y.n 91040).toNat) (y.n 91001) (y.n 91002) (Mm.mk (y.n 0) (y.n 1) (y.n 2) (y.l 1) (y.l 3)) = cpR E c fast f t (Mm.mk (z.n 0) (z.n 1) (z.n 2) (z.l 1) (z.l 2)) ∧ okM (Mm.mk (y.n 0) (y.n 1) (y.n 2) (y.l 1) (y.l 3))) ∧ y.n 91039 = cnt c fast ∧ y.n 91012 = cnt c fast ∧ y.n 91040 ≤ y.n 91039 ∧ y.n 2 + (y.n 91039 - y.n 91040) = z.n 2 + cnt c fast, fun y => (y.n 91039 - y.n 91040).toNat⟩
noncomputable def c22_hs (E : World) (f t c : Int) (fast : Bool) (z : PX) : List Hd := [c22_h0 E f t c fast z, c22_h1 E f t c fast z]
theorem c22_r0 (E : World) (f t c : Int) (fast : Bool) (z : PX) (y : PX) :
    (loopP (pe E) Try.f22 (endR ([mB 2, rowB, rowN] : List MB).length [mB 3, rowB, .g HOLE, rowN] (.c (.r .i64 0 65536)) (fun z y => ((Mm.mk (y.n 0) (y.n 1) (y.n 2) (y.l 1) (y.l 3)) = cpR E c fast f t (Mm.mk (z.n 0) (z.n 1) (z.n 2) (z.l 1) (z.l 2)) ∧ y.n 90000 = cnt c fast) ∧ okM (Mm.mk (y.n 0) (y.n 1) (y.n 2) (y.l 1) (y.l 3)) ∧ y.n 2 = z.n 2 + cnt c fast) z) (headR ([mB 2, rowB, rowN] : List MB).length Try.f22.ntmps (some ((fun y => (y.n 91039 - y.n 91040).toNat) y)) (c22_hs E f t c fast z))  (run (pe E) (orcM E) (tabL fns) 20000 (2 ^ 200 - 1) (c22_td E) (mkL Try.f22.ntmps (slC y [(0, .c (.ifc 36 0 0)), (1, .r .u32 (0) (4294967295)), (2, .r .u32 (0) (4294967295)), (3, .q (.i false .u32 c)), (11, .c (.i true .i64 4)), (12, .r .i64 (0) (65536)), (39, .r .i64 (0) (65536)), (40, .r .i64 (0) (65536))])) (mkM y [] [mB 3, rowB, .g HOLE, rowN] 0))) =
    ((decide (y.n (91040 : Nat) < y.n (91039 : Nat)) = true → (((44 : Nat) = (44 : Nat) ∧ True ∧ (5 : Nat) = (5 : Nat) ∧ (flat [Sp.r IntKind.u8 (0 : Int) (255 : Int)] = true ∧
      Row [Sp.r IntKind.u8 (0 : Int) (255 : Int)] (y.l (1 : Nat))) ∧ (59 : Nat) = (59 : Nat) ∧ (flat [Sp.i IntKind.u32, Sp.i IntKind.i64, Sp.i IntKind.u32] = true ∧ Row [Sp.i
      IntKind.u32, Sp.i IntKind.i64, Sp.i IntKind.u32] (y.l (3 : Nat))) ∧ ([] : SW) = []) ∧ okM (Mm.mk (y.n (0 : Nat)) (↑(y.n (1 : Nat)).toNat : Int) (↑(y.n (2 : Nat)).toNat :
      Int) (y.l (1 : Nat)) (y.l (3 : Nat)))) ∧ ∀ (y_1 : PX), (((0 : Int) ≤ y_1.n (1 : Nat) ∧ (0 : Int) ≤ y_1.n (2 : Nat) ∧ True) ∧ (flat [Sp.r IntKind.u8 (0 : Int) (255 : Int)]
      = true ∧ Row [Sp.r IntKind.u8 (0 : Int) (255 : Int)] (y_1.l (1 : Nat))) ∧ (flat [Sp.i IntKind.u32, Sp.i IntKind.i64, Sp.i IntKind.u32] = true ∧ Row [Sp.i IntKind.u32, Sp.i
      IntKind.i64, Sp.i IntKind.u32] (y_1.l (2 : Nat))) ∧ True) ∧ True ∧ Mm.mk (y_1.n (0 : Nat)) (y_1.n (1 : Nat)) (y_1.n (2 : Nat)) (y_1.l (1 : Nat)) (y_1.l (2 : Nat)) = Mm.mk
      (y.n (0 : Nat)) (↑(y.n (1 : Nat)).toNat : Int) (↑(y.n (2 : Nat)).toNat : Int) (y.l (1 : Nat)) (y.l (3 : Nat)) ∧ y_1.n (90000 : Nat) = rdv4 E (y.n (91001 : Nat)) (Mm.mk
      (y.n (0 : Nat)) (↑(y.n (1 : Nat)).toNat : Int) (↑(y.n (2 : Nat)).toNat : Int) (y.l (1 : Nat)) (y.l (3 : Nat))) → (((44 : Nat) = (44 : Nat) ∧ True ∧ (5 : Nat) = (5 : Nat) ∧
      (flat [Sp.r IntKind.u8 (0 : Int) (255 : Int)] = true ∧ Row [Sp.r IntKind.u8 (0 : Int) (255 : Int)] (y_1.l (1 : Nat))) ∧ (59 : Nat) = (59 : Nat) ∧ (flat [Sp.i IntKind.u32,
      Sp.i IntKind.i64, Sp.i IntKind.u32] = true ∧ Row [Sp.i IntKind.u32, Sp.i IntKind.i64, Sp.i IntKind.u32] (y_1.l (2 : Nat))) ∧ ([] : SW) = []) ∧ okM (Mm.mk (y_1.n (0 : Nat))
      (↑(y_1.n (1 : Nat)).toNat : Int) (↑(y_1.n (2 : Nat)).toNat : Int) (y_1.l (1 : Nat)) (y_1.l (2 : Nat)))) ∧ ∀ (y_2 : PX), (((0 : Int) ≤ y_2.n (1 : Nat) ∧ (0 : Int) ≤ y_2.n
      (2 : Nat) ∧ True) ∧ (flat [Sp.r IntKind.u8 (0 : Int) (255 : Int)] = true ∧ Row [Sp.r IntKind.u8 (0 : Int) (255 : Int)] (y_2.l (1 : Nat))) ∧ (flat [Sp.i IntKind.u32, Sp.i
      IntKind.i64, Sp.i IntKind.u32] = true ∧ Row [Sp.i IntKind.u32, Sp.i IntKind.i64, Sp.i IntKind.u32] (y_2.l (3 : Nat))) ∧ True) ∧ True ∧ grM (Mm.mk (y_1.n (0 : Nat))
      (↑(y_1.n (1 : Nat)).toNat : Int) (↑(y_1.n (2 : Nat)).toNat : Int) (y_1.l (1 : Nat)) (y_1.l (2 : Nat))) (Mm.mk (y_2.n (0 : Nat)) (y_2.n (1 : Nat)) (y_2.n (2 : Nat)) (y_2.l
      (1 : Nat)) (y_2.l (3 : Nat))) ∧ Mm.mk (y_2.n (0 : Nat)) (y_2.n (1 : Nat)) (y_2.n (2 : Nat)) (y_2.l (1 : Nat)) (y_2.l (3 : Nat)) = wrm4 E (y.n (91002 : Nat)) (y_1.n (90000
      : Nat)) (Mm.mk (y_1.n (0 : Nat)) (↑(y_1.n (1 : Nat)).toNat : Int) (↑(y_1.n (2 : Nat)).toNat : Int) (y_1.l (1 : Nat)) (y_1.l (2 : Nat))) → ((bits BinOp.and IntKind.u32
      (c.fdiv (16777216 : Int)) (1 : Int) == (0 : Int)) = true → c22_td E = c22_td E ∧ (64 : Nat) = (64 : Nat) ∧ (True ∧ (((0 : Int) ≤ IntKind.u32.wrap (y.n (91001 : Nat) + (4 :
      Int)) ∧ IntKind.u32.wrap (y.n (91001 : Nat) + (4 : Int)) ≤ (4294967295 : Int)) ∧ True) ∧ (((0 : Int) ≤ IntKind.u32.wrap (y.n (91002 : Nat) + (4 : Int)) ∧ IntKind.u32.wrap
      (y.n (91002 : Nat) + (4 : Int)) ≤ (4294967295 : Int)) ∧ True) ∧ (renC (posN [(0 : Nat), (1 : Nat), (1000000000002 : Nat), (4 : Nat)]) (C.i false IntKind.u32 c) = C.i false
      IntKind.u32 c ∧ True) ∧ True ∧ (((0 : Int) ≤ y.n (91012 : Nat) ∧ y.n (91012 : Nat) ≤ (65536 : Int)) ∧ True) ∧ (((0 : Int) ≤ y.n (91039 : Nat) ∧ y.n (91039 : Nat) ≤ (65536
      : Int)) ∧ True) ∧ (((0 : Int) ≤ IntKind.i64.wrap (y.n (91040 : Nat) + (1 : Int)) ∧ IntKind.i64.wrap (y.n (91040 : Nat) + (1 : Int)) ≤ (65536 : Int)) ∧ True) ∧ True) ∧ ((44
      : Nat) = (44 : Nat) ∧ True ∧ (5 : Nat) = (5 : Nat) ∧ (flat [Sp.r IntKind.u8 (0 : Int) (255 : Int)] = true ∧ Row [Sp.r IntKind.u8 (0 : Int) (255 : Int)] (y_2.l (1 : Nat)))
      ∧ (4294967295 : Nat) = (4294967295 : Nat) ∧ (59 : Nat) = (59 : Nat) ∧ (flat [Sp.i IntKind.u32, Sp.i IntKind.i64, Sp.i IntKind.u32] = true ∧ Row [Sp.i IntKind.u32, Sp.i
      IntKind.i64, Sp.i IntKind.u32] (y_2.l (3 : Nat))) ∧ ([] : SW) = []) ∧ ((cpF E (4 : Int) (incB c) (y.n (91039 : Nat) - IntKind.i64.wrap (y.n (91040 : Nat) + (1 :
      Int))).toNat (IntKind.u32.wrap (y.n (91001 : Nat) + (4 : Int))) (IntKind.u32.wrap (y.n (91002 : Nat) + (4 : Int))) (Mm.mk (y_2.n (0 : Nat)) (↑(y_2.n (1 : Nat)).toNat :
      Int) (↑(y_2.n (2 : Nat)).toNat : Int) (y_2.l (1 : Nat)) (y_2.l (3 : Nat))) = cpR E c fast f t (Mm.mk (z.n (0 : Nat)) (z.n (1 : Nat)) (z.n (2 : Nat)) (z.l (1 : Nat)) (z.l
      (2 : Nat))) ∧ okM (Mm.mk (y_2.n (0 : Nat)) (↑(y_2.n (1 : Nat)).toNat : Int) (↑(y_2.n (2 : Nat)).toNat : Int) (y_2.l (1 : Nat)) (y_2.l (3 : Nat)))) ∧ y.n (91039 : Nat) =
      cnt c fast ∧ y.n (91012 : Nat) = cnt c fast ∧ IntKind.i64.wrap (y.n (91040 : Nat) + (1 : Int)) ≤ y.n (91039 : Nat) ∧ (↑(y_2.n (2 : Nat)).toNat : Int) + (y.n (91039 : Nat)
      - IntKind.i64.wrap (y.n (91040 : Nat) + (1 : Int))) = z.n (2 : Nat) + cnt c fast) ∧ (y.n (91039 : Nat) - IntKind.i64.wrap (y.n (91040 : Nat) + (1 : Int))).toNat < (y.n
      (91039 : Nat) - y.n (91040 : Nat)).toNat ∧ True) ∧ ((bits BinOp.and IntKind.u32 (c.fdiv (16777216 : Int)) (1 : Int) == (0 : Int)) = false → c22_td E = c22_td E ∧ (64 :
      Nat) = (64 : Nat) ∧ (True ∧ (((0 : Int) ≤ y.n (91001 : Nat) ∧ y.n (91001 : Nat) ≤ (4294967295 : Int)) ∧ True) ∧ (((0 : Int) ≤ IntKind.u32.wrap (y.n (91002 : Nat) + (4 :
      Int)) ∧ IntKind.u32.wrap (y.n (91002 : Nat) + (4 : Int)) ≤ (4294967295 : Int)) ∧ True) ∧ (renC (posN [(0 : Nat), (1 : Nat), (1000000000002 : Nat), (4 : Nat)]) (C.i false
      IntKind.u32 c) = C.i false IntKind.u32 c ∧ True) ∧ True ∧ (((0 : Int) ≤ y.n (91012 : Nat) ∧ y.n (91012 : Nat) ≤ (65536 : Int)) ∧ True) ∧ (((0 : Int) ≤ y.n (91039 : Nat) ∧
      y.n (91039 : Nat) ≤ (65536 : Int)) ∧ True) ∧ (((0 : Int) ≤ IntKind.i64.wrap (y.n (91040 : Nat) + (1 : Int)) ∧ IntKind.i64.wrap (y.n (91040 : Nat) + (1 : Int)) ≤ (65536 :
      Int)) ∧ True) ∧ True) ∧ ((44 : Nat) = (44 : Nat) ∧ True ∧ (5 : Nat) = (5 : Nat) ∧ (flat [Sp.r IntKind.u8 (0 : Int) (255 : Int)] = true ∧ Row [Sp.r IntKind.u8 (0 : Int)
      (255 : Int)] (y_2.l (1 : Nat))) ∧ (4294967295 : Nat) = (4294967295 : Nat) ∧ (59 : Nat) = (59 : Nat) ∧ (flat [Sp.i IntKind.u32, Sp.i IntKind.i64, Sp.i IntKind.u32] = true ∧
      Row [Sp.i IntKind.u32, Sp.i IntKind.i64, Sp.i IntKind.u32] (y_2.l (3 : Nat))) ∧ ([] : SW) = []) ∧ ((cpF E (4 : Int) (incB c) (y.n (91039 : Nat) - IntKind.i64.wrap (y.n
      (91040 : Nat) + (1 : Int))).toNat (y.n (91001 : Nat)) (IntKind.u32.wrap (y.n (91002 : Nat) + (4 : Int))) (Mm.mk (y_2.n (0 : Nat)) (↑(y_2.n (1 : Nat)).toNat : Int) (↑(y_2.n
      (2 : Nat)).toNat : Int) (y_2.l (1 : Nat)) (y_2.l (3 : Nat))) = cpR E c fast f t (Mm.mk (z.n (0 : Nat)) (z.n (1 : Nat)) (z.n (2 : Nat)) (z.l (1 : Nat)) (z.l (2 : Nat))) ∧
      okM (Mm.mk (y_2.n (0 : Nat)) (↑(y_2.n (1 : Nat)).toNat : Int) (↑(y_2.n (2 : Nat)).toNat : Int) (y_2.l (1 : Nat)) (y_2.l (3 : Nat)))) ∧ y.n (91039 : Nat) = cnt c fast ∧ y.n
      (91012 : Nat) = cnt c fast ∧ IntKind.i64.wrap (y.n (91040 : Nat) + (1 : Int)) ≤ y.n (91039 : Nat) ∧ (↑(y_2.n (2 : Nat)).toNat : Int) + (y.n (91039 : Nat) -
      IntKind.i64.wrap (y.n (91040 : Nat) + (1 : Int))) = z.n (2 : Nat) + cnt c fast) ∧ (y.n (91039 : Nat) - IntKind.i64.wrap (y.n (91040 : Nat) + (1 : Int))).toNat < (y.n
      (91039 : Nat) - y.n (91040 : Nat)).toNat ∧ True)) ∧ (decide (y.n (91040 : Nat) < y.n (91039 : Nat)) = false → ((44 : Nat) = (44 : Nat) ∧ True ∧ (5 : Nat) = (5 : Nat) ∧
      (flat [Sp.r IntKind.u8 (0 : Int) (255 : Int)] = true ∧ Row [Sp.r IntKind.u8 (0 : Int) (255 : Int)] (y.l (1 : Nat))) ∧ (4294967295 : Nat) = (4294967295 : Nat) ∧ (59 : Nat)
      = (59 : Nat) ∧ (flat [Sp.i IntKind.u32, Sp.i IntKind.i64, Sp.i IntKind.u32] = true ∧ Row [Sp.i IntKind.u32, Sp.i IntKind.i64, Sp.i IntKind.u32] (y.l (3 : Nat))) ∧ ([] :
      SW) = []) ∧ (((0 : Int) ≤ y.n (91012 : Nat) ∧ y.n (91012 : Nat) ≤ (65536 : Int)) ∧ True) ∧ (Mm.mk (y.n (0 : Nat)) (↑(y.n (1 : Nat)).toNat : Int) (↑(y.n (2 : Nat)).toNat :
      Int) (y.l (1 : Nat)) (y.l (3 : Nat)) = cpR E c fast f t (Mm.mk (z.n (0 : Nat)) (z.n (1 : Nat)) (z.n (2 : Nat)) (z.l (1 : Nat)) (z.l (2 : Nat))) ∧ y.n (91012 : Nat) = cnt c
      fast) ∧ okM (Mm.mk (y.n (0 : Nat)) (↑(y.n (1 : Nat)).toNat : Int) (↑(y.n (2 : Nat)).toNat : Int) (y.l (1 : Nat)) (y.l (3 : Nat))) ∧ (↑(y.n (2 : Nat)).toNat : Int) = z.n (2
      : Nat) + cnt c fast)) := by kernel_rfl
set_option maxHeartbeats 8000000 in
theorem c22_q0 (E : World) (f t c : Int) (fast : Bool) (z : PX) (hp : (fun z => okM (Mm.mk (z.n 0) (z.n 1) (z.n 2) (z.l 1) (z.l 2)) ∧ z.n 2 ≤ 100000 ∧ (0 ≤ f ∧ f ≤ 4294967295) ∧ (0 ≤ t ∧ t ≤ 4294967295) ∧ (0 ≤ c ∧ c ≤ 4294967295)) z) (y : PX) (hy1 : rgM y [mB 3, rowB, .g HOLE, rowN] 0) (hy2 : rgF y [(0, .c (.ifc 36 0 0)), (1, .r .u32 (0) (4294967295)), (2, .r .u32 (0) (4294967295)), (3, .q (.i false .u32 c)), (11, .c (.i true .i64 4)), (12, .r .i64 (0) (65536)), (39, .r .i64 (0) (65536)), (40, .r .i64 (0) (65536))]) (hy3 : (fun y => (cpF E 4 (incB c) ((y.n 91039 - y.n 91040).toNat) (y.n 91001) (y.n 91002) (Mm.mk (y.n 0) (y.n 1) (y.n 2) (y.l 1) (y.l 3)) = cpR E c fast f t (Mm.mk (z.n 0) (z.n 1) (z.n 2) (z.l 1) (z.l 2)) ∧ okM (Mm.mk (y.n 0) (y.n 1) (y.n 2) (y.l 1) (y.l 3))) ∧ y.n 91039 = cnt c fast ∧ y.n 91012 = cnt c fast ∧ y.n 91040 ≤ y.n 91039 ∧ y.n 2 + (y.n 91039 - y.n 91040) = z.n 2 + cnt c fast) y) : Holds ((run (pe E) (orcM E) (tabL fns) 20000 (2 ^ 200 - 1) (c22_td E) (mkL Try.f22.ntmps (slC y [(0, .c (.ifc 36 0 0)), (1, .r .u32 (0) (4294967295)), (2, .r .u32 (0) (4294967295)), (3, .q (.i false .u32 c)), (11, .c (.i true .i64 4)), (12, .r .i64 (0) (65536)), (39, .r .i64 (0) (65536)), (40, .r .i64 (0) (65536))])) (mkM y [] [mB 3, rowB, .g HOLE, rowN] 0)).OK (lfP (pe E) Try.f22 (endR ([mB 2, rowB, rowN] : List MB).length [mB 3, rowB, .g HOLE, rowN] (.c (.r .i64 0 65536)) (fun z y => ((Mm.mk (y.n 0) (y.n 1) (y.n 2) (y.l 1) (y.l 3)) = cpR E c fast f t (Mm.mk (z.n 0) (z.n 1) (z.n 2) (z.l 1) (z.l 2)) ∧ y.n 90000 = cnt c fast) ∧ okM (Mm.mk (y.n 0) (y.n 1) (y.n 2) (y.l 1) (y.l 3)) ∧ y.n 2 = z.n 2 + cnt c fast) z) (headR ([mB 2, rowB, rowN] : List MB).length Try.f22.ntmps (some ((fun y => (y.n 91039 - y.n 91040).toNat) y)) (c22_hs E f t c fast z)))) := by
  refine loopP_lfH ⟨?_⟩
  rw [c22_r0]
  have hf : True ∧ (((0) ≤ y.n 91001 ∧ y.n 91001 ≤ (4294967295)) ∧ True) ∧ (((0) ≤ y.n 91002 ∧ y.n 91002 ≤ (4294967295)) ∧ True) ∧ True ∧ True ∧ (((0) ≤ y.n 91012 ∧ y.n 91012 ≤ (65536)) ∧ True) ∧ (((0) ≤ y.n 91039 ∧ y.n 91039 ≤ (65536)) ∧ True) ∧ (((0) ≤ y.n 91040 ∧ y.n 91040 ≤ (65536)) ∧ True) ∧ True := hy2
  obtain ⟨_, ⟨g1, _⟩, ⟨g2, _⟩, _, _, ⟨g12, _⟩, ⟨g39, _⟩, ⟨g40, _⟩, _⟩ := hf
  obtain ⟨⟨hE, hK⟩, e39, e12, hle, hnn⟩ := hy3
  obtain ⟨_, hz2, hf0, ht0, hc0⟩ := hp
  have hR1 := hy1.2.1.2
  have hR2 := hy1.2.2.1.2
  have hf1 : flat [Sp.r .u8 0 255] = true := rfl
  have hf2 : flat [Sp.i .u32, Sp.i .i64, Sp.i .u32] = true := rfl
  have T1 : ((y.n 1).toNat : Int) = y.n 1 := Int.toNat_of_nonneg hK.b0
  have T2 : ((y.n 2).toNat : Int) = y.n 2 := Int.toNat_of_nonneg hK.n0
  simp only [T1, T2]
  have hcb := cnt_bd c fast
  refine ⟨fun hl => ?_, fun hl => ?_⟩
  · have hl := of_decide_eq_true hl
    refine ⟨⟨by ((repeat' (first | exact trivial | with_reducible rfl | assumption | exact rfl | apply And.intro)) <;> omega), hK⟩, ?_⟩
    rintro y1 ⟨⟨⟨p1, p2, _⟩, ⟨_, r1⟩, ⟨_, r2⟩, _⟩, ⟨_, q1, q2⟩⟩
    have S1 : ((y1.n 1).toNat : Int) = y1.n 1 := Int.toNat_of_nonneg p1
    have S2 : ((y1.n 2).toNat : Int) = y1.n 2 := Int.toNat_of_nonneg p2
    simp only [S1, S2]
    
    simp only [q1, q2]
    refine ⟨⟨by ((repeat' (first | exact trivial | with_reducible rfl | assumption | exact rfl | apply And.intro)) <;> omega), hK⟩, ?_⟩
    rintro y2 ⟨⟨⟨p1, p2, _⟩, ⟨_, r1⟩, ⟨_, r2⟩, _⟩, ⟨_, hg, q3⟩⟩
    have S1 : ((y2.n 1).toNat : Int) = y2.n 1 := Int.toNat_of_nonneg p1
    have S2 : ((y2.n 2).toNat : Int) = y2.n 2 := Int.toNat_of_nonneg p2
    simp only [S1, S2]
    have hlt : y.n 2 < 1000000 := by omega
    have hK2 := hK.gr hg hlt
    have hn2 : y2.n 2 = y.n 2 + 1 := hg.1
    have hS := cpF_s hE hl
    have hW : cpW E 4 (y.n 91002) (y.n 91001) (Mm.mk (y.n 0) (y.n 1) (y.n 2) (y.l 1) (y.l 3)) = (Mm.mk (y2.n 0) (y2.n 1) (y2.n 2) (y2.l 1) (y2.l 3)) := by rw [q3]; rfl
    rw [hW] at hS
    have w1 : IntKind.i64.wrap (y.n 91040 + 1) = y.n 91040 + 1 := by rw [wi64]; omega
    have u1 := ur (y.n 91001 + 4)
    have u2 := ur (y.n 91002 + 4)
    rw [w1, inc_eq c hc0.1 hc0.2]
    refine ⟨fun hb => ?_, fun hb => ?_⟩
    · rw [hb] at hS ⊢
      rw [cond_true] at hS
      ((repeat' (first | exact trivial | with_reducible rfl | assumption | exact rfl | apply And.intro)) <;> omega)
    · rw [hb] at hS ⊢
      rw [cond_false] at hS
      ((repeat' (first | exact trivial | with_reducible rfl | assumption | exact rfl | apply And.intro)) <;> omega)
  · have hl := of_decide_eq_false hl
    have e0 : (y.n 91039 - y.n 91040).toNat = 0 := by omega
    rw [e0] at hE
    have hE : (Mm.mk (y.n 0) (y.n 1) (y.n 2) (y.l 1) (y.l 3)) = cpR E c fast f t (Mm.mk (z.n 0) (z.n 1) (z.n 2) (z.l 1) (z.l 2)) := hE
    ((repeat' (first | exact trivial | with_reducible rfl | assumption | exact rfl | apply And.intro)) <;> omega)
theorem c22_r1 (E : World) (f t c : Int) (fast : Bool) (z : PX) (y : PX) :
    (loopP (pe E) Try.f22 (endR ([mB 2, rowB, rowN] : List MB).length [mB 3, rowB, .g HOLE, rowN] (.c (.r .i64 0 65536)) (fun z y => ((Mm.mk (y.n 0) (y.n 1) (y.n 2) (y.l 1) (y.l 3)) = cpR E c fast f t (Mm.mk (z.n 0) (z.n 1) (z.n 2) (z.l 1) (z.l 2)) ∧ y.n 90000 = cnt c fast) ∧ okM (Mm.mk (y.n 0) (y.n 1) (y.n 2) (y.l 1) (y.l 3)) ∧ y.n 2 = z.n 2 + cnt c fast) z) (headR ([mB 2, rowB, rowN] : List MB).length Try.f22.ntmps (some ((fun y => (y.n 91039 - y.n 91040).toNat) y)) (c22_hs E f t c fast z))  (run (pe E) (orcM E) (tabL fns) 20000 (2 ^ 200 - 1) (c22_td E) (mkL Try.f22.ntmps (slC y [(0, .c (.ifc 36 0 0)), (1, .r .u32 (0) (4294967295)), (2, .r .u32 (0) (4294967295)), (3, .q (.i false .u32 c)), (11, .c (.i true .i64 2)), (12, .r .i64 (0) (65536)), (39, .r .i64 (0) (65536)), (40, .r .i64 (0) (65536))])) (mkM y [] [mB 3, rowB, .g HOLE, rowN] 0))) =
    ((decide (y.n (91040 : Nat) < y.n (91039 : Nat)) = true → (((44 : Nat) = (44 : Nat) ∧ True ∧ (5 : Nat) = (5 : Nat) ∧ (flat [Sp.r IntKind.u8 (0 : Int) (255 : Int)] = true ∧
      Row [Sp.r IntKind.u8 (0 : Int) (255 : Int)] (y.l (1 : Nat))) ∧ (59 : Nat) = (59 : Nat) ∧ (flat [Sp.i IntKind.u32, Sp.i IntKind.i64, Sp.i IntKind.u32] = true ∧ Row [Sp.i
      IntKind.u32, Sp.i IntKind.i64, Sp.i IntKind.u32] (y.l (3 : Nat))) ∧ ([] : SW) = []) ∧ okM (Mm.mk (y.n (0 : Nat)) (↑(y.n (1 : Nat)).toNat : Int) (↑(y.n (2 : Nat)).toNat :
      Int) (y.l (1 : Nat)) (y.l (3 : Nat)))) ∧ ∀ (y_1 : PX), (((0 : Int) ≤ y_1.n (1 : Nat) ∧ (0 : Int) ≤ y_1.n (2 : Nat) ∧ True) ∧ (flat [Sp.r IntKind.u8 (0 : Int) (255 : Int)]
      = true ∧ Row [Sp.r IntKind.u8 (0 : Int) (255 : Int)] (y_1.l (1 : Nat))) ∧ (flat [Sp.i IntKind.u32, Sp.i IntKind.i64, Sp.i IntKind.u32] = true ∧ Row [Sp.i IntKind.u32, Sp.i
      IntKind.i64, Sp.i IntKind.u32] (y_1.l (2 : Nat))) ∧ True) ∧ (((0 : Int) ≤ y_1.n (90000 : Nat) ∧ y_1.n (90000 : Nat) ≤ (65535 : Int)) ∧ True) ∧ Mm.mk (y_1.n (0 : Nat))
      (y_1.n (1 : Nat)) (y_1.n (2 : Nat)) (y_1.l (1 : Nat)) (y_1.l (2 : Nat)) = Mm.mk (y.n (0 : Nat)) (↑(y.n (1 : Nat)).toNat : Int) (↑(y.n (2 : Nat)).toNat : Int) (y.l (1 :
      Nat)) (y.l (3 : Nat)) ∧ y_1.n (90000 : Nat) = rdv2 E (y.n (91001 : Nat)) (Mm.mk (y.n (0 : Nat)) (↑(y.n (1 : Nat)).toNat : Int) (↑(y.n (2 : Nat)).toNat : Int) (y.l (1 :
      Nat)) (y.l (3 : Nat))) → (((44 : Nat) = (44 : Nat) ∧ True ∧ (5 : Nat) = (5 : Nat) ∧ (flat [Sp.r IntKind.u8 (0 : Int) (255 : Int)] = true ∧ Row [Sp.r IntKind.u8 (0 : Int)
      (255 : Int)] (y_1.l (1 : Nat))) ∧ (59 : Nat) = (59 : Nat) ∧ (flat [Sp.i IntKind.u32, Sp.i IntKind.i64, Sp.i IntKind.u32] = true ∧ Row [Sp.i IntKind.u32, Sp.i IntKind.i64,
      Sp.i IntKind.u32] (y_1.l (2 : Nat))) ∧ ([] : SW) = []) ∧ okM (Mm.mk (y_1.n (0 : Nat)) (↑(y_1.n (1 : Nat)).toNat : Int) (↑(y_1.n (2 : Nat)).toNat : Int) (y_1.l (1 : Nat))
      (y_1.l (2 : Nat)))) ∧ ∀ (y_2 : PX), (((0 : Int) ≤ y_2.n (1 : Nat) ∧ (0 : Int) ≤ y_2.n (2 : Nat) ∧ True) ∧ (flat [Sp.r IntKind.u8 (0 : Int) (255 : Int)] = true ∧ Row [Sp.r
      IntKind.u8 (0 : Int) (255 : Int)] (y_2.l (1 : Nat))) ∧ (flat [Sp.i IntKind.u32, Sp.i IntKind.i64, Sp.i IntKind.u32] = true ∧ Row [Sp.i IntKind.u32, Sp.i IntKind.i64, Sp.i
      IntKind.u32] (y_2.l (3 : Nat))) ∧ True) ∧ True ∧ grM (Mm.mk (y_1.n (0 : Nat)) (↑(y_1.n (1 : Nat)).toNat : Int) (↑(y_1.n (2 : Nat)).toNat : Int) (y_1.l (1 : Nat)) (y_1.l (2
      : Nat))) (Mm.mk (y_2.n (0 : Nat)) (y_2.n (1 : Nat)) (y_2.n (2 : Nat)) (y_2.l (1 : Nat)) (y_2.l (3 : Nat))) ∧ Mm.mk (y_2.n (0 : Nat)) (y_2.n (1 : Nat)) (y_2.n (2 : Nat))
      (y_2.l (1 : Nat)) (y_2.l (3 : Nat)) = wrm2 E (y.n (91002 : Nat)) (bits BinOp.and IntKind.u32 (y_1.n (90000 : Nat)) (65535 : Int)) (Mm.mk (y_1.n (0 : Nat)) (↑(y_1.n (1 :
      Nat)).toNat : Int) (↑(y_1.n (2 : Nat)).toNat : Int) (y_1.l (1 : Nat)) (y_1.l (2 : Nat))) → ((bits BinOp.and IntKind.u32 (c.fdiv (16777216 : Int)) (1 : Int) == (0 : Int)) =
      true → c22_td E = c22_td E ∧ (64 : Nat) = (64 : Nat) ∧ (True ∧ (((0 : Int) ≤ IntKind.u32.wrap (y.n (91001 : Nat) + (2 : Int)) ∧ IntKind.u32.wrap (y.n (91001 : Nat) + (2 :
      Int)) ≤ (4294967295 : Int)) ∧ True) ∧ (((0 : Int) ≤ IntKind.u32.wrap (y.n (91002 : Nat) + (2 : Int)) ∧ IntKind.u32.wrap (y.n (91002 : Nat) + (2 : Int)) ≤ (4294967295 :
      Int)) ∧ True) ∧ (renC (posN [(0 : Nat), (1 : Nat), (1000000000002 : Nat), (4 : Nat)]) (C.i false IntKind.u32 c) = C.i false IntKind.u32 c ∧ True) ∧ True ∧ (((0 : Int) ≤
      y.n (91012 : Nat) ∧ y.n (91012 : Nat) ≤ (65536 : Int)) ∧ True) ∧ (((0 : Int) ≤ y.n (91039 : Nat) ∧ y.n (91039 : Nat) ≤ (65536 : Int)) ∧ True) ∧ (((0 : Int) ≤
      IntKind.i64.wrap (y.n (91040 : Nat) + (1 : Int)) ∧ IntKind.i64.wrap (y.n (91040 : Nat) + (1 : Int)) ≤ (65536 : Int)) ∧ True) ∧ True) ∧ ((44 : Nat) = (44 : Nat) ∧ True ∧ (5
      : Nat) = (5 : Nat) ∧ (flat [Sp.r IntKind.u8 (0 : Int) (255 : Int)] = true ∧ Row [Sp.r IntKind.u8 (0 : Int) (255 : Int)] (y_2.l (1 : Nat))) ∧ (4294967295 : Nat) =
      (4294967295 : Nat) ∧ (59 : Nat) = (59 : Nat) ∧ (flat [Sp.i IntKind.u32, Sp.i IntKind.i64, Sp.i IntKind.u32] = true ∧ Row [Sp.i IntKind.u32, Sp.i IntKind.i64, Sp.i
      IntKind.u32] (y_2.l (3 : Nat))) ∧ ([] : SW) = []) ∧ ((cpF E (2 : Int) (incB c) (y.n (91039 : Nat) - IntKind.i64.wrap (y.n (91040 : Nat) + (1 : Int))).toNat
      (IntKind.u32.wrap (y.n (91001 : Nat) + (2 : Int))) (IntKind.u32.wrap (y.n (91002 : Nat) + (2 : Int))) (Mm.mk (y_2.n (0 : Nat)) (↑(y_2.n (1 : Nat)).toNat : Int) (↑(y_2.n (2
      : Nat)).toNat : Int) (y_2.l (1 : Nat)) (y_2.l (3 : Nat))) = cpR E c fast f t (Mm.mk (z.n (0 : Nat)) (z.n (1 : Nat)) (z.n (2 : Nat)) (z.l (1 : Nat)) (z.l (2 : Nat))) ∧ okM
      (Mm.mk (y_2.n (0 : Nat)) (↑(y_2.n (1 : Nat)).toNat : Int) (↑(y_2.n (2 : Nat)).toNat : Int) (y_2.l (1 : Nat)) (y_2.l (3 : Nat)))) ∧ y.n (91039 : Nat) = cnt c fast ∧ y.n
      (91012 : Nat) = cnt c fast ∧ IntKind.i64.wrap (y.n (91040 : Nat) + (1 : Int)) ≤ y.n (91039 : Nat) ∧ (↑(y_2.n (2 : Nat)).toNat : Int) + (y.n (91039 : Nat) -
      IntKind.i64.wrap (y.n (91040 : Nat) + (1 : Int))) = z.n (2 : Nat) + cnt c fast) ∧ (y.n (91039 : Nat) - IntKind.i64.wrap (y.n (91040 : Nat) + (1 : Int))).toNat < (y.n
      (91039 : Nat) - y.n (91040 : Nat)).toNat ∧ True) ∧ ((bits BinOp.and IntKind.u32 (c.fdiv (16777216 : Int)) (1 : Int) == (0 : Int)) = false → c22_td E = c22_td E ∧ (64 :
      Nat) = (64 : Nat) ∧ (True ∧ (((0 : Int) ≤ y.n (91001 : Nat) ∧ y.n (91001 : Nat) ≤ (4294967295 : Int)) ∧ True) ∧ (((0 : Int) ≤ IntKind.u32.wrap (y.n (91002 : Nat) + (2 :
      Int)) ∧ IntKind.u32.wrap (y.n (91002 : Nat) + (2 : Int)) ≤ (4294967295 : Int)) ∧ True) ∧ (renC (posN [(0 : Nat), (1 : Nat), (1000000000002 : Nat), (4 : Nat)]) (C.i false
      IntKind.u32 c) = C.i false IntKind.u32 c ∧ True) ∧ True ∧ (((0 : Int) ≤ y.n (91012 : Nat) ∧ y.n (91012 : Nat) ≤ (65536 : Int)) ∧ True) ∧ (((0 : Int) ≤ y.n (91039 : Nat) ∧
      y.n (91039 : Nat) ≤ (65536 : Int)) ∧ True) ∧ (((0 : Int) ≤ IntKind.i64.wrap (y.n (91040 : Nat) + (1 : Int)) ∧ IntKind.i64.wrap (y.n (91040 : Nat) + (1 : Int)) ≤ (65536 :
      Int)) ∧ True) ∧ True) ∧ ((44 : Nat) = (44 : Nat) ∧ True ∧ (5 : Nat) = (5 : Nat) ∧ (flat [Sp.r IntKind.u8 (0 : Int) (255 : Int)] = true ∧ Row [Sp.r IntKind.u8 (0 : Int)
      (255 : Int)] (y_2.l (1 : Nat))) ∧ (4294967295 : Nat) = (4294967295 : Nat) ∧ (59 : Nat) = (59 : Nat) ∧ (flat [Sp.i IntKind.u32, Sp.i IntKind.i64, Sp.i IntKind.u32] = true ∧
      Row [Sp.i IntKind.u32, Sp.i IntKind.i64, Sp.i IntKind.u32] (y_2.l (3 : Nat))) ∧ ([] : SW) = []) ∧ ((cpF E (2 : Int) (incB c) (y.n (91039 : Nat) - IntKind.i64.wrap (y.n
      (91040 : Nat) + (1 : Int))).toNat (y.n (91001 : Nat)) (IntKind.u32.wrap (y.n (91002 : Nat) + (2 : Int))) (Mm.mk (y_2.n (0 : Nat)) (↑(y_2.n (1 : Nat)).toNat : Int) (↑(y_2.n
      (2 : Nat)).toNat : Int) (y_2.l (1 : Nat)) (y_2.l (3 : Nat))) = cpR E c fast f t (Mm.mk (z.n (0 : Nat)) (z.n (1 : Nat)) (z.n (2 : Nat)) (z.l (1 : Nat)) (z.l (2 : Nat))) ∧
      okM (Mm.mk (y_2.n (0 : Nat)) (↑(y_2.n (1 : Nat)).toNat : Int) (↑(y_2.n (2 : Nat)).toNat : Int) (y_2.l (1 : Nat)) (y_2.l (3 : Nat)))) ∧ y.n (91039 : Nat) = cnt c fast ∧ y.n
      (91012 : Nat) = cnt c fast ∧ IntKind.i64.wrap (y.n (91040 : Nat) + (1 : Int)) ≤ y.n (91039 : Nat) ∧ (↑(y_2.n (2 : Nat)).toNat : Int) + (y.n (91039 : Nat) -
      IntKind.i64.wrap (y.n (91040 : Nat) + (1 : Int))) = z.n (2 : Nat) + cnt c fast) ∧ (y.n (91039 : Nat) - IntKind.i64.wrap (y.n (91040 : Nat) + (1 : Int))).toNat < (y.n
      (91039 : Nat) - y.n (91040 : Nat)).toNat ∧ True)) ∧ (decide (y.n (91040 : Nat) < y.n (91039 : Nat)) = false → ((44 : Nat) = (44 : Nat) ∧ True ∧ (5 : Nat) = (5 : Nat) ∧
      (flat [Sp.r IntKind.u8 (0 : Int) (255 : Int)] = true ∧ Row [Sp.r IntKind.u8 (0 : Int) (255 : Int)] (y.l (1 : Nat))) ∧ (4294967295 : Nat) = (4294967295 : Nat) ∧ (59 : Nat)
      = (59 : Nat) ∧ (flat [Sp.i IntKind.u32, Sp.i IntKind.i64, Sp.i IntKind.u32] = true ∧ Row [Sp.i IntKind.u32, Sp.i IntKind.i64, Sp.i IntKind.u32] (y.l (3 : Nat))) ∧ ([] :
      SW) = []) ∧ (((0 : Int) ≤ y.n (91012 : Nat) ∧ y.n (91012 : Nat) ≤ (65536 : Int)) ∧ True) ∧ (Mm.mk (y.n (0 : Nat)) (↑(y.n (1 : Nat)).toNat : Int) (↑(y.n (2 : Nat)).toNat :
      Int) (y.l (1 : Nat)) (y.l (3 : Nat)) = cpR E c fast f t (Mm.mk (z.n (0 : Nat)) (z.n (1 : Nat)) (z.n (2 : Nat)) (z.l (1 : Nat)) (z.l (2 : Nat))) ∧ y.n (91012 : Nat) = cnt c
      fast) ∧ okM (Mm.mk (y.n (0 : Nat)) (↑(y.n (1 : Nat)).toNat : Int) (↑(y.n (2 : Nat)).toNat : Int) (y.l (1 : Nat)) (y.l (3 : Nat))) ∧ (↑(y.n (2 : Nat)).toNat : Int) = z.n (2
      : Nat) + cnt c fast)) := by kernel_rfl
set_option maxHeartbeats 8000000 in
theorem c22_q1 (E : World) (f t c : Int) (fast : Bool) (z : PX) (hp : (fun z => okM (Mm.mk (z.n 0) (z.n 1) (z.n 2) (z.l 1) (z.l 2)) ∧ z.n 2 ≤ 100000 ∧ (0 ≤ f ∧ f ≤ 4294967295) ∧ (0 ≤ t ∧ t ≤ 4294967295) ∧ (0 ≤ c ∧ c ≤ 4294967295)) z) (y : PX) (hy1 : rgM y [mB 3, rowB, .g HOLE, rowN] 0) (hy2 : rgF y [(0, .c (.ifc 36 0 0)), (1, .r .u32 (0) (4294967295)), (2, .r .u32 (0) (4294967295)), (3, .q (.i false .u32 c)), (11, .c (.i true .i64 2)), (12, .r .i64 (0) (65536)), (39, .r .i64 (0) (65536)), (40, .r .i64 (0) (65536))]) (hy3 : (fun y => (cpF E 2 (incB c) ((y.n 91039 - y.n 91040).toNat) (y.n 91001) (y.n 91002) (Mm.mk (y.n 0) (y.n 1) (y.n 2) (y.l 1) (y.l 3)) = cpR E c fast f t (Mm.mk (z.n 0) (z.n 1) (z.n 2) (z.l 1) (z.l 2)) ∧ okM (Mm.mk (y.n 0) (y.n 1) (y.n 2) (y.l 1) (y.l 3))) ∧ y.n 91039 = cnt c fast ∧ y.n 91012 = cnt c fast ∧ y.n 91040 ≤ y.n 91039 ∧ y.n 2 + (y.n 91039 - y.n 91040) = z.n 2 + cnt c fast) y) : Holds ((run (pe E) (orcM E) (tabL fns) 20000 (2 ^ 200 - 1) (c22_td E) (mkL Try.f22.ntmps (slC y [(0, .c (.ifc 36 0 0)), (1, .r .u32 (0) (4294967295)), (2, .r .u32 (0) (4294967295)), (3, .q (.i false .u32 c)), (11, .c (.i true .i64 2)), (12, .r .i64 (0) (65536)), (39, .r .i64 (0) (65536)), (40, .r .i64 (0) (65536))])) (mkM y [] [mB 3, rowB, .g HOLE, rowN] 0)).OK (lfP (pe E) Try.f22 (endR ([mB 2, rowB, rowN] : List MB).length [mB 3, rowB, .g HOLE, rowN] (.c (.r .i64 0 65536)) (fun z y => ((Mm.mk (y.n 0) (y.n 1) (y.n 2) (y.l 1) (y.l 3)) = cpR E c fast f t (Mm.mk (z.n 0) (z.n 1) (z.n 2) (z.l 1) (z.l 2)) ∧ y.n 90000 = cnt c fast) ∧ okM (Mm.mk (y.n 0) (y.n 1) (y.n 2) (y.l 1) (y.l 3)) ∧ y.n 2 = z.n 2 + cnt c fast) z) (headR ([mB 2, rowB, rowN] : List MB).length Try.f22.ntmps (some ((fun y => (y.n 91039 - y.n 91040).toNat) y)) (c22_hs E f t c fast z)))) := by
  refine loopP_lfH ⟨?_⟩
  rw [c22_r1]
  have hf : True ∧ (((0) ≤ y.n 91001 ∧ y.n 91001 ≤ (4294967295)) ∧ True) ∧ (((0) ≤ y.n 91002 ∧ y.n 91002 ≤ (4294967295)) ∧ True) ∧ True ∧ True ∧ (((0) ≤ y.n 91012 ∧ y.n 91012 ≤ (65536)) ∧ True) ∧ (((0) ≤ y.n 91039 ∧ y.n 91039 ≤ (65536)) ∧ True) ∧ (((0) ≤ y.n 91040 ∧ y.n 91040 ≤ (65536)) ∧ True) ∧ True := hy2
  obtain ⟨_, ⟨g1, _⟩, ⟨g2, _⟩, _, _, ⟨g12, _⟩, ⟨g39, _⟩, ⟨g40, _⟩, _⟩ := hf
  obtain ⟨⟨hE, hK⟩, e39, e12, hle, hnn⟩ := hy3
  obtain ⟨_, hz2, hf0, ht0, hc0⟩ := hp
  have hR1 := hy1.2.1.2
  have hR2 := hy1.2.2.1.2
  have hf1 : flat [Sp.r .u8 0 255] = true := rfl
  have hf2 : flat [Sp.i .u32, Sp.i .i64, Sp.i .u32] = true := rfl
  have T1 : ((y.n 1).toNat : Int) = y.n 1 := Int.toNat_of_nonneg hK.b0
  have T2 : ((y.n 2).toNat : Int) = y.n 2 := Int.toNat_of_nonneg hK.n0
  simp only [T1, T2]
  have hcb := cnt_bd c fast
  refine ⟨fun hl => ?_, fun hl => ?_⟩
  · have hl := of_decide_eq_true hl
    refine ⟨⟨by ((repeat' (first | exact trivial | with_reducible rfl | assumption | exact rfl | apply And.intro)) <;> omega), hK⟩, ?_⟩
    rintro y1 ⟨⟨⟨p1, p2, _⟩, ⟨_, r1⟩, ⟨_, r2⟩, _⟩, ⟨q0, q1, q2⟩⟩
    have S1 : ((y1.n 1).toNat : Int) = y1.n 1 := Int.toNat_of_nonneg p1
    have S2 : ((y1.n 2).toNat : Int) = y1.n 2 := Int.toNat_of_nonneg p2
    simp only [S1, S2]
    rw [m16 _ q0.1.1 q0.1.2]
    simp only [q1, q2]
    refine ⟨⟨by ((repeat' (first | exact trivial | with_reducible rfl | assumption | exact rfl | apply And.intro)) <;> omega), hK⟩, ?_⟩
    rintro y2 ⟨⟨⟨p1, p2, _⟩, ⟨_, r1⟩, ⟨_, r2⟩, _⟩, ⟨_, hg, q3⟩⟩
    have S1 : ((y2.n 1).toNat : Int) = y2.n 1 := Int.toNat_of_nonneg p1
    have S2 : ((y2.n 2).toNat : Int) = y2.n 2 := Int.toNat_of_nonneg p2
    simp only [S1, S2]
    have hlt : y.n 2 < 1000000 := by omega
    have hK2 := hK.gr hg hlt
    have hn2 : y2.n 2 = y.n 2 + 1 := hg.1
    have hS := cpF_s hE hl
    have hW : cpW E 2 (y.n 91002) (y.n 91001) (Mm.mk (y.n 0) (y.n 1) (y.n 2) (y.l 1) (y.l 3)) = (Mm.mk (y2.n 0) (y2.n 1) (y2.n 2) (y2.l 1) (y2.l 3)) := by rw [q3]; rfl
    rw [hW] at hS
    have w1 : IntKind.i64.wrap (y.n 91040 + 1) = y.n 91040 + 1 := by rw [wi64]; omega
    have u1 := ur (y.n 91001 + 2)
    have u2 := ur (y.n 91002 + 2)
    rw [w1, inc_eq c hc0.1 hc0.2]
    refine ⟨fun hb => ?_, fun hb => ?_⟩
    · rw [hb] at hS ⊢
      rw [cond_true] at hS
      ((repeat' (first | exact trivial | with_reducible rfl | assumption | exact rfl | apply And.intro)) <;> omega)
    · rw [hb] at hS ⊢
      rw [cond_false] at hS
      ((repeat' (first | exact trivial | with_reducible rfl | assumption | exact rfl | apply And.intro)) <;> omega)
  · have hl := of_decide_eq_false hl
    have e0 : (y.n 91039 - y.n 91040).toNat = 0 := by omega
    rw [e0] at hE
    have hE : (Mm.mk (y.n 0) (y.n 1) (y.n 2) (y.l 1) (y.l 3)) = cpR E c fast f t (Mm.mk (z.n 0) (z.n 1) (z.n 2) (z.l 1) (z.l 2)) := hE
    ((repeat' (first | exact trivial | with_reducible rfl | assumption | exact rfl | apply And.intro)) <;> omega)
end Go.Proofs.Ytabklphoccicmaa

