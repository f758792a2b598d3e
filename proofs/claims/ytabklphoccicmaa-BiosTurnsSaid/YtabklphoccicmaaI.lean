import Derived.Test.YtabklphoccicmaaH
set_option linter.unusedVariables false
set_option linter.unusedSimpArgs false
namespace Go.Proofs.Ytabklphoccicmaa
open Go Go.Proofs Go.Proofs.Ytabklphoccicmaa.Ev Go.Proofs.Ytabklphoccicmaa.Ev.Ho
set_option maxRecDepth 100000
theorem c22_pro (E : World) (f t c : Int) (fast : Bool) (z : PX) :
    (loopP (pe E) Try.f22 (endR ([mB 2, rowB, rowN] : List MB).length [mB 3, rowB, .g HOLE, rowN] (.c (.r .i64 0 65536)) (fun z y => ((Mm.mk (y.n 0) (y.n 1) (y.n 2) (y.l 1) (y.l 3)) = cpR E c fast f t (Mm.mk (z.n 0) (z.n 1) (z.n 2) (z.l 1) (z.l 2)) ∧ y.n 90000 = cnt c fast) ∧ okM (Mm.mk (y.n 0) (y.n 1) (y.n 2) (y.l 1) (y.l 3)) ∧ y.n 2 = z.n 2 + cnt c fast) z) (headR ([mB 2, rowB, rowN] : List MB).length Try.f22.ntmps none (c22_hs E f t c fast z)) (run (pe E) (orcM E) (tabL fns) 20000 (2 ^ 200 - 1) [.code (Try.f22.body.getD .skip)] ⟨Try.f22.ntmps, mkFrGo (Tr.mk 12) 0 [.c (.ifc 36 0 0), .c (.i false .u32 f), .c (.i false .u32 t), .c (.i false .u32 c), .c (.b false fast)]⟩ (mkM z [] [mB 2, rowB, rowN] 0))) =
    ((fast = true → (fast = true → c22_td E = c22_td E ∧ (64 : Nat) = (64 : Nat) ∧ (True ∧ (((0 : Int) ≤ bits BinOp.andNot IntKind.u32 f (3 : Int) ∧ bits BinOp.andNot
      IntKind.u32 f (3 : Int) ≤ (4294967295 : Int)) ∧ True) ∧ (((0 : Int) ≤ bits BinOp.andNot IntKind.u32 t (3 : Int) ∧ bits BinOp.andNot IntKind.u32 t (3 : Int) ≤ (4294967295 :
      Int)) ∧ True) ∧ (renC (posN [(0 : Nat), (1 : Nat), (1000000000002 : Nat), (2 : Nat)]) (C.i false IntKind.u32 c) = C.i false IntKind.u32 c ∧ True) ∧ True ∧ (((0 : Int) ≤
      bits BinOp.andNot IntKind.i64 (IntKind.i64.wrap (IntKind.i64.wrap (bits BinOp.and IntKind.u32 c (65535 : Int)) + (7 : Int))) (7 : Int) ∧ bits BinOp.andNot IntKind.i64
      (IntKind.i64.wrap (IntKind.i64.wrap (bits BinOp.and IntKind.u32 c (65535 : Int)) + (7 : Int))) (7 : Int) ≤ (65536 : Int)) ∧ True) ∧ (((0 : Int) ≤ bits BinOp.andNot
      IntKind.i64 (IntKind.i64.wrap (IntKind.i64.wrap (bits BinOp.and IntKind.u32 c (65535 : Int)) + (7 : Int))) (7 : Int) ∧ bits BinOp.andNot IntKind.i64 (IntKind.i64.wrap
      (IntKind.i64.wrap (bits BinOp.and IntKind.u32 c (65535 : Int)) + (7 : Int))) (7 : Int) ≤ (65536 : Int)) ∧ True) ∧ (((0 : Int) ≤ (0 : Int) ∧ (0 : Int) ≤ (65536 : Int)) ∧
      True) ∧ True) ∧ ((44 : Nat) = (44 : Nat) ∧ True ∧ (5 : Nat) = (5 : Nat) ∧ (flat [Sp.r IntKind.u8 (0 : Int) (255 : Int)] = true ∧ Row [Sp.r IntKind.u8 (0 : Int) (255 :
      Int)] (z.l (1 : Nat))) ∧ (4294967295 : Nat) = (4294967295 : Nat) ∧ (59 : Nat) = (59 : Nat) ∧ (flat [Sp.i IntKind.u32, Sp.i IntKind.i64, Sp.i IntKind.u32] = true ∧ Row
      [Sp.i IntKind.u32, Sp.i IntKind.i64, Sp.i IntKind.u32] (z.l (2 : Nat))) ∧ ([] : SW) = []) ∧ ((cpF E (4 : Int) (incB c) (bits BinOp.andNot IntKind.i64 (IntKind.i64.wrap
      (IntKind.i64.wrap (bits BinOp.and IntKind.u32 c (65535 : Int)) + (7 : Int))) (7 : Int) - (0 : Int)).toNat (bits BinOp.andNot IntKind.u32 f (3 : Int)) (bits BinOp.andNot
      IntKind.u32 t (3 : Int)) (Mm.mk (z.n (0 : Nat)) (↑(z.n (1 : Nat)).toNat : Int) (↑(z.n (2 : Nat)).toNat : Int) (z.l (1 : Nat)) (z.l (2 : Nat))) = cpR E c fast f t (Mm.mk
      (z.n (0 : Nat)) (z.n (1 : Nat)) (z.n (2 : Nat)) (z.l (1 : Nat)) (z.l (2 : Nat))) ∧ okM (Mm.mk (z.n (0 : Nat)) (↑(z.n (1 : Nat)).toNat : Int) (↑(z.n (2 : Nat)).toNat : Int)
      (z.l (1 : Nat)) (z.l (2 : Nat)))) ∧ bits BinOp.andNot IntKind.i64 (IntKind.i64.wrap (IntKind.i64.wrap (bits BinOp.and IntKind.u32 c (65535 : Int)) + (7 : Int))) (7 : Int)
      = cnt c fast ∧ bits BinOp.andNot IntKind.i64 (IntKind.i64.wrap (IntKind.i64.wrap (bits BinOp.and IntKind.u32 c (65535 : Int)) + (7 : Int))) (7 : Int) = cnt c fast ∧ (0 :
      Int) ≤ bits BinOp.andNot IntKind.i64 (IntKind.i64.wrap (IntKind.i64.wrap (bits BinOp.and IntKind.u32 c (65535 : Int)) + (7 : Int))) (7 : Int) ∧ (↑(z.n (2 : Nat)).toNat :
      Int) + (bits BinOp.andNot IntKind.i64 (IntKind.i64.wrap (IntKind.i64.wrap (bits BinOp.and IntKind.u32 c (65535 : Int)) + (7 : Int))) (7 : Int) - (0 : Int)) = z.n (2 : Nat)
      + cnt c fast) ∧ True) ∧ (fast = false → c22_td E = c22_td E ∧ (64 : Nat) = (64 : Nat) ∧ (True ∧ (((0 : Int) ≤ bits BinOp.andNot IntKind.u32 f (3 : Int) ∧ bits BinOp.andNot
      IntKind.u32 f (3 : Int) ≤ (4294967295 : Int)) ∧ True) ∧ (((0 : Int) ≤ bits BinOp.andNot IntKind.u32 t (3 : Int) ∧ bits BinOp.andNot IntKind.u32 t (3 : Int) ≤ (4294967295 :
      Int)) ∧ True) ∧ (renC (posN [(0 : Nat), (1 : Nat), (1000000000002 : Nat), (2 : Nat)]) (C.i false IntKind.u32 c) = C.i false IntKind.u32 c ∧ True) ∧ True ∧ (((0 : Int) ≤
      IntKind.i64.wrap (bits BinOp.and IntKind.u32 c (65535 : Int)) ∧ IntKind.i64.wrap (bits BinOp.and IntKind.u32 c (65535 : Int)) ≤ (65536 : Int)) ∧ True) ∧ (((0 : Int) ≤
      IntKind.i64.wrap (bits BinOp.and IntKind.u32 c (65535 : Int)) ∧ IntKind.i64.wrap (bits BinOp.and IntKind.u32 c (65535 : Int)) ≤ (65536 : Int)) ∧ True) ∧ (((0 : Int) ≤ (0 :
      Int) ∧ (0 : Int) ≤ (65536 : Int)) ∧ True) ∧ True) ∧ ((44 : Nat) = (44 : Nat) ∧ True ∧ (5 : Nat) = (5 : Nat) ∧ (flat [Sp.r IntKind.u8 (0 : Int) (255 : Int)] = true ∧ Row
      [Sp.r IntKind.u8 (0 : Int) (255 : Int)] (z.l (1 : Nat))) ∧ (4294967295 : Nat) = (4294967295 : Nat) ∧ (59 : Nat) = (59 : Nat) ∧ (flat [Sp.i IntKind.u32, Sp.i IntKind.i64,
      Sp.i IntKind.u32] = true ∧ Row [Sp.i IntKind.u32, Sp.i IntKind.i64, Sp.i IntKind.u32] (z.l (2 : Nat))) ∧ ([] : SW) = []) ∧ ((cpF E (4 : Int) (incB c) (IntKind.i64.wrap
      (bits BinOp.and IntKind.u32 c (65535 : Int)) - (0 : Int)).toNat (bits BinOp.andNot IntKind.u32 f (3 : Int)) (bits BinOp.andNot IntKind.u32 t (3 : Int)) (Mm.mk (z.n (0 :
      Nat)) (↑(z.n (1 : Nat)).toNat : Int) (↑(z.n (2 : Nat)).toNat : Int) (z.l (1 : Nat)) (z.l (2 : Nat))) = cpR E c fast f t (Mm.mk (z.n (0 : Nat)) (z.n (1 : Nat)) (z.n (2 :
      Nat)) (z.l (1 : Nat)) (z.l (2 : Nat))) ∧ okM (Mm.mk (z.n (0 : Nat)) (↑(z.n (1 : Nat)).toNat : Int) (↑(z.n (2 : Nat)).toNat : Int) (z.l (1 : Nat)) (z.l (2 : Nat)))) ∧
      IntKind.i64.wrap (bits BinOp.and IntKind.u32 c (65535 : Int)) = cnt c fast ∧ IntKind.i64.wrap (bits BinOp.and IntKind.u32 c (65535 : Int)) = cnt c fast ∧ (0 : Int) ≤
      IntKind.i64.wrap (bits BinOp.and IntKind.u32 c (65535 : Int)) ∧ (↑(z.n (2 : Nat)).toNat : Int) + (IntKind.i64.wrap (bits BinOp.and IntKind.u32 c (65535 : Int)) - (0 :
      Int)) = z.n (2 : Nat) + cnt c fast) ∧ True)) ∧ (fast = false → ((bits BinOp.and IntKind.u32 (c.fdiv (67108864 : Int)) (1 : Int) != (0 : Int)) = true → (fast = true →
      c22_td E = c22_td E ∧ (64 : Nat) = (64 : Nat) ∧ (True ∧ (((0 : Int) ≤ bits BinOp.andNot IntKind.u32 f (3 : Int) ∧ bits BinOp.andNot IntKind.u32 f (3 : Int) ≤ (4294967295 :
      Int)) ∧ True) ∧ (((0 : Int) ≤ bits BinOp.andNot IntKind.u32 t (3 : Int) ∧ bits BinOp.andNot IntKind.u32 t (3 : Int) ≤ (4294967295 : Int)) ∧ True) ∧ (renC (posN [(0 : Nat),
      (1 : Nat), (1000000000002 : Nat), (2 : Nat)]) (C.i false IntKind.u32 c) = C.i false IntKind.u32 c ∧ True) ∧ True ∧ (((0 : Int) ≤ bits BinOp.andNot IntKind.i64
      (IntKind.i64.wrap (IntKind.i64.wrap (bits BinOp.and IntKind.u32 c (65535 : Int)) + (7 : Int))) (7 : Int) ∧ bits BinOp.andNot IntKind.i64 (IntKind.i64.wrap
      (IntKind.i64.wrap (bits BinOp.and IntKind.u32 c (65535 : Int)) + (7 : Int))) (7 : Int) ≤ (65536 : Int)) ∧ True) ∧ (((0 : Int) ≤ bits BinOp.andNot IntKind.i64
      (IntKind.i64.wrap (IntKind.i64.wrap (bits BinOp.and IntKind.u32 c (65535 : Int)) + (7 : Int))) (7 : Int) ∧ bits BinOp.andNot IntKind.i64 (IntKind.i64.wrap
      (IntKind.i64.wrap (bits BinOp.and IntKind.u32 c (65535 : Int)) + (7 : Int))) (7 : Int) ≤ (65536 : Int)) ∧ True) ∧ (((0 : Int) ≤ (0 : Int) ∧ (0 : Int) ≤ (65536 : Int)) ∧
      True) ∧ True) ∧ ((44 : Nat) = (44 : Nat) ∧ True ∧ (5 : Nat) = (5 : Nat) ∧ (flat [Sp.r IntKind.u8 (0 : Int) (255 : Int)] = true ∧ Row [Sp.r IntKind.u8 (0 : Int) (255 :
      Int)] (z.l (1 : Nat))) ∧ (4294967295 : Nat) = (4294967295 : Nat) ∧ (59 : Nat) = (59 : Nat) ∧ (flat [Sp.i IntKind.u32, Sp.i IntKind.i64, Sp.i IntKind.u32] = true ∧ Row
      [Sp.i IntKind.u32, Sp.i IntKind.i64, Sp.i IntKind.u32] (z.l (2 : Nat))) ∧ ([] : SW) = []) ∧ ((cpF E (4 : Int) (incB c) (bits BinOp.andNot IntKind.i64 (IntKind.i64.wrap
      (IntKind.i64.wrap (bits BinOp.and IntKind.u32 c (65535 : Int)) + (7 : Int))) (7 : Int) - (0 : Int)).toNat (bits BinOp.andNot IntKind.u32 f (3 : Int)) (bits BinOp.andNot
      IntKind.u32 t (3 : Int)) (Mm.mk (z.n (0 : Nat)) (↑(z.n (1 : Nat)).toNat : Int) (↑(z.n (2 : Nat)).toNat : Int) (z.l (1 : Nat)) (z.l (2 : Nat))) = cpR E c fast f t (Mm.mk
      (z.n (0 : Nat)) (z.n (1 : Nat)) (z.n (2 : Nat)) (z.l (1 : Nat)) (z.l (2 : Nat))) ∧ okM (Mm.mk (z.n (0 : Nat)) (↑(z.n (1 : Nat)).toNat : Int) (↑(z.n (2 : Nat)).toNat : Int)
      (z.l (1 : Nat)) (z.l (2 : Nat)))) ∧ bits BinOp.andNot IntKind.i64 (IntKind.i64.wrap (IntKind.i64.wrap (bits BinOp.and IntKind.u32 c (65535 : Int)) + (7 : Int))) (7 : Int)
      = cnt c fast ∧ bits BinOp.andNot IntKind.i64 (IntKind.i64.wrap (IntKind.i64.wrap (bits BinOp.and IntKind.u32 c (65535 : Int)) + (7 : Int))) (7 : Int) = cnt c fast ∧ (0 :
      Int) ≤ bits BinOp.andNot IntKind.i64 (IntKind.i64.wrap (IntKind.i64.wrap (bits BinOp.and IntKind.u32 c (65535 : Int)) + (7 : Int))) (7 : Int) ∧ (↑(z.n (2 : Nat)).toNat :
      Int) + (bits BinOp.andNot IntKind.i64 (IntKind.i64.wrap (IntKind.i64.wrap (bits BinOp.and IntKind.u32 c (65535 : Int)) + (7 : Int))) (7 : Int) - (0 : Int)) = z.n (2 : Nat)
      + cnt c fast) ∧ True) ∧ (fast = false → c22_td E = c22_td E ∧ (64 : Nat) = (64 : Nat) ∧ (True ∧ (((0 : Int) ≤ bits BinOp.andNot IntKind.u32 f (3 : Int) ∧ bits BinOp.andNot
      IntKind.u32 f (3 : Int) ≤ (4294967295 : Int)) ∧ True) ∧ (((0 : Int) ≤ bits BinOp.andNot IntKind.u32 t (3 : Int) ∧ bits BinOp.andNot IntKind.u32 t (3 : Int) ≤ (4294967295 :
      Int)) ∧ True) ∧ (renC (posN [(0 : Nat), (1 : Nat), (1000000000002 : Nat), (2 : Nat)]) (C.i false IntKind.u32 c) = C.i false IntKind.u32 c ∧ True) ∧ True ∧ (((0 : Int) ≤
      IntKind.i64.wrap (bits BinOp.and IntKind.u32 c (65535 : Int)) ∧ IntKind.i64.wrap (bits BinOp.and IntKind.u32 c (65535 : Int)) ≤ (65536 : Int)) ∧ True) ∧ (((0 : Int) ≤
      IntKind.i64.wrap (bits BinOp.and IntKind.u32 c (65535 : Int)) ∧ IntKind.i64.wrap (bits BinOp.and IntKind.u32 c (65535 : Int)) ≤ (65536 : Int)) ∧ True) ∧ (((0 : Int) ≤ (0 :
      Int) ∧ (0 : Int) ≤ (65536 : Int)) ∧ True) ∧ True) ∧ ((44 : Nat) = (44 : Nat) ∧ True ∧ (5 : Nat) = (5 : Nat) ∧ (flat [Sp.r IntKind.u8 (0 : Int) (255 : Int)] = true ∧ Row
      [Sp.r IntKind.u8 (0 : Int) (255 : Int)] (z.l (1 : Nat))) ∧ (4294967295 : Nat) = (4294967295 : Nat) ∧ (59 : Nat) = (59 : Nat) ∧ (flat [Sp.i IntKind.u32, Sp.i IntKind.i64,
      Sp.i IntKind.u32] = true ∧ Row [Sp.i IntKind.u32, Sp.i IntKind.i64, Sp.i IntKind.u32] (z.l (2 : Nat))) ∧ ([] : SW) = []) ∧ ((cpF E (4 : Int) (incB c) (IntKind.i64.wrap
      (bits BinOp.and IntKind.u32 c (65535 : Int)) - (0 : Int)).toNat (bits BinOp.andNot IntKind.u32 f (3 : Int)) (bits BinOp.andNot IntKind.u32 t (3 : Int)) (Mm.mk (z.n (0 :
      Nat)) (↑(z.n (1 : Nat)).toNat : Int) (↑(z.n (2 : Nat)).toNat : Int) (z.l (1 : Nat)) (z.l (2 : Nat))) = cpR E c fast f t (Mm.mk (z.n (0 : Nat)) (z.n (1 : Nat)) (z.n (2 :
      Nat)) (z.l (1 : Nat)) (z.l (2 : Nat))) ∧ okM (Mm.mk (z.n (0 : Nat)) (↑(z.n (1 : Nat)).toNat : Int) (↑(z.n (2 : Nat)).toNat : Int) (z.l (1 : Nat)) (z.l (2 : Nat)))) ∧
      IntKind.i64.wrap (bits BinOp.and IntKind.u32 c (65535 : Int)) = cnt c fast ∧ IntKind.i64.wrap (bits BinOp.and IntKind.u32 c (65535 : Int)) = cnt c fast ∧ (0 : Int) ≤
      IntKind.i64.wrap (bits BinOp.and IntKind.u32 c (65535 : Int)) ∧ (↑(z.n (2 : Nat)).toNat : Int) + (IntKind.i64.wrap (bits BinOp.and IntKind.u32 c (65535 : Int)) - (0 :
      Int)) = z.n (2 : Nat) + cnt c fast) ∧ True)) ∧ ((bits BinOp.and IntKind.u32 (c.fdiv (67108864 : Int)) (1 : Int) != (0 : Int)) = false → (fast = true → c22_td E = c22_td E
      ∧ (64 : Nat) = (64 : Nat) ∧ (True ∧ (((0 : Int) ≤ bits BinOp.andNot IntKind.u32 f (1 : Int) ∧ bits BinOp.andNot IntKind.u32 f (1 : Int) ≤ (4294967295 : Int)) ∧ True) ∧
      (((0 : Int) ≤ bits BinOp.andNot IntKind.u32 t (1 : Int) ∧ bits BinOp.andNot IntKind.u32 t (1 : Int) ≤ (4294967295 : Int)) ∧ True) ∧ (renC (posN [(0 : Nat), (1 : Nat),
      (1000000000002 : Nat), (2 : Nat)]) (C.i false IntKind.u32 c) = C.i false IntKind.u32 c ∧ True) ∧ True ∧ (((0 : Int) ≤ bits BinOp.andNot IntKind.i64 (IntKind.i64.wrap
      (IntKind.i64.wrap (bits BinOp.and IntKind.u32 c (65535 : Int)) + (7 : Int))) (7 : Int) ∧ bits BinOp.andNot IntKind.i64 (IntKind.i64.wrap (IntKind.i64.wrap (bits BinOp.and
      IntKind.u32 c (65535 : Int)) + (7 : Int))) (7 : Int) ≤ (65536 : Int)) ∧ True) ∧ (((0 : Int) ≤ bits BinOp.andNot IntKind.i64 (IntKind.i64.wrap (IntKind.i64.wrap (bits
      BinOp.and IntKind.u32 c (65535 : Int)) + (7 : Int))) (7 : Int) ∧ bits BinOp.andNot IntKind.i64 (IntKind.i64.wrap (IntKind.i64.wrap (bits BinOp.and IntKind.u32 c (65535 :
      Int)) + (7 : Int))) (7 : Int) ≤ (65536 : Int)) ∧ True) ∧ (((0 : Int) ≤ (0 : Int) ∧ (0 : Int) ≤ (65536 : Int)) ∧ True) ∧ True) ∧ ((44 : Nat) = (44 : Nat) ∧ True ∧ (5 : Nat)
      = (5 : Nat) ∧ (flat [Sp.r IntKind.u8 (0 : Int) (255 : Int)] = true ∧ Row [Sp.r IntKind.u8 (0 : Int) (255 : Int)] (z.l (1 : Nat))) ∧ (4294967295 : Nat) = (4294967295 : Nat)
      ∧ (59 : Nat) = (59 : Nat) ∧ (flat [Sp.i IntKind.u32, Sp.i IntKind.i64, Sp.i IntKind.u32] = true ∧ Row [Sp.i IntKind.u32, Sp.i IntKind.i64, Sp.i IntKind.u32] (z.l (2 :
      Nat))) ∧ ([] : SW) = []) ∧ ((cpF E (2 : Int) (incB c) (bits BinOp.andNot IntKind.i64 (IntKind.i64.wrap (IntKind.i64.wrap (bits BinOp.and IntKind.u32 c (65535 : Int)) + (7
      : Int))) (7 : Int) - (0 : Int)).toNat (bits BinOp.andNot IntKind.u32 f (1 : Int)) (bits BinOp.andNot IntKind.u32 t (1 : Int)) (Mm.mk (z.n (0 : Nat)) (↑(z.n (1 :
      Nat)).toNat : Int) (↑(z.n (2 : Nat)).toNat : Int) (z.l (1 : Nat)) (z.l (2 : Nat))) = cpR E c fast f t (Mm.mk (z.n (0 : Nat)) (z.n (1 : Nat)) (z.n (2 : Nat)) (z.l (1 :
      Nat)) (z.l (2 : Nat))) ∧ okM (Mm.mk (z.n (0 : Nat)) (↑(z.n (1 : Nat)).toNat : Int) (↑(z.n (2 : Nat)).toNat : Int) (z.l (1 : Nat)) (z.l (2 : Nat)))) ∧ bits BinOp.andNot
      IntKind.i64 (IntKind.i64.wrap (IntKind.i64.wrap (bits BinOp.and IntKind.u32 c (65535 : Int)) + (7 : Int))) (7 : Int) = cnt c fast ∧ bits BinOp.andNot IntKind.i64
      (IntKind.i64.wrap (IntKind.i64.wrap (bits BinOp.and IntKind.u32 c (65535 : Int)) + (7 : Int))) (7 : Int) = cnt c fast ∧ (0 : Int) ≤ bits BinOp.andNot IntKind.i64
      (IntKind.i64.wrap (IntKind.i64.wrap (bits BinOp.and IntKind.u32 c (65535 : Int)) + (7 : Int))) (7 : Int) ∧ (↑(z.n (2 : Nat)).toNat : Int) + (bits BinOp.andNot IntKind.i64
      (IntKind.i64.wrap (IntKind.i64.wrap (bits BinOp.and IntKind.u32 c (65535 : Int)) + (7 : Int))) (7 : Int) - (0 : Int)) = z.n (2 : Nat) + cnt c fast) ∧ True) ∧ (fast = false
      → c22_td E = c22_td E ∧ (64 : Nat) = (64 : Nat) ∧ (True ∧ (((0 : Int) ≤ bits BinOp.andNot IntKind.u32 f (1 : Int) ∧ bits BinOp.andNot IntKind.u32 f (1 : Int) ≤ (4294967295
      : Int)) ∧ True) ∧ (((0 : Int) ≤ bits BinOp.andNot IntKind.u32 t (1 : Int) ∧ bits BinOp.andNot IntKind.u32 t (1 : Int) ≤ (4294967295 : Int)) ∧ True) ∧ (renC (posN [(0 :
      Nat), (1 : Nat), (1000000000002 : Nat), (2 : Nat)]) (C.i false IntKind.u32 c) = C.i false IntKind.u32 c ∧ True) ∧ True ∧ (((0 : Int) ≤ IntKind.i64.wrap (bits BinOp.and
      IntKind.u32 c (65535 : Int)) ∧ IntKind.i64.wrap (bits BinOp.and IntKind.u32 c (65535 : Int)) ≤ (65536 : Int)) ∧ True) ∧ (((0 : Int) ≤ IntKind.i64.wrap (bits BinOp.and
      IntKind.u32 c (65535 : Int)) ∧ IntKind.i64.wrap (bits BinOp.and IntKind.u32 c (65535 : Int)) ≤ (65536 : Int)) ∧ True) ∧ (((0 : Int) ≤ (0 : Int) ∧ (0 : Int) ≤ (65536 :
      Int)) ∧ True) ∧ True) ∧ ((44 : Nat) = (44 : Nat) ∧ True ∧ (5 : Nat) = (5 : Nat) ∧ (flat [Sp.r IntKind.u8 (0 : Int) (255 : Int)] = true ∧ Row [Sp.r IntKind.u8 (0 : Int)
      (255 : Int)] (z.l (1 : Nat))) ∧ (4294967295 : Nat) = (4294967295 : Nat) ∧ (59 : Nat) = (59 : Nat) ∧ (flat [Sp.i IntKind.u32, Sp.i IntKind.i64, Sp.i IntKind.u32] = true ∧
      Row [Sp.i IntKind.u32, Sp.i IntKind.i64, Sp.i IntKind.u32] (z.l (2 : Nat))) ∧ ([] : SW) = []) ∧ ((cpF E (2 : Int) (incB c) (IntKind.i64.wrap (bits BinOp.and IntKind.u32 c
      (65535 : Int)) - (0 : Int)).toNat (bits BinOp.andNot IntKind.u32 f (1 : Int)) (bits BinOp.andNot IntKind.u32 t (1 : Int)) (Mm.mk (z.n (0 : Nat)) (↑(z.n (1 : Nat)).toNat :
      Int) (↑(z.n (2 : Nat)).toNat : Int) (z.l (1 : Nat)) (z.l (2 : Nat))) = cpR E c fast f t (Mm.mk (z.n (0 : Nat)) (z.n (1 : Nat)) (z.n (2 : Nat)) (z.l (1 : Nat)) (z.l (2 :
      Nat))) ∧ okM (Mm.mk (z.n (0 : Nat)) (↑(z.n (1 : Nat)).toNat : Int) (↑(z.n (2 : Nat)).toNat : Int) (z.l (1 : Nat)) (z.l (2 : Nat)))) ∧ IntKind.i64.wrap (bits BinOp.and
      IntKind.u32 c (65535 : Int)) = cnt c fast ∧ IntKind.i64.wrap (bits BinOp.and IntKind.u32 c (65535 : Int)) = cnt c fast ∧ (0 : Int) ≤ IntKind.i64.wrap (bits BinOp.and
      IntKind.u32 c (65535 : Int)) ∧ (↑(z.n (2 : Nat)).toNat : Int) + (IntKind.i64.wrap (bits BinOp.and IntKind.u32 c (65535 : Int)) - (0 : Int)) = z.n (2 : Nat) + cnt c fast) ∧
      True)))) := by kernel_rfl
set_option maxHeartbeats 8000000 in
theorem c22_c (E : World) (f t c : Int) (fast : Bool) (z : PX) (hz : rgM z [mB 2, rowB, rowN] 0) (hp : (fun z => okM (Mm.mk (z.n 0) (z.n 1) (z.n 2) (z.l 1) (z.l 2)) ∧ z.n 2 ≤ 100000 ∧ (0 ≤ f ∧ f ≤ 4294967295) ∧ (0 ≤ t ∧ t ≤ 4294967295) ∧ (0 ≤ c ∧ c ≤ 4294967295)) z) : HD (pe E) 22 [.c (.ifc 36 0 0), .c (.i false .u32 f), .c (.i false .u32 t), .c (.i false .u32 c), .c (.b false fast)] [mB 2, rowB, rowN] [mB 3, rowB, .g HOLE, rowN] (.c (.r .i64 0 65536)) (fun z y => ((Mm.mk (y.n 0) (y.n 1) (y.n 2) (y.l 1) (y.l 3)) = cpR E c fast f t (Mm.mk (z.n 0) (z.n 1) (z.n 2) (z.l 1) (z.l 2)) ∧ y.n 90000 = cnt c fast) ∧ okM (Mm.mk (y.n 0) (y.n 1) (y.n 2) (y.l 1) (y.l 3)) ∧ y.n 2 = z.n 2 + cnt c fast) z := by
  refine HD.loop (P := pe E) orcM_ok tab_ok tab_sz mixed Try.func22 (c := Try.f22.body.getD .skip) rfl (by decide) (Nat.le_of_ble_eq_true rfl) (by rfl) 20000 (2 ^ 200 - 1) (c22_hs E f t c fast z) (by rfl) (loopP_lfH ⟨?_⟩) ?_
  · rw [c22_pro]
    obtain ⟨hK, hz2, hf0, ht0, hc0⟩ := hp
    have hR1 := hz.2.1.2
    have hR2 := hz.2.2.1.2
    have hf1 : flat [Sp.r .u8 0 255] = true := rfl
    have hf2 : flat [Sp.i .u32, Sp.i .i64, Sp.i .u32] = true := rfl
    have T1 : ((z.n 1).toNat : Int) = z.n 1 := Int.toNat_of_nonneg hK.b0
    have T2 : ((z.n 2).toNat : Int) = z.n 2 := Int.toNat_of_nonneg hK.n0
    cases fast
    · simp only [T1, T2, c16, n8, al4 f hf0.1 (by omega), al4 t ht0.1 (by omega), al2 f hf0.1 (by omega), al2 t ht0.1 (by omega), b26 c hc0.1, decide_eq_true_eq, decide_eq_false_iff_not, Bool.false_eq_true, false_implies, true_implies, forall_const, true_and]
      refine ⟨fun h26 => ?_, fun h26 => ?_⟩
      · have hw : wdt c false = 4 := by unfold wdt; simp [*]
        have hn : cnt c false = (c % 65536) := by unfold cnt; simp [*]
        have hE := cpR_i (E := E) (f := f) (t := t) (m := (Mm.mk (z.n 0) (z.n 1) (z.n 2) (z.l 1) (z.l 2))) hw hn
        have b1 := alF_bd (w := 4) (by decide) hf0
        have b2 := alF_bd (w := 4) (by decide) ht0
        rw [hn]
        ((repeat' (first | exact trivial | with_reducible rfl | assumption | exact rfl | apply And.intro)) <;> omega)
      · have hw : wdt c false = 2 := by unfold wdt; simp [*]
        have hn : cnt c false = (c % 65536) := by unfold cnt; simp [*]
        have hE := cpR_i (E := E) (f := f) (t := t) (m := (Mm.mk (z.n 0) (z.n 1) (z.n 2) (z.l 1) (z.l 2))) hw hn
        have b1 := alF_bd (w := 2) (by decide) hf0
        have b2 := alF_bd (w := 2) (by decide) ht0
        rw [hn]
        ((repeat' (first | exact trivial | with_reducible rfl | assumption | exact rfl | apply And.intro)) <;> omega)
    · simp only [T1, T2, c16, n8, al4 f hf0.1 (by omega), al4 t ht0.1 (by omega), al2 f hf0.1 (by omega), al2 t ht0.1 (by omega), b26 c hc0.1, decide_eq_true_eq, decide_eq_false_iff_not, Bool.true_eq_false, false_implies, true_implies, forall_const, true_and, and_true]
      have hw : wdt c true = 4 := by unfold wdt; simp [*]
      have hn : cnt c true = ((c % 65536 + 7) / 8 * 8) := by unfold cnt; simp [*]
      have hE := cpR_i (E := E) (f := f) (t := t) (m := (Mm.mk (z.n 0) (z.n 1) (z.n 2) (z.l 1) (z.l 2))) hw hn
      have b1 := alF_bd (w := 4) (by decide) hf0
      have b2 := alF_bd (w := 4) (by decide) ht0
      rw [hn]
      ((repeat' (first | exact trivial | with_reducible rfl | assumption | exact rfl | apply And.intro)) <;> omega)
  · intro h hmem y hy1 hy2 hy3
    simp only [c22_hs, List.mem_cons, List.not_mem_nil, or_false] at hmem
    rcases hmem with rfl | rfl
    · exact c22_q0 E f t c fast z hp y hy1 hy2 hy3
    · exact c22_q1 E f t c fast z hp y hy1 hy2 hy3
end Go.Proofs.Ytabklphoccicmaa

