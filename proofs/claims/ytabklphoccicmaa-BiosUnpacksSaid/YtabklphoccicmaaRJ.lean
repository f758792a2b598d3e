import Derived.Test.YtabklphoccicmaaRI
set_option linter.unusedVariables false
set_option linter.unusedSimpArgs false
namespace Go.Proofs.Ytabklphoccicmaa
open Go Go.Proofs Go.Proofs.Ytabklphoccicmaa.Ev Go.Proofs.Ytabklphoccicmaa.Ev.Ho Go.IntKind
set_option maxRecDepth 100000
theorem up_p (E : World) (z : PX) (f t : Int) (RA : AU) :
    (hdP ([mB 2, rowB, rowN] : List MB).length [mB 3, rowB, .g HOLE, rowN] (.c (.r .i64 0 65535)) (fun z y => ((Mm.mk (y.n 0) (y.n 1) (y.n 2) (y.l 1) (y.l 3)) = fiF E (alF 2 t) RA.u ∧ y.n 90000 = RA.u.o.length) ∧ okM (Mm.mk (y.n 0) (y.n 1) (y.n 2) (y.l 1) (y.l 3))) z (fnTree (pe E) (orcU E RA) (tabL fns) 20000 Try.f25 [.c (.ifc 36 0 0), .c (.i false .u32 f), .c (.i false .u32 t)] (mkM z [] [mB 2, rowB, rowN] 0))) =
     (((eM (z.l 1) (z.l 2)) ∧ okM (Mm.mk (z.n 0) (↑(z.n 1).toNat : Int) (↑(z.n 2).toNat : Int) (z.l 1) (z.l 2))) ∧ ∀ (y : PX), aM y 2 ∧ ((0 ≤ y.n 90000 ∧ y.n 90000 ≤ 4294967295) ∧ True) ∧ Mm.mk (y.n 0) (y.n 1) (y.n 2) (y.l 1) (y.l 2) = Mm.mk (z.n 0) (↑(z.n 1).toNat : Int) (↑(z.n 2).toNat : Int) (z.l 1) (z.l 2) ∧ y.n 90000 = rdv4 E (bits BinOp.andNot u32 f 3) (Mm.mk (z.n 0) (↑(z.n 1).toNat : Int) (↑(z.n 2).toNat : Int) (z.l 1) (z.l 2)) → ((0 == i64.wrap (bits BinOp.and u32 ((y.n 90000).fdiv 256) 65535)) = true → (44 = 44 ∧ True ∧ 5 = 5 ∧ rwB (y.l 1) ∧ 4294967295 = 4294967295 ∧ 59 = 59 ∧ rwN (y.l 2) ∧ ([] : SW) = []) ∧ (((0 : Int) ≤ (0 : Int) ∧ (0 : Int) ≤ 65535) ∧ True) ∧ (Mm.mk (y.n 0) (↑(y.n 1).toNat : Int) (↑(y.n 2).toNat : Int) (y.l 1) (y.l 2) = fiF E (alF 2 t) RA.u ∧ 0 = (↑RA.u.o.length : Int)) ∧ okM (Mm.mk (y.n 0) (↑(y.n 1).toNat : Int) (↑(y.n 2).toNat : Int) (y.l 1) (y.l 2))) ∧ ((0 == i64.wrap (bits BinOp.and u32 ((y.n 90000).fdiv 256) 65535)) = false → ((bits BinOp.and u32 (y.n 90000) (255 : Int) == 16) = true → ((iP (i64.wrap (bits BinOp.and u32 ((y.n 90000).fdiv 256) 65535)) [] (y.l 1) (y.l 2)) ∧ okM (Mm.mk (y.n 0) (↑(y.n 1).toNat : Int) (↑(y.n 2).toNat : Int) (y.l 1) (y.l 2)) ∧ (↑(y.n 2).toNat : Int) ≤ (200000 : Int) + 0 ∧ 0 = 0 ∧ 0 ≤ i64.wrap (bits BinOp.and u32 ((y.n 90000).fdiv 256) 65535) ∧ (0 : Int) ≤ 0 ∧ PcI E (bits BinOp.andNot u32 t 1) (i64.wrap (bits BinOp.and u32 ((y.n 90000).fdiv 256) 65535)) (AU.mk (u32.wrap (bits BinOp.andNot u32 f (3 : Int) + 4)) (OU.mk (Mm.mk (y.n 0) (↑(y.n 1).toNat : Int) (↑(y.n 2).toNat : Int) (y.l 1) (y.l 2)) (vals []))) RA) ∧ ∀ (y_1 : PX), aP y_1 ∧ True ∧ AU.mk (y_1.n 1) (OU.mk (Mm.mk (y_1.n 100000) (y_1.n 100001) (y_1.n 100002) (y_1.l 3) (y_1.l 6)) (vals (y_1.l 5))) = RA ∧ (y_1.n 2 = bits BinOp.andNot u32 t 1 ∧ y_1.n 3 = i64.wrap (bits BinOp.and u32 ((y.n 90000).fdiv 256) 65535)) ∧ okM (Mm.mk (y_1.n 100000) (y_1.n 100001) (y_1.n 100002) (y_1.l 3) (y_1.l 6)) ∧ y_1.n 100002 + 0 ≤ (↑(y.n 2).toNat : Int) + y_1.n 4 ∧ (y_1.l 5).length = (y_1.n 4).toNat ∧ y_1.n 4 ≤ y_1.n 3 → ((iP (y_1.n 3) (y_1.l 5) (y_1.l 3) (y_1.l 6)) ∧ okM (Mm.mk (y_1.n 100000) (↑(y_1.n 100001).toNat : Int) (↑(y_1.n 100002).toNat : Int) (y_1.l 3) (y_1.l 6)) ∧ (↑(y_1.n 100002).toNat : Int) ≤ 200000 + (↑(y_1.n 4).toNat : Int) ∧ (y_1.l 5).length = (↑(y_1.n 4).toNat : Int).toNat ∧ (↑(y_1.n 4).toNat : Int) ≤ y_1.n 3 ∧ 0 ≤ (↑(y_1.n 4).toNat : Int) ∧ (↑(y_1.n 100002).toNat : Int) ≤ 900000) ∧ ∀ (y : PX), aP y ∧ True ∧ (Mm.mk (y.n 100000) (y.n 100001) (y.n 100002) (y.l 3) (y.l 6) = fiF E (y_1.n 2) (OU.mk (Mm.mk (y_1.n 100000) (↑(y_1.n 100001).toNat : Int) (↑(y_1.n 100002).toNat : Int) (y_1.l 3) (y_1.l 6)) (vals (y_1.l 5))) ∧ y.n 4 = (↑(y_1.n 4).toNat : Int)) ∧ okM (Mm.mk (y.n 100000) (y.n 100001) (y.n 100002) (y.l 3) (y.l 6)) ∧ y.n 100002 ≤ (↑(y_1.n 100002).toNat : Int) + 1 → (44 = 44 ∧ True ∧ 5 = 5 ∧ rwB (y.l 3) ∧ 4294967295 = 4294967295 ∧ 59 = 59 ∧ rwN (y.l 6) ∧ ([] : SW) = []) ∧ ((0 ≤ (↑(y.n 4).toNat : Int) ∧ (↑(y.n 4).toNat : Int) ≤ 65535) ∧ True) ∧ (Mm.mk (y.n 100000) (↑(y.n 100001).toNat : Int) (↑(y.n 100002).toNat : Int) (y.l 3) (y.l 6) = fiF E (alF 2 t) RA.u ∧ (↑(y.n 4).toNat : Int) = (↑RA.u.o.length : Int)) ∧ okM (Mm.mk (y.n 100000) (↑(y.n 100001).toNat : Int) (↑(y.n 100002).toNat : Int) (y.l 3) (y.l 6))) ∧ ((bits BinOp.and u32 (y.n 90000) (255 : Int) == 16) = false → ((bits BinOp.and u32 (y.n 90000) (255 : Int) == 48) = true → ((iP (i64.wrap (bits BinOp.and u32 ((y.n 90000).fdiv 256) 65535)) [] (y.l 1) (y.l 2)) ∧ okM (Mm.mk (y.n 0) (↑(y.n 1).toNat : Int) (↑(y.n 2).toNat : Int) (y.l 1) (y.l 2)) ∧ (↑(y.n 2).toNat : Int) ≤ (200000 : Int) + 0 ∧ 0 = 0 ∧ 0 ≤ i64.wrap (bits BinOp.and u32 ((y.n 90000).fdiv 256) 65535) ∧ (0 : Int) ≤ 0 ∧ RuI E (bits BinOp.andNot u32 t 1) (i64.wrap (bits BinOp.and u32 ((y.n 90000).fdiv 256) 65535)) (AU.mk (u32.wrap (bits BinOp.andNot u32 f (3 : Int) + 4)) (OU.mk (Mm.mk (y.n 0) (↑(y.n 1).toNat : Int) (↑(y.n 2).toNat : Int) (y.l 1) (y.l 2)) (vals []))) RA) ∧ ∀ (y_1 : PX), aP y_1 ∧ True ∧ AU.mk (y_1.n 1) (OU.mk (Mm.mk (y_1.n 100000) (y_1.n 100001) (y_1.n 100002) (y_1.l 3) (y_1.l 6)) (vals (y_1.l 5))) = RA ∧ (y_1.n 2 = bits BinOp.andNot u32 t 1 ∧ y_1.n 3 = i64.wrap (bits BinOp.and u32 ((y.n 90000).fdiv 256) 65535)) ∧ okM (Mm.mk (y_1.n 100000) (y_1.n 100001) (y_1.n 100002) (y_1.l 3) (y_1.l 6)) ∧ y_1.n 100002 + 0 ≤ (↑(y.n 2).toNat : Int) + y_1.n 4 ∧ (y_1.l 5).length = (y_1.n 4).toNat ∧ y_1.n 4 ≤ y_1.n 3 → ((iP (y_1.n 3) (y_1.l 5) (y_1.l 3) (y_1.l 6)) ∧ okM (Mm.mk (y_1.n 100000) (↑(y_1.n 100001).toNat : Int) (↑(y_1.n 100002).toNat : Int) (y_1.l 3) (y_1.l 6)) ∧ (↑(y_1.n 100002).toNat : Int) ≤ 200000 + (↑(y_1.n 4).toNat : Int) ∧ (y_1.l 5).length = (↑(y_1.n 4).toNat : Int).toNat ∧ (↑(y_1.n 4).toNat : Int) ≤ y_1.n 3 ∧ 0 ≤ (↑(y_1.n 4).toNat : Int) ∧ (↑(y_1.n 100002).toNat : Int) ≤ 900000) ∧ ∀ (y : PX), aP y ∧ True ∧ (Mm.mk (y.n 100000) (y.n 100001) (y.n 100002) (y.l 3) (y.l 6) = fiF E (y_1.n 2) (OU.mk (Mm.mk (y_1.n 100000) (↑(y_1.n 100001).toNat : Int) (↑(y_1.n 100002).toNat : Int) (y_1.l 3) (y_1.l 6)) (vals (y_1.l 5))) ∧ y.n 4 = (↑(y_1.n 4).toNat : Int)) ∧ okM (Mm.mk (y.n 100000) (y.n 100001) (y.n 100002) (y.l 3) (y.l 6)) ∧ y.n 100002 ≤ (↑(y_1.n 100002).toNat : Int) + 1 → (44 = 44 ∧ True ∧ 5 = 5 ∧ rwB (y.l 3) ∧ 4294967295 = 4294967295 ∧ 59 = 59 ∧ rwN (y.l 6) ∧ ([] : SW) = []) ∧ ((0 ≤ (↑(y.n 4).toNat : Int) ∧ (↑(y.n 4).toNat : Int) ≤ 65535) ∧ True) ∧ (Mm.mk (y.n 100000) (↑(y.n 100001).toNat : Int) (↑(y.n 100002).toNat : Int) (y.l 3) (y.l 6) = fiF E (alF 2 t) RA.u ∧ (↑(y.n 4).toNat : Int) = (↑RA.u.o.length : Int)) ∧ okM (Mm.mk (y.n 100000) (↑(y.n 100001).toNat : Int) (↑(y.n 100002).toNat : Int) (y.l 3) (y.l 6))) ∧ ((bits BinOp.and u32 (y.n 90000) (255 : Int) == 48) = false → ((bits BinOp.and u32 (y.n 90000) (255 : Int) == 36) = true → ((iP (i64.wrap (bits BinOp.and u32 ((y.n 90000).fdiv 256) 65535)) [] (y.l 1) (y.l 2)) ∧ okM (Mm.mk (y.n 0) (↑(y.n 1).toNat : Int) (↑(y.n 2).toNat : Int) (y.l 1) (y.l 2)) ∧ (↑(y.n 2).toNat : Int) ≤ (200000 : Int) + 0 ∧ 0 = 0 ∧ 0 ≤ i64.wrap (bits BinOp.and u32 ((y.n 90000).fdiv 256) 65535) ∧ (0 : Int) ≤ 0 ∧ CdI E (bits BinOp.andNot u32 t 1) (i64.wrap (bits BinOp.and u32 ((y.n 90000).fdiv 256) 65535)) (!true) (AU.mk (u32.wrap (bits BinOp.andNot u32 f (3 : Int) + 4)) (OU.mk (Mm.mk (y.n 0) (↑(y.n 1).toNat : Int) (↑(y.n 2).toNat : Int) (y.l 1) (y.l 2)) (vals []))) RA.u ∧ 0 < i64.wrap (bits BinOp.and u32 ((y.n 90000).fdiv 256) 65535)) ∧ ∀ (y_1 : PX), aP y_1 ∧ True ∧ OU.mk (Mm.mk (y_1.n 100000) (y_1.n 100001) (y_1.n 100002) (y_1.l 3) (y_1.l 6)) (vals (y_1.l 5)) = RA.u ∧ (y_1.n 2 = bits BinOp.andNot u32 t 1 ∧ y_1.n 3 = i64.wrap (bits BinOp.and u32 ((y.n 90000).fdiv 256) 65535)) ∧ okM (Mm.mk (y_1.n 100000) (y_1.n 100001) (y_1.n 100002) (y_1.l 3) (y_1.l 6)) ∧ y_1.n 100002 + 0 ≤ (↑(y.n 2).toNat : Int) + y_1.n 4 ∧ (y_1.l 5).length = (y_1.n 4).toNat ∧ y_1.n 4 ≤ y_1.n 3 → ((iP (y_1.n 3) (y_1.l 5) (y_1.l 3) (y_1.l 6)) ∧ okM (Mm.mk (y_1.n 100000) (↑(y_1.n 100001).toNat : Int) (↑(y_1.n 100002).toNat : Int) (y_1.l 3) (y_1.l 6)) ∧ (↑(y_1.n 100002).toNat : Int) ≤ 200000 + (↑(y_1.n 4).toNat : Int) ∧ (y_1.l 5).length = (↑(y_1.n 4).toNat : Int).toNat ∧ (↑(y_1.n 4).toNat : Int) ≤ y_1.n 3 ∧ 0 ≤ (↑(y_1.n 4).toNat : Int) ∧ (↑(y_1.n 100002).toNat : Int) ≤ 900000) ∧ ∀ (y : PX), aP y ∧ True ∧ (Mm.mk (y.n 100000) (y.n 100001) (y.n 100002) (y.l 3) (y.l 6) = fiF E (y_1.n 2) (OU.mk (Mm.mk (y_1.n 100000) (↑(y_1.n 100001).toNat : Int) (↑(y_1.n 100002).toNat : Int) (y_1.l 3) (y_1.l 6)) (vals (y_1.l 5))) ∧ y.n 4 = (↑(y_1.n 4).toNat : Int)) ∧ okM (Mm.mk (y.n 100000) (y.n 100001) (y.n 100002) (y.l 3) (y.l 6)) ∧ y.n 100002 ≤ (↑(y_1.n 100002).toNat : Int) + 1 → (44 = 44 ∧ True ∧ 5 = 5 ∧ rwB (y.l 3) ∧ 4294967295 = 4294967295 ∧ 59 = 59 ∧ rwN (y.l 6) ∧ ([] : SW) = []) ∧ ((0 ≤ (↑(y.n 4).toNat : Int) ∧ (↑(y.n 4).toNat : Int) ≤ 65535) ∧ True) ∧ (Mm.mk (y.n 100000) (↑(y.n 100001).toNat : Int) (↑(y.n 100002).toNat : Int) (y.l 3) (y.l 6) = fiF E (alF 2 t) RA.u ∧ (↑(y.n 4).toNat : Int) = (↑RA.u.o.length : Int)) ∧ okM (Mm.mk (y.n 100000) (↑(y.n 100001).toNat : Int) (↑(y.n 100002).toNat : Int) (y.l 3) (y.l 6))) ∧ ((bits BinOp.and u32 (y.n 90000) (255 : Int) == 36) = false → ((bits BinOp.and u32 (y.n 90000) (255 : Int) == 40) = true → ((iP (i64.wrap (bits BinOp.and u32 ((y.n 90000).fdiv 256) 65535)) [] (y.l 1) (y.l 2)) ∧ okM (Mm.mk (y.n 0) (↑(y.n 1).toNat : Int) (↑(y.n 2).toNat : Int) (y.l 1) (y.l 2)) ∧ (↑(y.n 2).toNat : Int) ≤ (200000 : Int) + 0 ∧ 0 = 0 ∧ 0 ≤ i64.wrap (bits BinOp.and u32 ((y.n 90000).fdiv 256) 65535) ∧ (0 : Int) ≤ 0 ∧ CdI E (bits BinOp.andNot u32 t 1) (i64.wrap (bits BinOp.and u32 ((y.n 90000).fdiv 256) 65535)) (!false) (AU.mk (u32.wrap (bits BinOp.andNot u32 f (3 : Int) + 4)) (OU.mk (Mm.mk (y.n 0) (↑(y.n 1).toNat : Int) (↑(y.n 2).toNat : Int) (y.l 1) (y.l 2)) (vals []))) RA.u ∧ 0 < i64.wrap (bits BinOp.and u32 ((y.n 90000).fdiv 256) 65535)) ∧ ∀ (y_1 : PX), aP y_1 ∧ True ∧ OU.mk (Mm.mk (y_1.n 100000) (y_1.n 100001) (y_1.n 100002) (y_1.l 3) (y_1.l 6)) (vals (y_1.l 5)) = RA.u ∧ (y_1.n 2 = bits BinOp.andNot u32 t 1 ∧ y_1.n 3 = i64.wrap (bits BinOp.and u32 ((y.n 90000).fdiv 256) 65535)) ∧ okM (Mm.mk (y_1.n 100000) (y_1.n 100001) (y_1.n 100002) (y_1.l 3) (y_1.l 6)) ∧ y_1.n 100002 + 0 ≤ (↑(y.n 2).toNat : Int) + y_1.n 4 ∧ (y_1.l 5).length = (y_1.n 4).toNat ∧ y_1.n 4 ≤ y_1.n 3 → ((iP (y_1.n 3) (y_1.l 5) (y_1.l 3) (y_1.l 6)) ∧ okM (Mm.mk (y_1.n 100000) (↑(y_1.n 100001).toNat : Int) (↑(y_1.n 100002).toNat : Int) (y_1.l 3) (y_1.l 6)) ∧ (↑(y_1.n 100002).toNat : Int) ≤ 200000 + (↑(y_1.n 4).toNat : Int) ∧ (y_1.l 5).length = (↑(y_1.n 4).toNat : Int).toNat ∧ (↑(y_1.n 4).toNat : Int) ≤ y_1.n 3 ∧ 0 ≤ (↑(y_1.n 4).toNat : Int) ∧ (↑(y_1.n 100002).toNat : Int) ≤ 900000) ∧ ∀ (y : PX), aP y ∧ True ∧ (Mm.mk (y.n 100000) (y.n 100001) (y.n 100002) (y.l 3) (y.l 6) = fiF E (y_1.n 2) (OU.mk (Mm.mk (y_1.n 100000) (↑(y_1.n 100001).toNat : Int) (↑(y_1.n 100002).toNat : Int) (y_1.l 3) (y_1.l 6)) (vals (y_1.l 5))) ∧ y.n 4 = (↑(y_1.n 4).toNat : Int)) ∧ okM (Mm.mk (y.n 100000) (y.n 100001) (y.n 100002) (y.l 3) (y.l 6)) ∧ y.n 100002 ≤ (↑(y_1.n 100002).toNat : Int) + 1 → (44 = 44 ∧ True ∧ 5 = 5 ∧ rwB (y.l 3) ∧ 4294967295 = 4294967295 ∧ 59 = 59 ∧ rwN (y.l 6) ∧ ([] : SW) = []) ∧ ((0 ≤ (↑(y.n 4).toNat : Int) ∧ (↑(y.n 4).toNat : Int) ≤ 65535) ∧ True) ∧ (Mm.mk (y.n 100000) (↑(y.n 100001).toNat : Int) (↑(y.n 100002).toNat : Int) (y.l 3) (y.l 6) = fiF E (alF 2 t) RA.u ∧ (↑(y.n 4).toNat : Int) = (↑RA.u.o.length : Int)) ∧ okM (Mm.mk (y.n 100000) (↑(y.n 100001).toNat : Int) (↑(y.n 100002).toNat : Int) (y.l 3) (y.l 6))) ∧ ((bits BinOp.and u32 (y.n 90000) (255 : Int) == 40) = false → ((bits BinOp.and u32 (y.n 90000) (255 : Int) == 129) = true → ((iP (i64.wrap (bits BinOp.and u32 ((y.n 90000).fdiv 256) 65535)) [] (y.l 1) (y.l 2)) ∧ okM (Mm.mk (y.n 0) (↑(y.n 1).toNat : Int) (↑(y.n 2).toNat : Int) (y.l 1) (y.l 2)) ∧ (↑(y.n 2).toNat : Int) ≤ (200000 : Int) + 0 ∧ 0 = 0 ∧ 0 ≤ i64.wrap (bits BinOp.and u32 ((y.n 90000).fdiv 256) 65535) ∧ (0 : Int) ≤ 0) ∧ ∀ (y_1 : PX), aP y_1 ∧ True ∧ AU.mk (y_1.n 1) (OU.mk (Mm.mk (y_1.n 100000) (y_1.n 100001) (y_1.n 100002) (y_1.l 3) (y_1.l 6)) (vals (y_1.l 5))) = dfF E (bits BinOp.andNot u32 t 1) (i64.wrap (bits BinOp.and u32 ((y.n 90000).fdiv 256) 65535)) (i64.wrap (bits BinOp.and u32 ((y.n 90000).fdiv 256) 65535)).toNat 0 (u32.wrap (bits BinOp.andNot u32 f (3 : Int) + 4)) (OU.mk (Mm.mk (y.n 0) (↑(y.n 1).toNat : Int) (↑(y.n 2).toNat : Int) (y.l 1) (y.l 2)) (vals [])) ∧ (y_1.n 2 = bits BinOp.andNot u32 t 1 ∧ y_1.n 3 = i64.wrap (bits BinOp.and u32 ((y.n 90000).fdiv 256) 65535)) ∧ okM (Mm.mk (y_1.n 100000) (y_1.n 100001) (y_1.n 100002) (y_1.l 3) (y_1.l 6)) ∧ y_1.n 100002 + 0 ≤ (↑(y.n 2).toNat : Int) + y_1.n 4 ∧ (y_1.l 5).length = (y_1.n 4).toNat ∧ y_1.n 4 ≤ y_1.n 3 → ((iP (y_1.n 3) (y_1.l 5) (y_1.l 3) (y_1.l 6)) ∧ okM (Mm.mk (y_1.n 100000) (↑(y_1.n 100001).toNat : Int) (↑(y_1.n 100002).toNat : Int) (y_1.l 3) (y_1.l 6)) ∧ (↑(y_1.n 100002).toNat : Int) ≤ 200000 + (↑(y_1.n 4).toNat : Int) ∧ (y_1.l 5).length = (↑(y_1.n 4).toNat : Int).toNat ∧ (↑(y_1.n 4).toNat : Int) ≤ y_1.n 3 ∧ 0 ≤ (↑(y_1.n 4).toNat : Int) ∧ (↑(y_1.n 100002).toNat : Int) ≤ 900000) ∧ ∀ (y : PX), aP y ∧ True ∧ (Mm.mk (y.n 100000) (y.n 100001) (y.n 100002) (y.l 3) (y.l 6) = fiF E (y_1.n 2) (OU.mk (Mm.mk (y_1.n 100000) (↑(y_1.n 100001).toNat : Int) (↑(y_1.n 100002).toNat : Int) (y_1.l 3) (y_1.l 6)) (vals (y_1.l 5))) ∧ y.n 4 = (↑(y_1.n 4).toNat : Int)) ∧ okM (Mm.mk (y.n 100000) (y.n 100001) (y.n 100002) (y.l 3) (y.l 6)) ∧ y.n 100002 ≤ (↑(y_1.n 100002).toNat : Int) + 1 → (44 = 44 ∧ True ∧ 5 = 5 ∧ rwB (y.l 3) ∧ 4294967295 = 4294967295 ∧ 59 = 59 ∧ rwN (y.l 6) ∧ ([] : SW) = []) ∧ ((0 ≤ (↑(y.n 4).toNat : Int) ∧ (↑(y.n 4).toNat : Int) ≤ 65535) ∧ True) ∧ (Mm.mk (y.n 100000) (↑(y.n 100001).toNat : Int) (↑(y.n 100002).toNat : Int) (y.l 3) (y.l 6) = fiF E (alF 2 t) RA.u ∧ (↑(y.n 4).toNat : Int) = (↑RA.u.o.length : Int)) ∧ okM (Mm.mk (y.n 100000) (↑(y.n 100001).toNat : Int) (↑(y.n 100002).toNat : Int) (y.l 3) (y.l 6))) ∧ ((bits BinOp.and u32 (y.n 90000) (255 : Int) == 129) = false → (44 = 44 ∧ True ∧ 5 = 5 ∧ rwB (y.l 1) ∧ 4294967295 = 4294967295 ∧ 59 = 59 ∧ rwN (y.l 2) ∧ ([] : SW) = []) ∧ (((0 : Int) ≤ (0 : Int) ∧ (0 : Int) ≤ 65535) ∧ True) ∧ (Mm.mk (y.n 0) (↑(y.n 1).toNat : Int) (↑(y.n 2).toNat : Int) (y.l 1) (y.l 2) = fiF E (alF 2 t) RA.u ∧ 0 = (↑RA.u.o.length : Int)) ∧ okM (Mm.mk (y.n 0) (↑(y.n 1).toNat : Int) (↑(y.n 2).toNat : Int) (y.l 1) (y.l 2))))))))) := by kernel_rfl
set_option maxHeartbeats 8000000 in
theorem up_c (E : World) (f t : Int) (RA : AU) (z : PX) (hz : rgM z [mB 2, rowB, rowN] 0) (hp : (fun z => okM (Mm.mk (z.n 0) (z.n 1) (z.n 2) (z.l 1) (z.l 2)) ∧ z.n 2 = 0 ∧ (0 ≤ f ∧ f ≤ 4294967295) ∧ (0 ≤ t ∧ t ≤ 4294967295) ∧ UpI E f t (Mm.mk (z.n 0) (z.n 1) (z.n 2) (z.l 1) (z.l 2)) RA) z) : HD (pe E) 25 [.c (.ifc 36 0 0), .c (.i false .u32 f), .c (.i false .u32 t)] [mB 2, rowB, rowN] [mB 3, rowB, .g HOLE, rowN] (.c (.r .i64 0 65535)) (fun z y => ((Mm.mk (y.n 0) (y.n 1) (y.n 2) (y.l 1) (y.l 3)) = fiF E (alF 2 t) RA.u ∧ y.n 90000 = RA.u.o.length) ∧ okM (Mm.mk (y.n 0) (y.n 1) (y.n 2) (y.l 1) (y.l 3))) z := by
  refine HD.mk (by rfl) (fnTree_sound (P := pe E) (orcU_ok (RA := RA)) tab_ok tab_sz mixed 20000 Try.func25 (by decide) [.c (.ifc 36 0 0), .c (.i false .u32 f), .c (.i false .u32 t)] _) ⟨?_⟩
  rw [up_p]
  obtain ⟨hK, hz2, hf0, ht0, hU⟩ := hp
  have hf1 : flat [Sp.r .u8 0 255] = true := rfl
  have hf2 : flat [Sp.i .u32, Sp.i .i64, Sp.i .u32] = true := rfl
  have hf3 : flat [Sp.r .i64 0 255] = true := rfl
  have hr0 : Row [.r .u8 0 255] ([] : List C) := Row.nil
  have T1 : ((z.n 1).toNat : Int) = z.n 1 := Int.toNat_of_nonneg hK.b0
  have T2 : ((z.n 2).toNat : Int) = z.n 2 := Int.toNat_of_nonneg hK.n0
  have rb : Row [.r .u8 0 255] (z.l 1) := hz.2.1.2
  have rn : Row [.i .u32, .i .i64, .i .u32] (z.l 2) := hz.2.2.1.2
  simp only [T1, T2, al4 f hf0.1 (by omega), al2 t ht0.1 (by omega)]
  refine ⟨⟨by ((repeat' (first | exact trivial | with_reducible rfl | assumption | exact rfl | apply And.intro)) <;> omega), hK⟩, ?_⟩
  rintro y ⟨⟨⟨p1, p2, _⟩, ⟨_, q3⟩, ⟨_, q6⟩, _⟩, ⟨g1, _⟩, q1, v1⟩
  have S1 : ((y.n 1).toNat : Int) = y.n 1 := Int.toNat_of_nonneg p1
  have S2 : ((y.n 2).toNat : Int) = y.n 2 := Int.toNat_of_nonneg p2
  have hKy : okM (Mm.mk (y.n 0) (y.n 1) (y.n 2) (y.l 1) (y.l 2)) := by rw [q1]; exact hK
  have cy : y.n 2 = z.n 2 := congrArg Mm.nn q1
  have eS : y.n 90000 / 256 % 65536 = upS E f (Mm.mk (z.n 0) (z.n 1) (z.n 2) (z.l 1) (z.l 2)) := by unfold upS; rw [← v1]
  have eK : y.n 90000 % 256 = upK E f (Mm.mk (z.n 0) (z.n 1) (z.n 2) (z.l 1) (z.l 2)) := by unfold upK; rw [← v1]
  have bS : 0 ≤ upS E f (Mm.mk (z.n 0) (z.n 1) (z.n 2) (z.l 1) (z.l 2)) ∧ upS E f (Mm.mk (z.n 0) (z.n 1) (z.n 2) (z.l 1) (z.l 2)) ≤ 65535 := by rw [← eS]; omega
  have eA : upA f (Mm.mk (z.n 0) (z.n 1) (z.n 2) (z.l 1) (z.l 2)) = AU.mk (IntKind.u32.wrap (alF 4 f + 4)) (OU.mk (Mm.mk (z.n 0) (z.n 1) (z.n 2) (z.l 1) (z.l 2)) []) := rfl
  obtain ⟨h0, h16, h48, h36, h40, h129, h_⟩ := hU
  rw [eA] at h16 h48 h36 h40 h129
  simp only [S1, S2, eS1, eK1, eS, eK, q1, vals_nil]
  refine ⟨fun h => ?_, fun h => ?_⟩
  · have h : upS E f (Mm.mk (z.n 0) (z.n 1) (z.n 2) (z.l 1) (z.l 2)) = 0 := by have h0 := h; simp at h0; omega
    have hG := fi0 (E := E) (to := alF 2 t) (h0 h)
    have hL := ln0 (h0 h)
    ((repeat' (first | exact trivial | with_reducible rfl | assumption | exact rfl | apply And.intro)) <;> omega)
  · have h : upS E f (Mm.mk (z.n 0) (z.n 1) (z.n 2) (z.l 1) (z.l 2)) ≠ 0 := by intro h9; rw [h9] at h; exact absurd h (by decide)
    refine ⟨fun k => ?_, fun k1 => ⟨fun k => ?_, fun k2 => ⟨fun k => ?_, fun k3 => ⟨fun k => ?_, fun k4 => ⟨fun k => ?_, fun k5 => ?_⟩⟩⟩⟩⟩
    · have hRel := h16 h (by simpa using k)
      refine ⟨by ((repeat' (first | exact trivial | with_reducible rfl | assumption | exact rfl | apply And.intro)) <;> omega), ?_⟩
      rintro y1 ⟨hu1, _, hq, ⟨e2, e3⟩, hK2, hg2, hl2, hle2⟩
      obtain ⟨usy1, u4y1, _⟩ : (0 ≤ y1.n 3 ∧ y1.n 3 ≤ 65535) ∧ 0 ≤ y1.n 4 ∧ True := hu1.1
      obtain ⟨b1y1, b2y1, _⟩ : 0 ≤ y1.n 100001 ∧ 0 ≤ y1.n 100002 ∧ True := hu1.2.1
      have T1y1 : ((y1.n 100001).toNat : Int) = y1.n 100001 := Int.toNat_of_nonneg b1y1
      have T2y1 : ((y1.n 100002).toNat : Int) = y1.n 100002 := Int.toNat_of_nonneg b2y1
      have T4y1 : ((y1.n 4).toNat : Int) = y1.n 4 := Int.toNat_of_nonneg u4y1
      have roy1 : Row [.r .u8 0 255] (y1.l 5) := hu1.2.2.2.1.2
      have rby1 : Row [.r .u8 0 255] (y1.l 3) := hu1.2.2.1.2
      have rny1 : Row [.i .u32, .i .i64, .i .u32] (y1.l 6) := hu1.2.2.2.2.1.2
      have hR : (OU.mk (Mm.mk (y1.n 100000) (y1.n 100001) (y1.n 100002) (y1.l 3) (y1.l 6)) (vals (y1.l 5))) = RA.u := congrArg AU.u hq
      have hlR : y1.n 4 = (RA.u.o.length : Int) := by rw [← hR]; show _ = ((vals (y1.l 5)).length : Int); rw [vals_len]; omega
      simp only [T1y1, T2y1, T4y1]
      refine ⟨by ((repeat' (first | exact trivial | with_reducible rfl | assumption | exact rfl | apply And.intro)) <;> omega), ?_⟩
      rintro y2 ⟨hu2, _, ⟨hf, hn⟩, hK3, hle3⟩
      obtain ⟨usy2, u4y2, _⟩ : (0 ≤ y2.n 3 ∧ y2.n 3 ≤ 65535) ∧ 0 ≤ y2.n 4 ∧ True := hu2.1
      obtain ⟨b1y2, b2y2, _⟩ : 0 ≤ y2.n 100001 ∧ 0 ≤ y2.n 100002 ∧ True := hu2.2.1
      have T1y2 : ((y2.n 100001).toNat : Int) = y2.n 100001 := Int.toNat_of_nonneg b1y2
      have T2y2 : ((y2.n 100002).toNat : Int) = y2.n 100002 := Int.toNat_of_nonneg b2y2
      have T4y2 : ((y2.n 4).toNat : Int) = y2.n 4 := Int.toNat_of_nonneg u4y2
      have roy2 : Row [.r .u8 0 255] (y2.l 5) := hu2.2.2.2.1.2
      have rby2 : Row [.r .u8 0 255] (y2.l 3) := hu2.2.2.1.2
      have rny2 : Row [.i .u32, .i .i64, .i .u32] (y2.l 6) := hu2.2.2.2.2.1.2
      rw [e2, hR] at hf
      simp only [T1y2, T2y2, T4y2]
      ((repeat' (first | exact trivial | with_reducible rfl | assumption | exact rfl | apply And.intro)) <;> omega)
    · have hRel := h48 h (by simpa using k)
      refine ⟨by ((repeat' (first | exact trivial | with_reducible rfl | assumption | exact rfl | apply And.intro)) <;> omega), ?_⟩
      rintro y1 ⟨hu1, _, hq, ⟨e2, e3⟩, hK2, hg2, hl2, hle2⟩
      obtain ⟨usy1, u4y1, _⟩ : (0 ≤ y1.n 3 ∧ y1.n 3 ≤ 65535) ∧ 0 ≤ y1.n 4 ∧ True := hu1.1
      obtain ⟨b1y1, b2y1, _⟩ : 0 ≤ y1.n 100001 ∧ 0 ≤ y1.n 100002 ∧ True := hu1.2.1
      have T1y1 : ((y1.n 100001).toNat : Int) = y1.n 100001 := Int.toNat_of_nonneg b1y1
      have T2y1 : ((y1.n 100002).toNat : Int) = y1.n 100002 := Int.toNat_of_nonneg b2y1
      have T4y1 : ((y1.n 4).toNat : Int) = y1.n 4 := Int.toNat_of_nonneg u4y1
      have roy1 : Row [.r .u8 0 255] (y1.l 5) := hu1.2.2.2.1.2
      have rby1 : Row [.r .u8 0 255] (y1.l 3) := hu1.2.2.1.2
      have rny1 : Row [.i .u32, .i .i64, .i .u32] (y1.l 6) := hu1.2.2.2.2.1.2
      have hR : (OU.mk (Mm.mk (y1.n 100000) (y1.n 100001) (y1.n 100002) (y1.l 3) (y1.l 6)) (vals (y1.l 5))) = RA.u := congrArg AU.u hq
      have hlR : y1.n 4 = (RA.u.o.length : Int) := by rw [← hR]; show _ = ((vals (y1.l 5)).length : Int); rw [vals_len]; omega
      simp only [T1y1, T2y1, T4y1]
      refine ⟨by ((repeat' (first | exact trivial | with_reducible rfl | assumption | exact rfl | apply And.intro)) <;> omega), ?_⟩
      rintro y2 ⟨hu2, _, ⟨hf, hn⟩, hK3, hle3⟩
      obtain ⟨usy2, u4y2, _⟩ : (0 ≤ y2.n 3 ∧ y2.n 3 ≤ 65535) ∧ 0 ≤ y2.n 4 ∧ True := hu2.1
      obtain ⟨b1y2, b2y2, _⟩ : 0 ≤ y2.n 100001 ∧ 0 ≤ y2.n 100002 ∧ True := hu2.2.1
      have T1y2 : ((y2.n 100001).toNat : Int) = y2.n 100001 := Int.toNat_of_nonneg b1y2
      have T2y2 : ((y2.n 100002).toNat : Int) = y2.n 100002 := Int.toNat_of_nonneg b2y2
      have T4y2 : ((y2.n 4).toNat : Int) = y2.n 4 := Int.toNat_of_nonneg u4y2
      have roy2 : Row [.r .u8 0 255] (y2.l 5) := hu2.2.2.2.1.2
      have rby2 : Row [.r .u8 0 255] (y2.l 3) := hu2.2.2.1.2
      have rny2 : Row [.i .u32, .i .i64, .i .u32] (y2.l 6) := hu2.2.2.2.2.1.2
      rw [e2, hR] at hf
      simp only [T1y2, T2y2, T4y2]
      ((repeat' (first | exact trivial | with_reducible rfl | assumption | exact rfl | apply And.intro)) <;> omega)
    · have hRel := h36 h (by simpa using k)
      simp only [Bool.not_true]
      refine ⟨by ((repeat' (first | exact trivial | with_reducible rfl | assumption | exact rfl | apply And.intro)) <;> omega), ?_⟩
      rintro y1 ⟨hu1, _, hq, ⟨e2, e3⟩, hK2, hg2, hl2, hle2⟩
      obtain ⟨usy1, u4y1, _⟩ : (0 ≤ y1.n 3 ∧ y1.n 3 ≤ 65535) ∧ 0 ≤ y1.n 4 ∧ True := hu1.1
      obtain ⟨b1y1, b2y1, _⟩ : 0 ≤ y1.n 100001 ∧ 0 ≤ y1.n 100002 ∧ True := hu1.2.1
      have T1y1 : ((y1.n 100001).toNat : Int) = y1.n 100001 := Int.toNat_of_nonneg b1y1
      have T2y1 : ((y1.n 100002).toNat : Int) = y1.n 100002 := Int.toNat_of_nonneg b2y1
      have T4y1 : ((y1.n 4).toNat : Int) = y1.n 4 := Int.toNat_of_nonneg u4y1
      have roy1 : Row [.r .u8 0 255] (y1.l 5) := hu1.2.2.2.1.2
      have rby1 : Row [.r .u8 0 255] (y1.l 3) := hu1.2.2.1.2
      have rny1 : Row [.i .u32, .i .i64, .i .u32] (y1.l 6) := hu1.2.2.2.2.1.2
      have hR : (OU.mk (Mm.mk (y1.n 100000) (y1.n 100001) (y1.n 100002) (y1.l 3) (y1.l 6)) (vals (y1.l 5))) = RA.u := hq
      have hlR : y1.n 4 = (RA.u.o.length : Int) := by rw [← hR]; show _ = ((vals (y1.l 5)).length : Int); rw [vals_len]; omega
      simp only [T1y1, T2y1, T4y1]
      refine ⟨by ((repeat' (first | exact trivial | with_reducible rfl | assumption | exact rfl | apply And.intro)) <;> omega), ?_⟩
      rintro y2 ⟨hu2, _, ⟨hf, hn⟩, hK3, hle3⟩
      obtain ⟨usy2, u4y2, _⟩ : (0 ≤ y2.n 3 ∧ y2.n 3 ≤ 65535) ∧ 0 ≤ y2.n 4 ∧ True := hu2.1
      obtain ⟨b1y2, b2y2, _⟩ : 0 ≤ y2.n 100001 ∧ 0 ≤ y2.n 100002 ∧ True := hu2.2.1
      have T1y2 : ((y2.n 100001).toNat : Int) = y2.n 100001 := Int.toNat_of_nonneg b1y2
      have T2y2 : ((y2.n 100002).toNat : Int) = y2.n 100002 := Int.toNat_of_nonneg b2y2
      have T4y2 : ((y2.n 4).toNat : Int) = y2.n 4 := Int.toNat_of_nonneg u4y2
      have roy2 : Row [.r .u8 0 255] (y2.l 5) := hu2.2.2.2.1.2
      have rby2 : Row [.r .u8 0 255] (y2.l 3) := hu2.2.2.1.2
      have rny2 : Row [.i .u32, .i .i64, .i .u32] (y2.l 6) := hu2.2.2.2.2.1.2
      rw [e2, hR] at hf
      simp only [T1y2, T2y2, T4y2]
      ((repeat' (first | exact trivial | with_reducible rfl | assumption | exact rfl | apply And.intro)) <;> omega)
    · have hRel := h40 h (by simpa using k)
      simp only [Bool.not_false]
      refine ⟨by ((repeat' (first | exact trivial | with_reducible rfl | assumption | exact rfl | apply And.intro)) <;> omega), ?_⟩
      rintro y1 ⟨hu1, _, hq, ⟨e2, e3⟩, hK2, hg2, hl2, hle2⟩
      obtain ⟨usy1, u4y1, _⟩ : (0 ≤ y1.n 3 ∧ y1.n 3 ≤ 65535) ∧ 0 ≤ y1.n 4 ∧ True := hu1.1
      obtain ⟨b1y1, b2y1, _⟩ : 0 ≤ y1.n 100001 ∧ 0 ≤ y1.n 100002 ∧ True := hu1.2.1
      have T1y1 : ((y1.n 100001).toNat : Int) = y1.n 100001 := Int.toNat_of_nonneg b1y1
      have T2y1 : ((y1.n 100002).toNat : Int) = y1.n 100002 := Int.toNat_of_nonneg b2y1
      have T4y1 : ((y1.n 4).toNat : Int) = y1.n 4 := Int.toNat_of_nonneg u4y1
      have roy1 : Row [.r .u8 0 255] (y1.l 5) := hu1.2.2.2.1.2
      have rby1 : Row [.r .u8 0 255] (y1.l 3) := hu1.2.2.1.2
      have rny1 : Row [.i .u32, .i .i64, .i .u32] (y1.l 6) := hu1.2.2.2.2.1.2
      have hR : (OU.mk (Mm.mk (y1.n 100000) (y1.n 100001) (y1.n 100002) (y1.l 3) (y1.l 6)) (vals (y1.l 5))) = RA.u := hq
      have hlR : y1.n 4 = (RA.u.o.length : Int) := by rw [← hR]; show _ = ((vals (y1.l 5)).length : Int); rw [vals_len]; omega
      simp only [T1y1, T2y1, T4y1]
      refine ⟨by ((repeat' (first | exact trivial | with_reducible rfl | assumption | exact rfl | apply And.intro)) <;> omega), ?_⟩
      rintro y2 ⟨hu2, _, ⟨hf, hn⟩, hK3, hle3⟩
      obtain ⟨usy2, u4y2, _⟩ : (0 ≤ y2.n 3 ∧ y2.n 3 ≤ 65535) ∧ 0 ≤ y2.n 4 ∧ True := hu2.1
      obtain ⟨b1y2, b2y2, _⟩ : 0 ≤ y2.n 100001 ∧ 0 ≤ y2.n 100002 ∧ True := hu2.2.1
      have T1y2 : ((y2.n 100001).toNat : Int) = y2.n 100001 := Int.toNat_of_nonneg b1y2
      have T2y2 : ((y2.n 100002).toNat : Int) = y2.n 100002 := Int.toNat_of_nonneg b2y2
      have T4y2 : ((y2.n 4).toNat : Int) = y2.n 4 := Int.toNat_of_nonneg u4y2
      have roy2 : Row [.r .u8 0 255] (y2.l 5) := hu2.2.2.2.1.2
      have rby2 : Row [.r .u8 0 255] (y2.l 3) := hu2.2.2.1.2
      have rny2 : Row [.i .u32, .i .i64, .i .u32] (y2.l 6) := hu2.2.2.2.2.1.2
      rw [e2, hR] at hf
      simp only [T1y2, T2y2, T4y2]
      ((repeat' (first | exact trivial | with_reducible rfl | assumption | exact rfl | apply And.intro)) <;> omega)
    · have hRel := h129 h (by simpa using k)
      refine ⟨by ((repeat' (first | exact trivial | with_reducible rfl | assumption | exact rfl | apply And.intro)) <;> omega), ?_⟩
      rintro y1 ⟨hu1, _, hq, ⟨e2, e3⟩, hK2, hg2, hl2, hle2⟩
      obtain ⟨usy1, u4y1, _⟩ : (0 ≤ y1.n 3 ∧ y1.n 3 ≤ 65535) ∧ 0 ≤ y1.n 4 ∧ True := hu1.1
      obtain ⟨b1y1, b2y1, _⟩ : 0 ≤ y1.n 100001 ∧ 0 ≤ y1.n 100002 ∧ True := hu1.2.1
      have T1y1 : ((y1.n 100001).toNat : Int) = y1.n 100001 := Int.toNat_of_nonneg b1y1
      have T2y1 : ((y1.n 100002).toNat : Int) = y1.n 100002 := Int.toNat_of_nonneg b2y1
      have T4y1 : ((y1.n 4).toNat : Int) = y1.n 4 := Int.toNat_of_nonneg u4y1
      have roy1 : Row [.r .u8 0 255] (y1.l 5) := hu1.2.2.2.1.2
      have rby1 : Row [.r .u8 0 255] (y1.l 3) := hu1.2.2.1.2
      have rny1 : Row [.i .u32, .i .i64, .i .u32] (y1.l 6) := hu1.2.2.2.2.1.2
      have hR : (OU.mk (Mm.mk (y1.n 100000) (y1.n 100001) (y1.n 100002) (y1.l 3) (y1.l 6)) (vals (y1.l 5))) = RA.u := (congrArg AU.u hq).trans (congrArg AU.u hRel)
      have hlR : y1.n 4 = (RA.u.o.length : Int) := by rw [← hR]; show _ = ((vals (y1.l 5)).length : Int); rw [vals_len]; omega
      simp only [T1y1, T2y1, T4y1]
      refine ⟨by ((repeat' (first | exact trivial | with_reducible rfl | assumption | exact rfl | apply And.intro)) <;> omega), ?_⟩
      rintro y2 ⟨hu2, _, ⟨hf, hn⟩, hK3, hle3⟩
      obtain ⟨usy2, u4y2, _⟩ : (0 ≤ y2.n 3 ∧ y2.n 3 ≤ 65535) ∧ 0 ≤ y2.n 4 ∧ True := hu2.1
      obtain ⟨b1y2, b2y2, _⟩ : 0 ≤ y2.n 100001 ∧ 0 ≤ y2.n 100002 ∧ True := hu2.2.1
      have T1y2 : ((y2.n 100001).toNat : Int) = y2.n 100001 := Int.toNat_of_nonneg b1y2
      have T2y2 : ((y2.n 100002).toNat : Int) = y2.n 100002 := Int.toNat_of_nonneg b2y2
      have T4y2 : ((y2.n 4).toNat : Int) = y2.n 4 := Int.toNat_of_nonneg u4y2
      have roy2 : Row [.r .u8 0 255] (y2.l 5) := hu2.2.2.2.1.2
      have rby2 : Row [.r .u8 0 255] (y2.l 3) := hu2.2.2.1.2
      have rny2 : Row [.i .u32, .i .i64, .i .u32] (y2.l 6) := hu2.2.2.2.2.1.2
      rw [e2, hR] at hf
      simp only [T1y2, T2y2, T4y2]
      ((repeat' (first | exact trivial | with_reducible rfl | assumption | exact rfl | apply And.intro)) <;> omega)
    · have hG := fi0 (E := E) (to := alF 2 t) (h_ h (by simpa using k1) (by simpa using k2) (by simpa using k3) (by simpa using k4) (by simpa using k5))
      have hL := ln0 (h_ h (by simpa using k1) (by simpa using k2) (by simpa using k3) (by simpa using k4) (by simpa using k5))
      ((repeat' (first | exact trivial | with_reducible rfl | assumption | exact rfl | apply And.intro)) <;> omega)
end Go.Proofs.Ytabklphoccicmaa

