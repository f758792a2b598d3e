import Derived.Test.YtabklphoccicmaaRI
set_option linter.unusedVariables false
set_option linter.unusedSimpArgs false
namespace Go.Proofs.Ytabklphoccicmaa
open Go Go.Proofs Go.Proofs.Ytabklphoccicmaa.Ev Go.Proofs.Ytabklphoccicmaa.Ev.Ho Go.IntKind
set_option maxRecDepth 100000
noncomputable def ud_h0 (E : World) (f t : Int) (RA : AU) (z : PX) : Hd := ⟨5, anyH, (ud_td E), [(0, .c (.p 0 0)), (2, .r .u32 (0) (4294967295)), (9, .c (.p 3 0)), (10, .c (.p 4 0)), (11, .r .i64 (0) (255))], [mB 5, rowB, .g HOLE, mSt 0, mO' 0 6, rowN, rowI], fun y => (DfH E (alF 2 t) (upS E f (Mm.mk (z.n 0) (z.n 1) (z.n 2) (z.l 1) (z.l 2))) (y.n 91011) (y.n 300001) (OU.mk (Mm.mk (y.n 0) (y.n 1) (y.n 2) (y.l 1) (y.l 5)) (vals (y.l 6))) RA ∧ y.n 91002 = alF 2 t) ∧ (y.n 400001 = alF 2 t ∧ y.n 400002 = upS E f (Mm.mk (z.n 0) (z.n 1) (z.n 2) (z.l 1) (z.l 2))) ∧ okM (Mm.mk (y.n 0) (y.n 1) (y.n 2) (y.l 1) (y.l 5)) ∧ y.n 2 ≤ y.n 400003 ∧ (y.l 6).length = (y.n 400003).toNat ∧ y.n 400003 ≤ y.n 400002, fun y => (y.n 400002 - y.n 400003).toNat⟩
noncomputable def ud_hs (E : World) (f t : Int) (RA : AU) (z : PX) : List Hd := [ud_h0 E f t RA z]
theorem ud_pro (E : World) (f t : Int) (RA : AU) (z : PX) :
    (loopP (pe E) Try.f26 (endR ([mB 2, rowB, rowN] : List MB).length [mB 3, rowB, .g HOLE, rowN] (.c (.r .i64 0 65535)) (fun z y => ((Mm.mk (y.n 0) (y.n 1) (y.n 2) (y.l 1) (y.l 3)) = fiF E (alF 2 t) RA.u ∧ y.n 90000 = RA.u.o.length) ∧ okM (Mm.mk (y.n 0) (y.n 1) (y.n 2) (y.l 1) (y.l 3))) z) (headR ([mB 2, rowB, rowN] : List MB).length Try.f26.ntmps none (ud_hs E f t RA z)) (run (pe E) (orcV E RA) (tabL fns) 20000 (2 ^ 200 - 1) [.code (Try.f26.body.getD .skip)] ⟨Try.f26.ntmps, mkFrGo (Tr.mk 12) 0 [.c (.p 0 0), .c (.i false .u32 f), .c (.i false .u32 t)]⟩ (mkM z [] [mB 2, rowB, rowN] 0))) =
     (((eM (z.l 1) (z.l 2)) ∧ okM (Mm.mk (z.n 0) (↑(z.n 1).toNat : Int) (↑(z.n 2).toNat : Int) (z.l 1) (z.l 2))) ∧ ∀ (y : PX), aM y 2 ∧ ((0 ≤ y.n 90000 ∧ y.n 90000 ≤ 4294967295) ∧ True) ∧ Mm.mk (y.n 0) (y.n 1) (y.n 2) (y.l 1) (y.l 2) = Mm.mk (z.n 0) (↑(z.n 1).toNat : Int) (↑(z.n 2).toNat : Int) (z.l 1) (z.l 2) ∧ y.n 90000 = rdv4 E (u32.wrap (f - f.tmod 4)) (Mm.mk (z.n 0) (↑(z.n 1).toNat : Int) (↑(z.n 2).toNat : Int) (z.l 1) (z.l 2)) → ((i64.wrap ((u32.wrap ((y.n 90000).tdiv 256)).tmod 65536) == 0) = true → (44 = 44 ∧ True ∧ 5 = 5 ∧ rwB (y.l 1) ∧ 4294967295 = 4294967295 ∧ 59 = 59 ∧ rwN (y.l 2) ∧ ([] : SW) = []) ∧ (((0 : Int) ≤ (0 : Int) ∧ (0 : Int) ≤ 65535) ∧ True) ∧ (Mm.mk (y.n 0) (↑(y.n 1).toNat : Int) (↑(y.n 2).toNat : Int) (y.l 1) (y.l 2) = fiF E (alF 2 t) RA.u ∧ 0 = (↑RA.u.o.length : Int)) ∧ okM (Mm.mk (y.n 0) (↑(y.n 1).toNat : Int) (↑(y.n 2).toNat : Int) (y.l 1) (y.l 2))) ∧ ((i64.wrap ((u32.wrap ((y.n 90000).tdiv 256)).tmod 65536) == 0) = false → (((y.n 90000).tmod (256 : Int) == 16) = true → ((72 = 72 ∧ True ∧ iO (i64.wrap ((u32.wrap ((y.n 90000).tdiv 256)).tmod 65536)) [] (y.l 1) (y.l 2)) ∧ okM (Mm.mk (y.n 0) (↑(y.n 1).toNat : Int) (↑(y.n 2).toNat : Int) (y.l 1) (y.l 2)) ∧ (↑(y.n 2).toNat : Int) ≤ (200000 : Int) + 0 ∧ 0 = 0 ∧ 0 ≤ i64.wrap ((u32.wrap ((y.n 90000).tdiv 256)).tmod 65536) ∧ (0 : Int) ≤ 0 ∧ PcI E (u32.wrap (t - t.tmod 2)) (i64.wrap ((u32.wrap ((y.n 90000).tdiv 256)).tmod 65536)) (AU.mk (u32.wrap (u32.wrap (f - f.tmod 4) + 4)) (OU.mk (Mm.mk (y.n 0) (↑(y.n 1).toNat : Int) (↑(y.n 2).toNat : Int) (y.l 1) (y.l 2)) (vals []))) RA) ∧ ∀ (y_1 : PX), aD y_1 ∧ True ∧ AU.mk (y_1.n 1) (OU.mk (Mm.mk (y_1.n 200000) (y_1.n 200001) (y_1.n 200002) (y_1.l 4) (y_1.l 7)) (vals (y_1.l 6))) = RA ∧ (y_1.n 100001 = u32.wrap (t - t.tmod 2) ∧ y_1.n 100002 = i64.wrap ((u32.wrap ((y.n 90000).tdiv 256)).tmod 65536)) ∧ okM (Mm.mk (y_1.n 200000) (y_1.n 200001) (y_1.n 200002) (y_1.l 4) (y_1.l 7)) ∧ y_1.n 200002 + 0 ≤ (↑(y.n 2).toNat : Int) + y_1.n 100003 ∧ (y_1.l 6).length = (y_1.n 100003).toNat ∧ y_1.n 100003 ≤ y_1.n 100002 → (((↑(y_1.n 100003).toNat : Int).tmod (2 : Int) == 1) = true → inB (i64.wrap ((↑(y_1.n 100003).toNat : Int) - 1)) (y_1.n 100003).toNat = true ∧ rOk (y_1.l 6) (i64.wrap ((↑(y_1.n 100003).toNat : Int) - 1)).toNat (EK.i i64) = true ∧ ((eM (y_1.l 4) (y_1.l 7)) ∧ okM (Mm.mk (y_1.n 200000) (↑(y_1.n 200001).toNat : Int) (↑(y_1.n 200002).toNat : Int) (y_1.l 4) (y_1.l 7))) ∧ ∀ (y : PX), aM y 3 ∧ True ∧ grM (Mm.mk (y_1.n 200000) (↑(y_1.n 200001).toNat : Int) (↑(y_1.n 200002).toNat : Int) (y_1.l 4) (y_1.l 7)) (Mm.mk (y.n 0) (y.n 1) (y.n 2) (y.l 1) (y.l 3)) ∧ Mm.mk (y.n 0) (y.n 1) (y.n 2) (y.l 1) (y.l 3) = wrm2 E (u32.wrap (u32.wrap (t - t.tmod 2) + u32.wrap (i64.wrap ((↑(y_1.n 100003).toNat : Int) - 1)))) (u32.wrap (rI (y_1.l 6) (i64.wrap ((↑(y_1.n 100003).toNat : Int) - 1)).toNat)) (Mm.mk (y_1.n 200000) (↑(y_1.n 200001).toNat : Int) (↑(y_1.n 200002).toNat : Int) (y_1.l 4) (y_1.l 7)) → (44 = 44 ∧ True ∧ 5 = 5 ∧ rwB (y.l 1) ∧ 4294967295 = 4294967295 ∧ 59 = 59 ∧ rwN (y.l 3) ∧ ([] : SW) = []) ∧ ((0 ≤ (↑(y_1.n 100003).toNat : Int) ∧ (↑(y_1.n 100003).toNat : Int) ≤ 65535) ∧ True) ∧ (Mm.mk (y.n 0) (↑(y.n 1).toNat : Int) (↑(y.n 2).toNat : Int) (y.l 1) (y.l 3) = fiF E (alF 2 t) RA.u ∧ (↑(y_1.n 100003).toNat : Int) = (↑RA.u.o.length : Int)) ∧ okM (Mm.mk (y.n 0) (↑(y.n 1).toNat : Int) (↑(y.n 2).toNat : Int) (y.l 1) (y.l 3))) ∧ (((↑(y_1.n 100003).toNat : Int).tmod (2 : Int) == 1) = false → (44 = 44 ∧ True ∧ 5 = 5 ∧ rwB (y_1.l 4) ∧ 4294967295 = 4294967295 ∧ 59 = 59 ∧ rwN (y_1.l 7) ∧ ([] : SW) = []) ∧ ((0 ≤ (↑(y_1.n 100003).toNat : Int) ∧ (↑(y_1.n 100003).toNat : Int) ≤ 65535) ∧ True) ∧ (Mm.mk (y_1.n 200000) (↑(y_1.n 200001).toNat : Int) (↑(y_1.n 200002).toNat : Int) (y_1.l 4) (y_1.l 7) = fiF E (alF 2 t) RA.u ∧ (↑(y_1.n 100003).toNat : Int) = (↑RA.u.o.length : Int)) ∧ okM (Mm.mk (y_1.n 200000) (↑(y_1.n 200001).toNat : Int) (↑(y_1.n 200002).toNat : Int) (y_1.l 4) (y_1.l 7)))) ∧ (((y.n 90000).tmod (256 : Int) == 16) = false → (((y.n 90000).tmod (256 : Int) == 48) = true → ((72 = 72 ∧ True ∧ iO (i64.wrap ((u32.wrap ((y.n 90000).tdiv 256)).tmod 65536)) [] (y.l 1) (y.l 2)) ∧ okM (Mm.mk (y.n 0) (↑(y.n 1).toNat : Int) (↑(y.n 2).toNat : Int) (y.l 1) (y.l 2)) ∧ (↑(y.n 2).toNat : Int) ≤ (200000 : Int) + 0 ∧ 0 = 0 ∧ 0 ≤ i64.wrap ((u32.wrap ((y.n 90000).tdiv 256)).tmod 65536) ∧ (0 : Int) ≤ 0 ∧ RuI E (u32.wrap (t - t.tmod 2)) (i64.wrap ((u32.wrap ((y.n 90000).tdiv 256)).tmod 65536)) (AU.mk (u32.wrap (u32.wrap (f - f.tmod 4) + 4)) (OU.mk (Mm.mk (y.n 0) (↑(y.n 1).toNat : Int) (↑(y.n 2).toNat : Int) (y.l 1) (y.l 2)) (vals []))) RA) ∧ ∀ (y_1 : PX), aD y_1 ∧ True ∧ AU.mk (y_1.n 1) (OU.mk (Mm.mk (y_1.n 200000) (y_1.n 200001) (y_1.n 200002) (y_1.l 4) (y_1.l 7)) (vals (y_1.l 6))) = RA ∧ (y_1.n 100001 = u32.wrap (t - t.tmod 2) ∧ y_1.n 100002 = i64.wrap ((u32.wrap ((y.n 90000).tdiv 256)).tmod 65536)) ∧ okM (Mm.mk (y_1.n 200000) (y_1.n 200001) (y_1.n 200002) (y_1.l 4) (y_1.l 7)) ∧ y_1.n 200002 + 0 ≤ (↑(y.n 2).toNat : Int) + y_1.n 100003 ∧ (y_1.l 6).length = (y_1.n 100003).toNat ∧ y_1.n 100003 ≤ y_1.n 100002 → (((↑(y_1.n 100003).toNat : Int).tmod (2 : Int) == 1) = true → inB (i64.wrap ((↑(y_1.n 100003).toNat : Int) - 1)) (y_1.n 100003).toNat = true ∧ rOk (y_1.l 6) (i64.wrap ((↑(y_1.n 100003).toNat : Int) - 1)).toNat (EK.i i64) = true ∧ ((eM (y_1.l 4) (y_1.l 7)) ∧ okM (Mm.mk (y_1.n 200000) (↑(y_1.n 200001).toNat : Int) (↑(y_1.n 200002).toNat : Int) (y_1.l 4) (y_1.l 7))) ∧ ∀ (y : PX), aM y 3 ∧ True ∧ grM (Mm.mk (y_1.n 200000) (↑(y_1.n 200001).toNat : Int) (↑(y_1.n 200002).toNat : Int) (y_1.l 4) (y_1.l 7)) (Mm.mk (y.n 0) (y.n 1) (y.n 2) (y.l 1) (y.l 3)) ∧ Mm.mk (y.n 0) (y.n 1) (y.n 2) (y.l 1) (y.l 3) = wrm2 E (u32.wrap (u32.wrap (t - t.tmod 2) + u32.wrap (i64.wrap ((↑(y_1.n 100003).toNat : Int) - 1)))) (u32.wrap (rI (y_1.l 6) (i64.wrap ((↑(y_1.n 100003).toNat : Int) - 1)).toNat)) (Mm.mk (y_1.n 200000) (↑(y_1.n 200001).toNat : Int) (↑(y_1.n 200002).toNat : Int) (y_1.l 4) (y_1.l 7)) → (44 = 44 ∧ True ∧ 5 = 5 ∧ rwB (y.l 1) ∧ 4294967295 = 4294967295 ∧ 59 = 59 ∧ rwN (y.l 3) ∧ ([] : SW) = []) ∧ ((0 ≤ (↑(y_1.n 100003).toNat : Int) ∧ (↑(y_1.n 100003).toNat : Int) ≤ 65535) ∧ True) ∧ (Mm.mk (y.n 0) (↑(y.n 1).toNat : Int) (↑(y.n 2).toNat : Int) (y.l 1) (y.l 3) = fiF E (alF 2 t) RA.u ∧ (↑(y_1.n 100003).toNat : Int) = (↑RA.u.o.length : Int)) ∧ okM (Mm.mk (y.n 0) (↑(y.n 1).toNat : Int) (↑(y.n 2).toNat : Int) (y.l 1) (y.l 3))) ∧ (((↑(y_1.n 100003).toNat : Int).tmod (2 : Int) == 1) = false → (44 = 44 ∧ True ∧ 5 = 5 ∧ rwB (y_1.l 4) ∧ 4294967295 = 4294967295 ∧ 59 = 59 ∧ rwN (y_1.l 7) ∧ ([] : SW) = []) ∧ ((0 ≤ (↑(y_1.n 100003).toNat : Int) ∧ (↑(y_1.n 100003).toNat : Int) ≤ 65535) ∧ True) ∧ (Mm.mk (y_1.n 200000) (↑(y_1.n 200001).toNat : Int) (↑(y_1.n 200002).toNat : Int) (y_1.l 4) (y_1.l 7) = fiF E (alF 2 t) RA.u ∧ (↑(y_1.n 100003).toNat : Int) = (↑RA.u.o.length : Int)) ∧ okM (Mm.mk (y_1.n 200000) (↑(y_1.n 200001).toNat : Int) (↑(y_1.n 200002).toNat : Int) (y_1.l 4) (y_1.l 7)))) ∧ (((y.n 90000).tmod (256 : Int) == 48) = false → (((y.n 90000).tmod (256 : Int) == 36) = true → ((72 = 72 ∧ True ∧ iO (i64.wrap ((u32.wrap ((y.n 90000).tdiv 256)).tmod 65536)) [] (y.l 1) (y.l 2)) ∧ okM (Mm.mk (y.n 0) (↑(y.n 1).toNat : Int) (↑(y.n 2).toNat : Int) (y.l 1) (y.l 2)) ∧ (↑(y.n 2).toNat : Int) ≤ (200000 : Int) + 0 ∧ 0 = 0 ∧ 0 ≤ i64.wrap ((u32.wrap ((y.n 90000).tdiv 256)).tmod 65536) ∧ (0 : Int) ≤ 0 ∧ CdI E (u32.wrap (t - t.tmod 2)) (i64.wrap ((u32.wrap ((y.n 90000).tdiv 256)).tmod 65536)) ((y.n 90000).tmod (16 : Int) == 8) (AU.mk (u32.wrap (u32.wrap (f - f.tmod 4) + 4)) (OU.mk (Mm.mk (y.n 0) (↑(y.n 1).toNat : Int) (↑(y.n 2).toNat : Int) (y.l 1) (y.l 2)) (vals []))) RA.u) ∧ ∀ (y_1 : PX), aD y_1 ∧ True ∧ OU.mk (Mm.mk (y_1.n 200000) (y_1.n 200001) (y_1.n 200002) (y_1.l 4) (y_1.l 7)) (vals (y_1.l 6)) = RA.u ∧ (y_1.n 100001 = u32.wrap (t - t.tmod 2) ∧ y_1.n 100002 = i64.wrap ((u32.wrap ((y.n 90000).tdiv 256)).tmod 65536)) ∧ okM (Mm.mk (y_1.n 200000) (y_1.n 200001) (y_1.n 200002) (y_1.l 4) (y_1.l 7)) ∧ y_1.n 200002 + 0 ≤ (↑(y.n 2).toNat : Int) + y_1.n 100003 ∧ (y_1.l 6).length = (y_1.n 100003).toNat ∧ y_1.n 100003 ≤ y_1.n 100002 → (((↑(y_1.n 100003).toNat : Int).tmod (2 : Int) == 1) = true → inB (i64.wrap ((↑(y_1.n 100003).toNat : Int) - 1)) (y_1.n 100003).toNat = true ∧ rOk (y_1.l 6) (i64.wrap ((↑(y_1.n 100003).toNat : Int) - 1)).toNat (EK.i i64) = true ∧ ((eM (y_1.l 4) (y_1.l 7)) ∧ okM (Mm.mk (y_1.n 200000) (↑(y_1.n 200001).toNat : Int) (↑(y_1.n 200002).toNat : Int) (y_1.l 4) (y_1.l 7))) ∧ ∀ (y : PX), aM y 3 ∧ True ∧ grM (Mm.mk (y_1.n 200000) (↑(y_1.n 200001).toNat : Int) (↑(y_1.n 200002).toNat : Int) (y_1.l 4) (y_1.l 7)) (Mm.mk (y.n 0) (y.n 1) (y.n 2) (y.l 1) (y.l 3)) ∧ Mm.mk (y.n 0) (y.n 1) (y.n 2) (y.l 1) (y.l 3) = wrm2 E (u32.wrap (u32.wrap (t - t.tmod 2) + u32.wrap (i64.wrap ((↑(y_1.n 100003).toNat : Int) - 1)))) (u32.wrap (rI (y_1.l 6) (i64.wrap ((↑(y_1.n 100003).toNat : Int) - 1)).toNat)) (Mm.mk (y_1.n 200000) (↑(y_1.n 200001).toNat : Int) (↑(y_1.n 200002).toNat : Int) (y_1.l 4) (y_1.l 7)) → (44 = 44 ∧ True ∧ 5 = 5 ∧ rwB (y.l 1) ∧ 4294967295 = 4294967295 ∧ 59 = 59 ∧ rwN (y.l 3) ∧ ([] : SW) = []) ∧ ((0 ≤ (↑(y_1.n 100003).toNat : Int) ∧ (↑(y_1.n 100003).toNat : Int) ≤ 65535) ∧ True) ∧ (Mm.mk (y.n 0) (↑(y.n 1).toNat : Int) (↑(y.n 2).toNat : Int) (y.l 1) (y.l 3) = fiF E (alF 2 t) RA.u ∧ (↑(y_1.n 100003).toNat : Int) = (↑RA.u.o.length : Int)) ∧ okM (Mm.mk (y.n 0) (↑(y.n 1).toNat : Int) (↑(y.n 2).toNat : Int) (y.l 1) (y.l 3))) ∧ (((↑(y_1.n 100003).toNat : Int).tmod (2 : Int) == 1) = false → (44 = 44 ∧ True ∧ 5 = 5 ∧ rwB (y_1.l 4) ∧ 4294967295 = 4294967295 ∧ 59 = 59 ∧ rwN (y_1.l 7) ∧ ([] : SW) = []) ∧ ((0 ≤ (↑(y_1.n 100003).toNat : Int) ∧ (↑(y_1.n 100003).toNat : Int) ≤ 65535) ∧ True) ∧ (Mm.mk (y_1.n 200000) (↑(y_1.n 200001).toNat : Int) (↑(y_1.n 200002).toNat : Int) (y_1.l 4) (y_1.l 7) = fiF E (alF 2 t) RA.u ∧ (↑(y_1.n 100003).toNat : Int) = (↑RA.u.o.length : Int)) ∧ okM (Mm.mk (y_1.n 200000) (↑(y_1.n 200001).toNat : Int) (↑(y_1.n 200002).toNat : Int) (y_1.l 4) (y_1.l 7)))) ∧ (((y.n 90000).tmod (256 : Int) == 36) = false → (((y.n 90000).tmod (256 : Int) == 40) = true → ((72 = 72 ∧ True ∧ iO (i64.wrap ((u32.wrap ((y.n 90000).tdiv 256)).tmod 65536)) [] (y.l 1) (y.l 2)) ∧ okM (Mm.mk (y.n 0) (↑(y.n 1).toNat : Int) (↑(y.n 2).toNat : Int) (y.l 1) (y.l 2)) ∧ (↑(y.n 2).toNat : Int) ≤ (200000 : Int) + 0 ∧ 0 = 0 ∧ 0 ≤ i64.wrap ((u32.wrap ((y.n 90000).tdiv 256)).tmod 65536) ∧ (0 : Int) ≤ 0 ∧ CdI E (u32.wrap (t - t.tmod 2)) (i64.wrap ((u32.wrap ((y.n 90000).tdiv 256)).tmod 65536)) ((y.n 90000).tmod (16 : Int) == 8) (AU.mk (u32.wrap (u32.wrap (f - f.tmod 4) + 4)) (OU.mk (Mm.mk (y.n 0) (↑(y.n 1).toNat : Int) (↑(y.n 2).toNat : Int) (y.l 1) (y.l 2)) (vals []))) RA.u) ∧ ∀ (y_1 : PX), aD y_1 ∧ True ∧ OU.mk (Mm.mk (y_1.n 200000) (y_1.n 200001) (y_1.n 200002) (y_1.l 4) (y_1.l 7)) (vals (y_1.l 6)) = RA.u ∧ (y_1.n 100001 = u32.wrap (t - t.tmod 2) ∧ y_1.n 100002 = i64.wrap ((u32.wrap ((y.n 90000).tdiv 256)).tmod 65536)) ∧ okM (Mm.mk (y_1.n 200000) (y_1.n 200001) (y_1.n 200002) (y_1.l 4) (y_1.l 7)) ∧ y_1.n 200002 + 0 ≤ (↑(y.n 2).toNat : Int) + y_1.n 100003 ∧ (y_1.l 6).length = (y_1.n 100003).toNat ∧ y_1.n 100003 ≤ y_1.n 100002 → (((↑(y_1.n 100003).toNat : Int).tmod (2 : Int) == 1) = true → inB (i64.wrap ((↑(y_1.n 100003).toNat : Int) - 1)) (y_1.n 100003).toNat = true ∧ rOk (y_1.l 6) (i64.wrap ((↑(y_1.n 100003).toNat : Int) - 1)).toNat (EK.i i64) = true ∧ ((eM (y_1.l 4) (y_1.l 7)) ∧ okM (Mm.mk (y_1.n 200000) (↑(y_1.n 200001).toNat : Int) (↑(y_1.n 200002).toNat : Int) (y_1.l 4) (y_1.l 7))) ∧ ∀ (y : PX), aM y 3 ∧ True ∧ grM (Mm.mk (y_1.n 200000) (↑(y_1.n 200001).toNat : Int) (↑(y_1.n 200002).toNat : Int) (y_1.l 4) (y_1.l 7)) (Mm.mk (y.n 0) (y.n 1) (y.n 2) (y.l 1) (y.l 3)) ∧ Mm.mk (y.n 0) (y.n 1) (y.n 2) (y.l 1) (y.l 3) = wrm2 E (u32.wrap (u32.wrap (t - t.tmod 2) + u32.wrap (i64.wrap ((↑(y_1.n 100003).toNat : Int) - 1)))) (u32.wrap (rI (y_1.l 6) (i64.wrap ((↑(y_1.n 100003).toNat : Int) - 1)).toNat)) (Mm.mk (y_1.n 200000) (↑(y_1.n 200001).toNat : Int) (↑(y_1.n 200002).toNat : Int) (y_1.l 4) (y_1.l 7)) → (44 = 44 ∧ True ∧ 5 = 5 ∧ rwB (y.l 1) ∧ 4294967295 = 4294967295 ∧ 59 = 59 ∧ rwN (y.l 3) ∧ ([] : SW) = []) ∧ ((0 ≤ (↑(y_1.n 100003).toNat : Int) ∧ (↑(y_1.n 100003).toNat : Int) ≤ 65535) ∧ True) ∧ (Mm.mk (y.n 0) (↑(y.n 1).toNat : Int) (↑(y.n 2).toNat : Int) (y.l 1) (y.l 3) = fiF E (alF 2 t) RA.u ∧ (↑(y_1.n 100003).toNat : Int) = (↑RA.u.o.length : Int)) ∧ okM (Mm.mk (y.n 0) (↑(y.n 1).toNat : Int) (↑(y.n 2).toNat : Int) (y.l 1) (y.l 3))) ∧ (((↑(y_1.n 100003).toNat : Int).tmod (2 : Int) == 1) = false → (44 = 44 ∧ True ∧ 5 = 5 ∧ rwB (y_1.l 4) ∧ 4294967295 = 4294967295 ∧ 59 = 59 ∧ rwN (y_1.l 7) ∧ ([] : SW) = []) ∧ ((0 ≤ (↑(y_1.n 100003).toNat : Int) ∧ (↑(y_1.n 100003).toNat : Int) ≤ 65535) ∧ True) ∧ (Mm.mk (y_1.n 200000) (↑(y_1.n 200001).toNat : Int) (↑(y_1.n 200002).toNat : Int) (y_1.l 4) (y_1.l 7) = fiF E (alF 2 t) RA.u ∧ (↑(y_1.n 100003).toNat : Int) = (↑RA.u.o.length : Int)) ∧ okM (Mm.mk (y_1.n 200000) (↑(y_1.n 200001).toNat : Int) (↑(y_1.n 200002).toNat : Int) (y_1.l 4) (y_1.l 7)))) ∧ (((y.n 90000).tmod (256 : Int) == 40) = false → (((y.n 90000).tmod (256 : Int) == 129) = true → ud_td E = ud_td E ∧ 109 = 109 ∧ (True ∧ ((0 ≤ u32.wrap (t - t.tmod 2) ∧ u32.wrap (t - t.tmod 2) ≤ 4294967295) ∧ True) ∧ True ∧ True ∧ (((0 : Int) ≤ (0 : Int) ∧ (0 : Int) ≤ 255) ∧ True) ∧ True) ∧ (44 = 44 ∧ True ∧ 5 = 5 ∧ rwB (y.l 1) ∧ 4294967295 = 4294967295 ∧ 72 = 72 ∧ True ∧ 76 = 76 ∧ ((0 ≤ i64.wrap ((u32.wrap ((y.n 90000).tdiv 256)).tmod 65536) ∧ i64.wrap ((u32.wrap ((y.n 90000).tdiv 256)).tmod 65536) ≤ 65535) ∧ True) ∧ 59 = 59 ∧ rwN (y.l 2) ∧ 3 = 3 ∧ rwI [] ∧ ([] : SW) = []) ∧ ((DfH E (alF 2 t) (upS E f (Mm.mk (z.n 0) (z.n 1) (z.n 2) (z.l 1) (z.l 2))) 0 (u32.wrap (u32.wrap (f - f.tmod 4) + 4)) (OU.mk (Mm.mk (y.n 0) (↑(y.n 1).toNat : Int) (↑(y.n 2).toNat : Int) (y.l 1) (y.l 2)) (vals [])) RA ∧ u32.wrap (t - t.tmod 2) = alF 2 t) ∧ (u32.wrap (t - t.tmod 2) = alF 2 t ∧ i64.wrap ((u32.wrap ((y.n 90000).tdiv 256)).tmod 65536) = upS E f (Mm.mk (z.n 0) (z.n 1) (z.n 2) (z.l 1) (z.l 2))) ∧ okM (Mm.mk (y.n 0) (↑(y.n 1).toNat : Int) (↑(y.n 2).toNat : Int) (y.l 1) (y.l 2)) ∧ (↑(y.n 2).toNat : Int) ≤ 0 ∧ 0 = 0 ∧ 0 ≤ i64.wrap ((u32.wrap ((y.n 90000).tdiv 256)).tmod 65536)) ∧ True) ∧ (((y.n 90000).tmod (256 : Int) == 129) = false → (44 = 44 ∧ True ∧ 5 = 5 ∧ rwB (y.l 1) ∧ 4294967295 = 4294967295 ∧ 59 = 59 ∧ rwN (y.l 2) ∧ ([] : SW) = []) ∧ (((0 : Int) ≤ (0 : Int) ∧ (0 : Int) ≤ 65535) ∧ True) ∧ (Mm.mk (y.n 0) (↑(y.n 1).toNat : Int) (↑(y.n 2).toNat : Int) (y.l 1) (y.l 2) = fiF E (alF 2 t) RA.u ∧ 0 = (↑RA.u.o.length : Int)) ∧ okM (Mm.mk (y.n 0) (↑(y.n 1).toNat : Int) (↑(y.n 2).toNat : Int) (y.l 1) (y.l 2))))))))) := by kernel_rfl
theorem ud_r0 (E : World) (f t : Int) (RA : AU) (z : PX) (y : PX) :
    (loopP (pe E) Try.f26 (endR ([mB 2, rowB, rowN] : List MB).length [mB 3, rowB, .g HOLE, rowN] (.c (.r .i64 0 65535)) (fun z y => ((Mm.mk (y.n 0) (y.n 1) (y.n 2) (y.l 1) (y.l 3)) = fiF E (alF 2 t) RA.u ∧ y.n 90000 = RA.u.o.length) ∧ okM (Mm.mk (y.n 0) (y.n 1) (y.n 2) (y.l 1) (y.l 3))) z) (headR ([mB 2, rowB, rowN] : List MB).length Try.f26.ntmps (some ((fun y => (y.n 400002 - y.n 400003).toNat) y)) (ud_hs E f t RA z))  (run (pe E) (orcV E RA) (tabL fns) 20000 (2 ^ 200 - 1) (ud_td E) (mkL Try.f26.ntmps (slC y [(0, .c (.p 0 0)), (2, .r .u32 (0) (4294967295)), (9, .c (.p 3 0)), (10, .c (.p 4 0)), (11, .r .i64 (0) (255))])) (mkM y [] [mB 5, rowB, .g HOLE, mSt 0, mO' 0 6, rowN, rowI] 0))) =
     (((!decide ((↑(y.n 400003).toNat : Int) ≥ y.n 400002)) = true → ((eM (y.l 1) (y.l 5)) ∧ okM (Mm.mk (y.n 0) (↑(y.n 1).toNat : Int) (↑(y.n 2).toNat : Int) (y.l 1) (y.l 5))) ∧ ∀ (y_1 : PX), aM y_1 2 ∧ ((0 ≤ y_1.n 90000 ∧ y_1.n 90000 ≤ 255) ∧ True) ∧ Mm.mk (y_1.n 0) (y_1.n 1) (y_1.n 2) (y_1.l 1) (y_1.l 2) = Mm.mk (y.n 0) (↑(y.n 1).toNat : Int) (↑(y.n 2).toNat : Int) (y.l 1) (y.l 5) ∧ y_1.n 90000 = rdv1 E (y.n 300001) (Mm.mk (y.n 0) (↑(y.n 1).toNat : Int) (↑(y.n 2).toNat : Int) (y.l 1) (y.l 5)) → ((iO (y.n 400002) (y.l 6) (y_1.l 1) (y_1.l 2)) ∧ okM (Mm.mk (y_1.n 0) (↑(y_1.n 1).toNat : Int) (↑(y_1.n 2).toNat : Int) (y_1.l 1) (y_1.l 2)) ∧ (↑(y_1.n 2).toNat : Int) ≤ 400000 ∧ (y.l 6).length = (↑(y.n 400003).toNat : Int).toNat ∧ (↑(y.n 400003).toNat : Int) ≤ y.n 400002 ∧ 0 ≤ (i64.wrap (y.n 91011 + i64.wrap (y_1.n 90000))).tmod 256 ∧ (i64.wrap (y.n 91011 + i64.wrap (y_1.n 90000))).tmod (256 : Int) ≤ 255) ∧ ∀ (y_2 : PX), aO y_2 ∧ True ∧ OU.mk (Mm.mk (y_2.n 100000) (y_2.n 100001) (y_2.n 100002) (y_2.l 3) (y_2.l 6)) (vals (y_2.l 5)) = gvF E (y.n 400001) (y.n 400002) ((i64.wrap (y.n 91011 + i64.wrap (y_1.n 90000))).tmod 256) (OU.mk (Mm.mk (y_1.n 0) (↑(y_1.n 1).toNat : Int) (↑(y_1.n 2).toNat : Int) (y_1.l 1) (y_1.l 2)) (vals (y.l 6))) ∧ (y_2.n 1 = y.n 400001 ∧ y_2.n 2 = y.n 400002) ∧ okM (Mm.mk (y_2.n 100000) (y_2.n 100001) (y_2.n 100002) (y_2.l 3) (y_2.l 6)) ∧ y_2.n 100002 + (↑(y.n 400003).toNat : Int) ≤ (↑(y_1.n 2).toNat : Int) + y_2.n 3 ∧ (y_2.l 5).length = (y_2.n 3).toNat ∧ y_2.n 3 ≤ y_2.n 2 → ud_td E = ud_td E ∧ 109 = 109 ∧ (True ∧ ((0 ≤ y.n 91002 ∧ y.n 91002 ≤ 4294967295) ∧ True) ∧ True ∧ True ∧ ((0 ≤ (i64.wrap (y.n 91011 + i64.wrap (y_1.n 90000))).tmod 256 ∧ (i64.wrap (y.n 91011 + i64.wrap (y_1.n 90000))).tmod (256 : Int) ≤ 255) ∧ True) ∧ True) ∧ (44 = 44 ∧ True ∧ 5 = 5 ∧ rwB (y_2.l 3) ∧ 4294967295 = 4294967295 ∧ 72 = 72 ∧ True ∧ 76 = 76 ∧ ((0 ≤ y_2.n 2 ∧ y_2.n 2 ≤ 65535) ∧ True) ∧ 59 = 59 ∧ rwN (y_2.l 6) ∧ 3 = 3 ∧ rwI (y_2.l 5) ∧ ([] : SW) = []) ∧ ((DfH E (alF 2 t) (upS E f (Mm.mk (z.n 0) (z.n 1) (z.n 2) (z.l 1) (z.l 2))) ((i64.wrap (y.n 91011 + i64.wrap (y_1.n 90000))).tmod 256) (u32.wrap (y.n 300001 + 1)) (OU.mk (Mm.mk (y_2.n 100000) (↑(y_2.n 100001).toNat : Int) (↑(y_2.n 100002).toNat : Int) (y_2.l 3) (y_2.l 6)) (vals (y_2.l 5))) RA ∧ y.n 91002 = alF 2 t) ∧ (y_2.n 1 = alF 2 t ∧ y_2.n 2 = upS E f (Mm.mk (z.n 0) (z.n 1) (z.n 2) (z.l 1) (z.l 2))) ∧ okM (Mm.mk (y_2.n 100000) (↑(y_2.n 100001).toNat : Int) (↑(y_2.n 100002).toNat : Int) (y_2.l 3) (y_2.l 6)) ∧ (↑(y_2.n 100002).toNat : Int) ≤ (↑(y_2.n 3).toNat : Int) ∧ (y_2.l 5).length = (↑(y_2.n 3).toNat : Int).toNat ∧ (↑(y_2.n 3).toNat : Int) ≤ y_2.n 2) ∧ (y_2.n 2 - (↑(y_2.n 3).toNat : Int)).toNat < (y.n 400002 - y.n 400003).toNat ∧ True) ∧ ((!decide ((↑(y.n 400003).toNat : Int) ≥ y.n 400002)) = false → (((↑(y.n 400003).toNat : Int).tmod (2 : Int) == 1) = true → inB (i64.wrap ((↑(y.n 400003).toNat : Int) - 1)) (y.n 400003).toNat = true ∧ rOk (y.l 6) (i64.wrap ((↑(y.n 400003).toNat : Int) - 1)).toNat (EK.i i64) = true ∧ ((eM (y.l 1) (y.l 5)) ∧ okM (Mm.mk (y.n 0) (↑(y.n 1).toNat : Int) (↑(y.n 2).toNat : Int) (y.l 1) (y.l 5))) ∧ ∀ (y_1 : PX), aM y_1 3 ∧ True ∧ grM (Mm.mk (y.n 0) (↑(y.n 1).toNat : Int) (↑(y.n 2).toNat : Int) (y.l 1) (y.l 5)) (Mm.mk (y_1.n 0) (y_1.n 1) (y_1.n 2) (y_1.l 1) (y_1.l 3)) ∧ Mm.mk (y_1.n 0) (y_1.n 1) (y_1.n 2) (y_1.l 1) (y_1.l 3) = wrm2 E (u32.wrap (y.n 91002 + u32.wrap (i64.wrap ((↑(y.n 400003).toNat : Int) - 1)))) (u32.wrap (rI (y.l 6) (i64.wrap ((↑(y.n 400003).toNat : Int) - 1)).toNat)) (Mm.mk (y.n 0) (↑(y.n 1).toNat : Int) (↑(y.n 2).toNat : Int) (y.l 1) (y.l 5)) → (44 = 44 ∧ True ∧ 5 = 5 ∧ rwB (y_1.l 1) ∧ 4294967295 = 4294967295 ∧ 59 = 59 ∧ rwN (y_1.l 3) ∧ ([] : SW) = []) ∧ ((0 ≤ (↑(y.n 400003).toNat : Int) ∧ (↑(y.n 400003).toNat : Int) ≤ 65535) ∧ True) ∧ (Mm.mk (y_1.n 0) (↑(y_1.n 1).toNat : Int) (↑(y_1.n 2).toNat : Int) (y_1.l 1) (y_1.l 3) = fiF E (alF 2 t) RA.u ∧ (↑(y.n 400003).toNat : Int) = (↑RA.u.o.length : Int)) ∧ okM (Mm.mk (y_1.n 0) (↑(y_1.n 1).toNat : Int) (↑(y_1.n 2).toNat : Int) (y_1.l 1) (y_1.l 3))) ∧ (((↑(y.n 400003).toNat : Int).tmod (2 : Int) == 1) = false → (44 = 44 ∧ True ∧ 5 = 5 ∧ rwB (y.l 1) ∧ 4294967295 = 4294967295 ∧ 59 = 59 ∧ rwN (y.l 5) ∧ ([] : SW) = []) ∧ ((0 ≤ (↑(y.n 400003).toNat : Int) ∧ (↑(y.n 400003).toNat : Int) ≤ 65535) ∧ True) ∧ (Mm.mk (y.n 0) (↑(y.n 1).toNat : Int) (↑(y.n 2).toNat : Int) (y.l 1) (y.l 5) = fiF E (alF 2 t) RA.u ∧ (↑(y.n 400003).toNat : Int) = (↑RA.u.o.length : Int)) ∧ okM (Mm.mk (y.n 0) (↑(y.n 1).toNat : Int) (↑(y.n 2).toNat : Int) (y.l 1) (y.l 5))))) := by kernel_rfl
set_option maxHeartbeats 8000000 in
theorem ud_q0 (E : World) (f t : Int) (RA : AU) (z : PX) (hp : (fun z => okM (Mm.mk (z.n 0) (z.n 1) (z.n 2) (z.l 1) (z.l 2)) ∧ z.n 2 = 0 ∧ (0 ≤ f ∧ f ≤ 4294967295) ∧ (0 ≤ t ∧ t ≤ 4294967295) ∧ UpI E f t (Mm.mk (z.n 0) (z.n 1) (z.n 2) (z.l 1) (z.l 2)) RA) z) (y : PX) (hy1 : rgM y [mB 5, rowB, .g HOLE, mSt 0, mO' 0 6, rowN, rowI] 0) (hy2 : rgF y [(0, .c (.p 0 0)), (2, .r .u32 (0) (4294967295)), (9, .c (.p 3 0)), (10, .c (.p 4 0)), (11, .r .i64 (0) (255))]) (hy3 : (fun y => (DfH E (alF 2 t) (upS E f (Mm.mk (z.n 0) (z.n 1) (z.n 2) (z.l 1) (z.l 2))) (y.n 91011) (y.n 300001) (OU.mk (Mm.mk (y.n 0) (y.n 1) (y.n 2) (y.l 1) (y.l 5)) (vals (y.l 6))) RA ∧ y.n 91002 = alF 2 t) ∧ (y.n 400001 = alF 2 t ∧ y.n 400002 = upS E f (Mm.mk (z.n 0) (z.n 1) (z.n 2) (z.l 1) (z.l 2))) ∧ okM (Mm.mk (y.n 0) (y.n 1) (y.n 2) (y.l 1) (y.l 5)) ∧ y.n 2 ≤ y.n 400003 ∧ (y.l 6).length = (y.n 400003).toNat ∧ y.n 400003 ≤ y.n 400002) y) : Holds ((run (pe E) (orcV E RA) (tabL fns) 20000 (2 ^ 200 - 1) (ud_td E) (mkL Try.f26.ntmps (slC y [(0, .c (.p 0 0)), (2, .r .u32 (0) (4294967295)), (9, .c (.p 3 0)), (10, .c (.p 4 0)), (11, .r .i64 (0) (255))])) (mkM y [] [mB 5, rowB, .g HOLE, mSt 0, mO' 0 6, rowN, rowI] 0)).OK (lfP (pe E) Try.f26 (endR ([mB 2, rowB, rowN] : List MB).length [mB 3, rowB, .g HOLE, rowN] (.c (.r .i64 0 65535)) (fun z y => ((Mm.mk (y.n 0) (y.n 1) (y.n 2) (y.l 1) (y.l 3)) = fiF E (alF 2 t) RA.u ∧ y.n 90000 = RA.u.o.length) ∧ okM (Mm.mk (y.n 0) (y.n 1) (y.n 2) (y.l 1) (y.l 3))) z) (headR ([mB 2, rowB, rowN] : List MB).length Try.f26.ntmps (some ((fun y => (y.n 400002 - y.n 400003).toNat) y)) (ud_hs E f t RA z)))) := by
  refine loopP_lfH ⟨?_⟩
  rw [ud_r0]
  have hf : True ∧ (((0) ≤ y.n 91002 ∧ y.n 91002 ≤ (4294967295)) ∧ True) ∧ True ∧ True ∧ (((0) ≤ y.n 91011 ∧ y.n 91011 ≤ (255)) ∧ True) ∧ True := hy2
  obtain ⟨_, ⟨g2, _⟩, _, _, ⟨g11, _⟩, _⟩ := hf
  obtain ⟨⟨hD, h9⟩, ⟨h2, h3⟩, hK, hgr, hl, hle⟩ := hy3
  obtain ⟨hKz, hz2, hf0, ht0, hU⟩ := hp
  have hf1 : flat [Sp.r .u8 0 255] = true := rfl
  have hf2 : flat [Sp.i .u32, Sp.i .i64, Sp.i .u32] = true := rfl
  have hf3 : flat [Sp.r .i64 0 255] = true := rfl
  obtain ⟨b1y, b2y, _⟩ : 0 ≤ y.n 1 ∧ 0 ≤ y.n 2 ∧ True := hy1.1
  have rby : Row [.r .u8 0 255] (y.l 1) := hy1.2.1.2
  obtain ⟨usy, u4y, _⟩ : (0 ≤ y.n 400002 ∧ y.n 400002 ≤ 65535) ∧ 0 ≤ y.n 400003 ∧ True := hy1.2.2.2.1
  have rny : Row [.i .u32, .i .i64, .i .u32] (y.l 5) := hy1.2.2.2.2.1.2
  have roy : Row [.r .i64 0 255] (y.l 6) := hy1.2.2.2.2.2.1.2
  have T1y : ((y.n 1).toNat : Int) = y.n 1 := Int.toNat_of_nonneg b1y
  have T2y : ((y.n 2).toNat : Int) = y.n 2 := Int.toNat_of_nonneg b2y
  have T4y : ((y.n 400003).toNat : Int) = y.n 400003 := Int.toNat_of_nonneg u4y
  have vl : ((vals (y.l 6)).length : Int) = y.n 400003 := by rw [vals_len]; omega
  have ba : 0 ≤ alF 2 t ∧ alF 2 t ≤ 4294967295 := alF_bd (.inl rfl) ht0
  simp only [T1y, T2y, T4y]
  refine ⟨fun h => ?_, fun h => ?_⟩
  · have h : y.n 400003 < y.n 400002 := by have h0 := h; simp at h0; omega
    refine ⟨⟨by ((repeat' (first | exact trivial | with_reducible rfl | assumption | exact rfl | apply And.intro)) <;> omega), hK⟩, ?_⟩
    rintro y1 ⟨⟨⟨p1y1, p2y1, _⟩, ⟨_, q3y1⟩, ⟨_, q6y1⟩, _⟩, ⟨g1y1, _⟩, q1y1, v1y1⟩
    have S1y1 : ((y1.n 1).toNat : Int) = y1.n 1 := Int.toNat_of_nonneg p1y1
    have S2y1 : ((y1.n 2).toNat : Int) = y1.n 2 := Int.toNat_of_nonneg p2y1
    have hKy1 : okM (Mm.mk (y1.n 0) (y1.n 1) (y1.n 2) (y1.l 1) (y1.l 2)) := by rw [q1y1]; exact hK
    have cy1 : y1.n 2 = y.n 2 := congrArg Mm.nn q1y1
    have e8y1 : IntKind.u8.wrap (y1.n 90000) = y1.n 90000 := by rw [wu8]; omega
    have e64y1 : IntKind.i64.wrap (y1.n 90000) = y1.n 90000 := by rw [wi64]; omega
    simp only [S1y1, S2y1, e8y1, e64y1]
    simp only [dF _ _ g11 g1y1]
    refine ⟨by ((repeat' (first | exact trivial | with_reducible rfl | assumption | exact rfl | apply And.intro)) <;> omega), ?_⟩
    rintro y2 ⟨hu2, _, hq, ⟨e2, e3⟩, hK2, hg2, hl2, hle2⟩
    obtain ⟨usy2, u4y2, _⟩ : (0 ≤ y2.n 2 ∧ y2.n 2 ≤ 65535) ∧ 0 ≤ y2.n 3 ∧ True := hu2.1
    obtain ⟨b1y2, b2y2, _⟩ : 0 ≤ y2.n 100001 ∧ 0 ≤ y2.n 100002 ∧ True := hu2.2.1
    have T1y2 : ((y2.n 100001).toNat : Int) = y2.n 100001 := Int.toNat_of_nonneg b1y2
    have T2y2 : ((y2.n 100002).toNat : Int) = y2.n 100002 := Int.toNat_of_nonneg b2y2
    have T4y2 : ((y2.n 3).toNat : Int) = y2.n 3 := Int.toNat_of_nonneg u4y2
    have roy2 : Row [.r .i64 0 255] (y2.l 5) := hu2.2.2.2.1.2
    have rby2 : Row [.r .u8 0 255] (y2.l 3) := hu2.2.2.1.2
    have rny2 : Row [.i .u32, .i .i64, .i .u32] (y2.l 6) := hu2.2.2.2.2.1.2
    simp only [T1y2, T2y2, T4y2]
    have hS := hD.step (show ((vals (y.l 6)).length : Int) < upS E f (Mm.mk (z.n 0) (z.n 1) (z.n 2) (z.l 1) (z.l 2)) by omega)
    rw [q1y1, h2, h3] at hq
    have v1' : rdv1 E (y.n 300001) (OU.mk (Mm.mk (y.n 0) (y.n 1) (y.n 2) (y.l 1) (y.l 5)) (vals (y.l 6))).m = y1.n 90000 := v1y1.symm
    rw [v1', ← hq] at hS
    have hlen : (vals (y2.l 5)).length = (vals (y.l 6)).length + 1 := (congrArg (fun s : OU => s.o.length) hq).trans (gvF_len (show ((vals (y.l 6)).length : Int) ≠ upS E f (Mm.mk (z.n 0) (z.n 1) (z.n 2) (z.l 1) (z.l 2)) by omega))
    rw [vals_len, vals_len] at hlen
    have h4 : y2.n 3 = y.n 400003 + 1 := by omega
    ((repeat' (first | exact trivial | with_reducible rfl | assumption | exact rfl | apply And.intro)) <;> omega)
  · have h : y.n 400003 = y.n 400002 := by have h0 := h; simp at h0; omega
    have hRR := hD.fin (show ((vals (y.l 6)).length : Int) = upS E f (Mm.mk (z.n 0) (z.n 1) (z.n 2) (z.l 1) (z.l 2)) by omega)
    have hR : (OU.mk (Mm.mk (y.n 0) (y.n 1) (y.n 2) (y.l 1) (y.l 5)) (vals (y.l 6))) = RA.u := congrArg AU.u hRR
    have hlR : y.n 400003 = (RA.u.o.length : Int) := by rw [← hR]; show _ = ((vals (y.l 6)).length : Int); omega
    have tm : (y.n 400003).tmod 2 = y.n 400003 % 2 := tmod_n _ _ u4y
    have w1 : IntKind.i64.wrap (y.n 400003 - 1) = y.n 400003 - 1 := by rw [wi64]; omega
    simp only [tm, w1, ua]
    refine ⟨fun h => ?_, fun h => ?_⟩
    · have h : y.n 400003 % 2 = 1 := by simpa using h
      have hin : inB (y.n 400003 - 1) (y.n 400003).toNat = true := by simp only [inB, Bool.and_eq_true, decide_eq_true_eq]; omega
      have hro := roy.rOk (p := (y.n 400003 - 1).toNat) (q := .r .i64 0 255) (k := EK.i .i64) (by omega) (by simp [Nat.mod_one]) rfl
      have hrg := roy.rg (p := (y.n 400003 - 1).toNat) (k := .i64) (lo := 0) (hi := 255) (by omega) (by simp [Nat.mod_one])
      have wr : IntKind.u32.wrap (rI (y.l 6) (y.n 400003 - 1).toNat) = rI (y.l 6) (y.n 400003 - 1).toNat := by rw [wu32]; omega
      simp only [wr]
      refine ⟨hin, hro, ⟨by ((repeat' (first | exact trivial | with_reducible rfl | assumption | exact rfl | apply And.intro)) <;> omega), hK⟩, ?_⟩
      rintro y9 ⟨⟨⟨p1, p2, _⟩, ⟨_, q3⟩, ⟨_, q6⟩, _⟩, _, hg, hq9⟩
      have S19 : ((y9.n 1).toNat : Int) = y9.n 1 := Int.toNat_of_nonneg p1
      have S29 : ((y9.n 2).toNat : Int) = y9.n 2 := Int.toNat_of_nonneg p2
      have hK9 := hK.gr hg (show y.n 2 < 1000000 by omega)
      have en : (y.n 400003 - 1).toNat = (y.l 6).length - 1 := by omega
      have ez : y.n 400003 - 1 = ((y.l 6).length : Int) - 1 := by omega
      rw [en, ez, h9] at hq9
      have hG := fi1 (E := E) (to := alF 2 t) (by omega) hq9
      rw [hR] at hG
      simp only [S19, S29]
      ((repeat' (first | exact trivial | with_reducible rfl | assumption | exact rfl | apply And.intro)) <;> omega)
    · have h : y.n 400003 % 2 ≠ 1 := by simpa using h
      have hG := fi2 (E := E) (to := alF 2 t) (m := (Mm.mk (y.n 0) (y.n 1) (y.n 2) (y.l 1) (y.l 5))) (l := y.l 6) (by omega)
      rw [hR] at hG
      ((repeat' (first | exact trivial | with_reducible rfl | assumption | exact rfl | apply And.intro)) <;> omega)
set_option maxHeartbeats 8000000 in
theorem ud_c (E : World) (f t : Int) (RA : AU) (z : PX) (hz : rgM z [mB 2, rowB, rowN] 0) (hp : (fun z => okM (Mm.mk (z.n 0) (z.n 1) (z.n 2) (z.l 1) (z.l 2)) ∧ z.n 2 = 0 ∧ (0 ≤ f ∧ f ≤ 4294967295) ∧ (0 ≤ t ∧ t ≤ 4294967295) ∧ UpI E f t (Mm.mk (z.n 0) (z.n 1) (z.n 2) (z.l 1) (z.l 2)) RA) z) : HD (pe E) 26 [.c (.p 0 0), .c (.i false .u32 f), .c (.i false .u32 t)] [mB 2, rowB, rowN] [mB 3, rowB, .g HOLE, rowN] (.c (.r .i64 0 65535)) (fun z y => ((Mm.mk (y.n 0) (y.n 1) (y.n 2) (y.l 1) (y.l 3)) = fiF E (alF 2 t) RA.u ∧ y.n 90000 = RA.u.o.length) ∧ okM (Mm.mk (y.n 0) (y.n 1) (y.n 2) (y.l 1) (y.l 3))) z := by
  refine HD.loop (P := pe E) (orcV_ok (RA := RA)) tab_ok tab_sz mixed Try.func26 (c := Try.f26.body.getD .skip) rfl (by decide) (Nat.le_of_ble_eq_true rfl) (by rfl) 20000 (2 ^ 200 - 1) (ud_hs E f t RA z) (by rfl) (loopP_lfH ⟨?_⟩) ?_
  · rw [ud_pro]
    obtain ⟨hK, hz2, hf0, ht0, hU⟩ := hp
    have hf1 : flat [Sp.r .u8 0 255] = true := rfl
    have hf2 : flat [Sp.i .u32, Sp.i .i64, Sp.i .u32] = true := rfl
    have hf3 : flat [Sp.r .i64 0 255] = true := rfl
    have hr0 : Row [.r .i64 0 255] ([] : List C) := Row.nil
    have T1 : ((z.n 1).toNat : Int) = z.n 1 := Int.toNat_of_nonneg hK.b0
    have T2 : ((z.n 2).toNat : Int) = z.n 2 := Int.toNat_of_nonneg hK.n0
    have rb : Row [.r .u8 0 255] (z.l 1) := hz.2.1.2
    have rn : Row [.i .u32, .i .i64, .i .u32] (z.l 2) := hz.2.2.1.2
    simp only [T1, T2, aF4 f hf0, aF2 t ht0]
    have ba : 0 ≤ alF 2 t ∧ alF 2 t ≤ 4294967295 := alF_bd (.inl rfl) ht0
    refine ⟨⟨by ((repeat' (first | exact trivial | with_reducible rfl | assumption | exact rfl | apply And.intro)) <;> omega), hK⟩, ?_⟩
    rintro y ⟨⟨⟨p1, p2, _⟩, ⟨_, q3⟩, ⟨_, q6⟩, _⟩, ⟨g1, _⟩, q1, v1⟩
    have S1 : ((y.n 1).toNat : Int) = y.n 1 := Int.toNat_of_nonneg p1
    have S2 : ((y.n 2).toNat : Int) = y.n 2 := Int.toNat_of_nonneg p2
    have hKy : okM (Mm.mk (y.n 0) (y.n 1) (y.n 2) (y.l 1) (y.l 2)) := by rw [q1]; exact hK
    have cy : y.n 2 = z.n 2 := congrArg Mm.nn q1
    have eS : y.n 90000 / 256 % 65536 = upS E f (Mm.mk (z.n 0) (z.n 1) (z.n 2) (z.l 1) (z.l 2)) := by unfold upS; rw [← v1]
    have eK : y.n 90000 % 256 = upK E f (Mm.mk (z.n 0) (z.n 1) (z.n 2) (z.l 1) (z.l 2)) := by unfold upK; rw [← v1]
    have tk : (y.n 90000).tmod 256 = upK E f (Mm.mk (z.n 0) (z.n 1) (z.n 2) (z.l 1) (z.l 2)) := by rw [← eK]; exact tmod_n _ _ g1.1
    have t16 : (y.n 90000).tmod 16 = y.n 90000 % 16 := tmod_n _ _ g1.1
    have bS : 0 ≤ upS E f (Mm.mk (z.n 0) (z.n 1) (z.n 2) (z.l 1) (z.l 2)) ∧ upS E f (Mm.mk (z.n 0) (z.n 1) (z.n 2) (z.l 1) (z.l 2)) ≤ 65535 := by rw [← eS]; omega
    have eA : upA f (Mm.mk (z.n 0) (z.n 1) (z.n 2) (z.l 1) (z.l 2)) = AU.mk (IntKind.u32.wrap (alF 4 f + 4)) (OU.mk (Mm.mk (z.n 0) (z.n 1) (z.n 2) (z.l 1) (z.l 2)) []) := rfl
    obtain ⟨h0, h16, h48, h36, h40, h129, h_⟩ := hU
    rw [eA] at h16 h48 h36 h40 h129
    simp only [S1, S2, eS2 _ g1, tk, t16, eS, q1, vals_nil]
    refine ⟨fun h => ?_, fun h => ?_⟩
    · have h : upS E f (Mm.mk (z.n 0) (z.n 1) (z.n 2) (z.l 1) (z.l 2)) = 0 := by simpa using h
      have hG := fi0 (E := E) (to := alF 2 t) (h0 h)
      have hL := ln0 (h0 h)
      ((repeat' (first | exact trivial | with_reducible rfl | assumption | exact rfl | apply And.intro)) <;> omega)
    · have h : upS E f (Mm.mk (z.n 0) (z.n 1) (z.n 2) (z.l 1) (z.l 2)) ≠ 0 := by simpa using h
      refine ⟨fun k => ?_, fun k1 => ⟨fun k => ?_, fun k2 => ⟨fun k => ?_, fun k3 => ⟨fun k => ?_, fun k4 => ⟨fun k => ?_, fun k5 => ?_⟩⟩⟩⟩⟩
      · have hRel := h16 h (by simpa using k)
        refine ⟨by ((repeat' (first | exact trivial | with_reducible rfl | assumption | exact rfl | apply And.intro)) <;> omega), ?_⟩
        rintro y1 ⟨hu1, _, hq, ⟨e2, e3⟩, hK2, hg2, hl2, hle2⟩
        obtain ⟨usy1, u4y1, _⟩ : (0 ≤ y1.n 100002 ∧ y1.n 100002 ≤ 65535) ∧ 0 ≤ y1.n 100003 ∧ True := hu1.2.1
        obtain ⟨b1y1, b2y1, _⟩ : 0 ≤ y1.n 200001 ∧ 0 ≤ y1.n 200002 ∧ True := hu1.2.2.1
        have T1y1 : ((y1.n 200001).toNat : Int) = y1.n 200001 := Int.toNat_of_nonneg b1y1
        have T2y1 : ((y1.n 200002).toNat : Int) = y1.n 200002 := Int.toNat_of_nonneg b2y1
        have T4y1 : ((y1.n 100003).toNat : Int) = y1.n 100003 := Int.toNat_of_nonneg u4y1
        have roy1 : Row [.r .i64 0 255] (y1.l 6) := hu1.2.2.2.2.1.2
        have rby1 : Row [.r .u8 0 255] (y1.l 4) := hu1.2.2.2.1.2
        have rny1 : Row [.i .u32, .i .i64, .i .u32] (y1.l 7) := hu1.2.2.2.2.2.1.2
        have hR : (OU.mk (Mm.mk (y1.n 200000) (y1.n 200001) (y1.n 200002) (y1.l 4) (y1.l 7)) (vals (y1.l 6))) = RA.u := congrArg AU.u hq
        have hlR : y1.n 100003 = (RA.u.o.length : Int) := by rw [← hR]; show _ = ((vals (y1.l 6)).length : Int); rw [vals_len]; omega
        simp only [T1y1, T2y1, T4y1]
        have tm : (y1.n 100003).tmod 2 = y1.n 100003 % 2 := tmod_n _ _ u4y1
        have w1 : IntKind.i64.wrap (y1.n 100003 - 1) = y1.n 100003 - 1 := by rw [wi64]; omega
        simp only [tm, w1, ua]
        refine ⟨fun h => ?_, fun h => ?_⟩
        · have h : y1.n 100003 % 2 = 1 := by simpa using h
          have hin : inB (y1.n 100003 - 1) (y1.n 100003).toNat = true := by simp only [inB, Bool.and_eq_true, decide_eq_true_eq]; omega
          have hro := roy1.rOk (p := (y1.n 100003 - 1).toNat) (q := .r .i64 0 255) (k := EK.i .i64) (by omega) (by simp [Nat.mod_one]) rfl
          have hrg := roy1.rg (p := (y1.n 100003 - 1).toNat) (k := .i64) (lo := 0) (hi := 255) (by omega) (by simp [Nat.mod_one])
          have wr : IntKind.u32.wrap (rI (y1.l 6) (y1.n 100003 - 1).toNat) = rI (y1.l 6) (y1.n 100003 - 1).toNat := by rw [wu32]; omega
          simp only [wr]
          refine ⟨hin, hro, ⟨by ((repeat' (first | exact trivial | with_reducible rfl | assumption | exact rfl | apply And.intro)) <;> omega), hK2⟩, ?_⟩
          rintro y9 ⟨⟨⟨p1, p2, _⟩, ⟨_, q3⟩, ⟨_, q6⟩, _⟩, _, hg, hq9⟩
          have S19 : ((y9.n 1).toNat : Int) = y9.n 1 := Int.toNat_of_nonneg p1
          have S29 : ((y9.n 2).toNat : Int) = y9.n 2 := Int.toNat_of_nonneg p2
          have hK9 := hK2.gr hg (show y1.n 200002 < 1000000 by omega)
          have en : (y1.n 100003 - 1).toNat = (y1.l 6).length - 1 := by omega
          have ez : y1.n 100003 - 1 = ((y1.l 6).length : Int) - 1 := by omega
          rw [en, ez] at hq9
          have hG := fi1 (E := E) (to := alF 2 t) (by omega) hq9
          rw [hR] at hG
          simp only [S19, S29]
          ((repeat' (first | exact trivial | with_reducible rfl | assumption | exact rfl | apply And.intro)) <;> omega)
        · have h : y1.n 100003 % 2 ≠ 1 := by simpa using h
          have hG := fi2 (E := E) (to := alF 2 t) (m := (Mm.mk (y1.n 200000) (y1.n 200001) (y1.n 200002) (y1.l 4) (y1.l 7))) (l := y1.l 6) (by omega)
          rw [hR] at hG
          ((repeat' (first | exact trivial | with_reducible rfl | assumption | exact rfl | apply And.intro)) <;> omega)
      · have hRel := h48 h (by simpa using k)
        refine ⟨by ((repeat' (first | exact trivial | with_reducible rfl | assumption | exact rfl | apply And.intro)) <;> omega), ?_⟩
        rintro y1 ⟨hu1, _, hq, ⟨e2, e3⟩, hK2, hg2, hl2, hle2⟩
        obtain ⟨usy1, u4y1, _⟩ : (0 ≤ y1.n 100002 ∧ y1.n 100002 ≤ 65535) ∧ 0 ≤ y1.n 100003 ∧ True := hu1.2.1
        obtain ⟨b1y1, b2y1, _⟩ : 0 ≤ y1.n 200001 ∧ 0 ≤ y1.n 200002 ∧ True := hu1.2.2.1
        have T1y1 : ((y1.n 200001).toNat : Int) = y1.n 200001 := Int.toNat_of_nonneg b1y1
        have T2y1 : ((y1.n 200002).toNat : Int) = y1.n 200002 := Int.toNat_of_nonneg b2y1
        have T4y1 : ((y1.n 100003).toNat : Int) = y1.n 100003 := Int.toNat_of_nonneg u4y1
        have roy1 : Row [.r .i64 0 255] (y1.l 6) := hu1.2.2.2.2.1.2
        have rby1 : Row [.r .u8 0 255] (y1.l 4) := hu1.2.2.2.1.2
        have rny1 : Row [.i .u32, .i .i64, .i .u32] (y1.l 7) := hu1.2.2.2.2.2.1.2
        have hR : (OU.mk (Mm.mk (y1.n 200000) (y1.n 200001) (y1.n 200002) (y1.l 4) (y1.l 7)) (vals (y1.l 6))) = RA.u := congrArg AU.u hq
        have hlR : y1.n 100003 = (RA.u.o.length : Int) := by rw [← hR]; show _ = ((vals (y1.l 6)).length : Int); rw [vals_len]; omega
        simp only [T1y1, T2y1, T4y1]
        have tm : (y1.n 100003).tmod 2 = y1.n 100003 % 2 := tmod_n _ _ u4y1
        have w1 : IntKind.i64.wrap (y1.n 100003 - 1) = y1.n 100003 - 1 := by rw [wi64]; omega
        simp only [tm, w1, ua]
        refine ⟨fun h => ?_, fun h => ?_⟩
        · have h : y1.n 100003 % 2 = 1 := by simpa using h
          have hin : inB (y1.n 100003 - 1) (y1.n 100003).toNat = true := by simp only [inB, Bool.and_eq_true, decide_eq_true_eq]; omega
          have hro := roy1.rOk (p := (y1.n 100003 - 1).toNat) (q := .r .i64 0 255) (k := EK.i .i64) (by omega) (by simp [Nat.mod_one]) rfl
          have hrg := roy1.rg (p := (y1.n 100003 - 1).toNat) (k := .i64) (lo := 0) (hi := 255) (by omega) (by simp [Nat.mod_one])
          have wr : IntKind.u32.wrap (rI (y1.l 6) (y1.n 100003 - 1).toNat) = rI (y1.l 6) (y1.n 100003 - 1).toNat := by rw [wu32]; omega
          simp only [wr]
          refine ⟨hin, hro, ⟨by ((repeat' (first | exact trivial | with_reducible rfl | assumption | exact rfl | apply And.intro)) <;> omega), hK2⟩, ?_⟩
          rintro y9 ⟨⟨⟨p1, p2, _⟩, ⟨_, q3⟩, ⟨_, q6⟩, _⟩, _, hg, hq9⟩
          have S19 : ((y9.n 1).toNat : Int) = y9.n 1 := Int.toNat_of_nonneg p1
          have S29 : ((y9.n 2).toNat : Int) = y9.n 2 := Int.toNat_of_nonneg p2
          have hK9 := hK2.gr hg (show y1.n 200002 < 1000000 by omega)
          have en : (y1.n 100003 - 1).toNat = (y1.l 6).length - 1 := by omega
          have ez : y1.n 100003 - 1 = ((y1.l 6).length : Int) - 1 := by omega
          rw [en, ez] at hq9
          have hG := fi1 (E := E) (to := alF 2 t) (by omega) hq9
          rw [hR] at hG
          simp only [S19, S29]
          ((repeat' (first | exact trivial | with_reducible rfl | assumption | exact rfl | apply And.intro)) <;> omega)
        · have h : y1.n 100003 % 2 ≠ 1 := by simpa using h
          have hG := fi2 (E := E) (to := alF 2 t) (m := (Mm.mk (y1.n 200000) (y1.n 200001) (y1.n 200002) (y1.l 4) (y1.l 7))) (l := y1.l 6) (by omega)
          rw [hR] at hG
          ((repeat' (first | exact trivial | with_reducible rfl | assumption | exact rfl | apply And.intro)) <;> omega)
      · have k : upK E f (Mm.mk (z.n 0) (z.n 1) (z.n 2) (z.l 1) (z.l 2)) = 36 := by simpa using k
        have hRel := h36 h k
        have e8 : (y.n 90000 % 16 == 8) = false := by have e : y.n 90000 % 16 = 4 := by omega
                                                      rw [e]; rfl
        simp only [e8]
        refine ⟨by ((repeat' (first | exact trivial | with_reducible rfl | assumption | exact rfl | apply And.intro)) <;> omega), ?_⟩
        rintro y1 ⟨hu1, _, hq, ⟨e2, e3⟩, hK2, hg2, hl2, hle2⟩
        obtain ⟨usy1, u4y1, _⟩ : (0 ≤ y1.n 100002 ∧ y1.n 100002 ≤ 65535) ∧ 0 ≤ y1.n 100003 ∧ True := hu1.2.1
        obtain ⟨b1y1, b2y1, _⟩ : 0 ≤ y1.n 200001 ∧ 0 ≤ y1.n 200002 ∧ True := hu1.2.2.1
        have T1y1 : ((y1.n 200001).toNat : Int) = y1.n 200001 := Int.toNat_of_nonneg b1y1
        have T2y1 : ((y1.n 200002).toNat : Int) = y1.n 200002 := Int.toNat_of_nonneg b2y1
        have T4y1 : ((y1.n 100003).toNat : Int) = y1.n 100003 := Int.toNat_of_nonneg u4y1
        have roy1 : Row [.r .i64 0 255] (y1.l 6) := hu1.2.2.2.2.1.2
        have rby1 : Row [.r .u8 0 255] (y1.l 4) := hu1.2.2.2.1.2
        have rny1 : Row [.i .u32, .i .i64, .i .u32] (y1.l 7) := hu1.2.2.2.2.2.1.2
        have hR : (OU.mk (Mm.mk (y1.n 200000) (y1.n 200001) (y1.n 200002) (y1.l 4) (y1.l 7)) (vals (y1.l 6))) = RA.u := hq
        have hlR : y1.n 100003 = (RA.u.o.length : Int) := by rw [← hR]; show _ = ((vals (y1.l 6)).length : Int); rw [vals_len]; omega
        simp only [T1y1, T2y1, T4y1]
        have tm : (y1.n 100003).tmod 2 = y1.n 100003 % 2 := tmod_n _ _ u4y1
        have w1 : IntKind.i64.wrap (y1.n 100003 - 1) = y1.n 100003 - 1 := by rw [wi64]; omega
        simp only [tm, w1, ua]
        refine ⟨fun h => ?_, fun h => ?_⟩
        · have h : y1.n 100003 % 2 = 1 := by simpa using h
          have hin : inB (y1.n 100003 - 1) (y1.n 100003).toNat = true := by simp only [inB, Bool.and_eq_true, decide_eq_true_eq]; omega
          have hro := roy1.rOk (p := (y1.n 100003 - 1).toNat) (q := .r .i64 0 255) (k := EK.i .i64) (by omega) (by simp [Nat.mod_one]) rfl
          have hrg := roy1.rg (p := (y1.n 100003 - 1).toNat) (k := .i64) (lo := 0) (hi := 255) (by omega) (by simp [Nat.mod_one])
          have wr : IntKind.u32.wrap (rI (y1.l 6) (y1.n 100003 - 1).toNat) = rI (y1.l 6) (y1.n 100003 - 1).toNat := by rw [wu32]; omega
          simp only [wr]
          refine ⟨hin, hro, ⟨by ((repeat' (first | exact trivial | with_reducible rfl | assumption | exact rfl | apply And.intro)) <;> omega), hK2⟩, ?_⟩
          rintro y9 ⟨⟨⟨p1, p2, _⟩, ⟨_, q3⟩, ⟨_, q6⟩, _⟩, _, hg, hq9⟩
          have S19 : ((y9.n 1).toNat : Int) = y9.n 1 := Int.toNat_of_nonneg p1
          have S29 : ((y9.n 2).toNat : Int) = y9.n 2 := Int.toNat_of_nonneg p2
          have hK9 := hK2.gr hg (show y1.n 200002 < 1000000 by omega)
          have en : (y1.n 100003 - 1).toNat = (y1.l 6).length - 1 := by omega
          have ez : y1.n 100003 - 1 = ((y1.l 6).length : Int) - 1 := by omega
          rw [en, ez] at hq9
          have hG := fi1 (E := E) (to := alF 2 t) (by omega) hq9
          rw [hR] at hG
          simp only [S19, S29]
          ((repeat' (first | exact trivial | with_reducible rfl | assumption | exact rfl | apply And.intro)) <;> omega)
        · have h : y1.n 100003 % 2 ≠ 1 := by simpa using h
          have hG := fi2 (E := E) (to := alF 2 t) (m := (Mm.mk (y1.n 200000) (y1.n 200001) (y1.n 200002) (y1.l 4) (y1.l 7))) (l := y1.l 6) (by omega)
          rw [hR] at hG
          ((repeat' (first | exact trivial | with_reducible rfl | assumption | exact rfl | apply And.intro)) <;> omega)
      · have k : upK E f (Mm.mk (z.n 0) (z.n 1) (z.n 2) (z.l 1) (z.l 2)) = 40 := by simpa using k
        have hRel := h40 h k
        have e8 : (y.n 90000 % 16 == 8) = true := by have e : y.n 90000 % 16 = 8 := by omega
                                                     rw [e]; rfl
        simp only [e8]
        refine ⟨by ((repeat' (first | exact trivial | with_reducible rfl | assumption | exact rfl | apply And.intro)) <;> omega), ?_⟩
        rintro y1 ⟨hu1, _, hq, ⟨e2, e3⟩, hK2, hg2, hl2, hle2⟩
        obtain ⟨usy1, u4y1, _⟩ : (0 ≤ y1.n 100002 ∧ y1.n 100002 ≤ 65535) ∧ 0 ≤ y1.n 100003 ∧ True := hu1.2.1
        obtain ⟨b1y1, b2y1, _⟩ : 0 ≤ y1.n 200001 ∧ 0 ≤ y1.n 200002 ∧ True := hu1.2.2.1
        have T1y1 : ((y1.n 200001).toNat : Int) = y1.n 200001 := Int.toNat_of_nonneg b1y1
        have T2y1 : ((y1.n 200002).toNat : Int) = y1.n 200002 := Int.toNat_of_nonneg b2y1
        have T4y1 : ((y1.n 100003).toNat : Int) = y1.n 100003 := Int.toNat_of_nonneg u4y1
        have roy1 : Row [.r .i64 0 255] (y1.l 6) := hu1.2.2.2.2.1.2
        have rby1 : Row [.r .u8 0 255] (y1.l 4) := hu1.2.2.2.1.2
        have rny1 : Row [.i .u32, .i .i64, .i .u32] (y1.l 7) := hu1.2.2.2.2.2.1.2
        have hR : (OU.mk (Mm.mk (y1.n 200000) (y1.n 200001) (y1.n 200002) (y1.l 4) (y1.l 7)) (vals (y1.l 6))) = RA.u := hq
        have hlR : y1.n 100003 = (RA.u.o.length : Int) := by rw [← hR]; show _ = ((vals (y1.l 6)).length : Int); rw [vals_len]; omega
        simp only [T1y1, T2y1, T4y1]
        have tm : (y1.n 100003).tmod 2 = y1.n 100003 % 2 := tmod_n _ _ u4y1
        have w1 : IntKind.i64.wrap (y1.n 100003 - 1) = y1.n 100003 - 1 := by rw [wi64]; omega
        simp only [tm, w1, ua]
        refine ⟨fun h => ?_, fun h => ?_⟩
        · have h : y1.n 100003 % 2 = 1 := by simpa using h
          have hin : inB (y1.n 100003 - 1) (y1.n 100003).toNat = true := by simp only [inB, Bool.and_eq_true, decide_eq_true_eq]; omega
          have hro := roy1.rOk (p := (y1.n 100003 - 1).toNat) (q := .r .i64 0 255) (k := EK.i .i64) (by omega) (by simp [Nat.mod_one]) rfl
          have hrg := roy1.rg (p := (y1.n 100003 - 1).toNat) (k := .i64) (lo := 0) (hi := 255) (by omega) (by simp [Nat.mod_one])
          have wr : IntKind.u32.wrap (rI (y1.l 6) (y1.n 100003 - 1).toNat) = rI (y1.l 6) (y1.n 100003 - 1).toNat := by rw [wu32]; omega
          simp only [wr]
          refine ⟨hin, hro, ⟨by ((repeat' (first | exact trivial | with_reducible rfl | assumption | exact rfl | apply And.intro)) <;> omega), hK2⟩, ?_⟩
          rintro y9 ⟨⟨⟨p1, p2, _⟩, ⟨_, q3⟩, ⟨_, q6⟩, _⟩, _, hg, hq9⟩
          have S19 : ((y9.n 1).toNat : Int) = y9.n 1 := Int.toNat_of_nonneg p1
          have S29 : ((y9.n 2).toNat : Int) = y9.n 2 := Int.toNat_of_nonneg p2
          have hK9 := hK2.gr hg (show y1.n 200002 < 1000000 by omega)
          have en : (y1.n 100003 - 1).toNat = (y1.l 6).length - 1 := by omega
          have ez : y1.n 100003 - 1 = ((y1.l 6).length : Int) - 1 := by omega
          rw [en, ez] at hq9
          have hG := fi1 (E := E) (to := alF 2 t) (by omega) hq9
          rw [hR] at hG
          simp only [S19, S29]
          ((repeat' (first | exact trivial | with_reducible rfl | assumption | exact rfl | apply And.intro)) <;> omega)
        · have h : y1.n 100003 % 2 ≠ 1 := by simpa using h
          have hG := fi2 (E := E) (to := alF 2 t) (m := (Mm.mk (y1.n 200000) (y1.n 200001) (y1.n 200002) (y1.l 4) (y1.l 7))) (l := y1.l 6) (by omega)
          rw [hR] at hG
          ((repeat' (first | exact trivial | with_reducible rfl | assumption | exact rfl | apply And.intro)) <;> omega)
      · have hRel := h129 h (by simpa using k)
        have hD : DfH E (alF 2 t) (upS E f (Mm.mk (z.n 0) (z.n 1) (z.n 2) (z.l 1) (z.l 2))) 0 (IntKind.u32.wrap (alF 4 f + 4)) (OU.mk (Mm.mk (z.n 0) (z.n 1) (z.n 2) (z.l 1) (z.l 2)) []) RA := ⟨(upS E f (Mm.mk (z.n 0) (z.n 1) (z.n 2) (z.l 1) (z.l 2))).toNat, by show upS E f (Mm.mk (z.n 0) (z.n 1) (z.n 2) (z.l 1) (z.l 2)) ≤ ((0 : Nat) : Int) + _; omega, hRel⟩
        ((repeat' (first | exact trivial | with_reducible rfl | assumption | exact rfl | apply And.intro)) <;> omega)
      · have hG := fi0 (E := E) (to := alF 2 t) (h_ h (by simpa using k1) (by simpa using k2) (by simpa using k3) (by simpa using k4) (by simpa using k5))
        have hL := ln0 (h_ h (by simpa using k1) (by simpa using k2) (by simpa using k3) (by simpa using k4) (by simpa using k5))
        ((repeat' (first | exact trivial | with_reducible rfl | assumption | exact rfl | apply And.intro)) <;> omega)
  · intro h hmem y hy1 hy2 hy3
    simp only [ud_hs, List.mem_cons, List.not_mem_nil, or_false] at hmem
    rcases hmem with rfl
    · exact ud_q0 E f t RA z hp y hy1 hy2 hy3
end Go.Proofs.Ytabklphoccicmaa

