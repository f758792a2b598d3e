import Derived.Test.YtpddbhfebhpohaaK
set_option linter.unusedVariables false
set_option linter.unusedSimpArgs false
namespace Go.Proofs.Ytpddbhfebhpohaa
open Go Go.Proofs Go.Proofs.Ytpddbhfebhpohaa.Ev Go.Proofs.Ytpddbhfebhpohaa.Ev.Ho
set_option maxRecDepth 100000
noncomputable def mr_td (E : World) : List Item := headOf (run (pe E) (orcA E) (tabL fns) 20000 (2 ^ 200 - 1) [.code (Try.f19.body.getD .skip)] ⟨Try.f19.ntmps, mkFrGo (Tr.mk 12) 0 [.c (.p 1 0), .c (.i true .i64 1)]⟩ (mkM default [] (rMs ⟨[], 0⟩) 0))
noncomputable def mr_hs (E : World) (X : Bl) (S : SW) (z : PX) (w : Int) : List Head := [⟨3, (litK 4 0), (mr_td E), [(0, .c (.p 1 0)), (1, .i .i64), (4, .c (.i true .i64 0))], (rMs X), fun y => y.n 91001 = w ∧ (U4.mk (Ch.mk (y.n 100000) (y.n 100001) (y.n 100002) (y.n 100003) (y.n 100004) (y.n 100005) (y.n 100006) (y.b 100007) (y.b 100008) (y.n 100009)) (Ch.mk (y.n 100010) (y.n 100011) (y.n 100012) (y.n 100013) (y.n 100014) (y.n 100015) (y.n 100016) (y.b 100017) (y.b 100018) (y.n 100019)) (Ch.mk (y.n 100020) (y.n 100021) (y.n 100022) (y.n 100023) (y.n 100024) (y.n 100025) (y.n 100026) (y.b 100027) (y.b 100028) (y.n 100029)) (Ch.mk (y.n 100030) (y.n 100031) (y.n 100032) (y.n 100033) (y.n 100034) (y.n 100035) (y.n 100036) (y.b 100037) (y.b 100038) (y.n 100039))) = up0 (moC w) (TR z), fun _ => 4⟩, ⟨3, (litK 4 1), (mr_td E), [(0, .c (.p 1 0)), (1, .i .i64), (4, .c (.i true .i64 1))], (rMs X), fun y => y.n 91001 = w ∧ (U4.mk (Ch.mk (y.n 100000) (y.n 100001) (y.n 100002) (y.n 100003) (y.n 100004) (y.n 100005) (y.n 100006) (y.b 100007) (y.b 100008) (y.n 100009)) (Ch.mk (y.n 100010) (y.n 100011) (y.n 100012) (y.n 100013) (y.n 100014) (y.n 100015) (y.n 100016) (y.b 100017) (y.b 100018) (y.n 100019)) (Ch.mk (y.n 100020) (y.n 100021) (y.n 100022) (y.n 100023) (y.n 100024) (y.n 100025) (y.n 100026) (y.b 100027) (y.b 100028) (y.n 100029)) (Ch.mk (y.n 100030) (y.n 100031) (y.n 100032) (y.n 100033) (y.n 100034) (y.n 100035) (y.n 100036) (y.b 100037) (y.b 100038) (y.n 100039))) = up1 (moC w) (TR z), fun _ => 3⟩, ⟨3, (litK 4 2), (mr_td E), [(0, .c (.p 1 0)), (1, .i .i64), (4, .c (.i true .i64 2))], (rMs X), fun y => y.n 91001 = w ∧ (U4.mk (Ch.mk (y.n 100000) (y.n 100001) (y.n 100002) (y.n 100003) (y.n 100004) (y.n 100005) (y.n 100006) (y.b 100007) (y.b 100008) (y.n 100009)) (Ch.mk (y.n 100010) (y.n 100011) (y.n 100012) (y.n 100013) (y.n 100014) (y.n 100015) (y.n 100016) (y.b 100017) (y.b 100018) (y.n 100019)) (Ch.mk (y.n 100020) (y.n 100021) (y.n 100022) (y.n 100023) (y.n 100024) (y.n 100025) (y.n 100026) (y.b 100027) (y.b 100028) (y.n 100029)) (Ch.mk (y.n 100030) (y.n 100031) (y.n 100032) (y.n 100033) (y.n 100034) (y.n 100035) (y.n 100036) (y.b 100037) (y.b 100038) (y.n 100039))) = up2 (moC w) (TR z), fun _ => 2⟩, ⟨3, (litK 4 3), (mr_td E), [(0, .c (.p 1 0)), (1, .i .i64), (4, .c (.i true .i64 3))], (rMs X), fun y => y.n 91001 = w ∧ (U4.mk (Ch.mk (y.n 100000) (y.n 100001) (y.n 100002) (y.n 100003) (y.n 100004) (y.n 100005) (y.n 100006) (y.b 100007) (y.b 100008) (y.n 100009)) (Ch.mk (y.n 100010) (y.n 100011) (y.n 100012) (y.n 100013) (y.n 100014) (y.n 100015) (y.n 100016) (y.b 100017) (y.b 100018) (y.n 100019)) (Ch.mk (y.n 100020) (y.n 100021) (y.n 100022) (y.n 100023) (y.n 100024) (y.n 100025) (y.n 100026) (y.b 100027) (y.b 100028) (y.n 100029)) (Ch.mk (y.n 100030) (y.n 100031) (y.n 100032) (y.n 100033) (y.n 100034) (y.n 100035) (y.n 100036) (y.b 100037) (y.b 100038) (y.n 100039))) = up3 (moC w) (TR z), fun _ => 1⟩, ⟨3, (litK 4 4), (mr_td E), [(0, .c (.p 1 0)), (1, .i .i64), (4, .c (.i true .i64 4))], (rMs X), fun y => y.n 91001 = w ∧ (U4.mk (Ch.mk (y.n 100000) (y.n 100001) (y.n 100002) (y.n 100003) (y.n 100004) (y.n 100005) (y.n 100006) (y.b 100007) (y.b 100008) (y.n 100009)) (Ch.mk (y.n 100010) (y.n 100011) (y.n 100012) (y.n 100013) (y.n 100014) (y.n 100015) (y.n 100016) (y.b 100017) (y.b 100018) (y.n 100019)) (Ch.mk (y.n 100020) (y.n 100021) (y.n 100022) (y.n 100023) (y.n 100024) (y.n 100025) (y.n 100026) (y.b 100027) (y.b 100028) (y.n 100029)) (Ch.mk (y.n 100030) (y.n 100031) (y.n 100032) (y.n 100033) (y.n 100034) (y.n 100035) (y.n 100036) (y.b 100037) (y.b 100038) (y.n 100039))) = up4 (moC w) (TR z), fun _ => 0⟩]
theorem mr_pro (E : World) (X : Bl) (S : SW) (z : PX) (w : Int) :
    (loopP (pe E) Try.f19 (endP false (rMs X) S (.t []) (fun z y => (U4.mk (Ch.mk (y.n 100000) (y.n 100001) (y.n 100002) (y.n 100003) (y.n 100004) (y.n 100005) (y.n 100006) (y.b 100007) (y.b 100008) (y.n 100009)) (Ch.mk (y.n 100010) (y.n 100011) (y.n 100012) (y.n 100013) (y.n 100014) (y.n 100015) (y.n 100016) (y.b 100017) (y.b 100018) (y.n 100019)) (Ch.mk (y.n 100020) (y.n 100021) (y.n 100022) (y.n 100023) (y.n 100024) (y.n 100025) (y.n 100026) (y.b 100027) (y.b 100028) (y.n 100029)) (Ch.mk (y.n 100030) (y.n 100031) (y.n 100032) (y.n 100033) (y.n 100034) (y.n 100035) (y.n 100036) (y.b 100037) (y.b 100038) (y.n 100039))) = up4 (moC w) (U4.mk (Ch.mk (z.n 100000) (z.n 100001) (z.n 100002) (z.n 100003) (z.n 100004) (z.n 100005) (z.n 100006) (z.b 100007) (z.b 100008) (z.n 100009)) (Ch.mk (z.n 100010) (z.n 100011) (z.n 100012) (z.n 100013) (z.n 100014) (z.n 100015) (z.n 100016) (z.b 100017) (z.b 100018) (z.n 100019)) (Ch.mk (z.n 100020) (z.n 100021) (z.n 100022) (z.n 100023) (z.n 100024) (z.n 100025) (z.n 100026) (z.b 100027) (z.b 100028) (z.n 100029)) (Ch.mk (z.n 100030) (z.n 100031) (z.n 100032) (z.n 100033) (z.n 100034) (z.n 100035) (z.n 100036) (z.b 100037) (z.b 100038) (z.n 100039)))) z) (headP false S Try.f19.ntmps none (mr_hs E X S z w)) (run (pe E) (orcA E) (tabL fns) 20000 (2 ^ 200 - 1) [.code (Try.f19.body.getD .skip)] ⟨Try.f19.ntmps, mkFrGo (Tr.mk 12) 0 [.c (.p 1 0), .c (.i false .i64 w)]⟩ (mkM z S (rMs X) 0))) =
    (mr_td E = mr_td E ∧ (41 : Nat) = (41 : Nat) ∧ (True ∧ True ∧ True ∧ True) ∧ (X = X ∧ (33 : Nat) = (33 : Nat) ∧ (RGr z) ∧ S = S) ∧ (w = w ∧ TR z = up0 (moC w) (TR z)) ∧
      True) := by kernel_rfl
theorem mr_r0 (E : World) (X : Bl) (S : SW) (z : PX) (w : Int) (y : PX) :
    (loopP (pe E) Try.f19 (endP false (rMs X) S (.t []) (fun z y => (U4.mk (Ch.mk (y.n 100000) (y.n 100001) (y.n 100002) (y.n 100003) (y.n 100004) (y.n 100005) (y.n 100006) (y.b 100007) (y.b 100008) (y.n 100009)) (Ch.mk (y.n 100010) (y.n 100011) (y.n 100012) (y.n 100013) (y.n 100014) (y.n 100015) (y.n 100016) (y.b 100017) (y.b 100018) (y.n 100019)) (Ch.mk (y.n 100020) (y.n 100021) (y.n 100022) (y.n 100023) (y.n 100024) (y.n 100025) (y.n 100026) (y.b 100027) (y.b 100028) (y.n 100029)) (Ch.mk (y.n 100030) (y.n 100031) (y.n 100032) (y.n 100033) (y.n 100034) (y.n 100035) (y.n 100036) (y.b 100037) (y.b 100038) (y.n 100039))) = up4 (moC w) (U4.mk (Ch.mk (z.n 100000) (z.n 100001) (z.n 100002) (z.n 100003) (z.n 100004) (z.n 100005) (z.n 100006) (z.b 100007) (z.b 100008) (z.n 100009)) (Ch.mk (z.n 100010) (z.n 100011) (z.n 100012) (z.n 100013) (z.n 100014) (z.n 100015) (z.n 100016) (z.b 100017) (z.b 100018) (z.n 100019)) (Ch.mk (z.n 100020) (z.n 100021) (z.n 100022) (z.n 100023) (z.n 100024) (z.n 100025) (z.n 100026) (z.b 100027) (z.b 100028) (z.n 100029)) (Ch.mk (z.n 100030) (z.n 100031) (z.n 100032) (z.n 100033) (z.n 100034) (z.n 100035) (z.n 100036) (z.b 100037) (z.b 100038) (z.n 100039)))) z) (headP false S Try.f19.ntmps (some ((fun _ => 4) y)) (mr_hs E X S z w))  (run (pe E) (orcA E) (tabL fns) 20000 (2 ^ 200 - 1) (mr_td E) (mkL Try.f19.ntmps (slC y [(0, .c (.p 1 0)), (1, .i .i64), (4, .c (.i true .i64 0))])) (mkM y S (rMs X) 0))) =
    (((y.n 91001 == (1 : Int)) = true → ((ro (y.n 100003)) = true → ((r3 (y.n 100003) == y.n 91001) = true → mr_td E = mr_td E ∧ (41 : Nat) = (41 : Nat) ∧ (True ∧ True ∧ True ∧
      True) ∧ (X = X ∧ (33 : Nat) = (33 : Nat) ∧ (RGr y) ∧ S = S) ∧ (y.n 91001 = w ∧ U4.mk (Ch.mk (y.n 100000) (y.n 100001) (y.n 100002) (y.n 100003) (y.n 100004) (y.n 100005)
      (y.n 100006) true (y.b 100008) (y.n 100009)) (cr1 y) (cr2 y) (cr3 y) = up1 (moC w) (TR z)) ∧ (3 : Nat) < (4 : Nat) ∧ True) ∧ ((r3 (y.n 100003) == y.n 91001) = false →
      mr_td E = mr_td E ∧ (41 : Nat) = (41 : Nat) ∧ (True ∧ True ∧ True ∧ True) ∧ (X = X ∧ (33 : Nat) = (33 : Nat) ∧ (RGr y) ∧ S = S) ∧ (y.n 91001 = w ∧ TR y = up1 (moC w) (TR
      z)) ∧ (3 : Nat) < (4 : Nat) ∧ True)) ∧ ((ro (y.n 100003)) = false → mr_td E = mr_td E ∧ (41 : Nat) = (41 : Nat) ∧ (True ∧ True ∧ True ∧ True) ∧ (X = X ∧ (33 : Nat) = (33 :
      Nat) ∧ (RGr y) ∧ S = S) ∧ (y.n 91001 = w ∧ TR y = up1 (moC w) (TR z)) ∧ (3 : Nat) < (4 : Nat) ∧ True)) ∧ ((y.n 91001 == (1 : Int)) = false → ((y.n 91001 == (2 : Int)) =
      true → ((ro (y.n 100003)) = true → ((r3 (y.n 100003) == y.n 91001) = true → mr_td E = mr_td E ∧ (41 : Nat) = (41 : Nat) ∧ (True ∧ True ∧ True ∧ True) ∧ (X = X ∧ (33 : Nat)
      = (33 : Nat) ∧ (RGr y) ∧ S = S) ∧ (y.n 91001 = w ∧ U4.mk (Ch.mk (y.n 100000) (y.n 100001) (y.n 100002) (y.n 100003) (y.n 100004) (y.n 100005) (y.n 100006) true (y.b
      100008) (y.n 100009)) (cr1 y) (cr2 y) (cr3 y) = up1 (moC w) (TR z)) ∧ (3 : Nat) < (4 : Nat) ∧ True) ∧ ((r3 (y.n 100003) == y.n 91001) = false → mr_td E = mr_td E ∧ (41 :
      Nat) = (41 : Nat) ∧ (True ∧ True ∧ True ∧ True) ∧ (X = X ∧ (33 : Nat) = (33 : Nat) ∧ (RGr y) ∧ S = S) ∧ (y.n 91001 = w ∧ TR y = up1 (moC w) (TR z)) ∧ (3 : Nat) < (4 : Nat)
      ∧ True)) ∧ ((ro (y.n 100003)) = false → mr_td E = mr_td E ∧ (41 : Nat) = (41 : Nat) ∧ (True ∧ True ∧ True ∧ True) ∧ (X = X ∧ (33 : Nat) = (33 : Nat) ∧ (RGr y) ∧ S = S) ∧
      (y.n 91001 = w ∧ TR y = up1 (moC w) (TR z)) ∧ (3 : Nat) < (4 : Nat) ∧ True)) ∧ ((y.n 91001 == (2 : Int)) = false → mr_td E = mr_td E ∧ (41 : Nat) = (41 : Nat) ∧ (True ∧
      True ∧ True ∧ True) ∧ (X = X ∧ (33 : Nat) = (33 : Nat) ∧ (RGr y) ∧ S = S) ∧ (y.n 91001 = w ∧ TR y = up1 (moC w) (TR z)) ∧ (3 : Nat) < (4 : Nat) ∧ True))) := by kernel_rfl
theorem mr_r1 (E : World) (X : Bl) (S : SW) (z : PX) (w : Int) (y : PX) :
    (loopP (pe E) Try.f19 (endP false (rMs X) S (.t []) (fun z y => (U4.mk (Ch.mk (y.n 100000) (y.n 100001) (y.n 100002) (y.n 100003) (y.n 100004) (y.n 100005) (y.n 100006) (y.b 100007) (y.b 100008) (y.n 100009)) (Ch.mk (y.n 100010) (y.n 100011) (y.n 100012) (y.n 100013) (y.n 100014) (y.n 100015) (y.n 100016) (y.b 100017) (y.b 100018) (y.n 100019)) (Ch.mk (y.n 100020) (y.n 100021) (y.n 100022) (y.n 100023) (y.n 100024) (y.n 100025) (y.n 100026) (y.b 100027) (y.b 100028) (y.n 100029)) (Ch.mk (y.n 100030) (y.n 100031) (y.n 100032) (y.n 100033) (y.n 100034) (y.n 100035) (y.n 100036) (y.b 100037) (y.b 100038) (y.n 100039))) = up4 (moC w) (U4.mk (Ch.mk (z.n 100000) (z.n 100001) (z.n 100002) (z.n 100003) (z.n 100004) (z.n 100005) (z.n 100006) (z.b 100007) (z.b 100008) (z.n 100009)) (Ch.mk (z.n 100010) (z.n 100011) (z.n 100012) (z.n 100013) (z.n 100014) (z.n 100015) (z.n 100016) (z.b 100017) (z.b 100018) (z.n 100019)) (Ch.mk (z.n 100020) (z.n 100021) (z.n 100022) (z.n 100023) (z.n 100024) (z.n 100025) (z.n 100026) (z.b 100027) (z.b 100028) (z.n 100029)) (Ch.mk (z.n 100030) (z.n 100031) (z.n 100032) (z.n 100033) (z.n 100034) (z.n 100035) (z.n 100036) (z.b 100037) (z.b 100038) (z.n 100039)))) z) (headP false S Try.f19.ntmps (some ((fun _ => 3) y)) (mr_hs E X S z w))  (run (pe E) (orcA E) (tabL fns) 20000 (2 ^ 200 - 1) (mr_td E) (mkL Try.f19.ntmps (slC y [(0, .c (.p 1 0)), (1, .i .i64), (4, .c (.i true .i64 1))])) (mkM y S (rMs X) 0))) =
    (((y.n 91001 == (1 : Int)) = true → ((ro (y.n 100013)) = true → ((r3 (y.n 100013) == y.n 91001) = true → mr_td E = mr_td E ∧ (41 : Nat) = (41 : Nat) ∧ (True ∧ True ∧ True ∧
      True) ∧ (X = X ∧ (33 : Nat) = (33 : Nat) ∧ (RGr y) ∧ S = S) ∧ (y.n 91001 = w ∧ U4.mk (cr0 y) (Ch.mk (y.n 100010) (y.n 100011) (y.n 100012) (y.n 100013) (y.n 100014) (y.n
      100015) (y.n 100016) true (y.b 100018) (y.n 100019)) (cr2 y) (cr3 y) = up2 (moC w) (TR z)) ∧ (2 : Nat) < (3 : Nat) ∧ True) ∧ ((r3 (y.n 100013) == y.n 91001) = false →
      mr_td E = mr_td E ∧ (41 : Nat) = (41 : Nat) ∧ (True ∧ True ∧ True ∧ True) ∧ (X = X ∧ (33 : Nat) = (33 : Nat) ∧ (RGr y) ∧ S = S) ∧ (y.n 91001 = w ∧ TR y = up2 (moC w) (TR
      z)) ∧ (2 : Nat) < (3 : Nat) ∧ True)) ∧ ((ro (y.n 100013)) = false → mr_td E = mr_td E ∧ (41 : Nat) = (41 : Nat) ∧ (True ∧ True ∧ True ∧ True) ∧ (X = X ∧ (33 : Nat) = (33 :
      Nat) ∧ (RGr y) ∧ S = S) ∧ (y.n 91001 = w ∧ TR y = up2 (moC w) (TR z)) ∧ (2 : Nat) < (3 : Nat) ∧ True)) ∧ ((y.n 91001 == (1 : Int)) = false → ((y.n 91001 == (2 : Int)) =
      true → ((ro (y.n 100013)) = true → ((r3 (y.n 100013) == y.n 91001) = true → mr_td E = mr_td E ∧ (41 : Nat) = (41 : Nat) ∧ (True ∧ True ∧ True ∧ True) ∧ (X = X ∧ (33 : Nat)
      = (33 : Nat) ∧ (RGr y) ∧ S = S) ∧ (y.n 91001 = w ∧ U4.mk (cr0 y) (Ch.mk (y.n 100010) (y.n 100011) (y.n 100012) (y.n 100013) (y.n 100014) (y.n 100015) (y.n 100016) true
      (y.b 100018) (y.n 100019)) (cr2 y) (cr3 y) = up2 (moC w) (TR z)) ∧ (2 : Nat) < (3 : Nat) ∧ True) ∧ ((r3 (y.n 100013) == y.n 91001) = false → mr_td E = mr_td E ∧ (41 : Nat)
      = (41 : Nat) ∧ (True ∧ True ∧ True ∧ True) ∧ (X = X ∧ (33 : Nat) = (33 : Nat) ∧ (RGr y) ∧ S = S) ∧ (y.n 91001 = w ∧ TR y = up2 (moC w) (TR z)) ∧ (2 : Nat) < (3 : Nat) ∧
      True)) ∧ ((ro (y.n 100013)) = false → mr_td E = mr_td E ∧ (41 : Nat) = (41 : Nat) ∧ (True ∧ True ∧ True ∧ True) ∧ (X = X ∧ (33 : Nat) = (33 : Nat) ∧ (RGr y) ∧ S = S) ∧
      (y.n 91001 = w ∧ TR y = up2 (moC w) (TR z)) ∧ (2 : Nat) < (3 : Nat) ∧ True)) ∧ ((y.n 91001 == (2 : Int)) = false → mr_td E = mr_td E ∧ (41 : Nat) = (41 : Nat) ∧ (True ∧
      True ∧ True ∧ True) ∧ (X = X ∧ (33 : Nat) = (33 : Nat) ∧ (RGr y) ∧ S = S) ∧ (y.n 91001 = w ∧ TR y = up2 (moC w) (TR z)) ∧ (2 : Nat) < (3 : Nat) ∧ True))) := by kernel_rfl
theorem mr_r2 (E : World) (X : Bl) (S : SW) (z : PX) (w : Int) (y : PX) :
    (loopP (pe E) Try.f19 (endP false (rMs X) S (.t []) (fun z y => (U4.mk (Ch.mk (y.n 100000) (y.n 100001) (y.n 100002) (y.n 100003) (y.n 100004) (y.n 100005) (y.n 100006) (y.b 100007) (y.b 100008) (y.n 100009)) (Ch.mk (y.n 100010) (y.n 100011) (y.n 100012) (y.n 100013) (y.n 100014) (y.n 100015) (y.n 100016) (y.b 100017) (y.b 100018) (y.n 100019)) (Ch.mk (y.n 100020) (y.n 100021) (y.n 100022) (y.n 100023) (y.n 100024) (y.n 100025) (y.n 100026) (y.b 100027) (y.b 100028) (y.n 100029)) (Ch.mk (y.n 100030) (y.n 100031) (y.n 100032) (y.n 100033) (y.n 100034) (y.n 100035) (y.n 100036) (y.b 100037) (y.b 100038) (y.n 100039))) = up4 (moC w) (U4.mk (Ch.mk (z.n 100000) (z.n 100001) (z.n 100002) (z.n 100003) (z.n 100004) (z.n 100005) (z.n 100006) (z.b 100007) (z.b 100008) (z.n 100009)) (Ch.mk (z.n 100010) (z.n 100011) (z.n 100012) (z.n 100013) (z.n 100014) (z.n 100015) (z.n 100016) (z.b 100017) (z.b 100018) (z.n 100019)) (Ch.mk (z.n 100020) (z.n 100021) (z.n 100022) (z.n 100023) (z.n 100024) (z.n 100025) (z.n 100026) (z.b 100027) (z.b 100028) (z.n 100029)) (Ch.mk (z.n 100030) (z.n 100031) (z.n 100032) (z.n 100033) (z.n 100034) (z.n 100035) (z.n 100036) (z.b 100037) (z.b 100038) (z.n 100039)))) z) (headP false S Try.f19.ntmps (some ((fun _ => 2) y)) (mr_hs E X S z w))  (run (pe E) (orcA E) (tabL fns) 20000 (2 ^ 200 - 1) (mr_td E) (mkL Try.f19.ntmps (slC y [(0, .c (.p 1 0)), (1, .i .i64), (4, .c (.i true .i64 2))])) (mkM y S (rMs X) 0))) =
    (((y.n 91001 == (1 : Int)) = true → ((ro (y.n 100023)) = true → ((r3 (y.n 100023) == y.n 91001) = true → mr_td E = mr_td E ∧ (41 : Nat) = (41 : Nat) ∧ (True ∧ True ∧ True ∧
      True) ∧ (X = X ∧ (33 : Nat) = (33 : Nat) ∧ (RGr y) ∧ S = S) ∧ (y.n 91001 = w ∧ U4.mk (cr0 y) (cr1 y) (Ch.mk (y.n 100020) (y.n 100021) (y.n 100022) (y.n 100023) (y.n
      100024) (y.n 100025) (y.n 100026) true (y.b 100028) (y.n 100029)) (cr3 y) = up3 (moC w) (TR z)) ∧ (1 : Nat) < (2 : Nat) ∧ True) ∧ ((r3 (y.n 100023) == y.n 91001) = false →
      mr_td E = mr_td E ∧ (41 : Nat) = (41 : Nat) ∧ (True ∧ True ∧ True ∧ True) ∧ (X = X ∧ (33 : Nat) = (33 : Nat) ∧ (RGr y) ∧ S = S) ∧ (y.n 91001 = w ∧ TR y = up3 (moC w) (TR
      z)) ∧ (1 : Nat) < (2 : Nat) ∧ True)) ∧ ((ro (y.n 100023)) = false → mr_td E = mr_td E ∧ (41 : Nat) = (41 : Nat) ∧ (True ∧ True ∧ True ∧ True) ∧ (X = X ∧ (33 : Nat) = (33 :
      Nat) ∧ (RGr y) ∧ S = S) ∧ (y.n 91001 = w ∧ TR y = up3 (moC w) (TR z)) ∧ (1 : Nat) < (2 : Nat) ∧ True)) ∧ ((y.n 91001 == (1 : Int)) = false → ((y.n 91001 == (2 : Int)) =
      true → ((ro (y.n 100023)) = true → ((r3 (y.n 100023) == y.n 91001) = true → mr_td E = mr_td E ∧ (41 : Nat) = (41 : Nat) ∧ (True ∧ True ∧ True ∧ True) ∧ (X = X ∧ (33 : Nat)
      = (33 : Nat) ∧ (RGr y) ∧ S = S) ∧ (y.n 91001 = w ∧ U4.mk (cr0 y) (cr1 y) (Ch.mk (y.n 100020) (y.n 100021) (y.n 100022) (y.n 100023) (y.n 100024) (y.n 100025) (y.n 100026)
      true (y.b 100028) (y.n 100029)) (cr3 y) = up3 (moC w) (TR z)) ∧ (1 : Nat) < (2 : Nat) ∧ True) ∧ ((r3 (y.n 100023) == y.n 91001) = false → mr_td E = mr_td E ∧ (41 : Nat) =
      (41 : Nat) ∧ (True ∧ True ∧ True ∧ True) ∧ (X = X ∧ (33 : Nat) = (33 : Nat) ∧ (RGr y) ∧ S = S) ∧ (y.n 91001 = w ∧ TR y = up3 (moC w) (TR z)) ∧ (1 : Nat) < (2 : Nat) ∧
      True)) ∧ ((ro (y.n 100023)) = false → mr_td E = mr_td E ∧ (41 : Nat) = (41 : Nat) ∧ (True ∧ True ∧ True ∧ True) ∧ (X = X ∧ (33 : Nat) = (33 : Nat) ∧ (RGr y) ∧ S = S) ∧
      (y.n 91001 = w ∧ TR y = up3 (moC w) (TR z)) ∧ (1 : Nat) < (2 : Nat) ∧ True)) ∧ ((y.n 91001 == (2 : Int)) = false → mr_td E = mr_td E ∧ (41 : Nat) = (41 : Nat) ∧ (True ∧
      True ∧ True ∧ True) ∧ (X = X ∧ (33 : Nat) = (33 : Nat) ∧ (RGr y) ∧ S = S) ∧ (y.n 91001 = w ∧ TR y = up3 (moC w) (TR z)) ∧ (1 : Nat) < (2 : Nat) ∧ True))) := by kernel_rfl
theorem mr_r3 (E : World) (X : Bl) (S : SW) (z : PX) (w : Int) (y : PX) :
    (loopP (pe E) Try.f19 (endP false (rMs X) S (.t []) (fun z y => (U4.mk (Ch.mk (y.n 100000) (y.n 100001) (y.n 100002) (y.n 100003) (y.n 100004) (y.n 100005) (y.n 100006) (y.b 100007) (y.b 100008) (y.n 100009)) (Ch.mk (y.n 100010) (y.n 100011) (y.n 100012) (y.n 100013) (y.n 100014) (y.n 100015) (y.n 100016) (y.b 100017) (y.b 100018) (y.n 100019)) (Ch.mk (y.n 100020) (y.n 100021) (y.n 100022) (y.n 100023) (y.n 100024) (y.n 100025) (y.n 100026) (y.b 100027) (y.b 100028) (y.n 100029)) (Ch.mk (y.n 100030) (y.n 100031) (y.n 100032) (y.n 100033) (y.n 100034) (y.n 100035) (y.n 100036) (y.b 100037) (y.b 100038) (y.n 100039))) = up4 (moC w) (U4.mk (Ch.mk (z.n 100000) (z.n 100001) (z.n 100002) (z.n 100003) (z.n 100004) (z.n 100005) (z.n 100006) (z.b 100007) (z.b 100008) (z.n 100009)) (Ch.mk (z.n 100010) (z.n 100011) (z.n 100012) (z.n 100013) (z.n 100014) (z.n 100015) (z.n 100016) (z.b 100017) (z.b 100018) (z.n 100019)) (Ch.mk (z.n 100020) (z.n 100021) (z.n 100022) (z.n 100023) (z.n 100024) (z.n 100025) (z.n 100026) (z.b 100027) (z.b 100028) (z.n 100029)) (Ch.mk (z.n 100030) (z.n 100031) (z.n 100032) (z.n 100033) (z.n 100034) (z.n 100035) (z.n 100036) (z.b 100037) (z.b 100038) (z.n 100039)))) z) (headP false S Try.f19.ntmps (some ((fun _ => 1) y)) (mr_hs E X S z w))  (run (pe E) (orcA E) (tabL fns) 20000 (2 ^ 200 - 1) (mr_td E) (mkL Try.f19.ntmps (slC y [(0, .c (.p 1 0)), (1, .i .i64), (4, .c (.i true .i64 3))])) (mkM y S (rMs X) 0))) =
    (((y.n 91001 == (1 : Int)) = true → ((ro (y.n 100033)) = true → ((r3 (y.n 100033) == y.n 91001) = true → mr_td E = mr_td E ∧ (41 : Nat) = (41 : Nat) ∧ (True ∧ True ∧ True ∧
      True) ∧ (X = X ∧ (33 : Nat) = (33 : Nat) ∧ (RGr y) ∧ S = S) ∧ (y.n 91001 = w ∧ U4.mk (cr0 y) (cr1 y) (cr2 y) (Ch.mk (y.n 100030) (y.n 100031) (y.n 100032) (y.n 100033)
      (y.n 100034) (y.n 100035) (y.n 100036) true (y.b 100038) (y.n 100039)) = up4 (moC w) (TR z)) ∧ (0 : Nat) < (1 : Nat) ∧ True) ∧ ((r3 (y.n 100033) == y.n 91001) = false →
      mr_td E = mr_td E ∧ (41 : Nat) = (41 : Nat) ∧ (True ∧ True ∧ True ∧ True) ∧ (X = X ∧ (33 : Nat) = (33 : Nat) ∧ (RGr y) ∧ S = S) ∧ (y.n 91001 = w ∧ TR y = up4 (moC w) (TR
      z)) ∧ (0 : Nat) < (1 : Nat) ∧ True)) ∧ ((ro (y.n 100033)) = false → mr_td E = mr_td E ∧ (41 : Nat) = (41 : Nat) ∧ (True ∧ True ∧ True ∧ True) ∧ (X = X ∧ (33 : Nat) = (33 :
      Nat) ∧ (RGr y) ∧ S = S) ∧ (y.n 91001 = w ∧ TR y = up4 (moC w) (TR z)) ∧ (0 : Nat) < (1 : Nat) ∧ True)) ∧ ((y.n 91001 == (1 : Int)) = false → ((y.n 91001 == (2 : Int)) =
      true → ((ro (y.n 100033)) = true → ((r3 (y.n 100033) == y.n 91001) = true → mr_td E = mr_td E ∧ (41 : Nat) = (41 : Nat) ∧ (True ∧ True ∧ True ∧ True) ∧ (X = X ∧ (33 : Nat)
      = (33 : Nat) ∧ (RGr y) ∧ S = S) ∧ (y.n 91001 = w ∧ U4.mk (cr0 y) (cr1 y) (cr2 y) (Ch.mk (y.n 100030) (y.n 100031) (y.n 100032) (y.n 100033) (y.n 100034) (y.n 100035) (y.n
      100036) true (y.b 100038) (y.n 100039)) = up4 (moC w) (TR z)) ∧ (0 : Nat) < (1 : Nat) ∧ True) ∧ ((r3 (y.n 100033) == y.n 91001) = false → mr_td E = mr_td E ∧ (41 : Nat) =
      (41 : Nat) ∧ (True ∧ True ∧ True ∧ True) ∧ (X = X ∧ (33 : Nat) = (33 : Nat) ∧ (RGr y) ∧ S = S) ∧ (y.n 91001 = w ∧ TR y = up4 (moC w) (TR z)) ∧ (0 : Nat) < (1 : Nat) ∧
      True)) ∧ ((ro (y.n 100033)) = false → mr_td E = mr_td E ∧ (41 : Nat) = (41 : Nat) ∧ (True ∧ True ∧ True ∧ True) ∧ (X = X ∧ (33 : Nat) = (33 : Nat) ∧ (RGr y) ∧ S = S) ∧
      (y.n 91001 = w ∧ TR y = up4 (moC w) (TR z)) ∧ (0 : Nat) < (1 : Nat) ∧ True)) ∧ ((y.n 91001 == (2 : Int)) = false → mr_td E = mr_td E ∧ (41 : Nat) = (41 : Nat) ∧ (True ∧
      True ∧ True ∧ True) ∧ (X = X ∧ (33 : Nat) = (33 : Nat) ∧ (RGr y) ∧ S = S) ∧ (y.n 91001 = w ∧ TR y = up4 (moC w) (TR z)) ∧ (0 : Nat) < (1 : Nat) ∧ True))) := by kernel_rfl
theorem mr_r4 (E : World) (X : Bl) (S : SW) (z : PX) (w : Int) (y : PX) :
    (loopP (pe E) Try.f19 (endP false (rMs X) S (.t []) (fun z y => (U4.mk (Ch.mk (y.n 100000) (y.n 100001) (y.n 100002) (y.n 100003) (y.n 100004) (y.n 100005) (y.n 100006) (y.b 100007) (y.b 100008) (y.n 100009)) (Ch.mk (y.n 100010) (y.n 100011) (y.n 100012) (y.n 100013) (y.n 100014) (y.n 100015) (y.n 100016) (y.b 100017) (y.b 100018) (y.n 100019)) (Ch.mk (y.n 100020) (y.n 100021) (y.n 100022) (y.n 100023) (y.n 100024) (y.n 100025) (y.n 100026) (y.b 100027) (y.b 100028) (y.n 100029)) (Ch.mk (y.n 100030) (y.n 100031) (y.n 100032) (y.n 100033) (y.n 100034) (y.n 100035) (y.n 100036) (y.b 100037) (y.b 100038) (y.n 100039))) = up4 (moC w) (U4.mk (Ch.mk (z.n 100000) (z.n 100001) (z.n 100002) (z.n 100003) (z.n 100004) (z.n 100005) (z.n 100006) (z.b 100007) (z.b 100008) (z.n 100009)) (Ch.mk (z.n 100010) (z.n 100011) (z.n 100012) (z.n 100013) (z.n 100014) (z.n 100015) (z.n 100016) (z.b 100017) (z.b 100018) (z.n 100019)) (Ch.mk (z.n 100020) (z.n 100021) (z.n 100022) (z.n 100023) (z.n 100024) (z.n 100025) (z.n 100026) (z.b 100027) (z.b 100028) (z.n 100029)) (Ch.mk (z.n 100030) (z.n 100031) (z.n 100032) (z.n 100033) (z.n 100034) (z.n 100035) (z.n 100036) (z.b 100037) (z.b 100038) (z.n 100039)))) z) (headP false S Try.f19.ntmps (some ((fun _ => 0) y)) (mr_hs E X S z w))  (run (pe E) (orcA E) (tabL fns) 20000 (2 ^ 200 - 1) (mr_td E) (mkL Try.f19.ntmps (slC y [(0, .c (.p 1 0)), (1, .i .i64), (4, .c (.i true .i64 4))])) (mkM y S (rMs X) 0))) =
    (True ∧ (X = X ∧ (33 : Nat) = (33 : Nat) ∧ (RGr y) ∧ S = S) ∧ TR y = up4 (moC w) (TR z)) := by kernel_rfl
set_option maxHeartbeats 8000000 in
theorem mr_c (E : World) (X : Bl) (S : SW) (w : Int) (z : PX) (hz : rgM z (rMs X) 0) (hp : (fun _ => True) z) : HC (pe E) 19 [.c (.p 1 0), .c (.i false .i64 w)] (rMs X) S (.t []) (fun z y => (U4.mk (Ch.mk (y.n 100000) (y.n 100001) (y.n 100002) (y.n 100003) (y.n 100004) (y.n 100005) (y.n 100006) (y.b 100007) (y.b 100008) (y.n 100009)) (Ch.mk (y.n 100010) (y.n 100011) (y.n 100012) (y.n 100013) (y.n 100014) (y.n 100015) (y.n 100016) (y.b 100017) (y.b 100018) (y.n 100019)) (Ch.mk (y.n 100020) (y.n 100021) (y.n 100022) (y.n 100023) (y.n 100024) (y.n 100025) (y.n 100026) (y.b 100027) (y.b 100028) (y.n 100029)) (Ch.mk (y.n 100030) (y.n 100031) (y.n 100032) (y.n 100033) (y.n 100034) (y.n 100035) (y.n 100036) (y.b 100037) (y.b 100038) (y.n 100039))) = up4 (moC w) (U4.mk (Ch.mk (z.n 100000) (z.n 100001) (z.n 100002) (z.n 100003) (z.n 100004) (z.n 100005) (z.n 100006) (z.b 100007) (z.b 100008) (z.n 100009)) (Ch.mk (z.n 100010) (z.n 100011) (z.n 100012) (z.n 100013) (z.n 100014) (z.n 100015) (z.n 100016) (z.b 100017) (z.b 100018) (z.n 100019)) (Ch.mk (z.n 100020) (z.n 100021) (z.n 100022) (z.n 100023) (z.n 100024) (z.n 100025) (z.n 100026) (z.b 100027) (z.b 100028) (z.n 100029)) (Ch.mk (z.n 100030) (z.n 100031) (z.n 100032) (z.n 100033) (z.n 100034) (z.n 100035) (z.n 100036) (z.b 100037) (z.b 100038) (z.n 100039)))) z := by
  refine HC.loop (P := pe E) orcA_ok tab_ok tab_sz mixed Try.func19 (c := Try.f19.body.getD .skip) rfl (by decide) (Nat.le_of_ble_eq_true rfl) false (by rfl) (by rfl) (by rfl) (by rfl) 20000 (2 ^ 200 - 1) (mr_hs E X S z w) (by rfl) ?_ (loopP_lfH ⟨?_⟩) ?_
  · intro h hmem
    simp only [mr_hs, List.mem_cons, List.not_mem_nil, or_false] at hmem
    rcases hmem with hmem | hmem | hmem | hmem | hmem
    all_goals (subst hmem; exact ⟨by rfl, Nat.le_of_ble_eq_true rfl, fun y hk => okSW_M (by rfl) hk⟩)
  · rw [mr_pro]
    obtain ⟨h100000, h100001, h100002, h100003, h100004, h100005, h100009, h100010, h100011, h100012, h100013, h100014, h100015, h100019, h100020, h100021, h100022, h100023, h100024, h100025, h100029, h100030, h100031, h100032, h100033, h100034, h100035, h100039, _⟩ := rg_r hz
    have hz0 : (TR z) = up0 (moC w) (TR z) := rfl
    (repeat' (first | exact trivial | with_reducible rfl | assumption | apply And.intro)) <;> omega
  · intro h hmem y hy1 hy2 hy3
    simp only [mr_hs, List.mem_cons, List.not_mem_nil, or_false] at hmem
    rcases hmem with hmem | hmem | hmem | hmem | hmem
    · have e1 : h.td = (mr_td E) := by rw [hmem]
      have e2 : h.fs = [(0, .c (.p 1 0)), (1, .i .i64), (4, .c (.i true .i64 0))] := by rw [hmem]
      have e3 : h.ms = (rMs X) := by rw [hmem]
      have e4 : h.mu = (fun _ => 4) := by rw [hmem]
      rw [e3] at hy1
      rw [e2] at hy2
      replace hy3 : (fun y => y.n 91001 = w ∧ (TR y) = up0 (moC w) (TR z)) y := by rw [hmem] at hy3; exact hy3
      rw [e1, e2, e3, e4]
      refine loopP_lfH ⟨?_⟩
      rw [mr_r0]
      clear e1 e2 e3 e4 hmem
      have hf : True ∧ True ∧ True ∧ True := hy2
      obtain ⟨_, _, _, _⟩ := hf
      obtain ⟨h100000, h100001, h100002, h100003, h100004, h100005, h100009, h100010, h100011, h100012, h100013, h100014, h100015, h100019, h100020, h100021, h100022, h100023, h100024, h100025, h100029, h100030, h100031, h100032, h100033, h100034, h100035, h100039, _⟩ := rg_r hy1
      obtain ⟨e1, hq⟩ := hy3
      replace hq : (TR y) = up0 (moC w) (TR z) := hq
      have hs : ap0 (moC w) (TR y) = up1 (moC w) (TR z) := by rw [hq]; rfl
      have o1 := onr _ h100003.1 h100003.2
      have o2 := tmr _ h100003.1 h100003.2
      rw [← hs]
      simp only [fw, lw, vsr, px, w3, wo, ro, r3, o1, o2]
      clear o1 o2 hs hq
      subst e1
      (repeat' (first | exact trivial | with_reducible rfl | assumption | apply And.intro | intro h)) <;> first | omega | (simp_all [ap0, ap1, ap2, ap3, moC, huC, fds, TU, TR, cu0, cu1, cu2, cu3, cr0, cr1, cr2, cr3]; done)
    · have e1 : h.td = (mr_td E) := by rw [hmem]
      have e2 : h.fs = [(0, .c (.p 1 0)), (1, .i .i64), (4, .c (.i true .i64 1))] := by rw [hmem]
      have e3 : h.ms = (rMs X) := by rw [hmem]
      have e4 : h.mu = (fun _ => 3) := by rw [hmem]
      rw [e3] at hy1
      rw [e2] at hy2
      replace hy3 : (fun y => y.n 91001 = w ∧ (TR y) = up1 (moC w) (TR z)) y := by rw [hmem] at hy3; exact hy3
      rw [e1, e2, e3, e4]
      refine loopP_lfH ⟨?_⟩
      rw [mr_r1]
      clear e1 e2 e3 e4 hmem
      have hf : True ∧ True ∧ True ∧ True := hy2
      obtain ⟨_, _, _, _⟩ := hf
      obtain ⟨h100000, h100001, h100002, h100003, h100004, h100005, h100009, h100010, h100011, h100012, h100013, h100014, h100015, h100019, h100020, h100021, h100022, h100023, h100024, h100025, h100029, h100030, h100031, h100032, h100033, h100034, h100035, h100039, _⟩ := rg_r hy1
      obtain ⟨e1, hq⟩ := hy3
      replace hq : (TR y) = up1 (moC w) (TR z) := hq
      have hs : ap1 (moC w) (TR y) = up2 (moC w) (TR z) := by rw [hq]; rfl
      have o1 := onr _ h100013.1 h100013.2
      have o2 := tmr _ h100013.1 h100013.2
      rw [← hs]
      simp only [fw, lw, vsr, px, w3, wo, ro, r3, o1, o2]
      clear o1 o2 hs hq
      subst e1
      (repeat' (first | exact trivial | with_reducible rfl | assumption | apply And.intro | intro h)) <;> first | omega | (simp_all [ap0, ap1, ap2, ap3, moC, huC, fds, TU, TR, cu0, cu1, cu2, cu3, cr0, cr1, cr2, cr3]; done)
    · have e1 : h.td = (mr_td E) := by rw [hmem]
      have e2 : h.fs = [(0, .c (.p 1 0)), (1, .i .i64), (4, .c (.i true .i64 2))] := by rw [hmem]
      have e3 : h.ms = (rMs X) := by rw [hmem]
      have e4 : h.mu = (fun _ => 2) := by rw [hmem]
      rw [e3] at hy1
      rw [e2] at hy2
      replace hy3 : (fun y => y.n 91001 = w ∧ (TR y) = up2 (moC w) (TR z)) y := by rw [hmem] at hy3; exact hy3
      rw [e1, e2, e3, e4]
      refine loopP_lfH ⟨?_⟩
      rw [mr_r2]
      clear e1 e2 e3 e4 hmem
      have hf : True ∧ True ∧ True ∧ True := hy2
      obtain ⟨_, _, _, _⟩ := hf
      obtain ⟨h100000, h100001, h100002, h100003, h100004, h100005, h100009, h100010, h100011, h100012, h100013, h100014, h100015, h100019, h100020, h100021, h100022, h100023, h100024, h100025, h100029, h100030, h100031, h100032, h100033, h100034, h100035, h100039, _⟩ := rg_r hy1
      obtain ⟨e1, hq⟩ := hy3
      replace hq : (TR y) = up2 (moC w) (TR z) := hq
      have hs : ap2 (moC w) (TR y) = up3 (moC w) (TR z) := by rw [hq]; rfl
      have o1 := onr _ h100023.1 h100023.2
      have o2 := tmr _ h100023.1 h100023.2
      rw [← hs]
      simp only [fw, lw, vsr, px, w3, wo, ro, r3, o1, o2]
      clear o1 o2 hs hq
      subst e1
      (repeat' (first | exact trivial | with_reducible rfl | assumption | apply And.intro | intro h)) <;> first | omega | (simp_all [ap0, ap1, ap2, ap3, moC, huC, fds, TU, TR, cu0, cu1, cu2, cu3, cr0, cr1, cr2, cr3]; done)
    · have e1 : h.td = (mr_td E) := by rw [hmem]
      have e2 : h.fs = [(0, .c (.p 1 0)), (1, .i .i64), (4, .c (.i true .i64 3))] := by rw [hmem]
      have e3 : h.ms = (rMs X) := by rw [hmem]
      have e4 : h.mu = (fun _ => 1) := by rw [hmem]
      rw [e3] at hy1
      rw [e2] at hy2
      replace hy3 : (fun y => y.n 91001 = w ∧ (TR y) = up3 (moC w) (TR z)) y := by rw [hmem] at hy3; exact hy3
      rw [e1, e2, e3, e4]
      refine loopP_lfH ⟨?_⟩
      rw [mr_r3]
      clear e1 e2 e3 e4 hmem
      have hf : True ∧ True ∧ True ∧ True := hy2
      obtain ⟨_, _, _, _⟩ := hf
      obtain ⟨h100000, h100001, h100002, h100003, h100004, h100005, h100009, h100010, h100011, h100012, h100013, h100014, h100015, h100019, h100020, h100021, h100022, h100023, h100024, h100025, h100029, h100030, h100031, h100032, h100033, h100034, h100035, h100039, _⟩ := rg_r hy1
      obtain ⟨e1, hq⟩ := hy3
      replace hq : (TR y) = up3 (moC w) (TR z) := hq
      have hs : ap3 (moC w) (TR y) = up4 (moC w) (TR z) := by rw [hq]; rfl
      have o1 := onr _ h100033.1 h100033.2
      have o2 := tmr _ h100033.1 h100033.2
      rw [← hs]
      simp only [fw, lw, vsr, px, w3, wo, ro, r3, o1, o2]
      clear o1 o2 hs hq
      subst e1
      (repeat' (first | exact trivial | with_reducible rfl | assumption | apply And.intro | intro h)) <;> first | omega | (simp_all [ap0, ap1, ap2, ap3, moC, huC, fds, TU, TR, cu0, cu1, cu2, cu3, cr0, cr1, cr2, cr3]; done)
    · have e1 : h.td = (mr_td E) := by rw [hmem]
      have e2 : h.fs = [(0, .c (.p 1 0)), (1, .i .i64), (4, .c (.i true .i64 4))] := by rw [hmem]
      have e3 : h.ms = (rMs X) := by rw [hmem]
      have e4 : h.mu = (fun _ => 0) := by rw [hmem]
      rw [e3] at hy1
      rw [e2] at hy2
      replace hy3 : (fun y => y.n 91001 = w ∧ (TR y) = up4 (moC w) (TR z)) y := by rw [hmem] at hy3; exact hy3
      rw [e1, e2, e3, e4]
      refine loopP_lfH ⟨?_⟩
      rw [mr_r4]
      clear e1 e2 e3 e4 hmem
      have hf : True ∧ True ∧ True ∧ True := hy2
      obtain ⟨_, _, _, _⟩ := hf
      obtain ⟨h100000, h100001, h100002, h100003, h100004, h100005, h100009, h100010, h100011, h100012, h100013, h100014, h100015, h100019, h100020, h100021, h100022, h100023, h100024, h100025, h100029, h100030, h100031, h100032, h100033, h100034, h100035, h100039, _⟩ := rg_r hy1
      obtain ⟨e1, hq⟩ := hy3
      replace hq : (TR y) = up4 (moC w) (TR z) := hq
      (repeat' (first | exact trivial | with_reducible rfl | assumption | apply And.intro)) <;> omega
noncomputable def hr_td (E : World) : List Item := headOf (run (pe E) (orcA E) (tabL fns) 20000 (2 ^ 200 - 1) [.code (Try.f20.body.getD .skip)] ⟨Try.f20.ntmps, mkFrGo (Tr.mk 12) 0 [.c (.p 1 0), .c (.i true .u32 5)]⟩ (mkM default [] (rMs ⟨[], 0⟩) 0))
noncomputable def hr_hs (E : World) (X : Bl) (S : SW) (z : PX) (w : Int) : List Head := [⟨3, (litK 4 0), (hr_td E), [(0, .c (.p 1 0)), (1, .i .u32), (4, .c (.i true .i64 0))], (rMs X), fun y => y.n 91001 = w ∧ (U4.mk (Ch.mk (y.n 100000) (y.n 100001) (y.n 100002) (y.n 100003) (y.n 100004) (y.n 100005) (y.n 100006) (y.b 100007) (y.b 100008) (y.n 100009)) (Ch.mk (y.n 100010) (y.n 100011) (y.n 100012) (y.n 100013) (y.n 100014) (y.n 100015) (y.n 100016) (y.b 100017) (y.b 100018) (y.n 100019)) (Ch.mk (y.n 100020) (y.n 100021) (y.n 100022) (y.n 100023) (y.n 100024) (y.n 100025) (y.n 100026) (y.b 100027) (y.b 100028) (y.n 100029)) (Ch.mk (y.n 100030) (y.n 100031) (y.n 100032) (y.n 100033) (y.n 100034) (y.n 100035) (y.n 100036) (y.b 100037) (y.b 100038) (y.n 100039))) = up0 (huC w) (TR z), fun _ => 4⟩, ⟨3, (litK 4 1), (hr_td E), [(0, .c (.p 1 0)), (1, .i .u32), (4, .c (.i true .i64 1))], (rMs X), fun y => y.n 91001 = w ∧ (U4.mk (Ch.mk (y.n 100000) (y.n 100001) (y.n 100002) (y.n 100003) (y.n 100004) (y.n 100005) (y.n 100006) (y.b 100007) (y.b 100008) (y.n 100009)) (Ch.mk (y.n 100010) (y.n 100011) (y.n 100012) (y.n 100013) (y.n 100014) (y.n 100015) (y.n 100016) (y.b 100017) (y.b 100018) (y.n 100019)) (Ch.mk (y.n 100020) (y.n 100021) (y.n 100022) (y.n 100023) (y.n 100024) (y.n 100025) (y.n 100026) (y.b 100027) (y.b 100028) (y.n 100029)) (Ch.mk (y.n 100030) (y.n 100031) (y.n 100032) (y.n 100033) (y.n 100034) (y.n 100035) (y.n 100036) (y.b 100037) (y.b 100038) (y.n 100039))) = up1 (huC w) (TR z), fun _ => 3⟩, ⟨3, (litK 4 2), (hr_td E), [(0, .c (.p 1 0)), (1, .i .u32), (4, .c (.i true .i64 2))], (rMs X), fun y => y.n 91001 = w ∧ (U4.mk (Ch.mk (y.n 100000) (y.n 100001) (y.n 100002) (y.n 100003) (y.n 100004) (y.n 100005) (y.n 100006) (y.b 100007) (y.b 100008) (y.n 100009)) (Ch.mk (y.n 100010) (y.n 100011) (y.n 100012) (y.n 100013) (y.n 100014) (y.n 100015) (y.n 100016) (y.b 100017) (y.b 100018) (y.n 100019)) (Ch.mk (y.n 100020) (y.n 100021) (y.n 100022) (y.n 100023) (y.n 100024) (y.n 100025) (y.n 100026) (y.b 100027) (y.b 100028) (y.n 100029)) (Ch.mk (y.n 100030) (y.n 100031) (y.n 100032) (y.n 100033) (y.n 100034) (y.n 100035) (y.n 100036) (y.b 100037) (y.b 100038) (y.n 100039))) = up2 (huC w) (TR z), fun _ => 2⟩, ⟨3, (litK 4 3), (hr_td E), [(0, .c (.p 1 0)), (1, .i .u32), (4, .c (.i true .i64 3))], (rMs X), fun y => y.n 91001 = w ∧ (U4.mk (Ch.mk (y.n 100000) (y.n 100001) (y.n 100002) (y.n 100003) (y.n 100004) (y.n 100005) (y.n 100006) (y.b 100007) (y.b 100008) (y.n 100009)) (Ch.mk (y.n 100010) (y.n 100011) (y.n 100012) (y.n 100013) (y.n 100014) (y.n 100015) (y.n 100016) (y.b 100017) (y.b 100018) (y.n 100019)) (Ch.mk (y.n 100020) (y.n 100021) (y.n 100022) (y.n 100023) (y.n 100024) (y.n 100025) (y.n 100026) (y.b 100027) (y.b 100028) (y.n 100029)) (Ch.mk (y.n 100030) (y.n 100031) (y.n 100032) (y.n 100033) (y.n 100034) (y.n 100035) (y.n 100036) (y.b 100037) (y.b 100038) (y.n 100039))) = up3 (huC w) (TR z), fun _ => 1⟩, ⟨3, (litK 4 4), (hr_td E), [(0, .c (.p 1 0)), (1, .i .u32), (4, .c (.i true .i64 4))], (rMs X), fun y => y.n 91001 = w ∧ (U4.mk (Ch.mk (y.n 100000) (y.n 100001) (y.n 100002) (y.n 100003) (y.n 100004) (y.n 100005) (y.n 100006) (y.b 100007) (y.b 100008) (y.n 100009)) (Ch.mk (y.n 100010) (y.n 100011) (y.n 100012) (y.n 100013) (y.n 100014) (y.n 100015) (y.n 100016) (y.b 100017) (y.b 100018) (y.n 100019)) (Ch.mk (y.n 100020) (y.n 100021) (y.n 100022) (y.n 100023) (y.n 100024) (y.n 100025) (y.n 100026) (y.b 100027) (y.b 100028) (y.n 100029)) (Ch.mk (y.n 100030) (y.n 100031) (y.n 100032) (y.n 100033) (y.n 100034) (y.n 100035) (y.n 100036) (y.b 100037) (y.b 100038) (y.n 100039))) = up4 (huC w) (TR z), fun _ => 0⟩]
theorem hr_pro (E : World) (X : Bl) (S : SW) (z : PX) (w : Int) :
    (loopP (pe E) Try.f20 (endP false (rMs X) S (.t []) (fun z y => (U4.mk (Ch.mk (y.n 100000) (y.n 100001) (y.n 100002) (y.n 100003) (y.n 100004) (y.n 100005) (y.n 100006) (y.b 100007) (y.b 100008) (y.n 100009)) (Ch.mk (y.n 100010) (y.n 100011) (y.n 100012) (y.n 100013) (y.n 100014) (y.n 100015) (y.n 100016) (y.b 100017) (y.b 100018) (y.n 100019)) (Ch.mk (y.n 100020) (y.n 100021) (y.n 100022) (y.n 100023) (y.n 100024) (y.n 100025) (y.n 100026) (y.b 100027) (y.b 100028) (y.n 100029)) (Ch.mk (y.n 100030) (y.n 100031) (y.n 100032) (y.n 100033) (y.n 100034) (y.n 100035) (y.n 100036) (y.b 100037) (y.b 100038) (y.n 100039))) = up4 (huC w) (U4.mk (Ch.mk (z.n 100000) (z.n 100001) (z.n 100002) (z.n 100003) (z.n 100004) (z.n 100005) (z.n 100006) (z.b 100007) (z.b 100008) (z.n 100009)) (Ch.mk (z.n 100010) (z.n 100011) (z.n 100012) (z.n 100013) (z.n 100014) (z.n 100015) (z.n 100016) (z.b 100017) (z.b 100018) (z.n 100019)) (Ch.mk (z.n 100020) (z.n 100021) (z.n 100022) (z.n 100023) (z.n 100024) (z.n 100025) (z.n 100026) (z.b 100027) (z.b 100028) (z.n 100029)) (Ch.mk (z.n 100030) (z.n 100031) (z.n 100032) (z.n 100033) (z.n 100034) (z.n 100035) (z.n 100036) (z.b 100037) (z.b 100038) (z.n 100039)))) z) (headP false S Try.f20.ntmps none (hr_hs E X S z w)) (run (pe E) (orcA E) (tabL fns) 20000 (2 ^ 200 - 1) [.code (Try.f20.body.getD .skip)] ⟨Try.f20.ntmps, mkFrGo (Tr.mk 12) 0 [.c (.p 1 0), .c (.i false .u32 w)]⟩ (mkM z S (rMs X) 0))) =
    (hr_td E = hr_td E ∧ (29 : Nat) = (29 : Nat) ∧ (True ∧ True ∧ True ∧ True) ∧ (X = X ∧ (33 : Nat) = (33 : Nat) ∧ (RGr z) ∧ S = S) ∧ (w = w ∧ TR z = up0 (huC w) (TR z)) ∧
      True) := by kernel_rfl
theorem hr_r0 (E : World) (X : Bl) (S : SW) (z : PX) (w : Int) (y : PX) :
    (loopP (pe E) Try.f20 (endP false (rMs X) S (.t []) (fun z y => (U4.mk (Ch.mk (y.n 100000) (y.n 100001) (y.n 100002) (y.n 100003) (y.n 100004) (y.n 100005) (y.n 100006) (y.b 100007) (y.b 100008) (y.n 100009)) (Ch.mk (y.n 100010) (y.n 100011) (y.n 100012) (y.n 100013) (y.n 100014) (y.n 100015) (y.n 100016) (y.b 100017) (y.b 100018) (y.n 100019)) (Ch.mk (y.n 100020) (y.n 100021) (y.n 100022) (y.n 100023) (y.n 100024) (y.n 100025) (y.n 100026) (y.b 100027) (y.b 100028) (y.n 100029)) (Ch.mk (y.n 100030) (y.n 100031) (y.n 100032) (y.n 100033) (y.n 100034) (y.n 100035) (y.n 100036) (y.b 100037) (y.b 100038) (y.n 100039))) = up4 (huC w) (U4.mk (Ch.mk (z.n 100000) (z.n 100001) (z.n 100002) (z.n 100003) (z.n 100004) (z.n 100005) (z.n 100006) (z.b 100007) (z.b 100008) (z.n 100009)) (Ch.mk (z.n 100010) (z.n 100011) (z.n 100012) (z.n 100013) (z.n 100014) (z.n 100015) (z.n 100016) (z.b 100017) (z.b 100018) (z.n 100019)) (Ch.mk (z.n 100020) (z.n 100021) (z.n 100022) (z.n 100023) (z.n 100024) (z.n 100025) (z.n 100026) (z.b 100027) (z.b 100028) (z.n 100029)) (Ch.mk (z.n 100030) (z.n 100031) (z.n 100032) (z.n 100033) (z.n 100034) (z.n 100035) (z.n 100036) (z.b 100037) (z.b 100038) (z.n 100039)))) z) (headP false S Try.f20.ntmps (some ((fun _ => 4) y)) (hr_hs E X S z w))  (run (pe E) (orcA E) (tabL fns) 20000 (2 ^ 200 - 1) (hr_td E) (mkL Try.f20.ntmps (slC y [(0, .c (.p 1 0)), (1, .i .u32), (4, .c (.i true .i64 0))])) (mkM y S (rMs X) 0))) =
    (((ro (y.n 100003)) = true → ((r3 (y.n 100003) == (3 : Int)) = true → hr_td E = hr_td E ∧ (29 : Nat) = (29 : Nat) ∧ (True ∧ True ∧ True ∧ True) ∧ (X = X ∧ (33 : Nat) = (33
      : Nat) ∧ (RGr y) ∧ S = S) ∧ (y.n 91001 = w ∧ TR y = up1 (huC w) (TR z)) ∧ (3 : Nat) < (4 : Nat) ∧ True) ∧ ((r3 (y.n 100003) == (3 : Int)) = false → hr_td E = hr_td E ∧ (29
      : Nat) = (29 : Nat) ∧ (True ∧ True ∧ True ∧ True) ∧ (X = X ∧ (33 : Nat) = (33 : Nat) ∧ (RGr y) ∧ S = S) ∧ (y.n 91001 = w ∧ TR y = up1 (huC w) (TR z)) ∧ (3 : Nat) < (4 :
      Nat) ∧ True)) ∧ ((ro (y.n 100003)) = false → hr_td E = hr_td E ∧ (29 : Nat) = (29 : Nat) ∧ (True ∧ True ∧ True ∧ True) ∧ (X = X ∧ (33 : Nat) = (33 : Nat) ∧ (RGr y) ∧ S =
      S) ∧ (y.n 91001 = w ∧ TR y = up1 (huC w) (TR z)) ∧ (3 : Nat) < (4 : Nat) ∧ True)) := by kernel_rfl
theorem hr_r1 (E : World) (X : Bl) (S : SW) (z : PX) (w : Int) (y : PX) :
    (loopP (pe E) Try.f20 (endP false (rMs X) S (.t []) (fun z y => (U4.mk (Ch.mk (y.n 100000) (y.n 100001) (y.n 100002) (y.n 100003) (y.n 100004) (y.n 100005) (y.n 100006) (y.b 100007) (y.b 100008) (y.n 100009)) (Ch.mk (y.n 100010) (y.n 100011) (y.n 100012) (y.n 100013) (y.n 100014) (y.n 100015) (y.n 100016) (y.b 100017) (y.b 100018) (y.n 100019)) (Ch.mk (y.n 100020) (y.n 100021) (y.n 100022) (y.n 100023) (y.n 100024) (y.n 100025) (y.n 100026) (y.b 100027) (y.b 100028) (y.n 100029)) (Ch.mk (y.n 100030) (y.n 100031) (y.n 100032) (y.n 100033) (y.n 100034) (y.n 100035) (y.n 100036) (y.b 100037) (y.b 100038) (y.n 100039))) = up4 (huC w) (U4.mk (Ch.mk (z.n 100000) (z.n 100001) (z.n 100002) (z.n 100003) (z.n 100004) (z.n 100005) (z.n 100006) (z.b 100007) (z.b 100008) (z.n 100009)) (Ch.mk (z.n 100010) (z.n 100011) (z.n 100012) (z.n 100013) (z.n 100014) (z.n 100015) (z.n 100016) (z.b 100017) (z.b 100018) (z.n 100019)) (Ch.mk (z.n 100020) (z.n 100021) (z.n 100022) (z.n 100023) (z.n 100024) (z.n 100025) (z.n 100026) (z.b 100027) (z.b 100028) (z.n 100029)) (Ch.mk (z.n 100030) (z.n 100031) (z.n 100032) (z.n 100033) (z.n 100034) (z.n 100035) (z.n 100036) (z.b 100037) (z.b 100038) (z.n 100039)))) z) (headP false S Try.f20.ntmps (some ((fun _ => 3) y)) (hr_hs E X S z w))  (run (pe E) (orcA E) (tabL fns) 20000 (2 ^ 200 - 1) (hr_td E) (mkL Try.f20.ntmps (slC y [(0, .c (.p 1 0)), (1, .i .u32), (4, .c (.i true .i64 1))])) (mkM y S (rMs X) 0))) =
    (((ro (y.n 100013)) = true → ((r3 (y.n 100013) == (3 : Int)) = true → ((y.n 100015 == y.n 91001) = true → hr_td E = hr_td E ∧ (29 : Nat) = (29 : Nat) ∧ (True ∧ True ∧ True
      ∧ True) ∧ (X = X ∧ (33 : Nat) = (33 : Nat) ∧ (RGr y) ∧ S = S) ∧ (y.n 91001 = w ∧ U4.mk (cr0 y) (Ch.mk (y.n 100010) (y.n 100011) (y.n 100012) (y.n 100013) (y.n 100014) (y.n
      100015) (y.n 100016) true (y.b 100018) (y.n 100019)) (cr2 y) (cr3 y) = up2 (huC w) (TR z)) ∧ (2 : Nat) < (3 : Nat) ∧ True) ∧ ((y.n 100015 == y.n 91001) = false → hr_td E =
      hr_td E ∧ (29 : Nat) = (29 : Nat) ∧ (True ∧ True ∧ True ∧ True) ∧ (X = X ∧ (33 : Nat) = (33 : Nat) ∧ (RGr y) ∧ S = S) ∧ (y.n 91001 = w ∧ TR y = up2 (huC w) (TR z)) ∧ (2 :
      Nat) < (3 : Nat) ∧ True)) ∧ ((r3 (y.n 100013) == (3 : Int)) = false → hr_td E = hr_td E ∧ (29 : Nat) = (29 : Nat) ∧ (True ∧ True ∧ True ∧ True) ∧ (X = X ∧ (33 : Nat) = (33
      : Nat) ∧ (RGr y) ∧ S = S) ∧ (y.n 91001 = w ∧ TR y = up2 (huC w) (TR z)) ∧ (2 : Nat) < (3 : Nat) ∧ True)) ∧ ((ro (y.n 100013)) = false → hr_td E = hr_td E ∧ (29 : Nat) =
      (29 : Nat) ∧ (True ∧ True ∧ True ∧ True) ∧ (X = X ∧ (33 : Nat) = (33 : Nat) ∧ (RGr y) ∧ S = S) ∧ (y.n 91001 = w ∧ TR y = up2 (huC w) (TR z)) ∧ (2 : Nat) < (3 : Nat) ∧
      True)) := by kernel_rfl
theorem hr_r2 (E : World) (X : Bl) (S : SW) (z : PX) (w : Int) (y : PX) :
    (loopP (pe E) Try.f20 (endP false (rMs X) S (.t []) (fun z y => (U4.mk (Ch.mk (y.n 100000) (y.n 100001) (y.n 100002) (y.n 100003) (y.n 100004) (y.n 100005) (y.n 100006) (y.b 100007) (y.b 100008) (y.n 100009)) (Ch.mk (y.n 100010) (y.n 100011) (y.n 100012) (y.n 100013) (y.n 100014) (y.n 100015) (y.n 100016) (y.b 100017) (y.b 100018) (y.n 100019)) (Ch.mk (y.n 100020) (y.n 100021) (y.n 100022) (y.n 100023) (y.n 100024) (y.n 100025) (y.n 100026) (y.b 100027) (y.b 100028) (y.n 100029)) (Ch.mk (y.n 100030) (y.n 100031) (y.n 100032) (y.n 100033) (y.n 100034) (y.n 100035) (y.n 100036) (y.b 100037) (y.b 100038) (y.n 100039))) = up4 (huC w) (U4.mk (Ch.mk (z.n 100000) (z.n 100001) (z.n 100002) (z.n 100003) (z.n 100004) (z.n 100005) (z.n 100006) (z.b 100007) (z.b 100008) (z.n 100009)) (Ch.mk (z.n 100010) (z.n 100011) (z.n 100012) (z.n 100013) (z.n 100014) (z.n 100015) (z.n 100016) (z.b 100017) (z.b 100018) (z.n 100019)) (Ch.mk (z.n 100020) (z.n 100021) (z.n 100022) (z.n 100023) (z.n 100024) (z.n 100025) (z.n 100026) (z.b 100027) (z.b 100028) (z.n 100029)) (Ch.mk (z.n 100030) (z.n 100031) (z.n 100032) (z.n 100033) (z.n 100034) (z.n 100035) (z.n 100036) (z.b 100037) (z.b 100038) (z.n 100039)))) z) (headP false S Try.f20.ntmps (some ((fun _ => 2) y)) (hr_hs E X S z w))  (run (pe E) (orcA E) (tabL fns) 20000 (2 ^ 200 - 1) (hr_td E) (mkL Try.f20.ntmps (slC y [(0, .c (.p 1 0)), (1, .i .u32), (4, .c (.i true .i64 2))])) (mkM y S (rMs X) 0))) =
    (((ro (y.n 100023)) = true → ((r3 (y.n 100023) == (3 : Int)) = true → ((y.n 100025 == y.n 91001) = true → hr_td E = hr_td E ∧ (29 : Nat) = (29 : Nat) ∧ (True ∧ True ∧ True
      ∧ True) ∧ (X = X ∧ (33 : Nat) = (33 : Nat) ∧ (RGr y) ∧ S = S) ∧ (y.n 91001 = w ∧ U4.mk (cr0 y) (cr1 y) (Ch.mk (y.n 100020) (y.n 100021) (y.n 100022) (y.n 100023) (y.n
      100024) (y.n 100025) (y.n 100026) true (y.b 100028) (y.n 100029)) (cr3 y) = up3 (huC w) (TR z)) ∧ (1 : Nat) < (2 : Nat) ∧ True) ∧ ((y.n 100025 == y.n 91001) = false →
      hr_td E = hr_td E ∧ (29 : Nat) = (29 : Nat) ∧ (True ∧ True ∧ True ∧ True) ∧ (X = X ∧ (33 : Nat) = (33 : Nat) ∧ (RGr y) ∧ S = S) ∧ (y.n 91001 = w ∧ TR y = up3 (huC w) (TR
      z)) ∧ (1 : Nat) < (2 : Nat) ∧ True)) ∧ ((r3 (y.n 100023) == (3 : Int)) = false → hr_td E = hr_td E ∧ (29 : Nat) = (29 : Nat) ∧ (True ∧ True ∧ True ∧ True) ∧ (X = X ∧ (33 :
      Nat) = (33 : Nat) ∧ (RGr y) ∧ S = S) ∧ (y.n 91001 = w ∧ TR y = up3 (huC w) (TR z)) ∧ (1 : Nat) < (2 : Nat) ∧ True)) ∧ ((ro (y.n 100023)) = false → hr_td E = hr_td E ∧ (29
      : Nat) = (29 : Nat) ∧ (True ∧ True ∧ True ∧ True) ∧ (X = X ∧ (33 : Nat) = (33 : Nat) ∧ (RGr y) ∧ S = S) ∧ (y.n 91001 = w ∧ TR y = up3 (huC w) (TR z)) ∧ (1 : Nat) < (2 :
      Nat) ∧ True)) := by kernel_rfl
theorem hr_r3 (E : World) (X : Bl) (S : SW) (z : PX) (w : Int) (y : PX) :
    (loopP (pe E) Try.f20 (endP false (rMs X) S (.t []) (fun z y => (U4.mk (Ch.mk (y.n 100000) (y.n 100001) (y.n 100002) (y.n 100003) (y.n 100004) (y.n 100005) (y.n 100006) (y.b 100007) (y.b 100008) (y.n 100009)) (Ch.mk (y.n 100010) (y.n 100011) (y.n 100012) (y.n 100013) (y.n 100014) (y.n 100015) (y.n 100016) (y.b 100017) (y.b 100018) (y.n 100019)) (Ch.mk (y.n 100020) (y.n 100021) (y.n 100022) (y.n 100023) (y.n 100024) (y.n 100025) (y.n 100026) (y.b 100027) (y.b 100028) (y.n 100029)) (Ch.mk (y.n 100030) (y.n 100031) (y.n 100032) (y.n 100033) (y.n 100034) (y.n 100035) (y.n 100036) (y.b 100037) (y.b 100038) (y.n 100039))) = up4 (huC w) (U4.mk (Ch.mk (z.n 100000) (z.n 100001) (z.n 100002) (z.n 100003) (z.n 100004) (z.n 100005) (z.n 100006) (z.b 100007) (z.b 100008) (z.n 100009)) (Ch.mk (z.n 100010) (z.n 100011) (z.n 100012) (z.n 100013) (z.n 100014) (z.n 100015) (z.n 100016) (z.b 100017) (z.b 100018) (z.n 100019)) (Ch.mk (z.n 100020) (z.n 100021) (z.n 100022) (z.n 100023) (z.n 100024) (z.n 100025) (z.n 100026) (z.b 100027) (z.b 100028) (z.n 100029)) (Ch.mk (z.n 100030) (z.n 100031) (z.n 100032) (z.n 100033) (z.n 100034) (z.n 100035) (z.n 100036) (z.b 100037) (z.b 100038) (z.n 100039)))) z) (headP false S Try.f20.ntmps (some ((fun _ => 1) y)) (hr_hs E X S z w))  (run (pe E) (orcA E) (tabL fns) 20000 (2 ^ 200 - 1) (hr_td E) (mkL Try.f20.ntmps (slC y [(0, .c (.p 1 0)), (1, .i .u32), (4, .c (.i true .i64 3))])) (mkM y S (rMs X) 0))) =
    (((ro (y.n 100033)) = true → ((r3 (y.n 100033) == (3 : Int)) = true → hr_td E = hr_td E ∧ (29 : Nat) = (29 : Nat) ∧ (True ∧ True ∧ True ∧ True) ∧ (X = X ∧ (33 : Nat) = (33
      : Nat) ∧ (RGr y) ∧ S = S) ∧ (y.n 91001 = w ∧ TR y = up4 (huC w) (TR z)) ∧ (0 : Nat) < (1 : Nat) ∧ True) ∧ ((r3 (y.n 100033) == (3 : Int)) = false → hr_td E = hr_td E ∧ (29
      : Nat) = (29 : Nat) ∧ (True ∧ True ∧ True ∧ True) ∧ (X = X ∧ (33 : Nat) = (33 : Nat) ∧ (RGr y) ∧ S = S) ∧ (y.n 91001 = w ∧ TR y = up4 (huC w) (TR z)) ∧ (0 : Nat) < (1 :
      Nat) ∧ True)) ∧ ((ro (y.n 100033)) = false → hr_td E = hr_td E ∧ (29 : Nat) = (29 : Nat) ∧ (True ∧ True ∧ True ∧ True) ∧ (X = X ∧ (33 : Nat) = (33 : Nat) ∧ (RGr y) ∧ S =
      S) ∧ (y.n 91001 = w ∧ TR y = up4 (huC w) (TR z)) ∧ (0 : Nat) < (1 : Nat) ∧ True)) := by kernel_rfl
theorem hr_r4 (E : World) (X : Bl) (S : SW) (z : PX) (w : Int) (y : PX) :
    (loopP (pe E) Try.f20 (endP false (rMs X) S (.t []) (fun z y => (U4.mk (Ch.mk (y.n 100000) (y.n 100001) (y.n 100002) (y.n 100003) (y.n 100004) (y.n 100005) (y.n 100006) (y.b 100007) (y.b 100008) (y.n 100009)) (Ch.mk (y.n 100010) (y.n 100011) (y.n 100012) (y.n 100013) (y.n 100014) (y.n 100015) (y.n 100016) (y.b 100017) (y.b 100018) (y.n 100019)) (Ch.mk (y.n 100020) (y.n 100021) (y.n 100022) (y.n 100023) (y.n 100024) (y.n 100025) (y.n 100026) (y.b 100027) (y.b 100028) (y.n 100029)) (Ch.mk (y.n 100030) (y.n 100031) (y.n 100032) (y.n 100033) (y.n 100034) (y.n 100035) (y.n 100036) (y.b 100037) (y.b 100038) (y.n 100039))) = up4 (huC w) (U4.mk (Ch.mk (z.n 100000) (z.n 100001) (z.n 100002) (z.n 100003) (z.n 100004) (z.n 100005) (z.n 100006) (z.b 100007) (z.b 100008) (z.n 100009)) (Ch.mk (z.n 100010) (z.n 100011) (z.n 100012) (z.n 100013) (z.n 100014) (z.n 100015) (z.n 100016) (z.b 100017) (z.b 100018) (z.n 100019)) (Ch.mk (z.n 100020) (z.n 100021) (z.n 100022) (z.n 100023) (z.n 100024) (z.n 100025) (z.n 100026) (z.b 100027) (z.b 100028) (z.n 100029)) (Ch.mk (z.n 100030) (z.n 100031) (z.n 100032) (z.n 100033) (z.n 100034) (z.n 100035) (z.n 100036) (z.b 100037) (z.b 100038) (z.n 100039)))) z) (headP false S Try.f20.ntmps (some ((fun _ => 0) y)) (hr_hs E X S z w))  (run (pe E) (orcA E) (tabL fns) 20000 (2 ^ 200 - 1) (hr_td E) (mkL Try.f20.ntmps (slC y [(0, .c (.p 1 0)), (1, .i .u32), (4, .c (.i true .i64 4))])) (mkM y S (rMs X) 0))) =
    (True ∧ (X = X ∧ (33 : Nat) = (33 : Nat) ∧ (RGr y) ∧ S = S) ∧ TR y = up4 (huC w) (TR z)) := by kernel_rfl
set_option maxHeartbeats 8000000 in
theorem hr_c (E : World) (X : Bl) (S : SW) (w : Int) (z : PX) (hz : rgM z (rMs X) 0) (hp : (fun _ => True) z) : HC (pe E) 20 [.c (.p 1 0), .c (.i false .u32 w)] (rMs X) S (.t []) (fun z y => (U4.mk (Ch.mk (y.n 100000) (y.n 100001) (y.n 100002) (y.n 100003) (y.n 100004) (y.n 100005) (y.n 100006) (y.b 100007) (y.b 100008) (y.n 100009)) (Ch.mk (y.n 100010) (y.n 100011) (y.n 100012) (y.n 100013) (y.n 100014) (y.n 100015) (y.n 100016) (y.b 100017) (y.b 100018) (y.n 100019)) (Ch.mk (y.n 100020) (y.n 100021) (y.n 100022) (y.n 100023) (y.n 100024) (y.n 100025) (y.n 100026) (y.b 100027) (y.b 100028) (y.n 100029)) (Ch.mk (y.n 100030) (y.n 100031) (y.n 100032) (y.n 100033) (y.n 100034) (y.n 100035) (y.n 100036) (y.b 100037) (y.b 100038) (y.n 100039))) = up4 (huC w) (U4.mk (Ch.mk (z.n 100000) (z.n 100001) (z.n 100002) (z.n 100003) (z.n 100004) (z.n 100005) (z.n 100006) (z.b 100007) (z.b 100008) (z.n 100009)) (Ch.mk (z.n 100010) (z.n 100011) (z.n 100012) (z.n 100013) (z.n 100014) (z.n 100015) (z.n 100016) (z.b 100017) (z.b 100018) (z.n 100019)) (Ch.mk (z.n 100020) (z.n 100021) (z.n 100022) (z.n 100023) (z.n 100024) (z.n 100025) (z.n 100026) (z.b 100027) (z.b 100028) (z.n 100029)) (Ch.mk (z.n 100030) (z.n 100031) (z.n 100032) (z.n 100033) (z.n 100034) (z.n 100035) (z.n 100036) (z.b 100037) (z.b 100038) (z.n 100039)))) z := by
  refine HC.loop (P := pe E) orcA_ok tab_ok tab_sz mixed Try.func20 (c := Try.f20.body.getD .skip) rfl (by decide) (Nat.le_of_ble_eq_true rfl) false (by rfl) (by rfl) (by rfl) (by rfl) 20000 (2 ^ 200 - 1) (hr_hs E X S z w) (by rfl) ?_ (loopP_lfH ⟨?_⟩) ?_
  · intro h hmem
    simp only [hr_hs, List.mem_cons, List.not_mem_nil, or_false] at hmem
    rcases hmem with hmem | hmem | hmem | hmem | hmem
    all_goals (subst hmem; exact ⟨by rfl, Nat.le_of_ble_eq_true rfl, fun y hk => okSW_M (by rfl) hk⟩)
  · rw [hr_pro]
    obtain ⟨h100000, h100001, h100002, h100003, h100004, h100005, h100009, h100010, h100011, h100012, h100013, h100014, h100015, h100019, h100020, h100021, h100022, h100023, h100024, h100025, h100029, h100030, h100031, h100032, h100033, h100034, h100035, h100039, _⟩ := rg_r hz
    have hz0 : (TR z) = up0 (huC w) (TR z) := rfl
    (repeat' (first | exact trivial | with_reducible rfl | assumption | apply And.intro)) <;> omega
  · intro h hmem y hy1 hy2 hy3
    simp only [hr_hs, List.mem_cons, List.not_mem_nil, or_false] at hmem
    rcases hmem with hmem | hmem | hmem | hmem | hmem
    · have e1 : h.td = (hr_td E) := by rw [hmem]
      have e2 : h.fs = [(0, .c (.p 1 0)), (1, .i .u32), (4, .c (.i true .i64 0))] := by rw [hmem]
      have e3 : h.ms = (rMs X) := by rw [hmem]
      have e4 : h.mu = (fun _ => 4) := by rw [hmem]
      rw [e3] at hy1
      rw [e2] at hy2
      replace hy3 : (fun y => y.n 91001 = w ∧ (TR y) = up0 (huC w) (TR z)) y := by rw [hmem] at hy3; exact hy3
      rw [e1, e2, e3, e4]
      refine loopP_lfH ⟨?_⟩
      rw [hr_r0]
      clear e1 e2 e3 e4 hmem
      have hf : True ∧ True ∧ True ∧ True := hy2
      obtain ⟨_, _, _, _⟩ := hf
      obtain ⟨h100000, h100001, h100002, h100003, h100004, h100005, h100009, h100010, h100011, h100012, h100013, h100014, h100015, h100019, h100020, h100021, h100022, h100023, h100024, h100025, h100029, h100030, h100031, h100032, h100033, h100034, h100035, h100039, _⟩ := rg_r hy1
      obtain ⟨e1, hq⟩ := hy3
      replace hq : (TR y) = up0 (huC w) (TR z) := hq
      have hs : ap0 (huC w) (TR y) = up1 (huC w) (TR z) := by rw [hq]; rfl
      have o1 := onr _ h100003.1 h100003.2
      have o2 := tmr _ h100003.1 h100003.2
      rw [← hs]
      simp only [fw, lw, vsr, px, w3, wo, ro, r3, o1, o2]
      clear o1 o2 hs hq
      subst e1
      (repeat' (first | exact trivial | with_reducible rfl | assumption | apply And.intro | intro h)) <;> first | omega | (simp_all [ap0, ap1, ap2, ap3, moC, huC, fds, TU, TR, cu0, cu1, cu2, cu3, cr0, cr1, cr2, cr3]; done)
    · have e1 : h.td = (hr_td E) := by rw [hmem]
      have e2 : h.fs = [(0, .c (.p 1 0)), (1, .i .u32), (4, .c (.i true .i64 1))] := by rw [hmem]
      have e3 : h.ms = (rMs X) := by rw [hmem]
      have e4 : h.mu = (fun _ => 3) := by rw [hmem]
      rw [e3] at hy1
      rw [e2] at hy2
      replace hy3 : (fun y => y.n 91001 = w ∧ (TR y) = up1 (huC w) (TR z)) y := by rw [hmem] at hy3; exact hy3
      rw [e1, e2, e3, e4]
      refine loopP_lfH ⟨?_⟩
      rw [hr_r1]
      clear e1 e2 e3 e4 hmem
      have hf : True ∧ True ∧ True ∧ True := hy2
      obtain ⟨_, _, _, _⟩ := hf
      obtain ⟨h100000, h100001, h100002, h100003, h100004, h100005, h100009, h100010, h100011, h100012, h100013, h100014, h100015, h100019, h100020, h100021, h100022, h100023, h100024, h100025, h100029, h100030, h100031, h100032, h100033, h100034, h100035, h100039, _⟩ := rg_r hy1
      obtain ⟨e1, hq⟩ := hy3
      replace hq : (TR y) = up1 (huC w) (TR z) := hq
      have hs : ap1 (huC w) (TR y) = up2 (huC w) (TR z) := by rw [hq]; rfl
      have o1 := onr _ h100013.1 h100013.2
      have o2 := tmr _ h100013.1 h100013.2
      rw [← hs]
      simp only [fw, lw, vsr, px, w3, wo, ro, r3, o1, o2]
      clear o1 o2 hs hq
      subst e1
      (repeat' (first | exact trivial | with_reducible rfl | assumption | apply And.intro | intro h)) <;> first | omega | (simp_all [ap0, ap1, ap2, ap3, moC, huC, fds, TU, TR, cu0, cu1, cu2, cu3, cr0, cr1, cr2, cr3]; done)
    · have e1 : h.td = (hr_td E) := by rw [hmem]
      have e2 : h.fs = [(0, .c (.p 1 0)), (1, .i .u32), (4, .c (.i true .i64 2))] := by rw [hmem]
      have e3 : h.ms = (rMs X) := by rw [hmem]
      have e4 : h.mu = (fun _ => 2) := by rw [hmem]
      rw [e3] at hy1
      rw [e2] at hy2
      replace hy3 : (fun y => y.n 91001 = w ∧ (TR y) = up2 (huC w) (TR z)) y := by rw [hmem] at hy3; exact hy3
      rw [e1, e2, e3, e4]
      refine loopP_lfH ⟨?_⟩
      rw [hr_r2]
      clear e1 e2 e3 e4 hmem
      have hf : True ∧ True ∧ True ∧ True := hy2
      obtain ⟨_, _, _, _⟩ := hf
      obtain ⟨h100000, h100001, h100002, h100003, h100004, h100005, h100009, h100010, h100011, h100012, h100013, h100014, h100015, h100019, h100020, h100021, h100022, h100023, h100024, h100025, h100029, h100030, h100031, h100032, h100033, h100034, h100035, h100039, _⟩ := rg_r hy1
      obtain ⟨e1, hq⟩ := hy3
      replace hq : (TR y) = up2 (huC w) (TR z) := hq
      have hs : ap2 (huC w) (TR y) = up3 (huC w) (TR z) := by rw [hq]; rfl
      have o1 := onr _ h100023.1 h100023.2
      have o2 := tmr _ h100023.1 h100023.2
      rw [← hs]
      simp only [fw, lw, vsr, px, w3, wo, ro, r3, o1, o2]
      clear o1 o2 hs hq
      subst e1
      (repeat' (first | exact trivial | with_reducible rfl | assumption | apply And.intro | intro h)) <;> first | omega | (simp_all [ap0, ap1, ap2, ap3, moC, huC, fds, TU, TR, cu0, cu1, cu2, cu3, cr0, cr1, cr2, cr3]; done)
    · have e1 : h.td = (hr_td E) := by rw [hmem]
      have e2 : h.fs = [(0, .c (.p 1 0)), (1, .i .u32), (4, .c (.i true .i64 3))] := by rw [hmem]
      have e3 : h.ms = (rMs X) := by rw [hmem]
      have e4 : h.mu = (fun _ => 1) := by rw [hmem]
      rw [e3] at hy1
      rw [e2] at hy2
      replace hy3 : (fun y => y.n 91001 = w ∧ (TR y) = up3 (huC w) (TR z)) y := by rw [hmem] at hy3; exact hy3
      rw [e1, e2, e3, e4]
      refine loopP_lfH ⟨?_⟩
      rw [hr_r3]
      clear e1 e2 e3 e4 hmem
      have hf : True ∧ True ∧ True ∧ True := hy2
      obtain ⟨_, _, _, _⟩ := hf
      obtain ⟨h100000, h100001, h100002, h100003, h100004, h100005, h100009, h100010, h100011, h100012, h100013, h100014, h100015, h100019, h100020, h100021, h100022, h100023, h100024, h100025, h100029, h100030, h100031, h100032, h100033, h100034, h100035, h100039, _⟩ := rg_r hy1
      obtain ⟨e1, hq⟩ := hy3
      replace hq : (TR y) = up3 (huC w) (TR z) := hq
      have hs : ap3 (huC w) (TR y) = up4 (huC w) (TR z) := by rw [hq]; rfl
      have o1 := onr _ h100033.1 h100033.2
      have o2 := tmr _ h100033.1 h100033.2
      rw [← hs]
      simp only [fw, lw, vsr, px, w3, wo, ro, r3, o1, o2]
      clear o1 o2 hs hq
      subst e1
      (repeat' (first | exact trivial | with_reducible rfl | assumption | apply And.intro | intro h)) <;> first | omega | (simp_all [ap0, ap1, ap2, ap3, moC, huC, fds, TU, TR, cu0, cu1, cu2, cu3, cr0, cr1, cr2, cr3]; done)
    · have e1 : h.td = (hr_td E) := by rw [hmem]
      have e2 : h.fs = [(0, .c (.p 1 0)), (1, .i .u32), (4, .c (.i true .i64 4))] := by rw [hmem]
      have e3 : h.ms = (rMs X) := by rw [hmem]
      have e4 : h.mu = (fun _ => 0) := by rw [hmem]
      rw [e3] at hy1
      rw [e2] at hy2
      replace hy3 : (fun y => y.n 91001 = w ∧ (TR y) = up4 (huC w) (TR z)) y := by rw [hmem] at hy3; exact hy3
      rw [e1, e2, e3, e4]
      refine loopP_lfH ⟨?_⟩
      rw [hr_r4]
      clear e1 e2 e3 e4 hmem
      have hf : True ∧ True ∧ True ∧ True := hy2
      obtain ⟨_, _, _, _⟩ := hf
      obtain ⟨h100000, h100001, h100002, h100003, h100004, h100005, h100009, h100010, h100011, h100012, h100013, h100014, h100015, h100019, h100020, h100021, h100022, h100023, h100024, h100025, h100029, h100030, h100031, h100032, h100033, h100034, h100035, h100039, _⟩ := rg_r hy1
      obtain ⟨e1, hq⟩ := hy3
      replace hq : (TR y) = up4 (huC w) (TR z) := hq
      (repeat' (first | exact trivial | with_reducible rfl | assumption | apply And.intro)) <;> omega
end Go.Proofs.Ytpddbhfebhpohaa

