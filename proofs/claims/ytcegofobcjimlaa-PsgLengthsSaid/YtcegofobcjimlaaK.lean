import Derived.Test.YtcegofobcjimlaaJ
set_option linter.unusedVariables false
set_option linter.unusedSimpArgs false
namespace Go.Proofs.Ytcegofobcjimlaa
open Go Go.Proofs Go.Proofs.Ytcegofobcjimlaa.Ev Go.Proofs.Ytcegofobcjimlaa.Ev.Ho
set_option maxRecDepth 100000

/-- A wave's steps: what is left is positive, and no more than a step. -/
theorem step_bd (a d : Int) (h0 : a ≤ 0) (h1 : -32768 ≤ a) (d1 : 1 ≤ d) (d2 : d ≤ 16777216) :
    ∃ q : Int, (IntKind.i64.wrap (0 - a)).tdiv d = q ∧ 0 ≤ q ∧ q ≤ 32768 ∧ 1 ≤ a + (q + 1) * d ∧ a + (q + 1) * d ≤ d ∧ 0 ≤ (q + 1) * d ∧ (q + 1) * d ≤ 549772591104 := by
  refine ⟨(-a) / d, ?_, Int.ediv_nonneg (by omega) (by omega), ?_, ?_, ?_, ?_, ?_⟩
  · rw [wi64, show (0 - a + 9223372036854775808) % 18446744073709551616 - 9223372036854775808 = -a by omega, Int.tdiv_eq_ediv_of_nonneg (by omega)]
  · have := Int.ediv_le_self d (show 0 ≤ -a by omega); omega
  · have h := Int.emod_add_mul_ediv (-a) d; have h2 := Int.emod_lt_of_pos (-a) (show 0 < d by omega); rw [Int.add_mul, Int.mul_comm ((-a) / d) d]; omega
  · have h := Int.emod_add_mul_ediv (-a) d; have h2 := Int.emod_nonneg (-a) (show d ≠ 0 by omega); rw [Int.add_mul, Int.mul_comm ((-a) / d) d]; omega
  · exact Int.mul_nonneg (by have := Int.ediv_nonneg (show 0 ≤ -a by omega) (show 0 ≤ d by omega); omega) (by omega)
  · have hq : (-a) / d + 1 ≤ 32769 := by have := Int.ediv_le_self d (show 0 ≤ -a by omega); omega
    have := Int.mul_le_mul hq d2 (by omega) (by omega); omega
theorem mod_bd (p q m : Int) (h0 : 0 ≤ p) (h1 : p ≤ 63) (h2 : 0 ≤ q) (h3 : q ≤ 32768) (m0 : 1 ≤ m) (m1 : m ≤ 64) : 0 ≤ (IntKind.i64.wrap (p + IntKind.i64.wrap (q + 1))).tmod m ∧ (IntKind.i64.wrap (p + IntKind.i64.wrap (q + 1))).tmod m ≤ 63 := by
  have e1 : IntKind.i64.wrap (q + 1) = q + 1 := by rw [wi64]; omega
  have e2 : IntKind.i64.wrap (p + (q + 1)) = p + (q + 1) := by rw [wi64]; omega
  rw [e1, e2, Int.tmod_eq_emod_of_nonneg (by omega)]
  have a := Int.emod_nonneg (p + (q + 1)) (show m ≠ 0 by omega)
  have b := Int.emod_lt_of_pos (p + (q + 1)) (show 0 < m by omega)
  omega
noncomputable def pass_td (E : World) : List Item := headOf (run (pe E) (orcC E) (tabL fns) 20000 (2 ^ 200 - 1) [.code (Try.f20.body.getD .skip)] ⟨Try.f20.ntmps, mkFrGo (Tr.mk 12) 0 [.c (.p 1 0), .c (.i true .i64 0)]⟩ (mkM default [] (uM ⟨[], 0⟩) 0))
noncomputable def pass_hs (E : World) (M : Bl) (S : SW) (z : PX) (k : Int) : List Head := [⟨4, (litK 10 0), (pass_td E), [(0, .c (.p 1 0)), (1, .r .i64 (0) (32768)), (5, .i .i64), (10, .c (.i true .i64 0))], (uM M), fun y => (KS.mk (y.n 100000) (y.n 100002) (y.n 100014) (y.n 100008) (y.n 100020) (y.n 100051) (y.b 100001) (y.b 100013) (y.b 100025) (y.b 100037) (y.b 100003) (y.b 100015)) = (KS.mk (z.n 100000) (z.n 100002) (z.n 100014) (z.n 100008) (z.n 100020) (z.n 100051) (z.b 100001) (z.b 100013) (z.b 100025) (z.b 100037) (z.b 100003) (z.b 100015)), fun _ => 4⟩, ⟨4, (litK 10 1), (pass_td E), [(0, .c (.p 1 0)), (1, .r .i64 (0) (32768)), (5, .i .i64), (10, .c (.i true .i64 1))], (uM M), fun y => (KS.mk (y.n 100000) (y.n 100002) (y.n 100014) (y.n 100008) (y.n 100020) (y.n 100051) (y.b 100001) (y.b 100013) (y.b 100025) (y.b 100037) (y.b 100003) (y.b 100015)) = (KS.mk (z.n 100000) (z.n 100002) (z.n 100014) (z.n 100008) (z.n 100020) (z.n 100051) (z.b 100001) (z.b 100013) (z.b 100025) (z.b 100037) (z.b 100003) (z.b 100015)), fun _ => 3⟩, ⟨4, (litK 10 2), (pass_td E), [(0, .c (.p 1 0)), (1, .r .i64 (0) (32768)), (5, .i .i64), (10, .c (.i true .i64 2))], (uM M), fun y => (KS.mk (y.n 100000) (y.n 100002) (y.n 100014) (y.n 100008) (y.n 100020) (y.n 100051) (y.b 100001) (y.b 100013) (y.b 100025) (y.b 100037) (y.b 100003) (y.b 100015)) = (KS.mk (z.n 100000) (z.n 100002) (z.n 100014) (z.n 100008) (z.n 100020) (z.n 100051) (z.b 100001) (z.b 100013) (z.b 100025) (z.b 100037) (z.b 100003) (z.b 100015)), fun _ => 2⟩, ⟨4, (litK 10 3), (pass_td E), [(0, .c (.p 1 0)), (1, .r .i64 (0) (32768)), (5, .i .i64), (10, .c (.i true .i64 3))], (uM M), fun y => (KS.mk (y.n 100000) (y.n 100002) (y.n 100014) (y.n 100008) (y.n 100020) (y.n 100051) (y.b 100001) (y.b 100013) (y.b 100025) (y.b 100037) (y.b 100003) (y.b 100015)) = (KS.mk (z.n 100000) (z.n 100002) (z.n 100014) (z.n 100008) (z.n 100020) (z.n 100051) (z.b 100001) (z.b 100013) (z.b 100025) (z.b 100037) (z.b 100003) (z.b 100015)), fun _ => 1⟩, ⟨4, (litK 10 4), (pass_td E), [(0, .c (.p 1 0)), (1, .r .i64 (0) (32768)), (5, .i .i64), (10, .c (.i true .i64 4))], (uM M), fun y => (KS.mk (y.n 100000) (y.n 100002) (y.n 100014) (y.n 100008) (y.n 100020) (y.n 100051) (y.b 100001) (y.b 100013) (y.b 100025) (y.b 100037) (y.b 100003) (y.b 100015)) = (KS.mk (z.n 100000) (z.n 100002) (z.n 100014) (z.n 100008) (z.n 100020) (z.n 100051) (z.b 100001) (z.b 100013) (z.b 100025) (z.b 100037) (z.b 100003) (z.b 100015)), fun _ => 0⟩]
theorem pass_pro (E : World) (M : Bl) (S : SW) (z : PX) (k : Int) :
    (loopP (pe E) Try.f20 (endP false (uM M) S (.c (.i .i64)) (fun z y => (KS.mk (y.n 100000) (y.n 100002) (y.n 100014) (y.n 100008) (y.n 100020) (y.n 100051) (y.b 100001) (y.b 100013) (y.b 100025) (y.b 100037) (y.b 100003) (y.b 100015)) = (KS.mk (z.n 100000) (z.n 100002) (z.n 100014) (z.n 100008) (z.n 100020) (z.n 100051) (z.b 100001) (z.b 100013) (z.b 100025) (z.b 100037) (z.b 100003) (z.b 100015))) z) (headP false S Try.f20.ntmps none (pass_hs E M S z k)) (run (pe E) (orcC E) (tabL fns) 20000 (2 ^ 200 - 1) [.code (Try.f20.body.getD .skip)] ⟨Try.f20.ntmps, mkFrGo (Tr.mk 12) 0 [.c (.p 1 0), .c (.i false .i64 k)]⟩ (mkM z S (uM M) 0))) =
    (pass_td E = pass_td E ∧ (85 : Nat) = (85 : Nat) ∧ (True ∧ (((0 : Int) ≤ k ∧ k ≤ (32768 : Int)) ∧ True) ∧ True ∧ True ∧ True) ∧ (M = M ∧ (50 : Nat) = (50 : Nat) ∧ (RG z) ∧
      S = S) ∧ KS.mk (z.n (100000 : Nat)) (z.n (100002 : Nat)) (z.n (100014 : Nat)) (z.n (100008 : Nat)) (z.n (100020 : Nat)) (z.n (100051 : Nat)) (z.b (100001 : Nat)) (z.b
      (100013 : Nat)) (z.b (100025 : Nat)) (z.b (100037 : Nat)) (z.b (100003 : Nat)) (z.b (100015 : Nat)) = KS.mk (z.n (100000 : Nat)) (z.n (100002 : Nat)) (z.n (100014 : Nat))
      (z.n (100008 : Nat)) (z.n (100020 : Nat)) (z.n (100051 : Nat)) (z.b (100001 : Nat)) (z.b (100013 : Nat)) (z.b (100025 : Nat)) (z.b (100037 : Nat)) (z.b (100003 : Nat))
      (z.b (100015 : Nat)) ∧ True) := by kernel_rfl
theorem pass_r0 (E : World) (M : Bl) (S : SW) (z : PX) (k : Int) (y : PX) :
    (loopP (pe E) Try.f20 (endP false (uM M) S (.c (.i .i64)) (fun z y => (KS.mk (y.n 100000) (y.n 100002) (y.n 100014) (y.n 100008) (y.n 100020) (y.n 100051) (y.b 100001) (y.b 100013) (y.b 100025) (y.b 100037) (y.b 100003) (y.b 100015)) = (KS.mk (z.n 100000) (z.n 100002) (z.n 100014) (z.n 100008) (z.n 100020) (z.n 100051) (z.b 100001) (z.b 100013) (z.b 100025) (z.b 100037) (z.b 100003) (z.b 100015))) z) (headP false S Try.f20.ntmps (some ((fun _ => 4) y)) (pass_hs E M S z k))  (run (pe E) (orcC E) (tabL fns) 20000 (2 ^ 200 - 1) (pass_td E) (mkL Try.f20.ntmps (slC y [(0, .c (.p 1 0)), (1, .r .i64 (0) (32768)), (5, .i .i64), (10, .c (.i true .i64 0))])) (mkM y S (uM M) 0))) =
    (((!y.b (100001 : Nat)) = true → pass_td E = pass_td E ∧ (85 : Nat) = (85 : Nat) ∧ (True ∧ (((0 : Int) ≤ y.n (91001 : Nat) ∧ y.n (91001 : Nat) ≤ (32768 : Int)) ∧ True) ∧
      True ∧ True ∧ True) ∧ (M = M ∧ (50 : Nat) = (50 : Nat) ∧ (RG y) ∧ S = S) ∧ KS.mk (y.n (100000 : Nat)) (y.n (100002 : Nat)) (y.n (100014 : Nat)) (y.n (100008 : Nat)) (y.n
      (100020 : Nat)) (y.n (100051 : Nat)) (y.b (100001 : Nat)) (y.b (100013 : Nat)) (y.b (100025 : Nat)) (y.b (100037 : Nat)) (y.b (100003 : Nat)) (y.b (100015 : Nat)) = KS.mk
      (z.n (100000 : Nat)) (z.n (100002 : Nat)) (z.n (100014 : Nat)) (z.n (100008 : Nat)) (z.n (100020 : Nat)) (z.n (100051 : Nat)) (z.b (100001 : Nat)) (z.b (100013 : Nat))
      (z.b (100025 : Nat)) (z.b (100037 : Nat)) (z.b (100003 : Nat)) (z.b (100015 : Nat)) ∧ (3 : Nat) < (4 : Nat) ∧ True) ∧ ((!y.b (100001 : Nat)) = false → (decide
      (IntKind.i64.wrap (y.n (100006 : Nat) - y.n (91001 : Nat)) > (0 : Int)) = true → pass_td E = pass_td E ∧ (85 : Nat) = (85 : Nat) ∧ (True ∧ (((0 : Int) ≤ y.n (91001 : Nat)
      ∧ y.n (91001 : Nat) ≤ (32768 : Int)) ∧ True) ∧ True ∧ True ∧ True) ∧ (M = M ∧ (50 : Nat) = (50 : Nat) ∧ (((0 : Int) ≤ y.n (100000 : Nat) ∧ y.n (100000 : Nat) ≤
      (2199023255552 : Int)) ∧ ((0 : Int) ≤ y.n (100004 : Nat) ∧ y.n (100004 : Nat) ≤ (2047 : Int)) ∧ ((0 : Int) ≤ y.n (100005 : Nat) ∧ y.n (100005 : Nat) ≤ (63 : Int)) ∧ ((0 :
      Int) ≤ IntKind.i64.wrap (y.n (100006 : Nat) - y.n (91001 : Nat)) ∧ IntKind.i64.wrap (y.n (100006 : Nat) - y.n (91001 : Nat)) ≤ (16777216 : Int)) ∧ ((0 : Int) ≤ y.n (100007
      : Nat) ∧ y.n (100007 : Nat) ≤ (3 : Int)) ∧ ((0 : Int) ≤ y.n (100008 : Nat) ∧ y.n (100008 : Nat) ≤ (15 : Int)) ∧ ((0 : Int) ≤ y.n (100011 : Nat) ∧ y.n (100011 : Nat) ≤ (15
      : Int)) ∧ ((0 : Int) ≤ y.n (100016 : Nat) ∧ y.n (100016 : Nat) ≤ (2047 : Int)) ∧ ((0 : Int) ≤ y.n (100017 : Nat) ∧ y.n (100017 : Nat) ≤ (63 : Int)) ∧ ((0 : Int) ≤ y.n
      (100018 : Nat) ∧ y.n (100018 : Nat) ≤ (16777216 : Int)) ∧ ((0 : Int) ≤ y.n (100019 : Nat) ∧ y.n (100019 : Nat) ≤ (3 : Int)) ∧ ((0 : Int) ≤ y.n (100020 : Nat) ∧ y.n (100020
      : Nat) ≤ (15 : Int)) ∧ ((0 : Int) ≤ y.n (100023 : Nat) ∧ y.n (100023 : Nat) ≤ (15 : Int)) ∧ ((0 : Int) ≤ y.n (100028 : Nat) ∧ y.n (100028 : Nat) ≤ (2047 : Int)) ∧ ((0 :
      Int) ≤ y.n (100029 : Nat) ∧ y.n (100029 : Nat) ≤ (63 : Int)) ∧ ((0 : Int) ≤ y.n (100030 : Nat) ∧ y.n (100030 : Nat) ≤ (16777216 : Int)) ∧ ((0 : Int) ≤ y.n (100031 : Nat) ∧
      y.n (100031 : Nat) ≤ (3 : Int)) ∧ ((0 : Int) ≤ y.n (100032 : Nat) ∧ y.n (100032 : Nat) ≤ (15 : Int)) ∧ ((0 : Int) ≤ y.n (100035 : Nat) ∧ y.n (100035 : Nat) ≤ (15 : Int)) ∧
      ((0 : Int) ≤ y.n (100040 : Nat) ∧ y.n (100040 : Nat) ≤ (2047 : Int)) ∧ ((0 : Int) ≤ y.n (100041 : Nat) ∧ y.n (100041 : Nat) ≤ (63 : Int)) ∧ ((0 : Int) ≤ y.n (100042 : Nat)
      ∧ y.n (100042 : Nat) ≤ (16777216 : Int)) ∧ ((0 : Int) ≤ y.n (100043 : Nat) ∧ y.n (100043 : Nat) ≤ (3 : Int)) ∧ ((0 : Int) ≤ y.n (100044 : Nat) ∧ y.n (100044 : Nat) ≤ (15 :
      Int)) ∧ ((0 : Int) ≤ y.n (100047 : Nat) ∧ y.n (100047 : Nat) ≤ (15 : Int)) ∧ ((0 : Int) ≤ y.n (100050 : Nat) ∧ y.n (100050 : Nat) ≤ (7 : Int)) ∧ ((0 : Int) ≤ y.n (100086 :
      Nat) ∧ y.n (100086 : Nat) ≤ (1 : Int)) ∧ ((0 : Int) ≤ y.n (100088 : Nat) ∧ y.n (100088 : Nat) ≤ (4 : Int)) ∧ ((0 : Int) ≤ y.n (100092 : Nat) ∧ y.n (100092 : Nat) ≤ (15 :
      Int)) ∧ ((0 : Int) ≤ y.n (100093 : Nat) ∧ y.n (100093 : Nat) ≤ (7 : Int)) ∧ True) ∧ S = S) ∧ KS.mk (y.n (100000 : Nat)) (y.n (100002 : Nat)) (y.n (100014 : Nat)) (y.n
      (100008 : Nat)) (y.n (100020 : Nat)) (y.n (100051 : Nat)) (y.b (100001 : Nat)) (y.b (100013 : Nat)) (y.b (100025 : Nat)) (y.b (100037 : Nat)) (y.b (100003 : Nat)) (y.b
      (100015 : Nat)) = KS.mk (z.n (100000 : Nat)) (z.n (100002 : Nat)) (z.n (100014 : Nat)) (z.n (100008 : Nat)) (z.n (100020 : Nat)) (z.n (100051 : Nat)) (z.b (100001 : Nat))
      (z.b (100013 : Nat)) (z.b (100025 : Nat)) (z.b (100037 : Nat)) (z.b (100003 : Nat)) (z.b (100015 : Nat)) ∧ (3 : Nat) < (4 : Nat) ∧ True) ∧ (decide (IntKind.i64.wrap (y.n
      (100006 : Nat) - y.n (91001 : Nat)) > (0 : Int)) = false → ((M = M ∧ (50 : Nat) = (50 : Nat) ∧ (RH y) ∧ S = S) ∧ True) ∧ ∀ (y_1 : PX), (((1 : Int) ≤ y_1.n (90000 : Nat) ∧
      y_1.n (90000 : Nat) ≤ (16777216 : Int)) ∧ True) ∧ True → (!decide (y_1.n (90000 : Nat) = (0 : Int))) = true ∧ pass_td E = pass_td E ∧ (85 : Nat) = (85 : Nat) ∧ (True ∧
      (((0 : Int) ≤ y.n (91001 : Nat) ∧ y.n (91001 : Nat) ≤ (32768 : Int)) ∧ True) ∧ True ∧ True ∧ True) ∧ (M = M ∧ (50 : Nat) = (50 : Nat) ∧ (((0 : Int) ≤ y.n (100000 : Nat) ∧
      y.n (100000 : Nat) ≤ (2199023255552 : Int)) ∧ ((0 : Int) ≤ y.n (100004 : Nat) ∧ y.n (100004 : Nat) ≤ (2047 : Int)) ∧ ((0 : Int) ≤ (IntKind.i64.wrap (y.n (100005 : Nat) +
      IntKind.i64.wrap (IntKind.i64.wrap ((IntKind.i64.wrap ((0 : Int) - IntKind.i64.wrap (y.n (100006 : Nat) - y.n (91001 : Nat)))).tdiv (y_1.n (90000 : Nat))) + (1 :
      Int)))).tmod (8 : Int) ∧ (IntKind.i64.wrap (y.n (100005 : Nat) + IntKind.i64.wrap (IntKind.i64.wrap ((IntKind.i64.wrap ((0 : Int) - IntKind.i64.wrap (y.n (100006 : Nat) -
      y.n (91001 : Nat)))).tdiv (y_1.n (90000 : Nat))) + (1 : Int)))).tmod (8 : Int) ≤ (63 : Int)) ∧ ((0 : Int) ≤ IntKind.i64.wrap (IntKind.i64.wrap (y.n (100006 : Nat) - y.n
      (91001 : Nat)) + IntKind.i64.wrap (IntKind.i64.wrap (IntKind.i64.wrap ((IntKind.i64.wrap ((0 : Int) - IntKind.i64.wrap (y.n (100006 : Nat) - y.n (91001 : Nat)))).tdiv
      (y_1.n (90000 : Nat))) + (1 : Int)) * y_1.n (90000 : Nat))) ∧ IntKind.i64.wrap (IntKind.i64.wrap (y.n (100006 : Nat) - y.n (91001 : Nat)) + IntKind.i64.wrap
      (IntKind.i64.wrap (IntKind.i64.wrap ((IntKind.i64.wrap ((0 : Int) - IntKind.i64.wrap (y.n (100006 : Nat) - y.n (91001 : Nat)))).tdiv (y_1.n (90000 : Nat))) + (1 : Int)) *
      y_1.n (90000 : Nat))) ≤ (16777216 : Int)) ∧ ((0 : Int) ≤ y.n (100007 : Nat) ∧ y.n (100007 : Nat) ≤ (3 : Int)) ∧ ((0 : Int) ≤ y.n (100008 : Nat) ∧ y.n (100008 : Nat) ≤ (15
      : Int)) ∧ ((0 : Int) ≤ y.n (100011 : Nat) ∧ y.n (100011 : Nat) ≤ (15 : Int)) ∧ ((0 : Int) ≤ y.n (100016 : Nat) ∧ y.n (100016 : Nat) ≤ (2047 : Int)) ∧ ((0 : Int) ≤ y.n
      (100017 : Nat) ∧ y.n (100017 : Nat) ≤ (63 : Int)) ∧ ((0 : Int) ≤ y.n (100018 : Nat) ∧ y.n (100018 : Nat) ≤ (16777216 : Int)) ∧ ((0 : Int) ≤ y.n (100019 : Nat) ∧ y.n
      (100019 : Nat) ≤ (3 : Int)) ∧ ((0 : Int) ≤ y.n (100020 : Nat) ∧ y.n (100020 : Nat) ≤ (15 : Int)) ∧ ((0 : Int) ≤ y.n (100023 : Nat) ∧ y.n (100023 : Nat) ≤ (15 : Int)) ∧ ((0
      : Int) ≤ y.n (100028 : Nat) ∧ y.n (100028 : Nat) ≤ (2047 : Int)) ∧ ((0 : Int) ≤ y.n (100029 : Nat) ∧ y.n (100029 : Nat) ≤ (63 : Int)) ∧ ((0 : Int) ≤ y.n (100030 : Nat) ∧
      y.n (100030 : Nat) ≤ (16777216 : Int)) ∧ ((0 : Int) ≤ y.n (100031 : Nat) ∧ y.n (100031 : Nat) ≤ (3 : Int)) ∧ ((0 : Int) ≤ y.n (100032 : Nat) ∧ y.n (100032 : Nat) ≤ (15 :
      Int)) ∧ ((0 : Int) ≤ y.n (100035 : Nat) ∧ y.n (100035 : Nat) ≤ (15 : Int)) ∧ ((0 : Int) ≤ y.n (100040 : Nat) ∧ y.n (100040 : Nat) ≤ (2047 : Int)) ∧ ((0 : Int) ≤ y.n
      (100041 : Nat) ∧ y.n (100041 : Nat) ≤ (63 : Int)) ∧ ((0 : Int) ≤ y.n (100042 : Nat) ∧ y.n (100042 : Nat) ≤ (16777216 : Int)) ∧ ((0 : Int) ≤ y.n (100043 : Nat) ∧ y.n
      (100043 : Nat) ≤ (3 : Int)) ∧ ((0 : Int) ≤ y.n (100044 : Nat) ∧ y.n (100044 : Nat) ≤ (15 : Int)) ∧ ((0 : Int) ≤ y.n (100047 : Nat) ∧ y.n (100047 : Nat) ≤ (15 : Int)) ∧ ((0
      : Int) ≤ y.n (100050 : Nat) ∧ y.n (100050 : Nat) ≤ (7 : Int)) ∧ ((0 : Int) ≤ y.n (100086 : Nat) ∧ y.n (100086 : Nat) ≤ (1 : Int)) ∧ ((0 : Int) ≤ y.n (100088 : Nat) ∧ y.n
      (100088 : Nat) ≤ (4 : Int)) ∧ ((0 : Int) ≤ y.n (100092 : Nat) ∧ y.n (100092 : Nat) ≤ (15 : Int)) ∧ ((0 : Int) ≤ y.n (100093 : Nat) ∧ y.n (100093 : Nat) ≤ (7 : Int)) ∧
      True) ∧ S = S) ∧ KS.mk (y.n (100000 : Nat)) (y.n (100002 : Nat)) (y.n (100014 : Nat)) (y.n (100008 : Nat)) (y.n (100020 : Nat)) (y.n (100051 : Nat)) (y.b (100001 : Nat))
      (y.b (100013 : Nat)) (y.b (100025 : Nat)) (y.b (100037 : Nat)) (y.b (100003 : Nat)) (y.b (100015 : Nat)) = KS.mk (z.n (100000 : Nat)) (z.n (100002 : Nat)) (z.n (100014 :
      Nat)) (z.n (100008 : Nat)) (z.n (100020 : Nat)) (z.n (100051 : Nat)) (z.b (100001 : Nat)) (z.b (100013 : Nat)) (z.b (100025 : Nat)) (z.b (100037 : Nat)) (z.b (100003 :
      Nat)) (z.b (100015 : Nat)) ∧ (3 : Nat) < (4 : Nat) ∧ True))) := by kernel_rfl
theorem pass_r1 (E : World) (M : Bl) (S : SW) (z : PX) (k : Int) (y : PX) :
    (loopP (pe E) Try.f20 (endP false (uM M) S (.c (.i .i64)) (fun z y => (KS.mk (y.n 100000) (y.n 100002) (y.n 100014) (y.n 100008) (y.n 100020) (y.n 100051) (y.b 100001) (y.b 100013) (y.b 100025) (y.b 100037) (y.b 100003) (y.b 100015)) = (KS.mk (z.n 100000) (z.n 100002) (z.n 100014) (z.n 100008) (z.n 100020) (z.n 100051) (z.b 100001) (z.b 100013) (z.b 100025) (z.b 100037) (z.b 100003) (z.b 100015))) z) (headP false S Try.f20.ntmps (some ((fun _ => 3) y)) (pass_hs E M S z k))  (run (pe E) (orcC E) (tabL fns) 20000 (2 ^ 200 - 1) (pass_td E) (mkL Try.f20.ntmps (slC y [(0, .c (.p 1 0)), (1, .r .i64 (0) (32768)), (5, .i .i64), (10, .c (.i true .i64 1))])) (mkM y S (uM M) 0))) =
    (((!y.b (100013 : Nat)) = true → pass_td E = pass_td E ∧ (85 : Nat) = (85 : Nat) ∧ (True ∧ (((0 : Int) ≤ y.n (91001 : Nat) ∧ y.n (91001 : Nat) ≤ (32768 : Int)) ∧ True) ∧
      True ∧ True ∧ True) ∧ (M = M ∧ (50 : Nat) = (50 : Nat) ∧ (RG y) ∧ S = S) ∧ KS.mk (y.n (100000 : Nat)) (y.n (100002 : Nat)) (y.n (100014 : Nat)) (y.n (100008 : Nat)) (y.n
      (100020 : Nat)) (y.n (100051 : Nat)) (y.b (100001 : Nat)) (y.b (100013 : Nat)) (y.b (100025 : Nat)) (y.b (100037 : Nat)) (y.b (100003 : Nat)) (y.b (100015 : Nat)) = KS.mk
      (z.n (100000 : Nat)) (z.n (100002 : Nat)) (z.n (100014 : Nat)) (z.n (100008 : Nat)) (z.n (100020 : Nat)) (z.n (100051 : Nat)) (z.b (100001 : Nat)) (z.b (100013 : Nat))
      (z.b (100025 : Nat)) (z.b (100037 : Nat)) (z.b (100003 : Nat)) (z.b (100015 : Nat)) ∧ (2 : Nat) < (3 : Nat) ∧ True) ∧ ((!y.b (100013 : Nat)) = false → (decide
      (IntKind.i64.wrap (y.n (100018 : Nat) - y.n (91001 : Nat)) > (0 : Int)) = true → pass_td E = pass_td E ∧ (85 : Nat) = (85 : Nat) ∧ (True ∧ (((0 : Int) ≤ y.n (91001 : Nat)
      ∧ y.n (91001 : Nat) ≤ (32768 : Int)) ∧ True) ∧ True ∧ True ∧ True) ∧ (M = M ∧ (50 : Nat) = (50 : Nat) ∧ (((0 : Int) ≤ y.n (100000 : Nat) ∧ y.n (100000 : Nat) ≤
      (2199023255552 : Int)) ∧ ((0 : Int) ≤ y.n (100004 : Nat) ∧ y.n (100004 : Nat) ≤ (2047 : Int)) ∧ ((0 : Int) ≤ y.n (100005 : Nat) ∧ y.n (100005 : Nat) ≤ (63 : Int)) ∧ ((0 :
      Int) ≤ y.n (100006 : Nat) ∧ y.n (100006 : Nat) ≤ (16777216 : Int)) ∧ ((0 : Int) ≤ y.n (100007 : Nat) ∧ y.n (100007 : Nat) ≤ (3 : Int)) ∧ ((0 : Int) ≤ y.n (100008 : Nat) ∧
      y.n (100008 : Nat) ≤ (15 : Int)) ∧ ((0 : Int) ≤ y.n (100011 : Nat) ∧ y.n (100011 : Nat) ≤ (15 : Int)) ∧ ((0 : Int) ≤ y.n (100016 : Nat) ∧ y.n (100016 : Nat) ≤ (2047 :
      Int)) ∧ ((0 : Int) ≤ y.n (100017 : Nat) ∧ y.n (100017 : Nat) ≤ (63 : Int)) ∧ ((0 : Int) ≤ IntKind.i64.wrap (y.n (100018 : Nat) - y.n (91001 : Nat)) ∧ IntKind.i64.wrap (y.n
      (100018 : Nat) - y.n (91001 : Nat)) ≤ (16777216 : Int)) ∧ ((0 : Int) ≤ y.n (100019 : Nat) ∧ y.n (100019 : Nat) ≤ (3 : Int)) ∧ ((0 : Int) ≤ y.n (100020 : Nat) ∧ y.n (100020
      : Nat) ≤ (15 : Int)) ∧ ((0 : Int) ≤ y.n (100023 : Nat) ∧ y.n (100023 : Nat) ≤ (15 : Int)) ∧ ((0 : Int) ≤ y.n (100028 : Nat) ∧ y.n (100028 : Nat) ≤ (2047 : Int)) ∧ ((0 :
      Int) ≤ y.n (100029 : Nat) ∧ y.n (100029 : Nat) ≤ (63 : Int)) ∧ ((0 : Int) ≤ y.n (100030 : Nat) ∧ y.n (100030 : Nat) ≤ (16777216 : Int)) ∧ ((0 : Int) ≤ y.n (100031 : Nat) ∧
      y.n (100031 : Nat) ≤ (3 : Int)) ∧ ((0 : Int) ≤ y.n (100032 : Nat) ∧ y.n (100032 : Nat) ≤ (15 : Int)) ∧ ((0 : Int) ≤ y.n (100035 : Nat) ∧ y.n (100035 : Nat) ≤ (15 : Int)) ∧
      ((0 : Int) ≤ y.n (100040 : Nat) ∧ y.n (100040 : Nat) ≤ (2047 : Int)) ∧ ((0 : Int) ≤ y.n (100041 : Nat) ∧ y.n (100041 : Nat) ≤ (63 : Int)) ∧ ((0 : Int) ≤ y.n (100042 : Nat)
      ∧ y.n (100042 : Nat) ≤ (16777216 : Int)) ∧ ((0 : Int) ≤ y.n (100043 : Nat) ∧ y.n (100043 : Nat) ≤ (3 : Int)) ∧ ((0 : Int) ≤ y.n (100044 : Nat) ∧ y.n (100044 : Nat) ≤ (15 :
      Int)) ∧ ((0 : Int) ≤ y.n (100047 : Nat) ∧ y.n (100047 : Nat) ≤ (15 : Int)) ∧ ((0 : Int) ≤ y.n (100050 : Nat) ∧ y.n (100050 : Nat) ≤ (7 : Int)) ∧ ((0 : Int) ≤ y.n (100086 :
      Nat) ∧ y.n (100086 : Nat) ≤ (1 : Int)) ∧ ((0 : Int) ≤ y.n (100088 : Nat) ∧ y.n (100088 : Nat) ≤ (4 : Int)) ∧ ((0 : Int) ≤ y.n (100092 : Nat) ∧ y.n (100092 : Nat) ≤ (15 :
      Int)) ∧ ((0 : Int) ≤ y.n (100093 : Nat) ∧ y.n (100093 : Nat) ≤ (7 : Int)) ∧ True) ∧ S = S) ∧ KS.mk (y.n (100000 : Nat)) (y.n (100002 : Nat)) (y.n (100014 : Nat)) (y.n
      (100008 : Nat)) (y.n (100020 : Nat)) (y.n (100051 : Nat)) (y.b (100001 : Nat)) (y.b (100013 : Nat)) (y.b (100025 : Nat)) (y.b (100037 : Nat)) (y.b (100003 : Nat)) (y.b
      (100015 : Nat)) = KS.mk (z.n (100000 : Nat)) (z.n (100002 : Nat)) (z.n (100014 : Nat)) (z.n (100008 : Nat)) (z.n (100020 : Nat)) (z.n (100051 : Nat)) (z.b (100001 : Nat))
      (z.b (100013 : Nat)) (z.b (100025 : Nat)) (z.b (100037 : Nat)) (z.b (100003 : Nat)) (z.b (100015 : Nat)) ∧ (2 : Nat) < (3 : Nat) ∧ True) ∧ (decide (IntKind.i64.wrap (y.n
      (100018 : Nat) - y.n (91001 : Nat)) > (0 : Int)) = false → ((M = M ∧ (50 : Nat) = (50 : Nat) ∧ (RH y) ∧ S = S) ∧ True) ∧ ∀ (y_1 : PX), (((1 : Int) ≤ y_1.n (90000 : Nat) ∧
      y_1.n (90000 : Nat) ≤ (16777216 : Int)) ∧ True) ∧ True → (!decide (y_1.n (90000 : Nat) = (0 : Int))) = true ∧ pass_td E = pass_td E ∧ (85 : Nat) = (85 : Nat) ∧ (True ∧
      (((0 : Int) ≤ y.n (91001 : Nat) ∧ y.n (91001 : Nat) ≤ (32768 : Int)) ∧ True) ∧ True ∧ True ∧ True) ∧ (M = M ∧ (50 : Nat) = (50 : Nat) ∧ (((0 : Int) ≤ y.n (100000 : Nat) ∧
      y.n (100000 : Nat) ≤ (2199023255552 : Int)) ∧ ((0 : Int) ≤ y.n (100004 : Nat) ∧ y.n (100004 : Nat) ≤ (2047 : Int)) ∧ ((0 : Int) ≤ y.n (100005 : Nat) ∧ y.n (100005 : Nat) ≤
      (63 : Int)) ∧ ((0 : Int) ≤ y.n (100006 : Nat) ∧ y.n (100006 : Nat) ≤ (16777216 : Int)) ∧ ((0 : Int) ≤ y.n (100007 : Nat) ∧ y.n (100007 : Nat) ≤ (3 : Int)) ∧ ((0 : Int) ≤
      y.n (100008 : Nat) ∧ y.n (100008 : Nat) ≤ (15 : Int)) ∧ ((0 : Int) ≤ y.n (100011 : Nat) ∧ y.n (100011 : Nat) ≤ (15 : Int)) ∧ ((0 : Int) ≤ y.n (100016 : Nat) ∧ y.n (100016
      : Nat) ≤ (2047 : Int)) ∧ ((0 : Int) ≤ (IntKind.i64.wrap (y.n (100017 : Nat) + IntKind.i64.wrap (IntKind.i64.wrap ((IntKind.i64.wrap ((0 : Int) - IntKind.i64.wrap (y.n
      (100018 : Nat) - y.n (91001 : Nat)))).tdiv (y_1.n (90000 : Nat))) + (1 : Int)))).tmod (8 : Int) ∧ (IntKind.i64.wrap (y.n (100017 : Nat) + IntKind.i64.wrap
      (IntKind.i64.wrap ((IntKind.i64.wrap ((0 : Int) - IntKind.i64.wrap (y.n (100018 : Nat) - y.n (91001 : Nat)))).tdiv (y_1.n (90000 : Nat))) + (1 : Int)))).tmod (8 : Int) ≤
      (63 : Int)) ∧ ((0 : Int) ≤ IntKind.i64.wrap (IntKind.i64.wrap (y.n (100018 : Nat) - y.n (91001 : Nat)) + IntKind.i64.wrap (IntKind.i64.wrap (IntKind.i64.wrap
      ((IntKind.i64.wrap ((0 : Int) - IntKind.i64.wrap (y.n (100018 : Nat) - y.n (91001 : Nat)))).tdiv (y_1.n (90000 : Nat))) + (1 : Int)) * y_1.n (90000 : Nat))) ∧
      IntKind.i64.wrap (IntKind.i64.wrap (y.n (100018 : Nat) - y.n (91001 : Nat)) + IntKind.i64.wrap (IntKind.i64.wrap (IntKind.i64.wrap ((IntKind.i64.wrap ((0 : Int) -
      IntKind.i64.wrap (y.n (100018 : Nat) - y.n (91001 : Nat)))).tdiv (y_1.n (90000 : Nat))) + (1 : Int)) * y_1.n (90000 : Nat))) ≤ (16777216 : Int)) ∧ ((0 : Int) ≤ y.n (100019
      : Nat) ∧ y.n (100019 : Nat) ≤ (3 : Int)) ∧ ((0 : Int) ≤ y.n (100020 : Nat) ∧ y.n (100020 : Nat) ≤ (15 : Int)) ∧ ((0 : Int) ≤ y.n (100023 : Nat) ∧ y.n (100023 : Nat) ≤ (15
      : Int)) ∧ ((0 : Int) ≤ y.n (100028 : Nat) ∧ y.n (100028 : Nat) ≤ (2047 : Int)) ∧ ((0 : Int) ≤ y.n (100029 : Nat) ∧ y.n (100029 : Nat) ≤ (63 : Int)) ∧ ((0 : Int) ≤ y.n
      (100030 : Nat) ∧ y.n (100030 : Nat) ≤ (16777216 : Int)) ∧ ((0 : Int) ≤ y.n (100031 : Nat) ∧ y.n (100031 : Nat) ≤ (3 : Int)) ∧ ((0 : Int) ≤ y.n (100032 : Nat) ∧ y.n (100032
      : Nat) ≤ (15 : Int)) ∧ ((0 : Int) ≤ y.n (100035 : Nat) ∧ y.n (100035 : Nat) ≤ (15 : Int)) ∧ ((0 : Int) ≤ y.n (100040 : Nat) ∧ y.n (100040 : Nat) ≤ (2047 : Int)) ∧ ((0 :
      Int) ≤ y.n (100041 : Nat) ∧ y.n (100041 : Nat) ≤ (63 : Int)) ∧ ((0 : Int) ≤ y.n (100042 : Nat) ∧ y.n (100042 : Nat) ≤ (16777216 : Int)) ∧ ((0 : Int) ≤ y.n (100043 : Nat) ∧
      y.n (100043 : Nat) ≤ (3 : Int)) ∧ ((0 : Int) ≤ y.n (100044 : Nat) ∧ y.n (100044 : Nat) ≤ (15 : Int)) ∧ ((0 : Int) ≤ y.n (100047 : Nat) ∧ y.n (100047 : Nat) ≤ (15 : Int)) ∧
      ((0 : Int) ≤ y.n (100050 : Nat) ∧ y.n (100050 : Nat) ≤ (7 : Int)) ∧ ((0 : Int) ≤ y.n (100086 : Nat) ∧ y.n (100086 : Nat) ≤ (1 : Int)) ∧ ((0 : Int) ≤ y.n (100088 : Nat) ∧
      y.n (100088 : Nat) ≤ (4 : Int)) ∧ ((0 : Int) ≤ y.n (100092 : Nat) ∧ y.n (100092 : Nat) ≤ (15 : Int)) ∧ ((0 : Int) ≤ y.n (100093 : Nat) ∧ y.n (100093 : Nat) ≤ (7 : Int)) ∧
      True) ∧ S = S) ∧ KS.mk (y.n (100000 : Nat)) (y.n (100002 : Nat)) (y.n (100014 : Nat)) (y.n (100008 : Nat)) (y.n (100020 : Nat)) (y.n (100051 : Nat)) (y.b (100001 : Nat))
      (y.b (100013 : Nat)) (y.b (100025 : Nat)) (y.b (100037 : Nat)) (y.b (100003 : Nat)) (y.b (100015 : Nat)) = KS.mk (z.n (100000 : Nat)) (z.n (100002 : Nat)) (z.n (100014 :
      Nat)) (z.n (100008 : Nat)) (z.n (100020 : Nat)) (z.n (100051 : Nat)) (z.b (100001 : Nat)) (z.b (100013 : Nat)) (z.b (100025 : Nat)) (z.b (100037 : Nat)) (z.b (100003 :
      Nat)) (z.b (100015 : Nat)) ∧ (2 : Nat) < (3 : Nat) ∧ True))) := by kernel_rfl
theorem pass_r2 (E : World) (M : Bl) (S : SW) (z : PX) (k : Int) (y : PX) :
    (loopP (pe E) Try.f20 (endP false (uM M) S (.c (.i .i64)) (fun z y => (KS.mk (y.n 100000) (y.n 100002) (y.n 100014) (y.n 100008) (y.n 100020) (y.n 100051) (y.b 100001) (y.b 100013) (y.b 100025) (y.b 100037) (y.b 100003) (y.b 100015)) = (KS.mk (z.n 100000) (z.n 100002) (z.n 100014) (z.n 100008) (z.n 100020) (z.n 100051) (z.b 100001) (z.b 100013) (z.b 100025) (z.b 100037) (z.b 100003) (z.b 100015))) z) (headP false S Try.f20.ntmps (some ((fun _ => 2) y)) (pass_hs E M S z k))  (run (pe E) (orcC E) (tabL fns) 20000 (2 ^ 200 - 1) (pass_td E) (mkL Try.f20.ntmps (slC y [(0, .c (.p 1 0)), (1, .r .i64 (0) (32768)), (5, .i .i64), (10, .c (.i true .i64 2))])) (mkM y S (uM M) 0))) =
    (((!y.b (100025 : Nat)) = true → pass_td E = pass_td E ∧ (85 : Nat) = (85 : Nat) ∧ (True ∧ (((0 : Int) ≤ y.n (91001 : Nat) ∧ y.n (91001 : Nat) ≤ (32768 : Int)) ∧ True) ∧
      True ∧ True ∧ True) ∧ (M = M ∧ (50 : Nat) = (50 : Nat) ∧ (RG y) ∧ S = S) ∧ KS.mk (y.n (100000 : Nat)) (y.n (100002 : Nat)) (y.n (100014 : Nat)) (y.n (100008 : Nat)) (y.n
      (100020 : Nat)) (y.n (100051 : Nat)) (y.b (100001 : Nat)) (y.b (100013 : Nat)) (y.b (100025 : Nat)) (y.b (100037 : Nat)) (y.b (100003 : Nat)) (y.b (100015 : Nat)) = KS.mk
      (z.n (100000 : Nat)) (z.n (100002 : Nat)) (z.n (100014 : Nat)) (z.n (100008 : Nat)) (z.n (100020 : Nat)) (z.n (100051 : Nat)) (z.b (100001 : Nat)) (z.b (100013 : Nat))
      (z.b (100025 : Nat)) (z.b (100037 : Nat)) (z.b (100003 : Nat)) (z.b (100015 : Nat)) ∧ (1 : Nat) < (2 : Nat) ∧ True) ∧ ((!y.b (100025 : Nat)) = false → (decide
      (IntKind.i64.wrap (y.n (100030 : Nat) - y.n (91001 : Nat)) > (0 : Int)) = true → pass_td E = pass_td E ∧ (85 : Nat) = (85 : Nat) ∧ (True ∧ (((0 : Int) ≤ y.n (91001 : Nat)
      ∧ y.n (91001 : Nat) ≤ (32768 : Int)) ∧ True) ∧ True ∧ True ∧ True) ∧ (M = M ∧ (50 : Nat) = (50 : Nat) ∧ (((0 : Int) ≤ y.n (100000 : Nat) ∧ y.n (100000 : Nat) ≤
      (2199023255552 : Int)) ∧ ((0 : Int) ≤ y.n (100004 : Nat) ∧ y.n (100004 : Nat) ≤ (2047 : Int)) ∧ ((0 : Int) ≤ y.n (100005 : Nat) ∧ y.n (100005 : Nat) ≤ (63 : Int)) ∧ ((0 :
      Int) ≤ y.n (100006 : Nat) ∧ y.n (100006 : Nat) ≤ (16777216 : Int)) ∧ ((0 : Int) ≤ y.n (100007 : Nat) ∧ y.n (100007 : Nat) ≤ (3 : Int)) ∧ ((0 : Int) ≤ y.n (100008 : Nat) ∧
      y.n (100008 : Nat) ≤ (15 : Int)) ∧ ((0 : Int) ≤ y.n (100011 : Nat) ∧ y.n (100011 : Nat) ≤ (15 : Int)) ∧ ((0 : Int) ≤ y.n (100016 : Nat) ∧ y.n (100016 : Nat) ≤ (2047 :
      Int)) ∧ ((0 : Int) ≤ y.n (100017 : Nat) ∧ y.n (100017 : Nat) ≤ (63 : Int)) ∧ ((0 : Int) ≤ y.n (100018 : Nat) ∧ y.n (100018 : Nat) ≤ (16777216 : Int)) ∧ ((0 : Int) ≤ y.n
      (100019 : Nat) ∧ y.n (100019 : Nat) ≤ (3 : Int)) ∧ ((0 : Int) ≤ y.n (100020 : Nat) ∧ y.n (100020 : Nat) ≤ (15 : Int)) ∧ ((0 : Int) ≤ y.n (100023 : Nat) ∧ y.n (100023 :
      Nat) ≤ (15 : Int)) ∧ ((0 : Int) ≤ y.n (100028 : Nat) ∧ y.n (100028 : Nat) ≤ (2047 : Int)) ∧ ((0 : Int) ≤ y.n (100029 : Nat) ∧ y.n (100029 : Nat) ≤ (63 : Int)) ∧ ((0 : Int)
      ≤ IntKind.i64.wrap (y.n (100030 : Nat) - y.n (91001 : Nat)) ∧ IntKind.i64.wrap (y.n (100030 : Nat) - y.n (91001 : Nat)) ≤ (16777216 : Int)) ∧ ((0 : Int) ≤ y.n (100031 :
      Nat) ∧ y.n (100031 : Nat) ≤ (3 : Int)) ∧ ((0 : Int) ≤ y.n (100032 : Nat) ∧ y.n (100032 : Nat) ≤ (15 : Int)) ∧ ((0 : Int) ≤ y.n (100035 : Nat) ∧ y.n (100035 : Nat) ≤ (15 :
      Int)) ∧ ((0 : Int) ≤ y.n (100040 : Nat) ∧ y.n (100040 : Nat) ≤ (2047 : Int)) ∧ ((0 : Int) ≤ y.n (100041 : Nat) ∧ y.n (100041 : Nat) ≤ (63 : Int)) ∧ ((0 : Int) ≤ y.n
      (100042 : Nat) ∧ y.n (100042 : Nat) ≤ (16777216 : Int)) ∧ ((0 : Int) ≤ y.n (100043 : Nat) ∧ y.n (100043 : Nat) ≤ (3 : Int)) ∧ ((0 : Int) ≤ y.n (100044 : Nat) ∧ y.n (100044
      : Nat) ≤ (15 : Int)) ∧ ((0 : Int) ≤ y.n (100047 : Nat) ∧ y.n (100047 : Nat) ≤ (15 : Int)) ∧ ((0 : Int) ≤ y.n (100050 : Nat) ∧ y.n (100050 : Nat) ≤ (7 : Int)) ∧ ((0 : Int)
      ≤ y.n (100086 : Nat) ∧ y.n (100086 : Nat) ≤ (1 : Int)) ∧ ((0 : Int) ≤ y.n (100088 : Nat) ∧ y.n (100088 : Nat) ≤ (4 : Int)) ∧ ((0 : Int) ≤ y.n (100092 : Nat) ∧ y.n (100092
      : Nat) ≤ (15 : Int)) ∧ ((0 : Int) ≤ y.n (100093 : Nat) ∧ y.n (100093 : Nat) ≤ (7 : Int)) ∧ True) ∧ S = S) ∧ KS.mk (y.n (100000 : Nat)) (y.n (100002 : Nat)) (y.n (100014 :
      Nat)) (y.n (100008 : Nat)) (y.n (100020 : Nat)) (y.n (100051 : Nat)) (y.b (100001 : Nat)) (y.b (100013 : Nat)) (y.b (100025 : Nat)) (y.b (100037 : Nat)) (y.b (100003 :
      Nat)) (y.b (100015 : Nat)) = KS.mk (z.n (100000 : Nat)) (z.n (100002 : Nat)) (z.n (100014 : Nat)) (z.n (100008 : Nat)) (z.n (100020 : Nat)) (z.n (100051 : Nat)) (z.b
      (100001 : Nat)) (z.b (100013 : Nat)) (z.b (100025 : Nat)) (z.b (100037 : Nat)) (z.b (100003 : Nat)) (z.b (100015 : Nat)) ∧ (1 : Nat) < (2 : Nat) ∧ True) ∧ (decide
      (IntKind.i64.wrap (y.n (100030 : Nat) - y.n (91001 : Nat)) > (0 : Int)) = false → ((M = M ∧ (50 : Nat) = (50 : Nat) ∧ (RH y) ∧ S = S) ∧ True) ∧ ∀ (y_1 : PX), (((1 : Int) ≤
      y_1.n (90000 : Nat) ∧ y_1.n (90000 : Nat) ≤ (16777216 : Int)) ∧ True) ∧ True → (!decide (y_1.n (90000 : Nat) = (0 : Int))) = true ∧ pass_td E = pass_td E ∧ (85 : Nat) =
      (85 : Nat) ∧ (True ∧ (((0 : Int) ≤ y.n (91001 : Nat) ∧ y.n (91001 : Nat) ≤ (32768 : Int)) ∧ True) ∧ True ∧ True ∧ True) ∧ (M = M ∧ (50 : Nat) = (50 : Nat) ∧ (((0 : Int) ≤
      y.n (100000 : Nat) ∧ y.n (100000 : Nat) ≤ (2199023255552 : Int)) ∧ ((0 : Int) ≤ y.n (100004 : Nat) ∧ y.n (100004 : Nat) ≤ (2047 : Int)) ∧ ((0 : Int) ≤ y.n (100005 : Nat) ∧
      y.n (100005 : Nat) ≤ (63 : Int)) ∧ ((0 : Int) ≤ y.n (100006 : Nat) ∧ y.n (100006 : Nat) ≤ (16777216 : Int)) ∧ ((0 : Int) ≤ y.n (100007 : Nat) ∧ y.n (100007 : Nat) ≤ (3 :
      Int)) ∧ ((0 : Int) ≤ y.n (100008 : Nat) ∧ y.n (100008 : Nat) ≤ (15 : Int)) ∧ ((0 : Int) ≤ y.n (100011 : Nat) ∧ y.n (100011 : Nat) ≤ (15 : Int)) ∧ ((0 : Int) ≤ y.n (100016
      : Nat) ∧ y.n (100016 : Nat) ≤ (2047 : Int)) ∧ ((0 : Int) ≤ y.n (100017 : Nat) ∧ y.n (100017 : Nat) ≤ (63 : Int)) ∧ ((0 : Int) ≤ y.n (100018 : Nat) ∧ y.n (100018 : Nat) ≤
      (16777216 : Int)) ∧ ((0 : Int) ≤ y.n (100019 : Nat) ∧ y.n (100019 : Nat) ≤ (3 : Int)) ∧ ((0 : Int) ≤ y.n (100020 : Nat) ∧ y.n (100020 : Nat) ≤ (15 : Int)) ∧ ((0 : Int) ≤
      y.n (100023 : Nat) ∧ y.n (100023 : Nat) ≤ (15 : Int)) ∧ ((0 : Int) ≤ y.n (100028 : Nat) ∧ y.n (100028 : Nat) ≤ (2047 : Int)) ∧ ((0 : Int) ≤ (IntKind.i64.wrap (y.n (100029
      : Nat) + IntKind.i64.wrap (IntKind.i64.wrap ((IntKind.i64.wrap ((0 : Int) - IntKind.i64.wrap (y.n (100030 : Nat) - y.n (91001 : Nat)))).tdiv (y_1.n (90000 : Nat))) + (1 :
      Int)))).tmod (64 : Int) ∧ (IntKind.i64.wrap (y.n (100029 : Nat) + IntKind.i64.wrap (IntKind.i64.wrap ((IntKind.i64.wrap ((0 : Int) - IntKind.i64.wrap (y.n (100030 : Nat) -
      y.n (91001 : Nat)))).tdiv (y_1.n (90000 : Nat))) + (1 : Int)))).tmod (64 : Int) ≤ (63 : Int)) ∧ ((0 : Int) ≤ IntKind.i64.wrap (IntKind.i64.wrap (y.n (100030 : Nat) - y.n
      (91001 : Nat)) + IntKind.i64.wrap (IntKind.i64.wrap (IntKind.i64.wrap ((IntKind.i64.wrap ((0 : Int) - IntKind.i64.wrap (y.n (100030 : Nat) - y.n (91001 : Nat)))).tdiv
      (y_1.n (90000 : Nat))) + (1 : Int)) * y_1.n (90000 : Nat))) ∧ IntKind.i64.wrap (IntKind.i64.wrap (y.n (100030 : Nat) - y.n (91001 : Nat)) + IntKind.i64.wrap
      (IntKind.i64.wrap (IntKind.i64.wrap ((IntKind.i64.wrap ((0 : Int) - IntKind.i64.wrap (y.n (100030 : Nat) - y.n (91001 : Nat)))).tdiv (y_1.n (90000 : Nat))) + (1 : Int)) *
      y_1.n (90000 : Nat))) ≤ (16777216 : Int)) ∧ ((0 : Int) ≤ y.n (100031 : Nat) ∧ y.n (100031 : Nat) ≤ (3 : Int)) ∧ ((0 : Int) ≤ y.n (100032 : Nat) ∧ y.n (100032 : Nat) ≤ (15
      : Int)) ∧ ((0 : Int) ≤ y.n (100035 : Nat) ∧ y.n (100035 : Nat) ≤ (15 : Int)) ∧ ((0 : Int) ≤ y.n (100040 : Nat) ∧ y.n (100040 : Nat) ≤ (2047 : Int)) ∧ ((0 : Int) ≤ y.n
      (100041 : Nat) ∧ y.n (100041 : Nat) ≤ (63 : Int)) ∧ ((0 : Int) ≤ y.n (100042 : Nat) ∧ y.n (100042 : Nat) ≤ (16777216 : Int)) ∧ ((0 : Int) ≤ y.n (100043 : Nat) ∧ y.n
      (100043 : Nat) ≤ (3 : Int)) ∧ ((0 : Int) ≤ y.n (100044 : Nat) ∧ y.n (100044 : Nat) ≤ (15 : Int)) ∧ ((0 : Int) ≤ y.n (100047 : Nat) ∧ y.n (100047 : Nat) ≤ (15 : Int)) ∧ ((0
      : Int) ≤ y.n (100050 : Nat) ∧ y.n (100050 : Nat) ≤ (7 : Int)) ∧ ((0 : Int) ≤ y.n (100086 : Nat) ∧ y.n (100086 : Nat) ≤ (1 : Int)) ∧ ((0 : Int) ≤ y.n (100088 : Nat) ∧ y.n
      (100088 : Nat) ≤ (4 : Int)) ∧ ((0 : Int) ≤ y.n (100092 : Nat) ∧ y.n (100092 : Nat) ≤ (15 : Int)) ∧ ((0 : Int) ≤ y.n (100093 : Nat) ∧ y.n (100093 : Nat) ≤ (7 : Int)) ∧
      True) ∧ S = S) ∧ KS.mk (y.n (100000 : Nat)) (y.n (100002 : Nat)) (y.n (100014 : Nat)) (y.n (100008 : Nat)) (y.n (100020 : Nat)) (y.n (100051 : Nat)) (y.b (100001 : Nat))
      (y.b (100013 : Nat)) (y.b (100025 : Nat)) (y.b (100037 : Nat)) (y.b (100003 : Nat)) (y.b (100015 : Nat)) = KS.mk (z.n (100000 : Nat)) (z.n (100002 : Nat)) (z.n (100014 :
      Nat)) (z.n (100008 : Nat)) (z.n (100020 : Nat)) (z.n (100051 : Nat)) (z.b (100001 : Nat)) (z.b (100013 : Nat)) (z.b (100025 : Nat)) (z.b (100037 : Nat)) (z.b (100003 :
      Nat)) (z.b (100015 : Nat)) ∧ (1 : Nat) < (2 : Nat) ∧ True))) := by kernel_rfl
theorem pass_r3 (E : World) (M : Bl) (S : SW) (z : PX) (k : Int) (y : PX) :
    (loopP (pe E) Try.f20 (endP false (uM M) S (.c (.i .i64)) (fun z y => (KS.mk (y.n 100000) (y.n 100002) (y.n 100014) (y.n 100008) (y.n 100020) (y.n 100051) (y.b 100001) (y.b 100013) (y.b 100025) (y.b 100037) (y.b 100003) (y.b 100015)) = (KS.mk (z.n 100000) (z.n 100002) (z.n 100014) (z.n 100008) (z.n 100020) (z.n 100051) (z.b 100001) (z.b 100013) (z.b 100025) (z.b 100037) (z.b 100003) (z.b 100015))) z) (headP false S Try.f20.ntmps (some ((fun _ => 1) y)) (pass_hs E M S z k))  (run (pe E) (orcC E) (tabL fns) 20000 (2 ^ 200 - 1) (pass_td E) (mkL Try.f20.ntmps (slC y [(0, .c (.p 1 0)), (1, .r .i64 (0) (32768)), (5, .i .i64), (10, .c (.i true .i64 3))])) (mkM y S (uM M) 0))) =
    (((!y.b (100037 : Nat)) = true → pass_td E = pass_td E ∧ (85 : Nat) = (85 : Nat) ∧ (True ∧ (((0 : Int) ≤ y.n (91001 : Nat) ∧ y.n (91001 : Nat) ≤ (32768 : Int)) ∧ True) ∧
      True ∧ True ∧ True) ∧ (M = M ∧ (50 : Nat) = (50 : Nat) ∧ (RG y) ∧ S = S) ∧ KS.mk (y.n (100000 : Nat)) (y.n (100002 : Nat)) (y.n (100014 : Nat)) (y.n (100008 : Nat)) (y.n
      (100020 : Nat)) (y.n (100051 : Nat)) (y.b (100001 : Nat)) (y.b (100013 : Nat)) (y.b (100025 : Nat)) (y.b (100037 : Nat)) (y.b (100003 : Nat)) (y.b (100015 : Nat)) = KS.mk
      (z.n (100000 : Nat)) (z.n (100002 : Nat)) (z.n (100014 : Nat)) (z.n (100008 : Nat)) (z.n (100020 : Nat)) (z.n (100051 : Nat)) (z.b (100001 : Nat)) (z.b (100013 : Nat))
      (z.b (100025 : Nat)) (z.b (100037 : Nat)) (z.b (100003 : Nat)) (z.b (100015 : Nat)) ∧ (0 : Nat) < (1 : Nat) ∧ True) ∧ ((!y.b (100037 : Nat)) = false → (decide
      (IntKind.i64.wrap (y.n (100042 : Nat) - y.n (91001 : Nat)) > (0 : Int)) = true → pass_td E = pass_td E ∧ (85 : Nat) = (85 : Nat) ∧ (True ∧ (((0 : Int) ≤ y.n (91001 : Nat)
      ∧ y.n (91001 : Nat) ≤ (32768 : Int)) ∧ True) ∧ True ∧ True ∧ True) ∧ (M = M ∧ (50 : Nat) = (50 : Nat) ∧ (((0 : Int) ≤ y.n (100000 : Nat) ∧ y.n (100000 : Nat) ≤
      (2199023255552 : Int)) ∧ ((0 : Int) ≤ y.n (100004 : Nat) ∧ y.n (100004 : Nat) ≤ (2047 : Int)) ∧ ((0 : Int) ≤ y.n (100005 : Nat) ∧ y.n (100005 : Nat) ≤ (63 : Int)) ∧ ((0 :
      Int) ≤ y.n (100006 : Nat) ∧ y.n (100006 : Nat) ≤ (16777216 : Int)) ∧ ((0 : Int) ≤ y.n (100007 : Nat) ∧ y.n (100007 : Nat) ≤ (3 : Int)) ∧ ((0 : Int) ≤ y.n (100008 : Nat) ∧
      y.n (100008 : Nat) ≤ (15 : Int)) ∧ ((0 : Int) ≤ y.n (100011 : Nat) ∧ y.n (100011 : Nat) ≤ (15 : Int)) ∧ ((0 : Int) ≤ y.n (100016 : Nat) ∧ y.n (100016 : Nat) ≤ (2047 :
      Int)) ∧ ((0 : Int) ≤ y.n (100017 : Nat) ∧ y.n (100017 : Nat) ≤ (63 : Int)) ∧ ((0 : Int) ≤ y.n (100018 : Nat) ∧ y.n (100018 : Nat) ≤ (16777216 : Int)) ∧ ((0 : Int) ≤ y.n
      (100019 : Nat) ∧ y.n (100019 : Nat) ≤ (3 : Int)) ∧ ((0 : Int) ≤ y.n (100020 : Nat) ∧ y.n (100020 : Nat) ≤ (15 : Int)) ∧ ((0 : Int) ≤ y.n (100023 : Nat) ∧ y.n (100023 :
      Nat) ≤ (15 : Int)) ∧ ((0 : Int) ≤ y.n (100028 : Nat) ∧ y.n (100028 : Nat) ≤ (2047 : Int)) ∧ ((0 : Int) ≤ y.n (100029 : Nat) ∧ y.n (100029 : Nat) ≤ (63 : Int)) ∧ ((0 : Int)
      ≤ y.n (100030 : Nat) ∧ y.n (100030 : Nat) ≤ (16777216 : Int)) ∧ ((0 : Int) ≤ y.n (100031 : Nat) ∧ y.n (100031 : Nat) ≤ (3 : Int)) ∧ ((0 : Int) ≤ y.n (100032 : Nat) ∧ y.n
      (100032 : Nat) ≤ (15 : Int)) ∧ ((0 : Int) ≤ y.n (100035 : Nat) ∧ y.n (100035 : Nat) ≤ (15 : Int)) ∧ ((0 : Int) ≤ y.n (100040 : Nat) ∧ y.n (100040 : Nat) ≤ (2047 : Int)) ∧
      ((0 : Int) ≤ y.n (100041 : Nat) ∧ y.n (100041 : Nat) ≤ (63 : Int)) ∧ ((0 : Int) ≤ IntKind.i64.wrap (y.n (100042 : Nat) - y.n (91001 : Nat)) ∧ IntKind.i64.wrap (y.n (100042
      : Nat) - y.n (91001 : Nat)) ≤ (16777216 : Int)) ∧ ((0 : Int) ≤ y.n (100043 : Nat) ∧ y.n (100043 : Nat) ≤ (3 : Int)) ∧ ((0 : Int) ≤ y.n (100044 : Nat) ∧ y.n (100044 : Nat)
      ≤ (15 : Int)) ∧ ((0 : Int) ≤ y.n (100047 : Nat) ∧ y.n (100047 : Nat) ≤ (15 : Int)) ∧ ((0 : Int) ≤ y.n (100050 : Nat) ∧ y.n (100050 : Nat) ≤ (7 : Int)) ∧ ((0 : Int) ≤ y.n
      (100086 : Nat) ∧ y.n (100086 : Nat) ≤ (1 : Int)) ∧ ((0 : Int) ≤ y.n (100088 : Nat) ∧ y.n (100088 : Nat) ≤ (4 : Int)) ∧ ((0 : Int) ≤ y.n (100092 : Nat) ∧ y.n (100092 : Nat)
      ≤ (15 : Int)) ∧ ((0 : Int) ≤ y.n (100093 : Nat) ∧ y.n (100093 : Nat) ≤ (7 : Int)) ∧ True) ∧ S = S) ∧ KS.mk (y.n (100000 : Nat)) (y.n (100002 : Nat)) (y.n (100014 : Nat))
      (y.n (100008 : Nat)) (y.n (100020 : Nat)) (y.n (100051 : Nat)) (y.b (100001 : Nat)) (y.b (100013 : Nat)) (y.b (100025 : Nat)) (y.b (100037 : Nat)) (y.b (100003 : Nat))
      (y.b (100015 : Nat)) = KS.mk (z.n (100000 : Nat)) (z.n (100002 : Nat)) (z.n (100014 : Nat)) (z.n (100008 : Nat)) (z.n (100020 : Nat)) (z.n (100051 : Nat)) (z.b (100001 :
      Nat)) (z.b (100013 : Nat)) (z.b (100025 : Nat)) (z.b (100037 : Nat)) (z.b (100003 : Nat)) (z.b (100015 : Nat)) ∧ (0 : Nat) < (1 : Nat) ∧ True) ∧ (decide (IntKind.i64.wrap
      (y.n (100042 : Nat) - y.n (91001 : Nat)) > (0 : Int)) = false → ((M = M ∧ (50 : Nat) = (50 : Nat) ∧ (RH y) ∧ S = S) ∧ True) ∧ ∀ (y_1 : PX), (((1 : Int) ≤ y_1.n (90000 :
      Nat) ∧ y_1.n (90000 : Nat) ≤ (16777216 : Int)) ∧ True) ∧ True → (!decide (y_1.n (90000 : Nat) = (0 : Int))) = true ∧ pass_td E = pass_td E ∧ (85 : Nat) = (85 : Nat) ∧
      (True ∧ (((0 : Int) ≤ y.n (91001 : Nat) ∧ y.n (91001 : Nat) ≤ (32768 : Int)) ∧ True) ∧ True ∧ True ∧ True) ∧ (M = M ∧ (50 : Nat) = (50 : Nat) ∧ (((0 : Int) ≤ y.n (100000 :
      Nat) ∧ y.n (100000 : Nat) ≤ (2199023255552 : Int)) ∧ ((0 : Int) ≤ y.n (100004 : Nat) ∧ y.n (100004 : Nat) ≤ (2047 : Int)) ∧ ((0 : Int) ≤ y.n (100005 : Nat) ∧ y.n (100005 :
      Nat) ≤ (63 : Int)) ∧ ((0 : Int) ≤ y.n (100006 : Nat) ∧ y.n (100006 : Nat) ≤ (16777216 : Int)) ∧ ((0 : Int) ≤ y.n (100007 : Nat) ∧ y.n (100007 : Nat) ≤ (3 : Int)) ∧ ((0 :
      Int) ≤ y.n (100008 : Nat) ∧ y.n (100008 : Nat) ≤ (15 : Int)) ∧ ((0 : Int) ≤ y.n (100011 : Nat) ∧ y.n (100011 : Nat) ≤ (15 : Int)) ∧ ((0 : Int) ≤ y.n (100016 : Nat) ∧ y.n
      (100016 : Nat) ≤ (2047 : Int)) ∧ ((0 : Int) ≤ y.n (100017 : Nat) ∧ y.n (100017 : Nat) ≤ (63 : Int)) ∧ ((0 : Int) ≤ y.n (100018 : Nat) ∧ y.n (100018 : Nat) ≤ (16777216 :
      Int)) ∧ ((0 : Int) ≤ y.n (100019 : Nat) ∧ y.n (100019 : Nat) ≤ (3 : Int)) ∧ ((0 : Int) ≤ y.n (100020 : Nat) ∧ y.n (100020 : Nat) ≤ (15 : Int)) ∧ ((0 : Int) ≤ y.n (100023 :
      Nat) ∧ y.n (100023 : Nat) ≤ (15 : Int)) ∧ ((0 : Int) ≤ y.n (100028 : Nat) ∧ y.n (100028 : Nat) ≤ (2047 : Int)) ∧ ((0 : Int) ≤ y.n (100029 : Nat) ∧ y.n (100029 : Nat) ≤ (63
      : Int)) ∧ ((0 : Int) ≤ y.n (100030 : Nat) ∧ y.n (100030 : Nat) ≤ (16777216 : Int)) ∧ ((0 : Int) ≤ y.n (100031 : Nat) ∧ y.n (100031 : Nat) ≤ (3 : Int)) ∧ ((0 : Int) ≤ y.n
      (100032 : Nat) ∧ y.n (100032 : Nat) ≤ (15 : Int)) ∧ ((0 : Int) ≤ y.n (100035 : Nat) ∧ y.n (100035 : Nat) ≤ (15 : Int)) ∧ ((0 : Int) ≤ y.n (100040 : Nat) ∧ y.n (100040 :
      Nat) ≤ (2047 : Int)) ∧ ((0 : Int) ≤ y.n (100041 : Nat) ∧ y.n (100041 : Nat) ≤ (63 : Int)) ∧ ((0 : Int) ≤ IntKind.i64.wrap (IntKind.i64.wrap (y.n (100042 : Nat) - y.n
      (91001 : Nat)) + IntKind.i64.wrap (IntKind.i64.wrap (IntKind.i64.wrap ((IntKind.i64.wrap ((0 : Int) - IntKind.i64.wrap (y.n (100042 : Nat) - y.n (91001 : Nat)))).tdiv
      (y_1.n (90000 : Nat))) + (1 : Int)) * y_1.n (90000 : Nat))) ∧ IntKind.i64.wrap (IntKind.i64.wrap (y.n (100042 : Nat) - y.n (91001 : Nat)) + IntKind.i64.wrap
      (IntKind.i64.wrap (IntKind.i64.wrap ((IntKind.i64.wrap ((0 : Int) - IntKind.i64.wrap (y.n (100042 : Nat) - y.n (91001 : Nat)))).tdiv (y_1.n (90000 : Nat))) + (1 : Int)) *
      y_1.n (90000 : Nat))) ≤ (16777216 : Int)) ∧ ((0 : Int) ≤ y.n (100043 : Nat) ∧ y.n (100043 : Nat) ≤ (3 : Int)) ∧ ((0 : Int) ≤ y.n (100044 : Nat) ∧ y.n (100044 : Nat) ≤ (15
      : Int)) ∧ ((0 : Int) ≤ y.n (100047 : Nat) ∧ y.n (100047 : Nat) ≤ (15 : Int)) ∧ ((0 : Int) ≤ y.n (100050 : Nat) ∧ y.n (100050 : Nat) ≤ (7 : Int)) ∧ ((0 : Int) ≤ y.n (100086
      : Nat) ∧ y.n (100086 : Nat) ≤ (1 : Int)) ∧ ((0 : Int) ≤ y.n (100088 : Nat) ∧ y.n (100088 : Nat) ≤ (4 : Int)) ∧ ((0 : Int) ≤ y.n (100092 : Nat) ∧ y.n (100092 : Nat) ≤ (15 :
      Int)) ∧ ((0 : Int) ≤ y.n (100093 : Nat) ∧ y.n (100093 : Nat) ≤ (7 : Int)) ∧ True) ∧ S = S) ∧ KS.mk (y.n (100000 : Nat)) (y.n (100002 : Nat)) (y.n (100014 : Nat)) (y.n
      (100008 : Nat)) (y.n (100020 : Nat)) (y.n (100051 : Nat)) (y.b (100001 : Nat)) (y.b (100013 : Nat)) (y.b (100025 : Nat)) (y.b (100037 : Nat)) (y.b (100003 : Nat)) (y.b
      (100015 : Nat)) = KS.mk (z.n (100000 : Nat)) (z.n (100002 : Nat)) (z.n (100014 : Nat)) (z.n (100008 : Nat)) (z.n (100020 : Nat)) (z.n (100051 : Nat)) (z.b (100001 : Nat))
      (z.b (100013 : Nat)) (z.b (100025 : Nat)) (z.b (100037 : Nat)) (z.b (100003 : Nat)) (z.b (100015 : Nat)) ∧ (0 : Nat) < (1 : Nat) ∧ True))) := by kernel_rfl
theorem pass_r4 (E : World) (M : Bl) (S : SW) (z : PX) (k : Int) (y : PX) :
    (loopP (pe E) Try.f20 (endP false (uM M) S (.c (.i .i64)) (fun z y => (KS.mk (y.n 100000) (y.n 100002) (y.n 100014) (y.n 100008) (y.n 100020) (y.n 100051) (y.b 100001) (y.b 100013) (y.b 100025) (y.b 100037) (y.b 100003) (y.b 100015)) = (KS.mk (z.n 100000) (z.n 100002) (z.n 100014) (z.n 100008) (z.n 100020) (z.n 100051) (z.b 100001) (z.b 100013) (z.b 100025) (z.b 100037) (z.b 100003) (z.b 100015))) z) (headP false S Try.f20.ntmps (some ((fun _ => 0) y)) (pass_hs E M S z k))  (run (pe E) (orcC E) (tabL fns) 20000 (2 ^ 200 - 1) (pass_td E) (mkL Try.f20.ntmps (slC y [(0, .c (.p 1 0)), (1, .r .i64 (0) (32768)), (5, .i .i64), (10, .c (.i true .i64 4))])) (mkM y S (uM M) 0))) =
    (True ∧ (M = M ∧ (50 : Nat) = (50 : Nat) ∧ (RG y) ∧ S = S) ∧ KS.mk (y.n (100000 : Nat)) (y.n (100002 : Nat)) (y.n (100014 : Nat)) (y.n (100008 : Nat)) (y.n (100020 : Nat))
      (y.n (100051 : Nat)) (y.b (100001 : Nat)) (y.b (100013 : Nat)) (y.b (100025 : Nat)) (y.b (100037 : Nat)) (y.b (100003 : Nat)) (y.b (100015 : Nat)) = KS.mk (z.n (100000 :
      Nat)) (z.n (100002 : Nat)) (z.n (100014 : Nat)) (z.n (100008 : Nat)) (z.n (100020 : Nat)) (z.n (100051 : Nat)) (z.b (100001 : Nat)) (z.b (100013 : Nat)) (z.b (100025 :
      Nat)) (z.b (100037 : Nat)) (z.b (100003 : Nat)) (z.b (100015 : Nat))) := by kernel_rfl
set_option maxHeartbeats 8000000 in
theorem pass_c (E : World) (M : Bl) (S : SW) (k : Int) (z : PX) (hz : rgM z (uM M) 0) (hp : (fun _ => 0 ≤ k ∧ k ≤ 32768) z) : HC (pe E) 20 [.c (.p 1 0), .c (.i false .i64 k)] (uM M) S (.c (.i .i64)) (fun z y => (KS.mk (y.n 100000) (y.n 100002) (y.n 100014) (y.n 100008) (y.n 100020) (y.n 100051) (y.b 100001) (y.b 100013) (y.b 100025) (y.b 100037) (y.b 100003) (y.b 100015)) = (KS.mk (z.n 100000) (z.n 100002) (z.n 100014) (z.n 100008) (z.n 100020) (z.n 100051) (z.b 100001) (z.b 100013) (z.b 100025) (z.b 100037) (z.b 100003) (z.b 100015))) z := by
  refine HC.loop (P := pe E) orcC_ok tab_ok tab_sz mixed Try.func20 (c := Try.f20.body.getD .skip) rfl (by decide) (Nat.le_of_ble_eq_true rfl) false (by rfl) (by rfl) (by rfl) (by rfl) 20000 (2 ^ 200 - 1) (pass_hs E M S z k) (by rfl) ?_ (loopP_lfH ⟨?_⟩) ?_
  · intro h hmem
    simp only [pass_hs, List.mem_cons, List.not_mem_nil, or_false] at hmem
    rcases hmem with hmem | hmem | hmem | hmem | hmem
    all_goals (subst hmem; exact ⟨by rfl, Nat.le_of_ble_eq_true rfl, fun y hk => okSW_M (by rfl) hk⟩)
  · rw [pass_pro]
    obtain ⟨h0, h4, h5, h6, h7, h8, h11, h16, h17, h18, h19, h20, h23, h28, h29, h30, h31, h32, h35, h40, h41, h42, h43, h44, h47, h50, h86, h88, h92, h93, _⟩ := rg_u hz
    obtain ⟨p1, p2⟩ := hp
    (repeat' (first | assumption | exact trivial | exact rfl | apply And.intro | intro _)) <;> ((try simp only [wi64, wu16, Bool.not_eq_true', Bool.not_eq_false', Bool.and_eq_true, Bool.or_eq_true, beq_iff_eq, bne_iff_ne, ne_eq, beq_eq_false_iff_ne, bne_eq_false_iff_eq, decide_eq_true_eq, decide_eq_false_iff_not] at *) <;> (repeat' split) <;> omega)
  · intro h hmem y hy1 hy2 hy3
    simp only [pass_hs, List.mem_cons, List.not_mem_nil, or_false] at hmem
    rcases hmem with hmem | hmem | hmem | hmem | hmem
    · have e1 : h.td = (pass_td E) := by rw [hmem]
      have e2 : h.fs = [(0, .c (.p 1 0)), (1, .r .i64 (0) (32768)), (5, .i .i64), (10, .c (.i true .i64 0))] := by rw [hmem]
      have e3 : h.ms = (uM M) := by rw [hmem]
      have e4 : h.mu = (fun _ => 4) := by rw [hmem]
      have e5 : h.H = (fun y => (KS.mk (y.n 100000) (y.n 100002) (y.n 100014) (y.n 100008) (y.n 100020) (y.n 100051) (y.b 100001) (y.b 100013) (y.b 100025) (y.b 100037) (y.b 100003) (y.b 100015)) = (KS.mk (z.n 100000) (z.n 100002) (z.n 100014) (z.n 100008) (z.n 100020) (z.n 100051) (z.b 100001) (z.b 100013) (z.b 100025) (z.b 100037) (z.b 100003) (z.b 100015))) := by rw [hmem]
      rw [e3] at hy1
      rw [e2] at hy2
      rw [e5] at hy3
      rw [e1, e2, e3, e4]
      refine loopP_lfH ⟨?_⟩
      rw [pass_r0]
      clear e1 e2 e3 e4 e5 hmem
      have hf : True ∧ (((0) ≤ y.n 91001 ∧ y.n 91001 ≤ (32768)) ∧ True) ∧ True ∧ True ∧ True := hy2
      obtain ⟨_, ⟨g1, _⟩, _, _, _⟩ := hf
      obtain ⟨h0, h4, h5, h6, h7, h8, h11, h16, h17, h18, h19, h20, h23, h28, h29, h30, h31, h32, h35, h40, h41, h42, h43, h44, h47, h50, h86, h88, h92, h93, _⟩ := rg_u hy1
      have e1 : IntKind.i64.wrap (y.n 100006 - y.n 91001) = y.n 100006 - y.n 91001 := by rw [wi64]; omega
      rw [e1]
      refine ⟨fun _ => ?_, fun _ => ⟨fun _ => ?_, fun hl => ⟨?_, fun y1 hy1 => ?_⟩⟩⟩
      · (repeat' (first | assumption | exact trivial | exact rfl | apply And.intro | intro _)) <;> ((try simp only [wi64, wu16, Bool.not_eq_true', Bool.not_eq_false', Bool.and_eq_true, Bool.or_eq_true, beq_iff_eq, bne_iff_ne, ne_eq, beq_eq_false_iff_ne, bne_eq_false_iff_eq, decide_eq_true_eq, decide_eq_false_iff_not] at *) <;> (repeat' split) <;> omega)
      · (repeat' (first | assumption | exact trivial | exact rfl | apply And.intro | intro _)) <;> ((try simp only [wi64, wu16, Bool.not_eq_true', Bool.not_eq_false', Bool.and_eq_true, Bool.or_eq_true, beq_iff_eq, bne_iff_ne, ne_eq, beq_eq_false_iff_ne, bne_eq_false_iff_eq, decide_eq_true_eq, decide_eq_false_iff_not] at *) <;> (repeat' split) <;> omega)
      · (repeat' (first | assumption | exact trivial | exact rfl | apply And.intro | intro _)) <;> ((try simp only [wi64, wu16, Bool.not_eq_true', Bool.not_eq_false', Bool.and_eq_true, Bool.or_eq_true, beq_iff_eq, bne_iff_ne, ne_eq, beq_eq_false_iff_ne, bne_eq_false_iff_eq, decide_eq_true_eq, decide_eq_false_iff_not] at *) <;> (repeat' split) <;> omega)
      · obtain ⟨⟨⟨d1, d2⟩, _⟩, _⟩ := hy1
        have hl' : y.n 100006 - y.n 91001 ≤ 0 := by have := of_decide_eq_false hl; omega
        obtain ⟨q, hq, q0, q1, q2, q3, q4, q5⟩ := step_bd (y.n 100006 - y.n 91001) (y1.n 90000) hl' (by omega) d1 d2
        have e2 : IntKind.i64.wrap q = q := by rw [wi64]; omega
        have e3 : IntKind.i64.wrap (q + 1) = q + 1 := by rw [wi64]; omega
        rw [hq, e2]
        have hm := mod_bd (y.n 100005) q 8 h5.1 h5.2 q0 q1 (by decide) (by decide)
        rw [e3] at hm ⊢
        generalize (q + 1) * y1.n 90000 = g at q2 q3 q4 q5 ⊢
        have e4 : IntKind.i64.wrap g = g := by rw [wi64]; omega
        have e5 : IntKind.i64.wrap (y.n 100006 - y.n 91001 + g) = y.n 100006 - y.n 91001 + g := by rw [wi64]; omega
        rw [e4, e5]
        have k0 : (!decide (y1.n 90000 = 0)) = true := by simp; omega
        refine ⟨k0, ?_⟩
        (repeat' (first | assumption | exact trivial | exact rfl | exact hm.1 | exact hm.2 | apply And.intro)) <;> omega
    · have e1 : h.td = (pass_td E) := by rw [hmem]
      have e2 : h.fs = [(0, .c (.p 1 0)), (1, .r .i64 (0) (32768)), (5, .i .i64), (10, .c (.i true .i64 1))] := by rw [hmem]
      have e3 : h.ms = (uM M) := by rw [hmem]
      have e4 : h.mu = (fun _ => 3) := by rw [hmem]
      have e5 : h.H = (fun y => (KS.mk (y.n 100000) (y.n 100002) (y.n 100014) (y.n 100008) (y.n 100020) (y.n 100051) (y.b 100001) (y.b 100013) (y.b 100025) (y.b 100037) (y.b 100003) (y.b 100015)) = (KS.mk (z.n 100000) (z.n 100002) (z.n 100014) (z.n 100008) (z.n 100020) (z.n 100051) (z.b 100001) (z.b 100013) (z.b 100025) (z.b 100037) (z.b 100003) (z.b 100015))) := by rw [hmem]
      rw [e3] at hy1
      rw [e2] at hy2
      rw [e5] at hy3
      rw [e1, e2, e3, e4]
      refine loopP_lfH ⟨?_⟩
      rw [pass_r1]
      clear e1 e2 e3 e4 e5 hmem
      have hf : True ∧ (((0) ≤ y.n 91001 ∧ y.n 91001 ≤ (32768)) ∧ True) ∧ True ∧ True ∧ True := hy2
      obtain ⟨_, ⟨g1, _⟩, _, _, _⟩ := hf
      obtain ⟨h0, h4, h5, h6, h7, h8, h11, h16, h17, h18, h19, h20, h23, h28, h29, h30, h31, h32, h35, h40, h41, h42, h43, h44, h47, h50, h86, h88, h92, h93, _⟩ := rg_u hy1
      have e1 : IntKind.i64.wrap (y.n 100018 - y.n 91001) = y.n 100018 - y.n 91001 := by rw [wi64]; omega
      rw [e1]
      refine ⟨fun _ => ?_, fun _ => ⟨fun _ => ?_, fun hl => ⟨?_, fun y1 hy1 => ?_⟩⟩⟩
      · (repeat' (first | assumption | exact trivial | exact rfl | apply And.intro | intro _)) <;> ((try simp only [wi64, wu16, Bool.not_eq_true', Bool.not_eq_false', Bool.and_eq_true, Bool.or_eq_true, beq_iff_eq, bne_iff_ne, ne_eq, beq_eq_false_iff_ne, bne_eq_false_iff_eq, decide_eq_true_eq, decide_eq_false_iff_not] at *) <;> (repeat' split) <;> omega)
      · (repeat' (first | assumption | exact trivial | exact rfl | apply And.intro | intro _)) <;> ((try simp only [wi64, wu16, Bool.not_eq_true', Bool.not_eq_false', Bool.and_eq_true, Bool.or_eq_true, beq_iff_eq, bne_iff_ne, ne_eq, beq_eq_false_iff_ne, bne_eq_false_iff_eq, decide_eq_true_eq, decide_eq_false_iff_not] at *) <;> (repeat' split) <;> omega)
      · (repeat' (first | assumption | exact trivial | exact rfl | apply And.intro | intro _)) <;> ((try simp only [wi64, wu16, Bool.not_eq_true', Bool.not_eq_false', Bool.and_eq_true, Bool.or_eq_true, beq_iff_eq, bne_iff_ne, ne_eq, beq_eq_false_iff_ne, bne_eq_false_iff_eq, decide_eq_true_eq, decide_eq_false_iff_not] at *) <;> (repeat' split) <;> omega)
      · obtain ⟨⟨⟨d1, d2⟩, _⟩, _⟩ := hy1
        have hl' : y.n 100018 - y.n 91001 ≤ 0 := by have := of_decide_eq_false hl; omega
        obtain ⟨q, hq, q0, q1, q2, q3, q4, q5⟩ := step_bd (y.n 100018 - y.n 91001) (y1.n 90000) hl' (by omega) d1 d2
        have e2 : IntKind.i64.wrap q = q := by rw [wi64]; omega
        have e3 : IntKind.i64.wrap (q + 1) = q + 1 := by rw [wi64]; omega
        rw [hq, e2]
        have hm := mod_bd (y.n 100017) q 8 h17.1 h17.2 q0 q1 (by decide) (by decide)
        rw [e3] at hm ⊢
        generalize (q + 1) * y1.n 90000 = g at q2 q3 q4 q5 ⊢
        have e4 : IntKind.i64.wrap g = g := by rw [wi64]; omega
        have e5 : IntKind.i64.wrap (y.n 100018 - y.n 91001 + g) = y.n 100018 - y.n 91001 + g := by rw [wi64]; omega
        rw [e4, e5]
        have k0 : (!decide (y1.n 90000 = 0)) = true := by simp; omega
        refine ⟨k0, ?_⟩
        (repeat' (first | assumption | exact trivial | exact rfl | exact hm.1 | exact hm.2 | apply And.intro)) <;> omega
    · have e1 : h.td = (pass_td E) := by rw [hmem]
      have e2 : h.fs = [(0, .c (.p 1 0)), (1, .r .i64 (0) (32768)), (5, .i .i64), (10, .c (.i true .i64 2))] := by rw [hmem]
      have e3 : h.ms = (uM M) := by rw [hmem]
      have e4 : h.mu = (fun _ => 2) := by rw [hmem]
      have e5 : h.H = (fun y => (KS.mk (y.n 100000) (y.n 100002) (y.n 100014) (y.n 100008) (y.n 100020) (y.n 100051) (y.b 100001) (y.b 100013) (y.b 100025) (y.b 100037) (y.b 100003) (y.b 100015)) = (KS.mk (z.n 100000) (z.n 100002) (z.n 100014) (z.n 100008) (z.n 100020) (z.n 100051) (z.b 100001) (z.b 100013) (z.b 100025) (z.b 100037) (z.b 100003) (z.b 100015))) := by rw [hmem]
      rw [e3] at hy1
      rw [e2] at hy2
      rw [e5] at hy3
      rw [e1, e2, e3, e4]
      refine loopP_lfH ⟨?_⟩
      rw [pass_r2]
      clear e1 e2 e3 e4 e5 hmem
      have hf : True ∧ (((0) ≤ y.n 91001 ∧ y.n 91001 ≤ (32768)) ∧ True) ∧ True ∧ True ∧ True := hy2
      obtain ⟨_, ⟨g1, _⟩, _, _, _⟩ := hf
      obtain ⟨h0, h4, h5, h6, h7, h8, h11, h16, h17, h18, h19, h20, h23, h28, h29, h30, h31, h32, h35, h40, h41, h42, h43, h44, h47, h50, h86, h88, h92, h93, _⟩ := rg_u hy1
      have e1 : IntKind.i64.wrap (y.n 100030 - y.n 91001) = y.n 100030 - y.n 91001 := by rw [wi64]; omega
      rw [e1]
      refine ⟨fun _ => ?_, fun _ => ⟨fun _ => ?_, fun hl => ⟨?_, fun y1 hy1 => ?_⟩⟩⟩
      · (repeat' (first | assumption | exact trivial | exact rfl | apply And.intro | intro _)) <;> ((try simp only [wi64, wu16, Bool.not_eq_true', Bool.not_eq_false', Bool.and_eq_true, Bool.or_eq_true, beq_iff_eq, bne_iff_ne, ne_eq, beq_eq_false_iff_ne, bne_eq_false_iff_eq, decide_eq_true_eq, decide_eq_false_iff_not] at *) <;> (repeat' split) <;> omega)
      · (repeat' (first | assumption | exact trivial | exact rfl | apply And.intro | intro _)) <;> ((try simp only [wi64, wu16, Bool.not_eq_true', Bool.not_eq_false', Bool.and_eq_true, Bool.or_eq_true, beq_iff_eq, bne_iff_ne, ne_eq, beq_eq_false_iff_ne, bne_eq_false_iff_eq, decide_eq_true_eq, decide_eq_false_iff_not] at *) <;> (repeat' split) <;> omega)
      · (repeat' (first | assumption | exact trivial | exact rfl | apply And.intro | intro _)) <;> ((try simp only [wi64, wu16, Bool.not_eq_true', Bool.not_eq_false', Bool.and_eq_true, Bool.or_eq_true, beq_iff_eq, bne_iff_ne, ne_eq, beq_eq_false_iff_ne, bne_eq_false_iff_eq, decide_eq_true_eq, decide_eq_false_iff_not] at *) <;> (repeat' split) <;> omega)
      · obtain ⟨⟨⟨d1, d2⟩, _⟩, _⟩ := hy1
        have hl' : y.n 100030 - y.n 91001 ≤ 0 := by have := of_decide_eq_false hl; omega
        obtain ⟨q, hq, q0, q1, q2, q3, q4, q5⟩ := step_bd (y.n 100030 - y.n 91001) (y1.n 90000) hl' (by omega) d1 d2
        have e2 : IntKind.i64.wrap q = q := by rw [wi64]; omega
        have e3 : IntKind.i64.wrap (q + 1) = q + 1 := by rw [wi64]; omega
        rw [hq, e2]
        have hm := mod_bd (y.n 100029) q 64 h29.1 h29.2 q0 q1 (by decide) (by decide)
        rw [e3] at hm ⊢
        generalize (q + 1) * y1.n 90000 = g at q2 q3 q4 q5 ⊢
        have e4 : IntKind.i64.wrap g = g := by rw [wi64]; omega
        have e5 : IntKind.i64.wrap (y.n 100030 - y.n 91001 + g) = y.n 100030 - y.n 91001 + g := by rw [wi64]; omega
        rw [e4, e5]
        have k0 : (!decide (y1.n 90000 = 0)) = true := by simp; omega
        refine ⟨k0, ?_⟩
        (repeat' (first | assumption | exact trivial | exact rfl | exact hm.1 | exact hm.2 | apply And.intro)) <;> omega
    · have e1 : h.td = (pass_td E) := by rw [hmem]
      have e2 : h.fs = [(0, .c (.p 1 0)), (1, .r .i64 (0) (32768)), (5, .i .i64), (10, .c (.i true .i64 3))] := by rw [hmem]
      have e3 : h.ms = (uM M) := by rw [hmem]
      have e4 : h.mu = (fun _ => 1) := by rw [hmem]
      have e5 : h.H = (fun y => (KS.mk (y.n 100000) (y.n 100002) (y.n 100014) (y.n 100008) (y.n 100020) (y.n 100051) (y.b 100001) (y.b 100013) (y.b 100025) (y.b 100037) (y.b 100003) (y.b 100015)) = (KS.mk (z.n 100000) (z.n 100002) (z.n 100014) (z.n 100008) (z.n 100020) (z.n 100051) (z.b 100001) (z.b 100013) (z.b 100025) (z.b 100037) (z.b 100003) (z.b 100015))) := by rw [hmem]
      rw [e3] at hy1
      rw [e2] at hy2
      rw [e5] at hy3
      rw [e1, e2, e3, e4]
      refine loopP_lfH ⟨?_⟩
      rw [pass_r3]
      clear e1 e2 e3 e4 e5 hmem
      have hf : True ∧ (((0) ≤ y.n 91001 ∧ y.n 91001 ≤ (32768)) ∧ True) ∧ True ∧ True ∧ True := hy2
      obtain ⟨_, ⟨g1, _⟩, _, _, _⟩ := hf
      obtain ⟨h0, h4, h5, h6, h7, h8, h11, h16, h17, h18, h19, h20, h23, h28, h29, h30, h31, h32, h35, h40, h41, h42, h43, h44, h47, h50, h86, h88, h92, h93, _⟩ := rg_u hy1
      have e1 : IntKind.i64.wrap (y.n 100042 - y.n 91001) = y.n 100042 - y.n 91001 := by rw [wi64]; omega
      rw [e1]
      refine ⟨fun _ => ?_, fun _ => ⟨fun _ => ?_, fun hl => ⟨?_, fun y1 hy1 => ?_⟩⟩⟩
      · (repeat' (first | assumption | exact trivial | exact rfl | apply And.intro | intro _)) <;> ((try simp only [wi64, wu16, Bool.not_eq_true', Bool.not_eq_false', Bool.and_eq_true, Bool.or_eq_true, beq_iff_eq, bne_iff_ne, ne_eq, beq_eq_false_iff_ne, bne_eq_false_iff_eq, decide_eq_true_eq, decide_eq_false_iff_not] at *) <;> (repeat' split) <;> omega)
      · (repeat' (first | assumption | exact trivial | exact rfl | apply And.intro | intro _)) <;> ((try simp only [wi64, wu16, Bool.not_eq_true', Bool.not_eq_false', Bool.and_eq_true, Bool.or_eq_true, beq_iff_eq, bne_iff_ne, ne_eq, beq_eq_false_iff_ne, bne_eq_false_iff_eq, decide_eq_true_eq, decide_eq_false_iff_not] at *) <;> (repeat' split) <;> omega)
      · (repeat' (first | assumption | exact trivial | exact rfl | apply And.intro | intro _)) <;> ((try simp only [wi64, wu16, Bool.not_eq_true', Bool.not_eq_false', Bool.and_eq_true, Bool.or_eq_true, beq_iff_eq, bne_iff_ne, ne_eq, beq_eq_false_iff_ne, bne_eq_false_iff_eq, decide_eq_true_eq, decide_eq_false_iff_not] at *) <;> (repeat' split) <;> omega)
      · obtain ⟨⟨⟨d1, d2⟩, _⟩, _⟩ := hy1
        have hl' : y.n 100042 - y.n 91001 ≤ 0 := by have := of_decide_eq_false hl; omega
        obtain ⟨q, hq, q0, q1, q2, q3, q4, q5⟩ := step_bd (y.n 100042 - y.n 91001) (y1.n 90000) hl' (by omega) d1 d2
        have e2 : IntKind.i64.wrap q = q := by rw [wi64]; omega
        have e3 : IntKind.i64.wrap (q + 1) = q + 1 := by rw [wi64]; omega
        rw [hq, e2]
        rw [e3]
        generalize (q + 1) * y1.n 90000 = g at q2 q3 q4 q5 ⊢
        have e4 : IntKind.i64.wrap g = g := by rw [wi64]; omega
        have e5 : IntKind.i64.wrap (y.n 100042 - y.n 91001 + g) = y.n 100042 - y.n 91001 + g := by rw [wi64]; omega
        rw [e4, e5]
        have k0 : (!decide (y1.n 90000 = 0)) = true := by simp; omega
        refine ⟨k0, ?_⟩
        (repeat' (first | assumption | exact trivial | exact rfl | apply And.intro)) <;> omega
    · have e1 : h.td = (pass_td E) := by rw [hmem]
      have e2 : h.fs = [(0, .c (.p 1 0)), (1, .r .i64 (0) (32768)), (5, .i .i64), (10, .c (.i true .i64 4))] := by rw [hmem]
      have e3 : h.ms = (uM M) := by rw [hmem]
      have e4 : h.mu = (fun _ => 0) := by rw [hmem]
      have e5 : h.H = (fun y => (KS.mk (y.n 100000) (y.n 100002) (y.n 100014) (y.n 100008) (y.n 100020) (y.n 100051) (y.b 100001) (y.b 100013) (y.b 100025) (y.b 100037) (y.b 100003) (y.b 100015)) = (KS.mk (z.n 100000) (z.n 100002) (z.n 100014) (z.n 100008) (z.n 100020) (z.n 100051) (z.b 100001) (z.b 100013) (z.b 100025) (z.b 100037) (z.b 100003) (z.b 100015))) := by rw [hmem]
      rw [e3] at hy1
      rw [e2] at hy2
      rw [e5] at hy3
      rw [e1, e2, e3, e4]
      refine loopP_lfH ⟨?_⟩
      rw [pass_r4]
      clear e1 e2 e3 e4 e5 hmem
      have hf : True ∧ (((0) ≤ y.n 91001 ∧ y.n 91001 ≤ (32768)) ∧ True) ∧ True ∧ True ∧ True := hy2
      obtain ⟨_, ⟨g1, _⟩, _, _, _⟩ := hf
      obtain ⟨h0, h4, h5, h6, h7, h8, h11, h16, h17, h18, h19, h20, h23, h28, h29, h30, h31, h32, h35, h40, h41, h42, h43, h44, h47, h50, h86, h88, h92, h93, _⟩ := rg_u hy1
      (repeat' (first | assumption | exact trivial | exact rfl | apply And.intro | intro _)) <;> ((try simp only [wi64, wu16, Bool.not_eq_true', Bool.not_eq_false', Bool.and_eq_true, Bool.or_eq_true, beq_iff_eq, bne_iff_ne, ne_eq, beq_eq_false_iff_ne, bne_eq_false_iff_eq, decide_eq_true_eq, decide_eq_false_iff_not] at *) <;> (repeat' split) <;> omega)
end Go.Proofs.Ytcegofobcjimlaa

