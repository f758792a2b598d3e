import Derived.Test.YtcegofobcjimlaaO
set_option linter.unusedVariables false
set_option linter.unusedSimpArgs false
namespace Go.Proofs.Ytcegofobcjimlaa
open Go Go.Proofs Go.Proofs.Ytcegofobcjimlaa.Ev Go.Proofs.Ytcegofobcjimlaa.Ev.Ho
set_option maxRecDepth 100000

theorem on_pos {b0 b1 b2 b3 : Bool} (h : b0 = true ∨ b1 = true) : ((((cond b0 1 0 + cond b1 2 0) + cond b2 4 0) + cond b3 8 0 : Int) != 0) = true := by
  revert h; cases b0 <;> cases b1 <;> cases b2 <;> cases b3 <;> decide
noncomputable def run_td (E : World) : List Item := headOf (run (pe E) (orcR E) (tabL fns) 20000 (2 ^ 200 - 1) [.code (Try.f12.body.getD .skip)] ⟨Try.f12.ntmps, mkFrGo (Tr.mk 12) 0 [.c (.p 1 0), .c (.i true .i64 1)]⟩ (mkM default [] (uM ⟨[], 0⟩) 0))
noncomputable def run_hs (E : World) (M : Bl) (S : SW) (z : PX) (k : Int) : List Head := [⟨4, anyK, (run_td E), [(0, .c (.p 1 0)), (1, .r .i64 (0) (2199023255552)), (4, .r .i64 (-9223372036854775808) (9223372036854775807))], (uM M), fun y => y.n 91001 = k ∧ y.n 100000 ≤ k ∧ RI k (KS.mk (z.n 100000) (z.n 100002) (z.n 100014) (z.n 100008) (z.n 100020) (z.n 100051) (z.b 100001) (z.b 100013) (z.b 100025) (z.b 100037) (z.b 100003) (z.b 100015)) (KS.mk (y.n 100000) (y.n 100002) (y.n 100014) (y.n 100008) (y.n 100020) (y.n 100051) (y.b 100001) (y.b 100013) (y.b 100025) (y.b 100037) (y.b 100003) (y.b 100015)), fun y => (k - y.n 100000).toNat⟩]
theorem run_pro (E : World) (M : Bl) (S : SW) (z : PX) (k : Int) :
    (loopP (pe E) Try.f12 (endP false (uM M) S (.t []) (fun z y => RQ k (KS.mk (z.n 100000) (z.n 100002) (z.n 100014) (z.n 100008) (z.n 100020) (z.n 100051) (z.b 100001) (z.b 100013) (z.b 100025) (z.b 100037) (z.b 100003) (z.b 100015)) (KS.mk (y.n 100000) (y.n 100002) (y.n 100014) (y.n 100008) (y.n 100020) (y.n 100051) (y.b 100001) (y.b 100013) (y.b 100025) (y.b 100037) (y.b 100003) (y.b 100015))) z) (headP false S Try.f12.ntmps none (run_hs E M S z k)) (run (pe E) (orcR E) (tabL fns) 20000 (2 ^ 200 - 1) [.code (Try.f12.body.getD .skip)] ⟨Try.f12.ntmps, mkFrGo (Tr.mk 12) 0 [.c (.p 1 0), .c (.i false .i64 k)]⟩ (mkM z S (uM M) 0))) =
    (((bif decide (k ≤ z.n (100000 : Nat)) then true else decide (k > (2199023255552 : Int))) = true → True ∧ (M = M ∧ (50 : Nat) = (50 : Nat) ∧ (RG z) ∧ S = S) ∧ RQ k (KS.mk
      (z.n (100000 : Nat)) (z.n (100002 : Nat)) (z.n (100014 : Nat)) (z.n (100008 : Nat)) (z.n (100020 : Nat)) (z.n (100051 : Nat)) (z.b (100001 : Nat)) (z.b (100013 : Nat))
      (z.b (100025 : Nat)) (z.b (100037 : Nat)) (z.b (100003 : Nat)) (z.b (100015 : Nat))) (KS.mk (z.n (100000 : Nat)) (z.n (100002 : Nat)) (z.n (100014 : Nat)) (z.n (100008 :
      Nat)) (z.n (100020 : Nat)) (z.n (100051 : Nat)) (z.b (100001 : Nat)) (z.b (100013 : Nat)) (z.b (100025 : Nat)) (z.b (100037 : Nat)) (z.b (100003 : Nat)) (z.b (100015 :
      Nat)))) ∧ ((bif decide (k ≤ z.n (100000 : Nat)) then true else decide (k > (2199023255552 : Int))) = false → run_td E = run_td E ∧ (68 : Nat) = (68 : Nat) ∧ (True ∧ (((0 :
      Int) ≤ k ∧ k ≤ (2199023255552 : Int)) ∧ True) ∧ (((-9223372036854775808 : Int) ≤ (0 : Int) ∧ (0 : Int) ≤ (9223372036854775807 : Int)) ∧ True) ∧ True) ∧ (M = M ∧ (50 : Nat)
      = (50 : Nat) ∧ (RG z) ∧ S = S) ∧ (k = k ∧ z.n (100000 : Nat) ≤ k ∧ RI k (KS.mk (z.n (100000 : Nat)) (z.n (100002 : Nat)) (z.n (100014 : Nat)) (z.n (100008 : Nat)) (z.n
      (100020 : Nat)) (z.n (100051 : Nat)) (z.b (100001 : Nat)) (z.b (100013 : Nat)) (z.b (100025 : Nat)) (z.b (100037 : Nat)) (z.b (100003 : Nat)) (z.b (100015 : Nat))) (KS.mk
      (z.n (100000 : Nat)) (z.n (100002 : Nat)) (z.n (100014 : Nat)) (z.n (100008 : Nat)) (z.n (100020 : Nat)) (z.n (100051 : Nat)) (z.b (100001 : Nat)) (z.b (100013 : Nat))
      (z.b (100025 : Nat)) (z.b (100037 : Nat)) (z.b (100003 : Nat)) (z.b (100015 : Nat)))) ∧ True)) := by kernel_rfl
theorem run_r0 (E : World) (M : Bl) (S : SW) (z : PX) (k : Int) (y : PX) :
    (loopP (pe E) Try.f12 (endP false (uM M) S (.t []) (fun z y => RQ k (KS.mk (z.n 100000) (z.n 100002) (z.n 100014) (z.n 100008) (z.n 100020) (z.n 100051) (z.b 100001) (z.b 100013) (z.b 100025) (z.b 100037) (z.b 100003) (z.b 100015)) (KS.mk (y.n 100000) (y.n 100002) (y.n 100014) (y.n 100008) (y.n 100020) (y.n 100051) (y.b 100001) (y.b 100013) (y.b 100025) (y.b 100037) (y.b 100003) (y.b 100015))) z) (headP false S Try.f12.ntmps (some ((fun y => (k - y.n 100000).toNat) y)) (run_hs E M S z k))  (run (pe E) (orcR E) (tabL fns) 20000 (2 ^ 200 - 1) (run_td E) (mkL Try.f12.ntmps (slC y [(0, .c (.p 1 0)), (1, .r .i64 (0) (2199023255552)), (4, .r .i64 (-9223372036854775808) (9223372036854775807))])) (mkM y S (uM M) 0))) =
    ((decide (y.n (100000 : Nat) < y.n (91001 : Nat)) = true → ((M = M ∧ (50 : Nat) = (50 : Nat) ∧ (RG y) ∧ S = S) ∧ True) ∧ ∀ (y_1 : PX), ((((0 : Int) ≤ y_1.n (90000 : Nat) ∧
      y_1.n (90000 : Nat) ≤ (15 : Int)) ∧ True) ∧ y_1.n (90000 : Nat) = (((bif y.b (100001 : Nat) then (1 : Int) else (0 : Int)) + bif y.b (100013 : Nat) then (2 : Int) else (0
      : Int)) + bif y.b (100025 : Nat) then (4 : Int) else (0 : Int)) + bif y.b (100037 : Nat) then (8 : Int) else (0 : Int)) → ((y_1.n (90000 : Nat) != (0 : Int)) = true → ((M
      = M ∧ (50 : Nat) = (50 : Nat) ∧ (RG y) ∧ S = S) ∧ (0 : Int) ≤ IntKind.i64.wrap ((if IntKind.i64.wrap (IntKind.i64.wrap (IntKind.i64.wrap ((y.n (100000 : Nat)).tdiv (32768
      : Int)) + (1 : Int)) * (32768 : Int)) < y.n (91001 : Nat) then IntKind.i64.wrap (IntKind.i64.wrap (IntKind.i64.wrap ((y.n (100000 : Nat)).tdiv (32768 : Int)) + (1 : Int))
      * (32768 : Int)) else y.n (91001 : Nat)) - y.n (100000 : Nat)) ∧ IntKind.i64.wrap ((if IntKind.i64.wrap (IntKind.i64.wrap (IntKind.i64.wrap ((y.n (100000 : Nat)).tdiv
      (32768 : Int)) + (1 : Int)) * (32768 : Int)) < y.n (91001 : Nat) then IntKind.i64.wrap (IntKind.i64.wrap (IntKind.i64.wrap ((y.n (100000 : Nat)).tdiv (32768 : Int)) + (1 :
      Int)) * (32768 : Int)) else y.n (91001 : Nat)) - y.n (100000 : Nat)) ≤ (32768 : Int)) ∧ ∀ (y_2 : PX), ((RG y_2) ∧ True) ∧ True ∧ KS.mk (y_2.n (100000 : Nat)) (y_2.n
      (100002 : Nat)) (y_2.n (100014 : Nat)) (y_2.n (100008 : Nat)) (y_2.n (100020 : Nat)) (y_2.n (100051 : Nat)) (y_2.b (100001 : Nat)) (y_2.b (100013 : Nat)) (y_2.b (100025 :
      Nat)) (y_2.b (100037 : Nat)) (y_2.b (100003 : Nat)) (y_2.b (100015 : Nat)) = KS.mk (y.n (100000 : Nat)) (y.n (100002 : Nat)) (y.n (100014 : Nat)) (y.n (100008 : Nat)) (y.n
      (100020 : Nat)) (y.n (100051 : Nat)) (y.b (100001 : Nat)) (y.b (100013 : Nat)) (y.b (100025 : Nat)) (y.b (100037 : Nat)) (y.b (100003 : Nat)) (y.b (100015 : Nat)) → (((if
      IntKind.i64.wrap (IntKind.i64.wrap (IntKind.i64.wrap ((y.n (100000 : Nat)).tdiv (32768 : Int)) + (1 : Int)) * (32768 : Int)) < y.n (91001 : Nat) then IntKind.i64.wrap
      (IntKind.i64.wrap (IntKind.i64.wrap ((y.n (100000 : Nat)).tdiv (32768 : Int)) + (1 : Int)) * (32768 : Int)) else y.n (91001 : Nat)).tmod (32768 : Int) == (0 : Int)) = true
      → ((M = M ∧ (50 : Nat) = (50 : Nat) ∧ ((((0 : Int) ≤ if IntKind.i64.wrap (IntKind.i64.wrap (IntKind.i64.wrap ((y.n (100000 : Nat)).tdiv (32768 : Int)) + (1 : Int)) *
      (32768 : Int)) < y.n (91001 : Nat) then IntKind.i64.wrap (IntKind.i64.wrap (IntKind.i64.wrap ((y.n (100000 : Nat)).tdiv (32768 : Int)) + (1 : Int)) * (32768 : Int)) else
      y.n (91001 : Nat)) ∧ (if IntKind.i64.wrap (IntKind.i64.wrap (IntKind.i64.wrap ((y.n (100000 : Nat)).tdiv (32768 : Int)) + (1 : Int)) * (32768 : Int)) < y.n (91001 : Nat)
      then IntKind.i64.wrap (IntKind.i64.wrap (IntKind.i64.wrap ((y.n (100000 : Nat)).tdiv (32768 : Int)) + (1 : Int)) * (32768 : Int)) else y.n (91001 : Nat)) ≤ (2199023255552
      : Int)) ∧ ((0 : Int) ≤ y_2.n (100004 : Nat) ∧ y_2.n (100004 : Nat) ≤ (2047 : Int)) ∧ ((0 : Int) ≤ y_2.n (100005 : Nat) ∧ y_2.n (100005 : Nat) ≤ (63 : Int)) ∧ ((0 : Int) ≤
      y_2.n (100006 : Nat) ∧ y_2.n (100006 : Nat) ≤ (16777216 : Int)) ∧ ((0 : Int) ≤ y_2.n (100007 : Nat) ∧ y_2.n (100007 : Nat) ≤ (3 : Int)) ∧ ((0 : Int) ≤ y_2.n (100008 : Nat)
      ∧ y_2.n (100008 : Nat) ≤ (15 : Int)) ∧ ((0 : Int) ≤ y_2.n (100011 : Nat) ∧ y_2.n (100011 : Nat) ≤ (15 : Int)) ∧ ((0 : Int) ≤ y_2.n (100016 : Nat) ∧ y_2.n (100016 : Nat) ≤
      (2047 : Int)) ∧ ((0 : Int) ≤ y_2.n (100017 : Nat) ∧ y_2.n (100017 : Nat) ≤ (63 : Int)) ∧ ((0 : Int) ≤ y_2.n (100018 : Nat) ∧ y_2.n (100018 : Nat) ≤ (16777216 : Int)) ∧ ((0
      : Int) ≤ y_2.n (100019 : Nat) ∧ y_2.n (100019 : Nat) ≤ (3 : Int)) ∧ ((0 : Int) ≤ y_2.n (100020 : Nat) ∧ y_2.n (100020 : Nat) ≤ (15 : Int)) ∧ ((0 : Int) ≤ y_2.n (100023 :
      Nat) ∧ y_2.n (100023 : Nat) ≤ (15 : Int)) ∧ ((0 : Int) ≤ y_2.n (100028 : Nat) ∧ y_2.n (100028 : Nat) ≤ (2047 : Int)) ∧ ((0 : Int) ≤ y_2.n (100029 : Nat) ∧ y_2.n (100029 :
      Nat) ≤ (63 : Int)) ∧ ((0 : Int) ≤ y_2.n (100030 : Nat) ∧ y_2.n (100030 : Nat) ≤ (16777216 : Int)) ∧ ((0 : Int) ≤ y_2.n (100031 : Nat) ∧ y_2.n (100031 : Nat) ≤ (3 : Int)) ∧
      ((0 : Int) ≤ y_2.n (100032 : Nat) ∧ y_2.n (100032 : Nat) ≤ (15 : Int)) ∧ ((0 : Int) ≤ y_2.n (100035 : Nat) ∧ y_2.n (100035 : Nat) ≤ (15 : Int)) ∧ ((0 : Int) ≤ y_2.n
      (100040 : Nat) ∧ y_2.n (100040 : Nat) ≤ (2047 : Int)) ∧ ((0 : Int) ≤ y_2.n (100041 : Nat) ∧ y_2.n (100041 : Nat) ≤ (63 : Int)) ∧ ((0 : Int) ≤ y_2.n (100042 : Nat) ∧ y_2.n
      (100042 : Nat) ≤ (16777216 : Int)) ∧ ((0 : Int) ≤ y_2.n (100043 : Nat) ∧ y_2.n (100043 : Nat) ≤ (3 : Int)) ∧ ((0 : Int) ≤ y_2.n (100044 : Nat) ∧ y_2.n (100044 : Nat) ≤ (15
      : Int)) ∧ ((0 : Int) ≤ y_2.n (100047 : Nat) ∧ y_2.n (100047 : Nat) ≤ (15 : Int)) ∧ ((0 : Int) ≤ y_2.n (100050 : Nat) ∧ y_2.n (100050 : Nat) ≤ (7 : Int)) ∧ ((0 : Int) ≤
      y_2.n (100086 : Nat) ∧ y_2.n (100086 : Nat) ≤ (1 : Int)) ∧ ((0 : Int) ≤ y_2.n (100088 : Nat) ∧ y_2.n (100088 : Nat) ≤ (4 : Int)) ∧ ((0 : Int) ≤ y_2.n (100092 : Nat) ∧
      y_2.n (100092 : Nat) ≤ (15 : Int)) ∧ ((0 : Int) ≤ y_2.n (100093 : Nat) ∧ y_2.n (100093 : Nat) ≤ (7 : Int)) ∧ True) ∧ S = S) ∧ quiet (KS.mk (if IntKind.i64.wrap
      (IntKind.i64.wrap (IntKind.i64.wrap ((y.n (100000 : Nat)).tdiv (32768 : Int)) + (1 : Int)) * (32768 : Int)) < y.n (91001 : Nat) then IntKind.i64.wrap (IntKind.i64.wrap
      (IntKind.i64.wrap ((y.n (100000 : Nat)).tdiv (32768 : Int)) + (1 : Int)) * (32768 : Int)) else y.n (91001 : Nat)) (y_2.n (100002 : Nat)) (y_2.n (100014 : Nat)) (y_2.n
      (100008 : Nat)) (y_2.n (100020 : Nat)) (y_2.n (100051 : Nat)) (y_2.b (100001 : Nat)) (y_2.b (100013 : Nat)) (y_2.b (100025 : Nat)) (y_2.b (100037 : Nat)) (y_2.b (100003 :
      Nat)) (y_2.b (100015 : Nat)))) ∧ ∀ (y_3 : PX), ((RG y_3) ∧ True) ∧ True ∧ KS.mk (y_3.n (100000 : Nat)) (y_3.n (100002 : Nat)) (y_3.n (100014 : Nat)) (y_3.n (100008 : Nat))
      (y_3.n (100020 : Nat)) (y_3.n (100051 : Nat)) (y_3.b (100001 : Nat)) (y_3.b (100013 : Nat)) (y_3.b (100025 : Nat)) (y_3.b (100037 : Nat)) (y_3.b (100003 : Nat)) (y_3.b
      (100015 : Nat)) = bt (IntKind.i64.wrap ((if IntKind.i64.wrap (IntKind.i64.wrap (IntKind.i64.wrap ((y.n (100000 : Nat)).tdiv (32768 : Int)) + (1 : Int)) * (32768 : Int)) <
      y.n (91001 : Nat) then IntKind.i64.wrap (IntKind.i64.wrap (IntKind.i64.wrap ((y.n (100000 : Nat)).tdiv (32768 : Int)) + (1 : Int)) * (32768 : Int)) else y.n (91001 :
      Nat)).tdiv (32768 : Int))) (KS.mk (if IntKind.i64.wrap (IntKind.i64.wrap (IntKind.i64.wrap ((y.n (100000 : Nat)).tdiv (32768 : Int)) + (1 : Int)) * (32768 : Int)) < y.n
      (91001 : Nat) then IntKind.i64.wrap (IntKind.i64.wrap (IntKind.i64.wrap ((y.n (100000 : Nat)).tdiv (32768 : Int)) + (1 : Int)) * (32768 : Int)) else y.n (91001 : Nat))
      (y_2.n (100002 : Nat)) (y_2.n (100014 : Nat)) (y_2.n (100008 : Nat)) (y_2.n (100020 : Nat)) (y_2.n (100051 : Nat)) (y_2.b (100001 : Nat)) (y_2.b (100013 : Nat)) (y_2.b
      (100025 : Nat)) (y_2.b (100037 : Nat)) (y_2.b (100003 : Nat)) (y_2.b (100015 : Nat))) → run_td E = run_td E ∧ (68 : Nat) = (68 : Nat) ∧ (True ∧ (((0 : Int) ≤ y.n (91001 :
      Nat) ∧ y.n (91001 : Nat) ≤ (2199023255552 : Int)) ∧ True) ∧ (((-9223372036854775808 : Int) ≤ IntKind.i64.wrap (y.n (91004 : Nat) + y_2.n (90000 : Nat)) ∧ IntKind.i64.wrap
      (y.n (91004 : Nat) + y_2.n (90000 : Nat)) ≤ (9223372036854775807 : Int)) ∧ True) ∧ True) ∧ (M = M ∧ (50 : Nat) = (50 : Nat) ∧ (RG y_3) ∧ S = S) ∧ (y.n (91001 : Nat) = k ∧
      y_3.n (100000 : Nat) ≤ k ∧ RI k (KS.mk (z.n (100000 : Nat)) (z.n (100002 : Nat)) (z.n (100014 : Nat)) (z.n (100008 : Nat)) (z.n (100020 : Nat)) (z.n (100051 : Nat)) (z.b
      (100001 : Nat)) (z.b (100013 : Nat)) (z.b (100025 : Nat)) (z.b (100037 : Nat)) (z.b (100003 : Nat)) (z.b (100015 : Nat))) (KS.mk (y_3.n (100000 : Nat)) (y_3.n (100002 :
      Nat)) (y_3.n (100014 : Nat)) (y_3.n (100008 : Nat)) (y_3.n (100020 : Nat)) (y_3.n (100051 : Nat)) (y_3.b (100001 : Nat)) (y_3.b (100013 : Nat)) (y_3.b (100025 : Nat))
      (y_3.b (100037 : Nat)) (y_3.b (100003 : Nat)) (y_3.b (100015 : Nat)))) ∧ (k - y_3.n (100000 : Nat)).toNat < (k - y.n (100000 : Nat)).toNat ∧ True) ∧ (((if IntKind.i64.wrap
      (IntKind.i64.wrap (IntKind.i64.wrap ((y.n (100000 : Nat)).tdiv (32768 : Int)) + (1 : Int)) * (32768 : Int)) < y.n (91001 : Nat) then IntKind.i64.wrap (IntKind.i64.wrap
      (IntKind.i64.wrap ((y.n (100000 : Nat)).tdiv (32768 : Int)) + (1 : Int)) * (32768 : Int)) else y.n (91001 : Nat)).tmod (32768 : Int) == (0 : Int)) = false → run_td E =
      run_td E ∧ (68 : Nat) = (68 : Nat) ∧ (True ∧ (((0 : Int) ≤ y.n (91001 : Nat) ∧ y.n (91001 : Nat) ≤ (2199023255552 : Int)) ∧ True) ∧ (((-9223372036854775808 : Int) ≤
      IntKind.i64.wrap (y.n (91004 : Nat) + y_2.n (90000 : Nat)) ∧ IntKind.i64.wrap (y.n (91004 : Nat) + y_2.n (90000 : Nat)) ≤ (9223372036854775807 : Int)) ∧ True) ∧ True) ∧ (M
      = M ∧ (50 : Nat) = (50 : Nat) ∧ ((((0 : Int) ≤ if IntKind.i64.wrap (IntKind.i64.wrap (IntKind.i64.wrap ((y.n (100000 : Nat)).tdiv (32768 : Int)) + (1 : Int)) * (32768 :
      Int)) < y.n (91001 : Nat) then IntKind.i64.wrap (IntKind.i64.wrap (IntKind.i64.wrap ((y.n (100000 : Nat)).tdiv (32768 : Int)) + (1 : Int)) * (32768 : Int)) else y.n (91001
      : Nat)) ∧ (if IntKind.i64.wrap (IntKind.i64.wrap (IntKind.i64.wrap ((y.n (100000 : Nat)).tdiv (32768 : Int)) + (1 : Int)) * (32768 : Int)) < y.n (91001 : Nat) then
      IntKind.i64.wrap (IntKind.i64.wrap (IntKind.i64.wrap ((y.n (100000 : Nat)).tdiv (32768 : Int)) + (1 : Int)) * (32768 : Int)) else y.n (91001 : Nat)) ≤ (2199023255552 :
      Int)) ∧ ((0 : Int) ≤ y_2.n (100004 : Nat) ∧ y_2.n (100004 : Nat) ≤ (2047 : Int)) ∧ ((0 : Int) ≤ y_2.n (100005 : Nat) ∧ y_2.n (100005 : Nat) ≤ (63 : Int)) ∧ ((0 : Int) ≤
      y_2.n (100006 : Nat) ∧ y_2.n (100006 : Nat) ≤ (16777216 : Int)) ∧ ((0 : Int) ≤ y_2.n (100007 : Nat) ∧ y_2.n (100007 : Nat) ≤ (3 : Int)) ∧ ((0 : Int) ≤ y_2.n (100008 : Nat)
      ∧ y_2.n (100008 : Nat) ≤ (15 : Int)) ∧ ((0 : Int) ≤ y_2.n (100011 : Nat) ∧ y_2.n (100011 : Nat) ≤ (15 : Int)) ∧ ((0 : Int) ≤ y_2.n (100016 : Nat) ∧ y_2.n (100016 : Nat) ≤
      (2047 : Int)) ∧ ((0 : Int) ≤ y_2.n (100017 : Nat) ∧ y_2.n (100017 : Nat) ≤ (63 : Int)) ∧ ((0 : Int) ≤ y_2.n (100018 : Nat) ∧ y_2.n (100018 : Nat) ≤ (16777216 : Int)) ∧ ((0
      : Int) ≤ y_2.n (100019 : Nat) ∧ y_2.n (100019 : Nat) ≤ (3 : Int)) ∧ ((0 : Int) ≤ y_2.n (100020 : Nat) ∧ y_2.n (100020 : Nat) ≤ (15 : Int)) ∧ ((0 : Int) ≤ y_2.n (100023 :
      Nat) ∧ y_2.n (100023 : Nat) ≤ (15 : Int)) ∧ ((0 : Int) ≤ y_2.n (100028 : Nat) ∧ y_2.n (100028 : Nat) ≤ (2047 : Int)) ∧ ((0 : Int) ≤ y_2.n (100029 : Nat) ∧ y_2.n (100029 :
      Nat) ≤ (63 : Int)) ∧ ((0 : Int) ≤ y_2.n (100030 : Nat) ∧ y_2.n (100030 : Nat) ≤ (16777216 : Int)) ∧ ((0 : Int) ≤ y_2.n (100031 : Nat) ∧ y_2.n (100031 : Nat) ≤ (3 : Int)) ∧
      ((0 : Int) ≤ y_2.n (100032 : Nat) ∧ y_2.n (100032 : Nat) ≤ (15 : Int)) ∧ ((0 : Int) ≤ y_2.n (100035 : Nat) ∧ y_2.n (100035 : Nat) ≤ (15 : Int)) ∧ ((0 : Int) ≤ y_2.n
      (100040 : Nat) ∧ y_2.n (100040 : Nat) ≤ (2047 : Int)) ∧ ((0 : Int) ≤ y_2.n (100041 : Nat) ∧ y_2.n (100041 : Nat) ≤ (63 : Int)) ∧ ((0 : Int) ≤ y_2.n (100042 : Nat) ∧ y_2.n
      (100042 : Nat) ≤ (16777216 : Int)) ∧ ((0 : Int) ≤ y_2.n (100043 : Nat) ∧ y_2.n (100043 : Nat) ≤ (3 : Int)) ∧ ((0 : Int) ≤ y_2.n (100044 : Nat) ∧ y_2.n (100044 : Nat) ≤ (15
      : Int)) ∧ ((0 : Int) ≤ y_2.n (100047 : Nat) ∧ y_2.n (100047 : Nat) ≤ (15 : Int)) ∧ ((0 : Int) ≤ y_2.n (100050 : Nat) ∧ y_2.n (100050 : Nat) ≤ (7 : Int)) ∧ ((0 : Int) ≤
      y_2.n (100086 : Nat) ∧ y_2.n (100086 : Nat) ≤ (1 : Int)) ∧ ((0 : Int) ≤ y_2.n (100088 : Nat) ∧ y_2.n (100088 : Nat) ≤ (4 : Int)) ∧ ((0 : Int) ≤ y_2.n (100092 : Nat) ∧
      y_2.n (100092 : Nat) ≤ (15 : Int)) ∧ ((0 : Int) ≤ y_2.n (100093 : Nat) ∧ y_2.n (100093 : Nat) ≤ (7 : Int)) ∧ True) ∧ S = S) ∧ (y.n (91001 : Nat) = k ∧ (if IntKind.i64.wrap
      (IntKind.i64.wrap (IntKind.i64.wrap ((y.n (100000 : Nat)).tdiv (32768 : Int)) + (1 : Int)) * (32768 : Int)) < y.n (91001 : Nat) then IntKind.i64.wrap (IntKind.i64.wrap
      (IntKind.i64.wrap ((y.n (100000 : Nat)).tdiv (32768 : Int)) + (1 : Int)) * (32768 : Int)) else y.n (91001 : Nat)) ≤ k ∧ RI k (KS.mk (z.n (100000 : Nat)) (z.n (100002 :
      Nat)) (z.n (100014 : Nat)) (z.n (100008 : Nat)) (z.n (100020 : Nat)) (z.n (100051 : Nat)) (z.b (100001 : Nat)) (z.b (100013 : Nat)) (z.b (100025 : Nat)) (z.b (100037 :
      Nat)) (z.b (100003 : Nat)) (z.b (100015 : Nat))) (KS.mk (if IntKind.i64.wrap (IntKind.i64.wrap (IntKind.i64.wrap ((y.n (100000 : Nat)).tdiv (32768 : Int)) + (1 : Int)) *
      (32768 : Int)) < y.n (91001 : Nat) then IntKind.i64.wrap (IntKind.i64.wrap (IntKind.i64.wrap ((y.n (100000 : Nat)).tdiv (32768 : Int)) + (1 : Int)) * (32768 : Int)) else
      y.n (91001 : Nat)) (y_2.n (100002 : Nat)) (y_2.n (100014 : Nat)) (y_2.n (100008 : Nat)) (y_2.n (100020 : Nat)) (y_2.n (100051 : Nat)) (y_2.b (100001 : Nat)) (y_2.b (100013
      : Nat)) (y_2.b (100025 : Nat)) (y_2.b (100037 : Nat)) (y_2.b (100003 : Nat)) (y_2.b (100015 : Nat)))) ∧ (k - if IntKind.i64.wrap (IntKind.i64.wrap (IntKind.i64.wrap ((y.n
      (100000 : Nat)).tdiv (32768 : Int)) + (1 : Int)) * (32768 : Int)) < y.n (91001 : Nat) then IntKind.i64.wrap (IntKind.i64.wrap (IntKind.i64.wrap ((y.n (100000 : Nat)).tdiv
      (32768 : Int)) + (1 : Int)) * (32768 : Int)) else y.n (91001 : Nat)).toNat < (k - y.n (100000 : Nat)).toNat ∧ True)) ∧ ((y_1.n (90000 : Nat) != (0 : Int)) = false → ((M =
      M ∧ (50 : Nat) = (50 : Nat) ∧ (((0 : Int) ≤ y.n (91001 : Nat) ∧ y.n (91001 : Nat) ≤ (2199023255552 : Int)) ∧ ((0 : Int) ≤ y.n (100004 : Nat) ∧ y.n (100004 : Nat) ≤ (2047 :
      Int)) ∧ ((0 : Int) ≤ y.n (100005 : Nat) ∧ y.n (100005 : Nat) ≤ (63 : Int)) ∧ ((0 : Int) ≤ y.n (100006 : Nat) ∧ y.n (100006 : Nat) ≤ (16777216 : Int)) ∧ ((0 : Int) ≤ y.n
      (100007 : Nat) ∧ y.n (100007 : Nat) ≤ (3 : Int)) ∧ ((0 : Int) ≤ y.n (100008 : Nat) ∧ y.n (100008 : Nat) ≤ (15 : Int)) ∧ ((0 : Int) ≤ y.n (100011 : Nat) ∧ y.n (100011 :
      Nat) ≤ (15 : Int)) ∧ ((0 : Int) ≤ y.n (100016 : Nat) ∧ y.n (100016 : Nat) ≤ (2047 : Int)) ∧ ((0 : Int) ≤ y.n (100017 : Nat) ∧ y.n (100017 : Nat) ≤ (63 : Int)) ∧ ((0 : Int)
      ≤ y.n (100018 : Nat) ∧ y.n (100018 : Nat) ≤ (16777216 : Int)) ∧ ((0 : Int) ≤ y.n (100019 : Nat) ∧ y.n (100019 : Nat) ≤ (3 : Int)) ∧ ((0 : Int) ≤ y.n (100020 : Nat) ∧ y.n
      (100020 : Nat) ≤ (15 : Int)) ∧ ((0 : Int) ≤ y.n (100023 : Nat) ∧ y.n (100023 : Nat) ≤ (15 : Int)) ∧ ((0 : Int) ≤ y.n (100028 : Nat) ∧ y.n (100028 : Nat) ≤ (2047 : Int)) ∧
      ((0 : Int) ≤ y.n (100029 : Nat) ∧ y.n (100029 : Nat) ≤ (63 : Int)) ∧ ((0 : Int) ≤ y.n (100030 : Nat) ∧ y.n (100030 : Nat) ≤ (16777216 : Int)) ∧ ((0 : Int) ≤ y.n (100031 :
      Nat) ∧ y.n (100031 : Nat) ≤ (3 : Int)) ∧ ((0 : Int) ≤ y.n (100032 : Nat) ∧ y.n (100032 : Nat) ≤ (15 : Int)) ∧ ((0 : Int) ≤ y.n (100035 : Nat) ∧ y.n (100035 : Nat) ≤ (15 :
      Int)) ∧ ((0 : Int) ≤ y.n (100040 : Nat) ∧ y.n (100040 : Nat) ≤ (2047 : Int)) ∧ ((0 : Int) ≤ y.n (100041 : Nat) ∧ y.n (100041 : Nat) ≤ (63 : Int)) ∧ ((0 : Int) ≤ y.n
      (100042 : Nat) ∧ y.n (100042 : Nat) ≤ (16777216 : Int)) ∧ ((0 : Int) ≤ y.n (100043 : Nat) ∧ y.n (100043 : Nat) ≤ (3 : Int)) ∧ ((0 : Int) ≤ y.n (100044 : Nat) ∧ y.n (100044
      : Nat) ≤ (15 : Int)) ∧ ((0 : Int) ≤ y.n (100047 : Nat) ∧ y.n (100047 : Nat) ≤ (15 : Int)) ∧ ((0 : Int) ≤ y.n (100050 : Nat) ∧ y.n (100050 : Nat) ≤ (7 : Int)) ∧ ((0 : Int)
      ≤ y.n (100086 : Nat) ∧ y.n (100086 : Nat) ≤ (1 : Int)) ∧ ((0 : Int) ≤ y.n (100088 : Nat) ∧ y.n (100088 : Nat) ≤ (4 : Int)) ∧ ((0 : Int) ≤ y.n (100092 : Nat) ∧ y.n (100092
      : Nat) ≤ (15 : Int)) ∧ ((0 : Int) ≤ y.n (100093 : Nat) ∧ y.n (100093 : Nat) ≤ (7 : Int)) ∧ True) ∧ S = S) ∧ (-9223372036854775808 : Int) ≤ y.n (91004 : Nat) ∧ y.n (91004 :
      Nat) ≤ (9223372036854775807 : Int)) ∧ ∀ (y_2 : PX), ((RG y_2) ∧ True) ∧ True ∧ KS.mk (y_2.n (100000 : Nat)) (y_2.n (100002 : Nat)) (y_2.n (100014 : Nat)) (y_2.n (100008 :
      Nat)) (y_2.n (100020 : Nat)) (y_2.n (100051 : Nat)) (y_2.b (100001 : Nat)) (y_2.b (100013 : Nat)) (y_2.b (100025 : Nat)) (y_2.b (100037 : Nat)) (y_2.b (100003 : Nat))
      (y_2.b (100015 : Nat)) = KS.mk (y.n (91001 : Nat)) (y.n (100002 : Nat)) (y.n (100014 : Nat)) (y.n (100008 : Nat)) (y.n (100020 : Nat)) (y.n (100051 : Nat)) (y.b (100001 :
      Nat)) (y.b (100013 : Nat)) (y.b (100025 : Nat)) (y.b (100037 : Nat)) (y.b (100003 : Nat)) (y.b (100015 : Nat)) → True ∧ (M = M ∧ (50 : Nat) = (50 : Nat) ∧ (RG y_2) ∧ S =
      S) ∧ RQ k (KS.mk (z.n (100000 : Nat)) (z.n (100002 : Nat)) (z.n (100014 : Nat)) (z.n (100008 : Nat)) (z.n (100020 : Nat)) (z.n (100051 : Nat)) (z.b (100001 : Nat)) (z.b
      (100013 : Nat)) (z.b (100025 : Nat)) (z.b (100037 : Nat)) (z.b (100003 : Nat)) (z.b (100015 : Nat))) (KS.mk (y_2.n (100000 : Nat)) (y_2.n (100002 : Nat)) (y_2.n (100014 :
      Nat)) (y_2.n (100008 : Nat)) (y_2.n (100020 : Nat)) (y_2.n (100051 : Nat)) (y_2.b (100001 : Nat)) (y_2.b (100013 : Nat)) (y_2.b (100025 : Nat)) (y_2.b (100037 : Nat))
      (y_2.b (100003 : Nat)) (y_2.b (100015 : Nat))))) ∧ (decide (y.n (100000 : Nat) < y.n (91001 : Nat)) = false → ((M = M ∧ (50 : Nat) = (50 : Nat) ∧ (((0 : Int) ≤ y.n (91001
      : Nat) ∧ y.n (91001 : Nat) ≤ (2199023255552 : Int)) ∧ ((0 : Int) ≤ y.n (100004 : Nat) ∧ y.n (100004 : Nat) ≤ (2047 : Int)) ∧ ((0 : Int) ≤ y.n (100005 : Nat) ∧ y.n (100005
      : Nat) ≤ (63 : Int)) ∧ ((0 : Int) ≤ y.n (100006 : Nat) ∧ y.n (100006 : Nat) ≤ (16777216 : Int)) ∧ ((0 : Int) ≤ y.n (100007 : Nat) ∧ y.n (100007 : Nat) ≤ (3 : Int)) ∧ ((0 :
      Int) ≤ y.n (100008 : Nat) ∧ y.n (100008 : Nat) ≤ (15 : Int)) ∧ ((0 : Int) ≤ y.n (100011 : Nat) ∧ y.n (100011 : Nat) ≤ (15 : Int)) ∧ ((0 : Int) ≤ y.n (100016 : Nat) ∧ y.n
      (100016 : Nat) ≤ (2047 : Int)) ∧ ((0 : Int) ≤ y.n (100017 : Nat) ∧ y.n (100017 : Nat) ≤ (63 : Int)) ∧ ((0 : Int) ≤ y.n (100018 : Nat) ∧ y.n (100018 : Nat) ≤ (16777216 :
      Int)) ∧ ((0 : Int) ≤ y.n (100019 : Nat) ∧ y.n (100019 : Nat) ≤ (3 : Int)) ∧ ((0 : Int) ≤ y.n (100020 : Nat) ∧ y.n (100020 : Nat) ≤ (15 : Int)) ∧ ((0 : Int) ≤ y.n (100023 :
      Nat) ∧ y.n (100023 : Nat) ≤ (15 : Int)) ∧ ((0 : Int) ≤ y.n (100028 : Nat) ∧ y.n (100028 : Nat) ≤ (2047 : Int)) ∧ ((0 : Int) ≤ y.n (100029 : Nat) ∧ y.n (100029 : Nat) ≤ (63
      : Int)) ∧ ((0 : Int) ≤ y.n (100030 : Nat) ∧ y.n (100030 : Nat) ≤ (16777216 : Int)) ∧ ((0 : Int) ≤ y.n (100031 : Nat) ∧ y.n (100031 : Nat) ≤ (3 : Int)) ∧ ((0 : Int) ≤ y.n
      (100032 : Nat) ∧ y.n (100032 : Nat) ≤ (15 : Int)) ∧ ((0 : Int) ≤ y.n (100035 : Nat) ∧ y.n (100035 : Nat) ≤ (15 : Int)) ∧ ((0 : Int) ≤ y.n (100040 : Nat) ∧ y.n (100040 :
      Nat) ≤ (2047 : Int)) ∧ ((0 : Int) ≤ y.n (100041 : Nat) ∧ y.n (100041 : Nat) ≤ (63 : Int)) ∧ ((0 : Int) ≤ y.n (100042 : Nat) ∧ y.n (100042 : Nat) ≤ (16777216 : Int)) ∧ ((0
      : Int) ≤ y.n (100043 : Nat) ∧ y.n (100043 : Nat) ≤ (3 : Int)) ∧ ((0 : Int) ≤ y.n (100044 : Nat) ∧ y.n (100044 : Nat) ≤ (15 : Int)) ∧ ((0 : Int) ≤ y.n (100047 : Nat) ∧ y.n
      (100047 : Nat) ≤ (15 : Int)) ∧ ((0 : Int) ≤ y.n (100050 : Nat) ∧ y.n (100050 : Nat) ≤ (7 : Int)) ∧ ((0 : Int) ≤ y.n (100086 : Nat) ∧ y.n (100086 : Nat) ≤ (1 : Int)) ∧ ((0
      : Int) ≤ y.n (100088 : Nat) ∧ y.n (100088 : Nat) ≤ (4 : Int)) ∧ ((0 : Int) ≤ y.n (100092 : Nat) ∧ y.n (100092 : Nat) ≤ (15 : Int)) ∧ ((0 : Int) ≤ y.n (100093 : Nat) ∧ y.n
      (100093 : Nat) ≤ (7 : Int)) ∧ True) ∧ S = S) ∧ (-9223372036854775808 : Int) ≤ y.n (91004 : Nat) ∧ y.n (91004 : Nat) ≤ (9223372036854775807 : Int)) ∧ ∀ (y_1 : PX), ((RG
      y_1) ∧ True) ∧ True ∧ KS.mk (y_1.n (100000 : Nat)) (y_1.n (100002 : Nat)) (y_1.n (100014 : Nat)) (y_1.n (100008 : Nat)) (y_1.n (100020 : Nat)) (y_1.n (100051 : Nat))
      (y_1.b (100001 : Nat)) (y_1.b (100013 : Nat)) (y_1.b (100025 : Nat)) (y_1.b (100037 : Nat)) (y_1.b (100003 : Nat)) (y_1.b (100015 : Nat)) = KS.mk (y.n (91001 : Nat)) (y.n
      (100002 : Nat)) (y.n (100014 : Nat)) (y.n (100008 : Nat)) (y.n (100020 : Nat)) (y.n (100051 : Nat)) (y.b (100001 : Nat)) (y.b (100013 : Nat)) (y.b (100025 : Nat)) (y.b
      (100037 : Nat)) (y.b (100003 : Nat)) (y.b (100015 : Nat)) → True ∧ (M = M ∧ (50 : Nat) = (50 : Nat) ∧ (RG y_1) ∧ S = S) ∧ RQ k (KS.mk (z.n (100000 : Nat)) (z.n (100002 :
      Nat)) (z.n (100014 : Nat)) (z.n (100008 : Nat)) (z.n (100020 : Nat)) (z.n (100051 : Nat)) (z.b (100001 : Nat)) (z.b (100013 : Nat)) (z.b (100025 : Nat)) (z.b (100037 :
      Nat)) (z.b (100003 : Nat)) (z.b (100015 : Nat))) (KS.mk (y_1.n (100000 : Nat)) (y_1.n (100002 : Nat)) (y_1.n (100014 : Nat)) (y_1.n (100008 : Nat)) (y_1.n (100020 : Nat))
      (y_1.n (100051 : Nat)) (y_1.b (100001 : Nat)) (y_1.b (100013 : Nat)) (y_1.b (100025 : Nat)) (y_1.b (100037 : Nat)) (y_1.b (100003 : Nat)) (y_1.b (100015 : Nat))))) := by kernel_rfl
set_option maxHeartbeats 8000000 in
theorem run_c (E : World) (M : Bl) (S : SW) (k : Int) (z : PX) (hz : rgM z (uM M) 0) (hp : (fun z => RP k (KS.mk (z.n 100000) (z.n 100002) (z.n 100014) (z.n 100008) (z.n 100020) (z.n 100051) (z.b 100001) (z.b 100013) (z.b 100025) (z.b 100037) (z.b 100003) (z.b 100015))) z) : HC (pe E) 12 [.c (.p 1 0), .c (.i false .i64 k)] (uM M) S (.t []) (fun z y => RQ k (KS.mk (z.n 100000) (z.n 100002) (z.n 100014) (z.n 100008) (z.n 100020) (z.n 100051) (z.b 100001) (z.b 100013) (z.b 100025) (z.b 100037) (z.b 100003) (z.b 100015)) (KS.mk (y.n 100000) (y.n 100002) (y.n 100014) (y.n 100008) (y.n 100020) (y.n 100051) (y.b 100001) (y.b 100013) (y.b 100025) (y.b 100037) (y.b 100003) (y.b 100015))) z := by
  refine HC.loop (P := pe E) orcR_ok tab_ok tab_sz mixed Try.func12 (c := Try.f12.body.getD .skip) rfl (by decide) (Nat.le_of_ble_eq_true rfl) false (by rfl) (by rfl) (by rfl) (by rfl) 20000 (2 ^ 200 - 1) (run_hs E M S z k) (by rfl) ?_ (loopP_lfH ⟨?_⟩) ?_
  · intro h hmem
    simp only [run_hs, List.mem_cons, List.not_mem_nil, or_false] at hmem
    rcases hmem with hmem
    all_goals (subst hmem; exact ⟨by rfl, Nat.le_of_ble_eq_true rfl, fun y hk => okSW_M (by rfl) hk⟩)
  · rw [run_pro]
    obtain ⟨h0, h4, h5, h6, h7, h8, h11, h16, h17, h18, h19, h20, h23, h28, h29, h30, h31, h32, h35, h40, h41, h42, h43, h44, h47, h50, h86, h88, h92, h93, _⟩ := rg_u hz
    obtain ⟨k0, hPP⟩ := id hp
    have hR : RG z := rg_u hz
    refine ⟨fun h => ?_, fun h => ?_⟩
    · have hq : RQ k (KS.mk (z.n 100000) (z.n 100002) (z.n 100014) (z.n 100008) (z.n 100020) (z.n 100051) (z.b 100001) (z.b 100013) (z.b 100025) (z.b 100037) (z.b 100003) (z.b 100015)) (KS.mk (z.n 100000) (z.n 100002) (z.n 100014) (z.n 100008) (z.n 100020) (z.n 100051) (z.b 100001) (z.b 100013) (z.b 100025) (z.b 100037) (z.b 100003) (z.b 100015)) := ⟨RI.refl, fun h2 => by
        replace h2 : z.n 100000 ≤ k := h2
        show z.n 100000 = k
        by_cases c : k ≤ z.n 100000
        · omega
        · rw [decide_eq_false c, cond_false] at h; have := of_decide_eq_true h; omega⟩
      ((repeat' (first | exact trivial | exact rfl | assumption | exact RI.refl | apply And.intro)) <;> omega)
    · have c : z.n 100000 < k := by
        by_cases c : k ≤ z.n 100000
        · rw [decide_eq_true c, cond_true] at h; cases h
        · omega
      ((repeat' (first | exact trivial | exact rfl | assumption | exact RI.refl | apply And.intro)) <;> omega)
  · intro h hmem y hy1 hy2 hy3
    simp only [run_hs, List.mem_cons, List.not_mem_nil, or_false] at hmem
    rcases hmem with hmem
    · have e1 : h.td = (run_td E) := by rw [hmem]
      have e2 : h.fs = [(0, .c (.p 1 0)), (1, .r .i64 (0) (2199023255552)), (4, .r .i64 (-9223372036854775808) (9223372036854775807))] := by rw [hmem]
      have e3 : h.ms = (uM M) := by rw [hmem]
      have e4 : h.mu = (fun y => (k - y.n 100000).toNat) := by rw [hmem]
      have e5 : h.H = (fun y => y.n 91001 = k ∧ y.n 100000 ≤ k ∧ RI k (KS.mk (z.n 100000) (z.n 100002) (z.n 100014) (z.n 100008) (z.n 100020) (z.n 100051) (z.b 100001) (z.b 100013) (z.b 100025) (z.b 100037) (z.b 100003) (z.b 100015)) (KS.mk (y.n 100000) (y.n 100002) (y.n 100014) (y.n 100008) (y.n 100020) (y.n 100051) (y.b 100001) (y.b 100013) (y.b 100025) (y.b 100037) (y.b 100003) (y.b 100015))) := by rw [hmem]
      rw [e3] at hy1
      rw [e2] at hy2
      rw [e5] at hy3
      rw [e1, e2, e3, e4]
      refine loopP_lfH ⟨?_⟩
      rw [run_r0]
      clear e1 e2 e3 e4 e5 hmem
      have hf : True ∧ (((0) ≤ y.n 91001 ∧ y.n 91001 ≤ (2199023255552)) ∧ True) ∧ (((-9223372036854775808) ≤ y.n 91004 ∧ y.n 91004 ≤ (9223372036854775807)) ∧ True) ∧ True := hy2
      obtain ⟨_, ⟨g1, _⟩, ⟨g4, _⟩, _⟩ := hf
      obtain ⟨h0, h4, h5, h6, h7, h8, h11, h16, h17, h18, h19, h20, h23, h28, h29, h30, h31, h32, h35, h40, h41, h42, h43, h44, h47, h50, h86, h88, h92, h93, _⟩ := rg_u hy1
      obtain ⟨e1, e2, hI⟩ := hy3
      have hR : RG y := rg_u hy1
      have hW : IntKind.i64.wrap (IntKind.i64.wrap (IntKind.i64.wrap ((y.n 100000).tdiv 32768) + 1) * 32768) = (y.n 100000 / 32768 + 1) * 32768 := by rw [Int.tdiv_eq_ediv_of_nonneg h0.1, wi64, wi64, wi64]; omega
      rw [hW]
      obtain ⟨To, hT, t1, t2, t3, t4⟩ : ∃ To, (if (y.n 100000 / 32768 + 1) * 32768 < y.n 91001 then (y.n 100000 / 32768 + 1) * 32768 else y.n 91001) = To ∧ (y.n 100000 < y.n 91001 → y.n 100000 < To) ∧ To ≤ y.n 91001 ∧ (y.n 100000 < y.n 91001 → To - y.n 100000 ≤ 32768) ∧ To ≤ (y.n 100000 / 32768 + 1) * 32768 := by refine ⟨_, rfl, ?_⟩; split <;> omega
      rw [hT]
      clear hT hW
      refine ⟨fun hlt => ⟨by ((repeat' (first | exact trivial | exact rfl | assumption | exact RI.refl | apply And.intro)) <;> omega), ?_⟩, fun hge => ⟨by ((repeat' (first | exact trivial | exact rfl | assumption | exact RI.refl | apply And.intro)) <;> omega), ?_⟩⟩
      · replace hlt := of_decide_eq_true hlt
        have t1 := t1 hlt
        have t3 := t3 hlt
        have tz : 0 ≤ To := by omega
        have hm32 : To.tmod 32768 = To % 32768 := Int.tmod_eq_emod_of_nonneg (by omega)
        have hd32 : IntKind.i64.wrap (To.tdiv 32768) = To / 32768 := by rw [Int.tdiv_eq_ediv_of_nonneg (by omega), wi64]; omega
        have hw2 : IntKind.i64.wrap (To - y.n 100000) = To - y.n 100000 := by rw [wi64]; omega
        rw [hm32, hd32, hw2]
        have hst := hI.step hp (n := To) t1 t4 (by omega)
        rintro y1 ⟨_, hp1⟩
        refine ⟨fun hne => ⟨by ((repeat' (first | exact trivial | exact rfl | assumption | exact RI.refl | apply And.intro)) <;> omega), ?_⟩, fun hz0 => ?_⟩
        · rintro y2 ⟨⟨hR2, _⟩, _, hq⟩
          have hm : mv (KS.mk (y2.n 100000) (y2.n 100002) (y2.n 100014) (y2.n 100008) (y2.n 100020) (y2.n 100051) (y2.b 100001) (y2.b 100013) (y2.b 100025) (y2.b 100037) (y2.b 100003) (y2.b 100015)) To = mv (KS.mk (y.n 100000) (y.n 100002) (y.n 100014) (y.n 100008) (y.n 100020) (y.n 100051) (y.b 100001) (y.b 100013) (y.b 100025) (y.b 100037) (y.b 100003) (y.b 100015)) To := congrArg (fun s => mv s To) hq
          replace hm : (KS.mk To (y2.n 100002) (y2.n 100014) (y2.n 100008) (y2.n 100020) (y2.n 100051) (y2.b 100001) (y2.b 100013) (y2.b 100025) (y2.b 100037) (y2.b 100003) (y2.b 100015)) = mv (KS.mk (y.n 100000) (y.n 100002) (y.n 100014) (y.n 100008) (y.n 100020) (y.n 100051) (y.b 100001) (y.b 100013) (y.b 100025) (y.b 100037) (y.b 100003) (y.b 100015)) To := hm
          rw [hm]
          have hw3 : -9223372036854775808 ≤ IntKind.i64.wrap (y.n 91004 + y2.n 90000) ∧ IntKind.i64.wrap (y.n 91004 + y2.n 90000) ≤ 9223372036854775807 := by rw [wi64]; omega
          obtain ⟨hw3, hw4⟩ := hw3
          have hqu : quiet (mv (KS.mk (y.n 100000) (y.n 100002) (y.n 100014) (y.n 100008) (y.n 100020) (y.n 100051) (y.b 100001) (y.b 100013) (y.b 100025) (y.b 100037) (y.b 100003) (y.b 100015)) To) := hI.quiet hp
          clear h0 h4 h5 h6 h7 h8 h11 h16 h17 h18 h19 h20 h23 h28 h29 h30 h31 h32 h35 h40 h41 h42 h43 h44 h47 h50 h86 h88 h92 h93
          obtain ⟨h0, h4, h5, h6, h7, h8, h11, h16, h17, h18, h19, h20, h23, h28, h29, h30, h31, h32, h35, h40, h41, h42, h43, h44, h47, h50, h86, h88, h92, h93, _⟩ := id hR2
          refine ⟨fun h0 => ⟨by ((repeat' (first | exact trivial | exact rfl | assumption | exact RI.refl | apply And.intro)) <;> omega), ?_⟩, fun h0 => ?_⟩
          · rintro y3 ⟨⟨hR3, _⟩, _, hq3⟩
            have hn : y3.n 100000 = To := (congrArg KS.now hq3).trans (bt_now _ _)
            have hI2 := hst.1 (by simpa using h0)
            rw [← hq3] at hI2
            ((repeat' (first | exact trivial | exact rfl | assumption | exact RI.refl | apply And.intro)) <;> omega)
          · have hI2 := hst.2 (by simpa using h0)
            ((repeat' (first | exact trivial | exact rfl | assumption | exact RI.refl | apply And.intro)) <;> omega)
        · exfalso
          rw [hp1, on_pos (hI.on hp (by show y.n 100000 < k; omega))] at hz0
          cases hz0
      · replace hge := of_decide_eq_false hge
        rintro y1 ⟨⟨hR1, _⟩, _, hq⟩
        rw [show y.n 91001 = y.n 100000 by omega] at hq
        rw [hq]
        have hQ : RQ k (KS.mk (z.n 100000) (z.n 100002) (z.n 100014) (z.n 100008) (z.n 100020) (z.n 100051) (z.b 100001) (z.b 100013) (z.b 100025) (z.b 100037) (z.b 100003) (z.b 100015)) (KS.mk (y.n 100000) (y.n 100002) (y.n 100014) (y.n 100008) (y.n 100020) (y.n 100051) (y.b 100001) (y.b 100013) (y.b 100025) (y.b 100037) (y.b 100003) (y.b 100015)) := ⟨hI, fun _ => by show y.n 100000 = k; omega⟩
        ((repeat' (first | exact trivial | exact rfl | assumption | exact RI.refl | apply And.intro)) <;> omega)
end Go.Proofs.Ytcegofobcjimlaa

