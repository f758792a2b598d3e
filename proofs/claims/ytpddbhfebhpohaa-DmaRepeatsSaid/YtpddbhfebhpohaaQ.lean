import Derived.Test.YtpddbhfebhpohaaM0
import Derived.Test.YtpddbhfebhpohaaM1
import Derived.Test.YtpddbhfebhpohaaM2
import Derived.Test.YtpddbhfebhpohaaM3
import Derived.Test.YtpddbhfebhpohaaP
set_option linter.unusedVariables false
set_option linter.unusedSimpArgs false
namespace Go.Proofs.Ytpddbhfebhpohaa
open Go Go.Proofs Go.Proofs.Ytpddbhfebhpohaa.Ev Go.Proofs.Ytpddbhfebhpohaa.Ev.Ho
set_option maxRecDepth 100000
set_option maxHeartbeats 8000000 in
theorem rep_c (E : World) (n times how : Int) (z : PX) (hz : rgM z [] 0) (hp : (fun _ => True) z) : HD (pe E) 7 [.c (.i false .i64 n), .c (.i false .i64 times), .c (.i false .i64 how)] [] [] (.c .b) (fun _ y => y.b 90000 = true) z := by
  refine HD.loop (P := pe E) orcA_ok tab_ok tab_sz mixed Try.func7 (c := Try.f7.body.getD .skip) rfl (by decide) (Nat.le_of_ble_eq_true rfl) (by rfl) 20000 (2 ^ 200 - 1) (rep_hs E n times how z) (by rfl) (loopP_lfH ⟨?_⟩) ?_
  · exact pro_t E n times how z
  · intro h hmem y hy1 hy2 hy3
    simp only [rep_hs, List.mem_cons, List.not_mem_nil, or_false] at hmem
    rcases hmem with hmem | hmem | hmem | hmem | hmem | hmem | hmem | hmem | hmem | hmem | hmem | hmem | hmem | hmem | hmem | hmem | hmem | hmem | hmem | hmem | hmem | hmem | hmem
    · have e1 : h.td = (td3 E) := by rw [hmem]; unfold rep_h0; with_reducible rfl
      have e2 : h.fs = [(0, .r .i64 (1) (20)), (121, .w 0 6), (122, .i .i64), (123, .r .i64 (0) (120))] := by rw [hmem]; unfold rep_h0; with_reducible rfl
      have e3 : h.ms = [pR] := by rw [hmem]; unfold rep_h0; with_reducible rfl
      have e4 : h.mu = (fun y => (130 - y.n 91123).toNat) := by rw [hmem]; unfold rep_h0; with_reducible rfl
      have e5 : h.H = (fun y => y.n 91122 = y.n 91121 ∧ y.n 91123 ≤ y.n 91121 ∧ y.n 91121 ≤ 120 ∧ PLD (y.n 91000) (y.n 91121).toNat (y.l 0)) := by rw [hmem]; unfold rep_h0; with_reducible rfl
      rw [e3] at hy1
      rw [e2] at hy2
      rw [e5] at hy3
      rw [e1, e2, e3, e4]
      exact rep_q0 E n times how z hp y hy1 hy2 hy3
    · have e1 : h.td = (td1 E) := by rw [hmem]; unfold rep_h1; with_reducible rfl
      have e2 : h.fs = [(0, .r .i64 (1) (20)), (1, .r .i64 (1) (5)), (7, .c (.b true true)), (8, .c (.i true .i64 1)), (9, .c (.p 0 0)), (10, .c (.p 1 0)), (60, .i .i64), (61, .r .i64 (0) (5))] := by rw [hmem]; unfold rep_h1; with_reducible rfl
      have e3 : h.ms = [uM 37472 false true, tN] := by rw [hmem]; unfold rep_h1; with_reducible rfl
      have e4 : h.mu = (fun y => (100 * (6 - y.n 91061) + 60).toNat) := by rw [hmem]; unfold rep_h1; with_reducible rfl
      have e5 : h.H = (fun y => y.n 91061 = 0 ∧ y.n 91060 = y.n 91001 ∧ y.n 36 = y.n 91000 ∧ y.n 38 = 33554432 ∧ y.n 39 = 50331648 ∧ y.n 40 = y.n 91000) := by rw [hmem]; unfold rep_h1; with_reducible rfl
      rw [e3] at hy1
      rw [e2] at hy2
      rw [e5] at hy3
      rw [e1, e2, e3, e4]
      exact rep_q1 E n times how z hp y hy1 hy2 hy3
    · have e1 : h.td = (td2 E) := by rw [hmem]; unfold rep_h2; with_reducible rfl
      have e2 : h.fs = [(0, .r .i64 (1) (20)), (1, .r .i64 (1) (5)), (7, .c (.b true true)), (8, .c (.i true .i64 1)), (9, .c (.p 0 0)), (10, .c (.p 1 0)), (60, .i .i64), (61, .r .i64 (0) (5)), (13, .r .i64 (0) (20))] := by rw [hmem]; unfold rep_h2; with_reducible rfl
      have e3 : h.ms = [uM 37472 true true, tN] := by rw [hmem]; unfold rep_h2; with_reducible rfl
      have e4 : h.mu = (fun y => (100 * (6 - y.n 91061) + 30 - y.n 91013).toNat) := by rw [hmem]; unfold rep_h2; with_reducible rfl
      have e5 : h.H = (fun y => y.n 91061 = 0 ∧ y.n 91061 < y.n 91060 ∧ y.n 91013 = 0 ∧ y.n 91060 = y.n 91001 ∧ y.n 36 = y.n 91000 ∧ y.n 38 = 33554432 ∧ y.n 39 = 50331648 ∧ y.n 40 = y.n 91000) := by rw [hmem]; unfold rep_h2; with_reducible rfl
      rw [e3] at hy1
      rw [e2] at hy2
      rw [e5] at hy3
      rw [e1, e2, e3, e4]
      exact rep_q2 E n times how z hp y hy1 hy2 hy3
    · have e1 : h.td = (td2 E) := by rw [hmem]; unfold rep_h3; with_reducible rfl
      have e2 : h.fs = [(0, .r .i64 (1) (20)), (1, .r .i64 (1) (5)), (7, .c (.b true true)), (8, .c (.i true .i64 1)), (9, .c (.p 0 0)), (10, .c (.p 1 0)), (60, .i .i64), (61, .r .i64 (0) (5)), (13, .r .i64 (0) (20))] := by rw [hmem]; unfold rep_h3; with_reducible rfl
      have e3 : h.ms = [uM 37472 true false, tW, pR, wR] := by rw [hmem]; unfold rep_h3; with_reducible rfl
      have e4 : h.mu = (fun y => (100 * (6 - y.n 91061) + 30 - y.n 91013).toNat) := by rw [hmem]; unfold rep_h3; with_reducible rfl
      have e5 : h.H = (fun y => (1 ≤ y.n 91013 ∧ y.n 91013 < y.n 91000) ∧ y.n 91061 < y.n 91060 ∧ y.n 91060 = y.n 91001 ∧ y.n 36 = y.n 91000 ∧ y.n 38 = 33554432 + 2 * y.n 100000 ∧ y.n 39 = 50331648 + 2 * y.n 91013 ∧ y.n 40 = y.n 91000 - y.n 91013 ∧ MN (y.n 100000) (y.n 91061) (y.n 91000) (y.n 91013) ∧ PLN (y.n 91000) (y.n 100000).toNat (y.l 2) (y.l 3) (y.n 100000) (y.n 100001)) := by rw [hmem]; unfold rep_h3; with_reducible rfl
      rw [e3] at hy1
      rw [e2] at hy2
      rw [e5] at hy3
      rw [e1, e2, e3, e4]
      exact rep_q3 E n times how z hp y hy1 hy2 hy3
    · have e1 : h.td = (td1 E) := by rw [hmem]; unfold rep_h4; with_reducible rfl
      have e2 : h.fs = [(0, .r .i64 (1) (20)), (1, .r .i64 (1) (5)), (7, .c (.b true true)), (8, .c (.i true .i64 1)), (9, .c (.p 0 0)), (10, .c (.p 1 0)), (60, .i .i64), (61, .r .i64 (0) (5))] := by rw [hmem]; unfold rep_h4; with_reducible rfl
      have e3 : h.ms = [uM 37472 false true, tW, pR, wR] := by rw [hmem]; unfold rep_h4; with_reducible rfl
      have e4 : h.mu = (fun y => (100 * (6 - y.n 91061) + 60).toNat) := by rw [hmem]; unfold rep_h4; with_reducible rfl
      have e5 : h.H = (fun y => y.n 91061 ≤ y.n 91060 ∧ 1 ≤ y.n 91061 ∧ y.n 91060 = y.n 91001 ∧ y.n 36 = y.n 91000 ∧ y.n 38 = 33554432 + 2 * y.n 100000 ∧ y.n 39 = 50331648 + 2 * 0 ∧ y.n 40 = y.n 91000 ∧ MN (y.n 100000) (y.n 91061) (y.n 91000) 0 ∧ PLN (y.n 91000) (y.n 100000).toNat (y.l 2) (y.l 3) (y.n 100000) (y.n 100001)) := by rw [hmem]; unfold rep_h4; with_reducible rfl
      rw [e3] at hy1
      rw [e2] at hy2
      rw [e5] at hy3
      rw [e1, e2, e3, e4]
      exact rep_q4 E n times how z hp y hy1 hy2 hy3
    · have e1 : h.td = (td2 E) := by rw [hmem]; unfold rep_h5; with_reducible rfl
      have e2 : h.fs = [(0, .r .i64 (1) (20)), (1, .r .i64 (1) (5)), (7, .c (.b true true)), (8, .c (.i true .i64 1)), (9, .c (.p 0 0)), (10, .c (.p 1 0)), (60, .i .i64), (61, .r .i64 (0) (5)), (13, .r .i64 (0) (20))] := by rw [hmem]; unfold rep_h5; with_reducible rfl
      have e3 : h.ms = [uM 37472 true true, tW, pR, wR] := by rw [hmem]; unfold rep_h5; with_reducible rfl
      have e4 : h.mu = (fun y => (100 * (6 - y.n 91061) + 30 - y.n 91013).toNat) := by rw [hmem]; unfold rep_h5; with_reducible rfl
      have e5 : h.H = (fun y => y.n 91013 = 0 ∧ 1 ≤ y.n 91061 ∧ y.n 91061 < y.n 91060 ∧ y.n 91060 = y.n 91001 ∧ y.n 36 = y.n 91000 ∧ y.n 38 = 33554432 + 2 * y.n 100000 ∧ y.n 39 = 50331648 + 2 * 0 ∧ y.n 40 = y.n 91000 ∧ MN (y.n 100000) (y.n 91061) (y.n 91000) 0 ∧ PLN (y.n 91000) (y.n 100000).toNat (y.l 2) (y.l 3) (y.n 100000) (y.n 100001)) := by rw [hmem]; unfold rep_h5; with_reducible rfl
      rw [e3] at hy1
      rw [e2] at hy2
      rw [e5] at hy3
      rw [e1, e2, e3, e4]
      exact rep_q5 E n times how z hp y hy1 hy2 hy3
    · have e1 : h.td = (td2 E) := by rw [hmem]; unfold rep_h6; with_reducible rfl
      have e2 : h.fs = [(0, .r .i64 (1) (20)), (1, .r .i64 (1) (5)), (7, .c (.b true true)), (8, .c (.i true .i64 1)), (9, .c (.p 0 0)), (10, .c (.p 1 0)), (60, .i .i64), (61, .r .i64 (0) (5)), (13, .r .i64 (0) (20))] := by rw [hmem]; unfold rep_h6; with_reducible rfl
      have e3 : h.ms = [uM 37472 false true, tW, pR, wR] := by rw [hmem]; unfold rep_h6; with_reducible rfl
      have e4 : h.mu = (fun y => (100 * (6 - y.n 91061)).toNat) := by rw [hmem]; unfold rep_h6; with_reducible rfl
      have e5 : h.H = (fun y => y.n 91013 = y.n 91000 ∧ y.n 91061 < y.n 91060 ∧ y.n 91060 = y.n 91001 ∧ y.n 36 = y.n 91000 ∧ y.n 38 = 33554432 + 2 * y.n 100000 ∧ y.n 39 = 50331648 + 2 * 0 ∧ y.n 40 = y.n 91000 ∧ MN (y.n 100000) (y.n 91061) (y.n 91000) (y.n 91000) ∧ PLN (y.n 91000) (y.n 100000).toNat (y.l 2) (y.l 3) (y.n 100000) (y.n 100001)) := by rw [hmem]; unfold rep_h6; with_reducible rfl
      rw [e3] at hy1
      rw [e2] at hy2
      rw [e5] at hy3
      rw [e1, e2, e3, e4]
      exact rep_q6 E n times how z hp y hy1 hy2 hy3
    · have e1 : h.td = (td1 E) := by rw [hmem]; unfold rep_h7; with_reducible rfl
      have e2 : h.fs = [(0, .r .i64 (1) (20)), (1, .r .i64 (1) (5)), (7, .c (.b true false)), (8, .c (.i true .i64 1)), (9, .c (.p 0 0)), (10, .c (.p 1 0)), (60, .i .i64), (61, .r .i64 (0) (5))] := by rw [hmem]; unfold rep_h7; with_reducible rfl
      have e3 : h.ms = [uM 36960 false true, tN] := by rw [hmem]; unfold rep_h7; with_reducible rfl
      have e4 : h.mu = (fun y => (100 * (6 - y.n 91061) + 60).toNat) := by rw [hmem]; unfold rep_h7; with_reducible rfl
      have e5 : h.H = (fun y => y.n 91061 = 0 ∧ y.n 91060 = y.n 91001 ∧ y.n 36 = y.n 91000 ∧ y.n 38 = 33554432 ∧ y.n 39 = 50331648 ∧ y.n 40 = y.n 91000) := by rw [hmem]; unfold rep_h7; with_reducible rfl
      rw [e3] at hy1
      rw [e2] at hy2
      rw [e5] at hy3
      rw [e1, e2, e3, e4]
      exact rep_q7 E n times how z hp y hy1 hy2 hy3
    · have e1 : h.td = (td2 E) := by rw [hmem]; unfold rep_h8; with_reducible rfl
      have e2 : h.fs = [(0, .r .i64 (1) (20)), (1, .r .i64 (1) (5)), (7, .c (.b true false)), (8, .c (.i true .i64 1)), (9, .c (.p 0 0)), (10, .c (.p 1 0)), (60, .i .i64), (61, .r .i64 (0) (5)), (13, .r .i64 (0) (20))] := by rw [hmem]; unfold rep_h8; with_reducible rfl
      have e3 : h.ms = [uM 36960 true true, tN] := by rw [hmem]; unfold rep_h8; with_reducible rfl
      have e4 : h.mu = (fun y => (100 * (6 - y.n 91061) + 30 - y.n 91013).toNat) := by rw [hmem]; unfold rep_h8; with_reducible rfl
      have e5 : h.H = (fun y => y.n 91061 = 0 ∧ y.n 91061 < y.n 91060 ∧ y.n 91013 = 0 ∧ y.n 91060 = y.n 91001 ∧ y.n 36 = y.n 91000 ∧ y.n 38 = 33554432 ∧ y.n 39 = 50331648 ∧ y.n 40 = y.n 91000) := by rw [hmem]; unfold rep_h8; with_reducible rfl
      rw [e3] at hy1
      rw [e2] at hy2
      rw [e5] at hy3
      rw [e1, e2, e3, e4]
      exact rep_q8 E n times how z hp y hy1 hy2 hy3
    · have e1 : h.td = (td2 E) := by rw [hmem]; unfold rep_h9; with_reducible rfl
      have e2 : h.fs = [(0, .r .i64 (1) (20)), (1, .r .i64 (1) (5)), (7, .c (.b true false)), (8, .c (.i true .i64 1)), (9, .c (.p 0 0)), (10, .c (.p 1 0)), (60, .i .i64), (61, .r .i64 (0) (5)), (13, .r .i64 (0) (20))] := by rw [hmem]; unfold rep_h9; with_reducible rfl
      have e3 : h.ms = [uM 36960 true false, tW, pR, wR] := by rw [hmem]; unfold rep_h9; with_reducible rfl
      have e4 : h.mu = (fun y => (100 * (6 - y.n 91061) + 30 - y.n 91013).toNat) := by rw [hmem]; unfold rep_h9; with_reducible rfl
      have e5 : h.H = (fun y => (1 ≤ y.n 91013 ∧ y.n 91013 < y.n 91000) ∧ y.n 91061 < y.n 91060 ∧ y.n 91061 = 0 ∧ y.n 91060 = y.n 91001 ∧ y.n 36 = y.n 91000 ∧ y.n 38 = 33554432 + 2 * y.n 100000 ∧ y.n 39 = 50331648 + 2 * y.n 91013 ∧ y.n 40 = y.n 91000 - y.n 91013 ∧ MN (y.n 100000) (y.n 91061) (y.n 91000) (y.n 91013) ∧ PLN (y.n 91000) (y.n 100000).toNat (y.l 2) (y.l 3) (y.n 100000) (y.n 100001)) := by rw [hmem]; unfold rep_h9; with_reducible rfl
      rw [e3] at hy1
      rw [e2] at hy2
      rw [e5] at hy3
      rw [e1, e2, e3, e4]
      exact rep_q9 E n times how z hp y hy1 hy2 hy3
    · have e1 : h.td = (td1 E) := by rw [hmem]; unfold rep_h10; with_reducible rfl
      have e2 : h.fs = [(0, .r .i64 (1) (20)), (1, .r .i64 (1) (5)), (7, .c (.b true false)), (8, .c (.i true .i64 1)), (9, .c (.p 0 0)), (10, .c (.p 1 0)), (60, .i .i64), (61, .r .i64 (0) (5))] := by rw [hmem]; unfold rep_h10; with_reducible rfl
      have e3 : h.ms = [uM 4192 false false, tW, pR, wR] := by rw [hmem]; unfold rep_h10; with_reducible rfl
      have e4 : h.mu = (fun y => (100 * (6 - y.n 91061) + 60).toNat) := by rw [hmem]; unfold rep_h10; with_reducible rfl
      have e5 : h.H = (fun y => y.n 91061 ≤ y.n 91060 ∧ 1 ≤ y.n 91061 ∧ y.n 91060 = y.n 91001 ∧ y.n 36 = y.n 91000 ∧ y.n 100000 = y.n 91000 ∧ PLN (y.n 91000) (y.n 100000).toNat (y.l 2) (y.l 3) (y.n 100000) (y.n 100001)) := by rw [hmem]; unfold rep_h10; with_reducible rfl
      rw [e3] at hy1
      rw [e2] at hy2
      rw [e5] at hy3
      rw [e1, e2, e3, e4]
      exact rep_q10 E n times how z hp y hy1 hy2 hy3
    · have e1 : h.td = (td2 E) := by rw [hmem]; unfold rep_h11; with_reducible rfl
      have e2 : h.fs = [(0, .r .i64 (1) (20)), (1, .r .i64 (1) (5)), (7, .c (.b true false)), (8, .c (.i true .i64 1)), (9, .c (.p 0 0)), (10, .c (.p 1 0)), (60, .i .i64), (61, .r .i64 (0) (5)), (13, .r .i64 (0) (20))] := by rw [hmem]; unfold rep_h11; with_reducible rfl
      have e3 : h.ms = [uM 4192 false false, tW, pR, wR] := by rw [hmem]; unfold rep_h11; with_reducible rfl
      have e4 : h.mu = (fun y => (100 * (6 - y.n 91061)).toNat) := by rw [hmem]; unfold rep_h11; with_reducible rfl
      have e5 : h.H = (fun y => y.n 91061 < y.n 91060 ∧ y.n 91060 = y.n 91001 ∧ y.n 36 = y.n 91000 ∧ y.n 100000 = y.n 91000 ∧ PLN (y.n 91000) (y.n 100000).toNat (y.l 2) (y.l 3) (y.n 100000) (y.n 100001)) := by rw [hmem]; unfold rep_h11; with_reducible rfl
      rw [e3] at hy1
      rw [e2] at hy2
      rw [e5] at hy3
      rw [e1, e2, e3, e4]
      exact rep_q11 E n times how z hp y hy1 hy2 hy3
    · have e1 : h.td = (td1 E) := by rw [hmem]; unfold rep_h12; with_reducible rfl
      have e2 : h.fs = [(0, .r .i64 (1) (20)), (1, .r .i64 (1) (5)), (7, .c (.b true true)), (8, .c (.i true .i64 2)), (9, .c (.p 0 0)), (10, .c (.p 1 0)), (60, .i .i64), (61, .r .i64 (0) (5))] := by rw [hmem]; unfold rep_h12; with_reducible rfl
      have e3 : h.ms = [uM 41568 false true, tN] := by rw [hmem]; unfold rep_h12; with_reducible rfl
      have e4 : h.mu = (fun y => (100 * (6 - y.n 91061) + 60).toNat) := by rw [hmem]; unfold rep_h12; with_reducible rfl
      have e5 : h.H = (fun y => y.n 91061 = 0 ∧ y.n 91060 = y.n 91001 ∧ y.n 36 = y.n 91000 ∧ y.n 38 = 33554432 ∧ y.n 39 = 50331648 ∧ y.n 40 = y.n 91000) := by rw [hmem]; unfold rep_h12; with_reducible rfl
      rw [e3] at hy1
      rw [e2] at hy2
      rw [e5] at hy3
      rw [e1, e2, e3, e4]
      exact rep_q12 E n times how z hp y hy1 hy2 hy3
    · have e1 : h.td = (td2 E) := by rw [hmem]; unfold rep_h13; with_reducible rfl
      have e2 : h.fs = [(0, .r .i64 (1) (20)), (1, .r .i64 (1) (5)), (7, .c (.b true true)), (8, .c (.i true .i64 2)), (9, .c (.p 0 0)), (10, .c (.p 1 0)), (60, .i .i64), (61, .r .i64 (0) (5)), (13, .r .i64 (0) (20))] := by rw [hmem]; unfold rep_h13; with_reducible rfl
      have e3 : h.ms = [uM 41568 true true, tN] := by rw [hmem]; unfold rep_h13; with_reducible rfl
      have e4 : h.mu = (fun y => (100 * (6 - y.n 91061) + 30 - y.n 91013).toNat) := by rw [hmem]; unfold rep_h13; with_reducible rfl
      have e5 : h.H = (fun y => y.n 91061 = 0 ∧ y.n 91061 < y.n 91060 ∧ y.n 91013 = 0 ∧ y.n 91060 = y.n 91001 ∧ y.n 36 = y.n 91000 ∧ y.n 38 = 33554432 ∧ y.n 39 = 50331648 ∧ y.n 40 = y.n 91000) := by rw [hmem]; unfold rep_h13; with_reducible rfl
      rw [e3] at hy1
      rw [e2] at hy2
      rw [e5] at hy3
      rw [e1, e2, e3, e4]
      exact rep_q13 E n times how z hp y hy1 hy2 hy3
    · have e1 : h.td = (td2 E) := by rw [hmem]; unfold rep_h14; with_reducible rfl
      have e2 : h.fs = [(0, .r .i64 (1) (20)), (1, .r .i64 (1) (5)), (7, .c (.b true true)), (8, .c (.i true .i64 2)), (9, .c (.p 0 0)), (10, .c (.p 1 0)), (60, .i .i64), (61, .r .i64 (0) (5)), (13, .r .i64 (0) (20))] := by rw [hmem]; unfold rep_h14; with_reducible rfl
      have e3 : h.ms = [uM 41568 true false, tW, pR, wR] := by rw [hmem]; unfold rep_h14; with_reducible rfl
      have e4 : h.mu = (fun y => (100 * (6 - y.n 91061) + 30 - y.n 91013).toNat) := by rw [hmem]; unfold rep_h14; with_reducible rfl
      have e5 : h.H = (fun y => (1 ≤ y.n 91013 ∧ y.n 91013 < y.n 91000) ∧ y.n 91061 < y.n 91060 ∧ y.n 91060 = y.n 91001 ∧ y.n 36 = y.n 91000 ∧ y.n 38 = 33554432 + 2 * y.n 100000 ∧ y.n 39 = 50331648 + 2 * y.n 91013 ∧ y.n 40 = y.n 91000 - y.n 91013 ∧ MN (y.n 100000) (y.n 91061) (y.n 91000) (y.n 91013) ∧ PLN (y.n 91000) (y.n 100000).toNat (y.l 2) (y.l 3) (y.n 100000) (y.n 100001)) := by rw [hmem]; unfold rep_h14; with_reducible rfl
      rw [e3] at hy1
      rw [e2] at hy2
      rw [e5] at hy3
      rw [e1, e2, e3, e4]
      exact rep_q14 E n times how z hp y hy1 hy2 hy3
    · have e1 : h.td = (td1 E) := by rw [hmem]; unfold rep_h15; with_reducible rfl
      have e2 : h.fs = [(0, .r .i64 (1) (20)), (1, .r .i64 (1) (5)), (7, .c (.b true true)), (8, .c (.i true .i64 2)), (9, .c (.p 0 0)), (10, .c (.p 1 0)), (60, .i .i64), (61, .r .i64 (0) (5))] := by rw [hmem]; unfold rep_h15; with_reducible rfl
      have e3 : h.ms = [uM 41568 false true, tW, pR, wR] := by rw [hmem]; unfold rep_h15; with_reducible rfl
      have e4 : h.mu = (fun y => (100 * (6 - y.n 91061) + 60).toNat) := by rw [hmem]; unfold rep_h15; with_reducible rfl
      have e5 : h.H = (fun y => y.n 91061 ≤ y.n 91060 ∧ 1 ≤ y.n 91061 ∧ y.n 91060 = y.n 91001 ∧ y.n 36 = y.n 91000 ∧ y.n 38 = 33554432 + 2 * y.n 100000 ∧ y.n 39 = 50331648 + 2 * 0 ∧ y.n 40 = y.n 91000 ∧ MN (y.n 100000) (y.n 91061) (y.n 91000) 0 ∧ PLN (y.n 91000) (y.n 100000).toNat (y.l 2) (y.l 3) (y.n 100000) (y.n 100001)) := by rw [hmem]; unfold rep_h15; with_reducible rfl
      rw [e3] at hy1
      rw [e2] at hy2
      rw [e5] at hy3
      rw [e1, e2, e3, e4]
      exact rep_q15 E n times how z hp y hy1 hy2 hy3
    · have e1 : h.td = (td2 E) := by rw [hmem]; unfold rep_h16; with_reducible rfl
      have e2 : h.fs = [(0, .r .i64 (1) (20)), (1, .r .i64 (1) (5)), (7, .c (.b true true)), (8, .c (.i true .i64 2)), (9, .c (.p 0 0)), (10, .c (.p 1 0)), (60, .i .i64), (61, .r .i64 (0) (5)), (13, .r .i64 (0) (20))] := by rw [hmem]; unfold rep_h16; with_reducible rfl
      have e3 : h.ms = [uM 41568 true true, tW, pR, wR] := by rw [hmem]; unfold rep_h16; with_reducible rfl
      have e4 : h.mu = (fun y => (100 * (6 - y.n 91061) + 30 - y.n 91013).toNat) := by rw [hmem]; unfold rep_h16; with_reducible rfl
      have e5 : h.H = (fun y => y.n 91013 = 0 ∧ 1 ≤ y.n 91061 ∧ y.n 91061 < y.n 91060 ∧ y.n 91060 = y.n 91001 ∧ y.n 36 = y.n 91000 ∧ y.n 38 = 33554432 + 2 * y.n 100000 ∧ y.n 39 = 50331648 + 2 * 0 ∧ y.n 40 = y.n 91000 ∧ MN (y.n 100000) (y.n 91061) (y.n 91000) 0 ∧ PLN (y.n 91000) (y.n 100000).toNat (y.l 2) (y.l 3) (y.n 100000) (y.n 100001)) := by rw [hmem]; unfold rep_h16; with_reducible rfl
      rw [e3] at hy1
      rw [e2] at hy2
      rw [e5] at hy3
      rw [e1, e2, e3, e4]
      exact rep_q16 E n times how z hp y hy1 hy2 hy3
    · have e1 : h.td = (td2 E) := by rw [hmem]; unfold rep_h17; with_reducible rfl
      have e2 : h.fs = [(0, .r .i64 (1) (20)), (1, .r .i64 (1) (5)), (7, .c (.b true true)), (8, .c (.i true .i64 2)), (9, .c (.p 0 0)), (10, .c (.p 1 0)), (60, .i .i64), (61, .r .i64 (0) (5)), (13, .r .i64 (0) (20))] := by rw [hmem]; unfold rep_h17; with_reducible rfl
      have e3 : h.ms = [uM 41568 false true, tW, pR, wR] := by rw [hmem]; unfold rep_h17; with_reducible rfl
      have e4 : h.mu = (fun y => (100 * (6 - y.n 91061)).toNat) := by rw [hmem]; unfold rep_h17; with_reducible rfl
      have e5 : h.H = (fun y => y.n 91013 = y.n 91000 ∧ y.n 91061 < y.n 91060 ∧ y.n 91060 = y.n 91001 ∧ y.n 36 = y.n 91000 ∧ y.n 38 = 33554432 + 2 * y.n 100000 ∧ y.n 39 = 50331648 + 2 * 0 ∧ y.n 40 = y.n 91000 ∧ MN (y.n 100000) (y.n 91061) (y.n 91000) (y.n 91000) ∧ PLN (y.n 91000) (y.n 100000).toNat (y.l 2) (y.l 3) (y.n 100000) (y.n 100001)) := by rw [hmem]; unfold rep_h17; with_reducible rfl
      rw [e3] at hy1
      rw [e2] at hy2
      rw [e5] at hy3
      rw [e1, e2, e3, e4]
      exact rep_q17 E n times how z hp y hy1 hy2 hy3
    · have e1 : h.td = (td1 E) := by rw [hmem]; unfold rep_h18; with_reducible rfl
      have e2 : h.fs = [(0, .r .i64 (1) (20)), (1, .r .i64 (1) (5)), (7, .c (.b true false)), (8, .c (.i true .i64 2)), (9, .c (.p 0 0)), (10, .c (.p 1 0)), (60, .i .i64), (61, .r .i64 (0) (5))] := by rw [hmem]; unfold rep_h18; with_reducible rfl
      have e3 : h.ms = [uM 41056 false true, tN] := by rw [hmem]; unfold rep_h18; with_reducible rfl
      have e4 : h.mu = (fun y => (100 * (6 - y.n 91061) + 60).toNat) := by rw [hmem]; unfold rep_h18; with_reducible rfl
      have e5 : h.H = (fun y => y.n 91061 = 0 ∧ y.n 91060 = y.n 91001 ∧ y.n 36 = y.n 91000 ∧ y.n 38 = 33554432 ∧ y.n 39 = 50331648 ∧ y.n 40 = y.n 91000) := by rw [hmem]; unfold rep_h18; with_reducible rfl
      rw [e3] at hy1
      rw [e2] at hy2
      rw [e5] at hy3
      rw [e1, e2, e3, e4]
      exact rep_q18 E n times how z hp y hy1 hy2 hy3
    · have e1 : h.td = (td2 E) := by rw [hmem]; unfold rep_h19; with_reducible rfl
      have e2 : h.fs = [(0, .r .i64 (1) (20)), (1, .r .i64 (1) (5)), (7, .c (.b true false)), (8, .c (.i true .i64 2)), (9, .c (.p 0 0)), (10, .c (.p 1 0)), (60, .i .i64), (61, .r .i64 (0) (5)), (13, .r .i64 (0) (20))] := by rw [hmem]; unfold rep_h19; with_reducible rfl
      have e3 : h.ms = [uM 41056 true true, tN] := by rw [hmem]; unfold rep_h19; with_reducible rfl
      have e4 : h.mu = (fun y => (100 * (6 - y.n 91061) + 30 - y.n 91013).toNat) := by rw [hmem]; unfold rep_h19; with_reducible rfl
      have e5 : h.H = (fun y => y.n 91061 = 0 ∧ y.n 91061 < y.n 91060 ∧ y.n 91013 = 0 ∧ y.n 91060 = y.n 91001 ∧ y.n 36 = y.n 91000 ∧ y.n 38 = 33554432 ∧ y.n 39 = 50331648 ∧ y.n 40 = y.n 91000) := by rw [hmem]; unfold rep_h19; with_reducible rfl
      rw [e3] at hy1
      rw [e2] at hy2
      rw [e5] at hy3
      rw [e1, e2, e3, e4]
      exact rep_q19 E n times how z hp y hy1 hy2 hy3
    · have e1 : h.td = (td2 E) := by rw [hmem]; unfold rep_h20; with_reducible rfl
      have e2 : h.fs = [(0, .r .i64 (1) (20)), (1, .r .i64 (1) (5)), (7, .c (.b true false)), (8, .c (.i true .i64 2)), (9, .c (.p 0 0)), (10, .c (.p 1 0)), (60, .i .i64), (61, .r .i64 (0) (5)), (13, .r .i64 (0) (20))] := by rw [hmem]; unfold rep_h20; with_reducible rfl
      have e3 : h.ms = [uM 41056 true false, tW, pR, wR] := by rw [hmem]; unfold rep_h20; with_reducible rfl
      have e4 : h.mu = (fun y => (100 * (6 - y.n 91061) + 30 - y.n 91013).toNat) := by rw [hmem]; unfold rep_h20; with_reducible rfl
      have e5 : h.H = (fun y => (1 ≤ y.n 91013 ∧ y.n 91013 < y.n 91000) ∧ y.n 91061 < y.n 91060 ∧ y.n 91061 = 0 ∧ y.n 91060 = y.n 91001 ∧ y.n 36 = y.n 91000 ∧ y.n 38 = 33554432 + 2 * y.n 100000 ∧ y.n 39 = 50331648 + 2 * y.n 91013 ∧ y.n 40 = y.n 91000 - y.n 91013 ∧ MN (y.n 100000) (y.n 91061) (y.n 91000) (y.n 91013) ∧ PLN (y.n 91000) (y.n 100000).toNat (y.l 2) (y.l 3) (y.n 100000) (y.n 100001)) := by rw [hmem]; unfold rep_h20; with_reducible rfl
      rw [e3] at hy1
      rw [e2] at hy2
      rw [e5] at hy3
      rw [e1, e2, e3, e4]
      exact rep_q20 E n times how z hp y hy1 hy2 hy3
    · have e1 : h.td = (td1 E) := by rw [hmem]; unfold rep_h21; with_reducible rfl
      have e2 : h.fs = [(0, .r .i64 (1) (20)), (1, .r .i64 (1) (5)), (7, .c (.b true false)), (8, .c (.i true .i64 2)), (9, .c (.p 0 0)), (10, .c (.p 1 0)), (60, .i .i64), (61, .r .i64 (0) (5))] := by rw [hmem]; unfold rep_h21; with_reducible rfl
      have e3 : h.ms = [uM 8288 false false, tW, pR, wR] := by rw [hmem]; unfold rep_h21; with_reducible rfl
      have e4 : h.mu = (fun y => (100 * (6 - y.n 91061) + 60).toNat) := by rw [hmem]; unfold rep_h21; with_reducible rfl
      have e5 : h.H = (fun y => y.n 91061 ≤ y.n 91060 ∧ 1 ≤ y.n 91061 ∧ y.n 91060 = y.n 91001 ∧ y.n 36 = y.n 91000 ∧ y.n 100000 = y.n 91000 ∧ PLN (y.n 91000) (y.n 100000).toNat (y.l 2) (y.l 3) (y.n 100000) (y.n 100001)) := by rw [hmem]; unfold rep_h21; with_reducible rfl
      rw [e3] at hy1
      rw [e2] at hy2
      rw [e5] at hy3
      rw [e1, e2, e3, e4]
      exact rep_q21 E n times how z hp y hy1 hy2 hy3
    · have e1 : h.td = (td2 E) := by rw [hmem]; unfold rep_h22; with_reducible rfl
      have e2 : h.fs = [(0, .r .i64 (1) (20)), (1, .r .i64 (1) (5)), (7, .c (.b true false)), (8, .c (.i true .i64 2)), (9, .c (.p 0 0)), (10, .c (.p 1 0)), (60, .i .i64), (61, .r .i64 (0) (5)), (13, .r .i64 (0) (20))] := by rw [hmem]; unfold rep_h22; with_reducible rfl
      have e3 : h.ms = [uM 8288 false false, tW, pR, wR] := by rw [hmem]; unfold rep_h22; with_reducible rfl
      have e4 : h.mu = (fun y => (100 * (6 - y.n 91061)).toNat) := by rw [hmem]; unfold rep_h22; with_reducible rfl
      have e5 : h.H = (fun y => y.n 91061 < y.n 91060 ∧ y.n 91060 = y.n 91001 ∧ y.n 36 = y.n 91000 ∧ y.n 100000 = y.n 91000 ∧ PLN (y.n 91000) (y.n 100000).toNat (y.l 2) (y.l 3) (y.n 100000) (y.n 100001)) := by rw [hmem]; unfold rep_h22; with_reducible rfl
      rw [e3] at hy1
      rw [e2] at hy2
      rw [e5] at hy3
      rw [e1, e2, e3, e4]
      exact rep_q22 E n times how z hp y hy1 hy2 hy3
end Go.Proofs.Ytpddbhfebhpohaa

