import Derived.Test.YtpddbhfebhpohaaR0
import Derived.Test.YtpddbhfebhpohaaR1
import Derived.Test.YtpddbhfebhpohaaR2
import Derived.Test.YtpddbhfebhpohaaR3
import Derived.Test.YtpddbhfebhpohaaZ1
set_option linter.unusedVariables false
set_option linter.unusedSimpArgs false
namespace Go.Proofs.Ytpddbhfebhpohaa
open Go Go.Proofs Go.Proofs.Ytpddbhfebhpohaa.Ev Go.Proofs.Ytpddbhfebhpohaa.Ev.Ho
set_option maxRecDepth 100000
set_option maxHeartbeats 8000000 in
theorem copy_c (E : World) (n ch : Int) (wd : Bool) (z : PX) (hz : rgM z [] 0) (hp : (fun _ => True) z) : HD (pe E) 5 [.c (.i false .i64 n), .c (.b false wd), .c (.i false .i64 ch)] [] [] (.c .b) (fun _ y => y.b 90000 = true) z := by
  refine HD.loop (P := pe E) orcA_ok tab_ok tab_sz mixed Try.func5 (c := Try.f5.body.getD .skip) rfl (by decide) (Nat.le_of_ble_eq_true rfl) (by rfl) 20000 (2 ^ 200 - 1) (copy_hs E n ch wd z) (by rfl) (loopP_lfH ⟨?_⟩) ?_
  · exact pro_t E n ch wd z
  · intro h hmem y hy1 hy2 hy3
    simp only [copy_hs, List.mem_cons, List.not_mem_nil, or_false] at hmem
    rcases hmem with hmem | hmem | hmem | hmem | hmem | hmem | hmem | hmem | hmem | hmem | hmem | hmem | hmem | hmem | hmem | hmem | hmem | hmem | hmem | hmem | hmem | hmem | hmem | hmem | hmem | hmem | hmem | hmem | hmem | hmem | hmem | hmem
    · have e1 : h.td = (td2 E) := by rw [hmem]; unfold copy_h0; with_reducible rfl
      have e2 : h.fs = [(0, .r .i64 (1) (100)), (1, .b), (2, .c (.i true .i64 0)), (7, .c (.p 0 0)), (8, .c (.p 1 0)), (9, .c (.i true .u16 50176)), (10, .c (.i true .i64 4)), (82, .w 2 6), (83, .i .i64), (84, .r .i64 (0) (100))] := by rw [hmem]; unfold copy_h0; with_reducible rfl
      have e3 : h.ms = [uM0 17408 false false, tW, pR, wR] := by rw [hmem]; unfold copy_h0; with_reducible rfl
      have e4 : h.mu = (fun y => (200 - y.n 91084).toNat) := by rw [hmem]; unfold copy_h0; with_reducible rfl
      have e5 : h.H = (fun y => y.n 91083 = y.n 91000 ∧ y.n 91082 = y.n 91000 ∧ y.n 91084 ≤ y.n 91000 ∧ y.b 91001 = true ∧ PLN 0 4 (y.n 91000).toNat (y.l 2) (y.l 3) (y.n 100000) (y.n 100001)) := by rw [hmem]; unfold copy_h0; with_reducible rfl
      rw [e3] at hy1
      rw [e2] at hy2
      rw [e5] at hy3
      rw [e1, e2, e3, e4]
      exact copy_q0 E n ch wd z hp y hy1 hy2 hy3
    · have e1 : h.td = (td2 E) := by rw [hmem]; unfold copy_h1; with_reducible rfl
      have e2 : h.fs = [(0, .r .i64 (1) (100)), (1, .b), (2, .c (.i true .i64 0)), (7, .c (.p 0 0)), (8, .c (.p 1 0)), (9, .c (.i true .u16 49152)), (10, .c (.i true .i64 2)), (82, .w 2 6), (83, .i .i64), (84, .r .i64 (0) (100))] := by rw [hmem]; unfold copy_h1; with_reducible rfl
      have e3 : h.ms = [uM0 16384 false false, tW, pR, wR] := by rw [hmem]; unfold copy_h1; with_reducible rfl
      have e4 : h.mu = (fun y => (200 - y.n 91084).toNat) := by rw [hmem]; unfold copy_h1; with_reducible rfl
      have e5 : h.H = (fun y => y.n 91083 = y.n 91000 ∧ y.n 91082 = y.n 91000 ∧ y.n 91084 ≤ y.n 91000 ∧ y.b 91001 = false ∧ PLN 0 2 (y.n 91000).toNat (y.l 2) (y.l 3) (y.n 100000) (y.n 100001)) := by rw [hmem]; unfold copy_h1; with_reducible rfl
      rw [e3] at hy1
      rw [e2] at hy2
      rw [e5] at hy3
      rw [e1, e2, e3, e4]
      exact copy_q1 E n ch wd z hp y hy1 hy2 hy3
    · have e1 : h.td = (td2 E) := by rw [hmem]; unfold copy_h2; with_reducible rfl
      have e2 : h.fs = [(0, .r .i64 (1) (100)), (1, .b), (2, .c (.i true .i64 1)), (7, .c (.p 0 0)), (8, .c (.p 1 0)), (9, .c (.i true .u16 50176)), (10, .c (.i true .i64 4)), (82, .w 2 6), (83, .i .i64), (84, .r .i64 (0) (100))] := by rw [hmem]; unfold copy_h2; with_reducible rfl
      have e3 : h.ms = [uM1 17408 false false, tW, pR, wR] := by rw [hmem]; unfold copy_h2; with_reducible rfl
      have e4 : h.mu = (fun y => (200 - y.n 91084).toNat) := by rw [hmem]; unfold copy_h2; with_reducible rfl
      have e5 : h.H = (fun y => y.n 91083 = y.n 91000 ∧ y.n 91082 = y.n 91000 ∧ y.n 91084 ≤ y.n 91000 ∧ y.b 91001 = true ∧ PLN 1 4 (y.n 91000).toNat (y.l 2) (y.l 3) (y.n 100000) (y.n 100001)) := by rw [hmem]; unfold copy_h2; with_reducible rfl
      rw [e3] at hy1
      rw [e2] at hy2
      rw [e5] at hy3
      rw [e1, e2, e3, e4]
      exact copy_q2 E n ch wd z hp y hy1 hy2 hy3
    · have e1 : h.td = (td2 E) := by rw [hmem]; unfold copy_h3; with_reducible rfl
      have e2 : h.fs = [(0, .r .i64 (1) (100)), (1, .b), (2, .c (.i true .i64 1)), (7, .c (.p 0 0)), (8, .c (.p 1 0)), (9, .c (.i true .u16 49152)), (10, .c (.i true .i64 2)), (82, .w 2 6), (83, .i .i64), (84, .r .i64 (0) (100))] := by rw [hmem]; unfold copy_h3; with_reducible rfl
      have e3 : h.ms = [uM1 16384 false false, tW, pR, wR] := by rw [hmem]; unfold copy_h3; with_reducible rfl
      have e4 : h.mu = (fun y => (200 - y.n 91084).toNat) := by rw [hmem]; unfold copy_h3; with_reducible rfl
      have e5 : h.H = (fun y => y.n 91083 = y.n 91000 ∧ y.n 91082 = y.n 91000 ∧ y.n 91084 ≤ y.n 91000 ∧ y.b 91001 = false ∧ PLN 1 2 (y.n 91000).toNat (y.l 2) (y.l 3) (y.n 100000) (y.n 100001)) := by rw [hmem]; unfold copy_h3; with_reducible rfl
      rw [e3] at hy1
      rw [e2] at hy2
      rw [e5] at hy3
      rw [e1, e2, e3, e4]
      exact copy_q3 E n ch wd z hp y hy1 hy2 hy3
    · have e1 : h.td = (td2 E) := by rw [hmem]; unfold copy_h4; with_reducible rfl
      have e2 : h.fs = [(0, .r .i64 (1) (100)), (1, .b), (2, .c (.i true .i64 2)), (7, .c (.p 0 0)), (8, .c (.p 1 0)), (9, .c (.i true .u16 50176)), (10, .c (.i true .i64 4)), (82, .w 2 6), (83, .i .i64), (84, .r .i64 (0) (100))] := by rw [hmem]; unfold copy_h4; with_reducible rfl
      have e3 : h.ms = [uM2 17408 false false, tW, pR, wR] := by rw [hmem]; unfold copy_h4; with_reducible rfl
      have e4 : h.mu = (fun y => (200 - y.n 91084).toNat) := by rw [hmem]; unfold copy_h4; with_reducible rfl
      have e5 : h.H = (fun y => y.n 91083 = y.n 91000 ∧ y.n 91082 = y.n 91000 ∧ y.n 91084 ≤ y.n 91000 ∧ y.b 91001 = true ∧ PLN 2 4 (y.n 91000).toNat (y.l 2) (y.l 3) (y.n 100000) (y.n 100001)) := by rw [hmem]; unfold copy_h4; with_reducible rfl
      rw [e3] at hy1
      rw [e2] at hy2
      rw [e5] at hy3
      rw [e1, e2, e3, e4]
      exact copy_q4 E n ch wd z hp y hy1 hy2 hy3
    · have e1 : h.td = (td2 E) := by rw [hmem]; unfold copy_h5; with_reducible rfl
      have e2 : h.fs = [(0, .r .i64 (1) (100)), (1, .b), (2, .c (.i true .i64 2)), (7, .c (.p 0 0)), (8, .c (.p 1 0)), (9, .c (.i true .u16 49152)), (10, .c (.i true .i64 2)), (82, .w 2 6), (83, .i .i64), (84, .r .i64 (0) (100))] := by rw [hmem]; unfold copy_h5; with_reducible rfl
      have e3 : h.ms = [uM2 16384 false false, tW, pR, wR] := by rw [hmem]; unfold copy_h5; with_reducible rfl
      have e4 : h.mu = (fun y => (200 - y.n 91084).toNat) := by rw [hmem]; unfold copy_h5; with_reducible rfl
      have e5 : h.H = (fun y => y.n 91083 = y.n 91000 ∧ y.n 91082 = y.n 91000 ∧ y.n 91084 ≤ y.n 91000 ∧ y.b 91001 = false ∧ PLN 2 2 (y.n 91000).toNat (y.l 2) (y.l 3) (y.n 100000) (y.n 100001)) := by rw [hmem]; unfold copy_h5; with_reducible rfl
      rw [e3] at hy1
      rw [e2] at hy2
      rw [e5] at hy3
      rw [e1, e2, e3, e4]
      exact copy_q5 E n ch wd z hp y hy1 hy2 hy3
    · have e1 : h.td = (td2 E) := by rw [hmem]; unfold copy_h6; with_reducible rfl
      have e2 : h.fs = [(0, .r .i64 (1) (100)), (1, .b), (2, .c (.i true .i64 3)), (7, .c (.p 0 0)), (8, .c (.p 1 0)), (9, .c (.i true .u16 50176)), (10, .c (.i true .i64 4)), (82, .w 2 6), (83, .i .i64), (84, .r .i64 (0) (100))] := by rw [hmem]; unfold copy_h6; with_reducible rfl
      have e3 : h.ms = [uM3 17408 false false, tW, pR, wR] := by rw [hmem]; unfold copy_h6; with_reducible rfl
      have e4 : h.mu = (fun y => (200 - y.n 91084).toNat) := by rw [hmem]; unfold copy_h6; with_reducible rfl
      have e5 : h.H = (fun y => y.n 91083 = y.n 91000 ∧ y.n 91082 = y.n 91000 ∧ y.n 91084 ≤ y.n 91000 ∧ y.b 91001 = true ∧ PLN 3 4 (y.n 91000).toNat (y.l 2) (y.l 3) (y.n 100000) (y.n 100001)) := by rw [hmem]; unfold copy_h6; with_reducible rfl
      rw [e3] at hy1
      rw [e2] at hy2
      rw [e5] at hy3
      rw [e1, e2, e3, e4]
      exact copy_q6 E n ch wd z hp y hy1 hy2 hy3
    · have e1 : h.td = (td2 E) := by rw [hmem]; unfold copy_h7; with_reducible rfl
      have e2 : h.fs = [(0, .r .i64 (1) (100)), (1, .b), (2, .c (.i true .i64 3)), (7, .c (.p 0 0)), (8, .c (.p 1 0)), (9, .c (.i true .u16 49152)), (10, .c (.i true .i64 2)), (82, .w 2 6), (83, .i .i64), (84, .r .i64 (0) (100))] := by rw [hmem]; unfold copy_h7; with_reducible rfl
      have e3 : h.ms = [uM3 16384 false false, tW, pR, wR] := by rw [hmem]; unfold copy_h7; with_reducible rfl
      have e4 : h.mu = (fun y => (200 - y.n 91084).toNat) := by rw [hmem]; unfold copy_h7; with_reducible rfl
      have e5 : h.H = (fun y => y.n 91083 = y.n 91000 ∧ y.n 91082 = y.n 91000 ∧ y.n 91084 ≤ y.n 91000 ∧ y.b 91001 = false ∧ PLN 3 2 (y.n 91000).toNat (y.l 2) (y.l 3) (y.n 100000) (y.n 100001)) := by rw [hmem]; unfold copy_h7; with_reducible rfl
      rw [e3] at hy1
      rw [e2] at hy2
      rw [e5] at hy3
      rw [e1, e2, e3, e4]
      exact copy_q7 E n ch wd z hp y hy1 hy2 hy3
    · have e1 : h.td = (td1 E) := by rw [hmem]; unfold copy_h8; with_reducible rfl
      have e2 : h.fs = [(0, .r .i64 (1) (100)), (1, .b), (2, .c (.i true .i64 0)), (7, .c (.p 0 0)), (8, .c (.p 1 0)), (9, .c (.i true .u16 50176)), (10, .c (.i true .i64 4)), (50, .i .i64), (51, .r .i64 (0) (100))] := by rw [hmem]; unfold copy_h8; with_reducible rfl
      have e3 : h.ms = [uM0 50176 true true, tN] := by rw [hmem]; unfold copy_h8; with_reducible rfl
      have e4 : h.mu = (fun y => (2000 - y.n 91051).toNat) := by rw [hmem]; unfold copy_h8; with_reducible rfl
      have e5 : h.H = (fun y => y.n 91051 = 0 ∧ y.n 91050 = y.n 91000 ∧ y.b 91001 = true ∧ y.n 5 = 33619968 ∧ y.n 6 = 50462720 ∧ y.n 7 = y.n 91000) := by rw [hmem]; unfold copy_h8; with_reducible rfl
      rw [e3] at hy1
      rw [e2] at hy2
      rw [e5] at hy3
      rw [e1, e2, e3, e4]
      exact copy_q8 E n ch wd z hp y hy1 hy2 hy3
    · have e1 : h.td = (td1 E) := by rw [hmem]; unfold copy_h9; with_reducible rfl
      have e2 : h.fs = [(0, .r .i64 (1) (100)), (1, .b), (2, .c (.i true .i64 0)), (7, .c (.p 0 0)), (8, .c (.p 1 0)), (9, .c (.i true .u16 49152)), (10, .c (.i true .i64 2)), (50, .i .i64), (51, .r .i64 (0) (100))] := by rw [hmem]; unfold copy_h9; with_reducible rfl
      have e3 : h.ms = [uM0 49152 true true, tN] := by rw [hmem]; unfold copy_h9; with_reducible rfl
      have e4 : h.mu = (fun y => (2000 - y.n 91051).toNat) := by rw [hmem]; unfold copy_h9; with_reducible rfl
      have e5 : h.H = (fun y => y.n 91051 = 0 ∧ y.n 91050 = y.n 91000 ∧ y.b 91001 = false ∧ y.n 5 = 33619968 ∧ y.n 6 = 50462720 ∧ y.n 7 = y.n 91000) := by rw [hmem]; unfold copy_h9; with_reducible rfl
      rw [e3] at hy1
      rw [e2] at hy2
      rw [e5] at hy3
      rw [e1, e2, e3, e4]
      exact copy_q9 E n ch wd z hp y hy1 hy2 hy3
    · have e1 : h.td = (td1 E) := by rw [hmem]; unfold copy_h10; with_reducible rfl
      have e2 : h.fs = [(0, .r .i64 (1) (100)), (1, .b), (2, .c (.i true .i64 1)), (7, .c (.p 0 0)), (8, .c (.p 1 0)), (9, .c (.i true .u16 50176)), (10, .c (.i true .i64 4)), (50, .i .i64), (51, .r .i64 (0) (100))] := by rw [hmem]; unfold copy_h10; with_reducible rfl
      have e3 : h.ms = [uM1 50176 true true, tN] := by rw [hmem]; unfold copy_h10; with_reducible rfl
      have e4 : h.mu = (fun y => (2000 - y.n 91051).toNat) := by rw [hmem]; unfold copy_h10; with_reducible rfl
      have e5 : h.H = (fun y => y.n 91051 = 0 ∧ y.n 91050 = y.n 91000 ∧ y.b 91001 = true ∧ y.n 16 = 33619968 ∧ y.n 17 = 50462720 ∧ y.n 18 = y.n 91000) := by rw [hmem]; unfold copy_h10; with_reducible rfl
      rw [e3] at hy1
      rw [e2] at hy2
      rw [e5] at hy3
      rw [e1, e2, e3, e4]
      exact copy_q10 E n ch wd z hp y hy1 hy2 hy3
    · have e1 : h.td = (td1 E) := by rw [hmem]; unfold copy_h11; with_reducible rfl
      have e2 : h.fs = [(0, .r .i64 (1) (100)), (1, .b), (2, .c (.i true .i64 1)), (7, .c (.p 0 0)), (8, .c (.p 1 0)), (9, .c (.i true .u16 49152)), (10, .c (.i true .i64 2)), (50, .i .i64), (51, .r .i64 (0) (100))] := by rw [hmem]; unfold copy_h11; with_reducible rfl
      have e3 : h.ms = [uM1 49152 true true, tN] := by rw [hmem]; unfold copy_h11; with_reducible rfl
      have e4 : h.mu = (fun y => (2000 - y.n 91051).toNat) := by rw [hmem]; unfold copy_h11; with_reducible rfl
      have e5 : h.H = (fun y => y.n 91051 = 0 ∧ y.n 91050 = y.n 91000 ∧ y.b 91001 = false ∧ y.n 16 = 33619968 ∧ y.n 17 = 50462720 ∧ y.n 18 = y.n 91000) := by rw [hmem]; unfold copy_h11; with_reducible rfl
      rw [e3] at hy1
      rw [e2] at hy2
      rw [e5] at hy3
      rw [e1, e2, e3, e4]
      exact copy_q11 E n ch wd z hp y hy1 hy2 hy3
    · have e1 : h.td = (td1 E) := by rw [hmem]; unfold copy_h12; with_reducible rfl
      have e2 : h.fs = [(0, .r .i64 (1) (100)), (1, .b), (2, .c (.i true .i64 2)), (7, .c (.p 0 0)), (8, .c (.p 1 0)), (9, .c (.i true .u16 50176)), (10, .c (.i true .i64 4)), (50, .i .i64), (51, .r .i64 (0) (100))] := by rw [hmem]; unfold copy_h12; with_reducible rfl
      have e3 : h.ms = [uM2 50176 true true, tN] := by rw [hmem]; unfold copy_h12; with_reducible rfl
      have e4 : h.mu = (fun y => (2000 - y.n 91051).toNat) := by rw [hmem]; unfold copy_h12; with_reducible rfl
      have e5 : h.H = (fun y => y.n 91051 = 0 ∧ y.n 91050 = y.n 91000 ∧ y.b 91001 = true ∧ y.n 27 = 33619968 ∧ y.n 28 = 50462720 ∧ y.n 29 = y.n 91000) := by rw [hmem]; unfold copy_h12; with_reducible rfl
      rw [e3] at hy1
      rw [e2] at hy2
      rw [e5] at hy3
      rw [e1, e2, e3, e4]
      exact copy_q12 E n ch wd z hp y hy1 hy2 hy3
    · have e1 : h.td = (td1 E) := by rw [hmem]; unfold copy_h13; with_reducible rfl
      have e2 : h.fs = [(0, .r .i64 (1) (100)), (1, .b), (2, .c (.i true .i64 2)), (7, .c (.p 0 0)), (8, .c (.p 1 0)), (9, .c (.i true .u16 49152)), (10, .c (.i true .i64 2)), (50, .i .i64), (51, .r .i64 (0) (100))] := by rw [hmem]; unfold copy_h13; with_reducible rfl
      have e3 : h.ms = [uM2 49152 true true, tN] := by rw [hmem]; unfold copy_h13; with_reducible rfl
      have e4 : h.mu = (fun y => (2000 - y.n 91051).toNat) := by rw [hmem]; unfold copy_h13; with_reducible rfl
      have e5 : h.H = (fun y => y.n 91051 = 0 ∧ y.n 91050 = y.n 91000 ∧ y.b 91001 = false ∧ y.n 27 = 33619968 ∧ y.n 28 = 50462720 ∧ y.n 29 = y.n 91000) := by rw [hmem]; unfold copy_h13; with_reducible rfl
      rw [e3] at hy1
      rw [e2] at hy2
      rw [e5] at hy3
      rw [e1, e2, e3, e4]
      exact copy_q13 E n ch wd z hp y hy1 hy2 hy3
    · have e1 : h.td = (td1 E) := by rw [hmem]; unfold copy_h14; with_reducible rfl
      have e2 : h.fs = [(0, .r .i64 (1) (100)), (1, .b), (2, .c (.i true .i64 3)), (7, .c (.p 0 0)), (8, .c (.p 1 0)), (9, .c (.i true .u16 50176)), (10, .c (.i true .i64 4)), (50, .i .i64), (51, .r .i64 (0) (100))] := by rw [hmem]; unfold copy_h14; with_reducible rfl
      have e3 : h.ms = [uM3 50176 true true, tN] := by rw [hmem]; unfold copy_h14; with_reducible rfl
      have e4 : h.mu = (fun y => (2000 - y.n 91051).toNat) := by rw [hmem]; unfold copy_h14; with_reducible rfl
      have e5 : h.H = (fun y => y.n 91051 = 0 ∧ y.n 91050 = y.n 91000 ∧ y.b 91001 = true ∧ y.n 38 = 33619968 ∧ y.n 39 = 50462720 ∧ y.n 40 = y.n 91000) := by rw [hmem]; unfold copy_h14; with_reducible rfl
      rw [e3] at hy1
      rw [e2] at hy2
      rw [e5] at hy3
      rw [e1, e2, e3, e4]
      exact copy_q14 E n ch wd z hp y hy1 hy2 hy3
    · have e1 : h.td = (td1 E) := by rw [hmem]; unfold copy_h15; with_reducible rfl
      have e2 : h.fs = [(0, .r .i64 (1) (100)), (1, .b), (2, .c (.i true .i64 3)), (7, .c (.p 0 0)), (8, .c (.p 1 0)), (9, .c (.i true .u16 49152)), (10, .c (.i true .i64 2)), (50, .i .i64), (51, .r .i64 (0) (100))] := by rw [hmem]; unfold copy_h15; with_reducible rfl
      have e3 : h.ms = [uM3 49152 true true, tN] := by rw [hmem]; unfold copy_h15; with_reducible rfl
      have e4 : h.mu = (fun y => (2000 - y.n 91051).toNat) := by rw [hmem]; unfold copy_h15; with_reducible rfl
      have e5 : h.H = (fun y => y.n 91051 = 0 ∧ y.n 91050 = y.n 91000 ∧ y.b 91001 = false ∧ y.n 38 = 33619968 ∧ y.n 39 = 50462720 ∧ y.n 40 = y.n 91000) := by rw [hmem]; unfold copy_h15; with_reducible rfl
      rw [e3] at hy1
      rw [e2] at hy2
      rw [e5] at hy3
      rw [e1, e2, e3, e4]
      exact copy_q15 E n ch wd z hp y hy1 hy2 hy3
    · have e1 : h.td = (td1 E) := by rw [hmem]; unfold copy_h16; with_reducible rfl
      have e2 : h.fs = [(0, .r .i64 (1) (100)), (1, .b), (2, .c (.i true .i64 0)), (7, .c (.p 0 0)), (8, .c (.p 1 0)), (9, .c (.i true .u16 50176)), (10, .c (.i true .i64 4)), (50, .i .i64), (51, .r .i64 (0) (100))] := by rw [hmem]; unfold copy_h16; with_reducible rfl
      have e3 : h.ms = [uM0 50176 true false, tW, pR, wR] := by rw [hmem]; unfold copy_h16; with_reducible rfl
      have e4 : h.mu = (fun y => (2000 - y.n 91051).toNat) := by rw [hmem]; unfold copy_h16; with_reducible rfl
      have e5 : h.H = (fun y => (1 ≤ y.n 91051 ∧ y.n 91051 < y.n 91000) ∧ y.n 91050 = y.n 91000 ∧ y.b 91001 = true ∧ y.n 5 = 33619968 + y.n 91051 * 4 ∧ y.n 6 = 50462720 + y.n 91051 * 4 ∧ y.n 7 = y.n 91000 - y.n 91051 ∧ PLN 0 4 (y.n 91051).toNat (y.l 2) (y.l 3) (y.n 100000) (y.n 100001)) := by rw [hmem]; unfold copy_h16; with_reducible rfl
      rw [e3] at hy1
      rw [e2] at hy2
      rw [e5] at hy3
      rw [e1, e2, e3, e4]
      exact copy_q16 E n ch wd z hp y hy1 hy2 hy3
    · have e1 : h.td = (td1 E) := by rw [hmem]; unfold copy_h17; with_reducible rfl
      have e2 : h.fs = [(0, .r .i64 (1) (100)), (1, .b), (2, .c (.i true .i64 0)), (7, .c (.p 0 0)), (8, .c (.p 1 0)), (9, .c (.i true .u16 49152)), (10, .c (.i true .i64 2)), (50, .i .i64), (51, .r .i64 (0) (100))] := by rw [hmem]; unfold copy_h17; with_reducible rfl
      have e3 : h.ms = [uM0 49152 true false, tW, pR, wR] := by rw [hmem]; unfold copy_h17; with_reducible rfl
      have e4 : h.mu = (fun y => (2000 - y.n 91051).toNat) := by rw [hmem]; unfold copy_h17; with_reducible rfl
      have e5 : h.H = (fun y => (1 ≤ y.n 91051 ∧ y.n 91051 < y.n 91000) ∧ y.n 91050 = y.n 91000 ∧ y.b 91001 = false ∧ y.n 5 = 33619968 + y.n 91051 * 2 ∧ y.n 6 = 50462720 + y.n 91051 * 2 ∧ y.n 7 = y.n 91000 - y.n 91051 ∧ PLN 0 2 (y.n 91051).toNat (y.l 2) (y.l 3) (y.n 100000) (y.n 100001)) := by rw [hmem]; unfold copy_h17; with_reducible rfl
      rw [e3] at hy1
      rw [e2] at hy2
      rw [e5] at hy3
      rw [e1, e2, e3, e4]
      exact copy_q17 E n ch wd z hp y hy1 hy2 hy3
    · have e1 : h.td = (td1 E) := by rw [hmem]; unfold copy_h18; with_reducible rfl
      have e2 : h.fs = [(0, .r .i64 (1) (100)), (1, .b), (2, .c (.i true .i64 1)), (7, .c (.p 0 0)), (8, .c (.p 1 0)), (9, .c (.i true .u16 50176)), (10, .c (.i true .i64 4)), (50, .i .i64), (51, .r .i64 (0) (100))] := by rw [hmem]; unfold copy_h18; with_reducible rfl
      have e3 : h.ms = [uM1 50176 true false, tW, pR, wR] := by rw [hmem]; unfold copy_h18; with_reducible rfl
      have e4 : h.mu = (fun y => (2000 - y.n 91051).toNat) := by rw [hmem]; unfold copy_h18; with_reducible rfl
      have e5 : h.H = (fun y => (1 ≤ y.n 91051 ∧ y.n 91051 < y.n 91000) ∧ y.n 91050 = y.n 91000 ∧ y.b 91001 = true ∧ y.n 16 = 33619968 + y.n 91051 * 4 ∧ y.n 17 = 50462720 + y.n 91051 * 4 ∧ y.n 18 = y.n 91000 - y.n 91051 ∧ PLN 1 4 (y.n 91051).toNat (y.l 2) (y.l 3) (y.n 100000) (y.n 100001)) := by rw [hmem]; unfold copy_h18; with_reducible rfl
      rw [e3] at hy1
      rw [e2] at hy2
      rw [e5] at hy3
      rw [e1, e2, e3, e4]
      exact copy_q18 E n ch wd z hp y hy1 hy2 hy3
    · have e1 : h.td = (td1 E) := by rw [hmem]; unfold copy_h19; with_reducible rfl
      have e2 : h.fs = [(0, .r .i64 (1) (100)), (1, .b), (2, .c (.i true .i64 1)), (7, .c (.p 0 0)), (8, .c (.p 1 0)), (9, .c (.i true .u16 49152)), (10, .c (.i true .i64 2)), (50, .i .i64), (51, .r .i64 (0) (100))] := by rw [hmem]; unfold copy_h19; with_reducible rfl
      have e3 : h.ms = [uM1 49152 true false, tW, pR, wR] := by rw [hmem]; unfold copy_h19; with_reducible rfl
      have e4 : h.mu = (fun y => (2000 - y.n 91051).toNat) := by rw [hmem]; unfold copy_h19; with_reducible rfl
      have e5 : h.H = (fun y => (1 ≤ y.n 91051 ∧ y.n 91051 < y.n 91000) ∧ y.n 91050 = y.n 91000 ∧ y.b 91001 = false ∧ y.n 16 = 33619968 + y.n 91051 * 2 ∧ y.n 17 = 50462720 + y.n 91051 * 2 ∧ y.n 18 = y.n 91000 - y.n 91051 ∧ PLN 1 2 (y.n 91051).toNat (y.l 2) (y.l 3) (y.n 100000) (y.n 100001)) := by rw [hmem]; unfold copy_h19; with_reducible rfl
      rw [e3] at hy1
      rw [e2] at hy2
      rw [e5] at hy3
      rw [e1, e2, e3, e4]
      exact copy_q19 E n ch wd z hp y hy1 hy2 hy3
    · have e1 : h.td = (td1 E) := by rw [hmem]; unfold copy_h20; with_reducible rfl
      have e2 : h.fs = [(0, .r .i64 (1) (100)), (1, .b), (2, .c (.i true .i64 2)), (7, .c (.p 0 0)), (8, .c (.p 1 0)), (9, .c (.i true .u16 50176)), (10, .c (.i true .i64 4)), (50, .i .i64), (51, .r .i64 (0) (100))] := by rw [hmem]; unfold copy_h20; with_reducible rfl
      have e3 : h.ms = [uM2 50176 true false, tW, pR, wR] := by rw [hmem]; unfold copy_h20; with_reducible rfl
      have e4 : h.mu = (fun y => (2000 - y.n 91051).toNat) := by rw [hmem]; unfold copy_h20; with_reducible rfl
      have e5 : h.H = (fun y => (1 ≤ y.n 91051 ∧ y.n 91051 < y.n 91000) ∧ y.n 91050 = y.n 91000 ∧ y.b 91001 = true ∧ y.n 27 = 33619968 + y.n 91051 * 4 ∧ y.n 28 = 50462720 + y.n 91051 * 4 ∧ y.n 29 = y.n 91000 - y.n 91051 ∧ PLN 2 4 (y.n 91051).toNat (y.l 2) (y.l 3) (y.n 100000) (y.n 100001)) := by rw [hmem]; unfold copy_h20; with_reducible rfl
      rw [e3] at hy1
      rw [e2] at hy2
      rw [e5] at hy3
      rw [e1, e2, e3, e4]
      exact copy_q20 E n ch wd z hp y hy1 hy2 hy3
    · have e1 : h.td = (td1 E) := by rw [hmem]; unfold copy_h21; with_reducible rfl
      have e2 : h.fs = [(0, .r .i64 (1) (100)), (1, .b), (2, .c (.i true .i64 2)), (7, .c (.p 0 0)), (8, .c (.p 1 0)), (9, .c (.i true .u16 49152)), (10, .c (.i true .i64 2)), (50, .i .i64), (51, .r .i64 (0) (100))] := by rw [hmem]; unfold copy_h21; with_reducible rfl
      have e3 : h.ms = [uM2 49152 true false, tW, pR, wR] := by rw [hmem]; unfold copy_h21; with_reducible rfl
      have e4 : h.mu = (fun y => (2000 - y.n 91051).toNat) := by rw [hmem]; unfold copy_h21; with_reducible rfl
      have e5 : h.H = (fun y => (1 ≤ y.n 91051 ∧ y.n 91051 < y.n 91000) ∧ y.n 91050 = y.n 91000 ∧ y.b 91001 = false ∧ y.n 27 = 33619968 + y.n 91051 * 2 ∧ y.n 28 = 50462720 + y.n 91051 * 2 ∧ y.n 29 = y.n 91000 - y.n 91051 ∧ PLN 2 2 (y.n 91051).toNat (y.l 2) (y.l 3) (y.n 100000) (y.n 100001)) := by rw [hmem]; unfold copy_h21; with_reducible rfl
      rw [e3] at hy1
      rw [e2] at hy2
      rw [e5] at hy3
      rw [e1, e2, e3, e4]
      exact copy_q21 E n ch wd z hp y hy1 hy2 hy3
    · have e1 : h.td = (td1 E) := by rw [hmem]; unfold copy_h22; with_reducible rfl
      have e2 : h.fs = [(0, .r .i64 (1) (100)), (1, .b), (2, .c (.i true .i64 3)), (7, .c (.p 0 0)), (8, .c (.p 1 0)), (9, .c (.i true .u16 50176)), (10, .c (.i true .i64 4)), (50, .i .i64), (51, .r .i64 (0) (100))] := by rw [hmem]; unfold copy_h22; with_reducible rfl
      have e3 : h.ms = [uM3 50176 true false, tW, pR, wR] := by rw [hmem]; unfold copy_h22; with_reducible rfl
      have e4 : h.mu = (fun y => (2000 - y.n 91051).toNat) := by rw [hmem]; unfold copy_h22; with_reducible rfl
      have e5 : h.H = (fun y => (1 ≤ y.n 91051 ∧ y.n 91051 < y.n 91000) ∧ y.n 91050 = y.n 91000 ∧ y.b 91001 = true ∧ y.n 38 = 33619968 + y.n 91051 * 4 ∧ y.n 39 = 50462720 + y.n 91051 * 4 ∧ y.n 40 = y.n 91000 - y.n 91051 ∧ PLN 3 4 (y.n 91051).toNat (y.l 2) (y.l 3) (y.n 100000) (y.n 100001)) := by rw [hmem]; unfold copy_h22; with_reducible rfl
      rw [e3] at hy1
      rw [e2] at hy2
      rw [e5] at hy3
      rw [e1, e2, e3, e4]
      exact copy_q22 E n ch wd z hp y hy1 hy2 hy3
    · have e1 : h.td = (td1 E) := by rw [hmem]; unfold copy_h23; with_reducible rfl
      have e2 : h.fs = [(0, .r .i64 (1) (100)), (1, .b), (2, .c (.i true .i64 3)), (7, .c (.p 0 0)), (8, .c (.p 1 0)), (9, .c (.i true .u16 49152)), (10, .c (.i true .i64 2)), (50, .i .i64), (51, .r .i64 (0) (100))] := by rw [hmem]; unfold copy_h23; with_reducible rfl
      have e3 : h.ms = [uM3 49152 true false, tW, pR, wR] := by rw [hmem]; unfold copy_h23; with_reducible rfl
      have e4 : h.mu = (fun y => (2000 - y.n 91051).toNat) := by rw [hmem]; unfold copy_h23; with_reducible rfl
      have e5 : h.H = (fun y => (1 ≤ y.n 91051 ∧ y.n 91051 < y.n 91000) ∧ y.n 91050 = y.n 91000 ∧ y.b 91001 = false ∧ y.n 38 = 33619968 + y.n 91051 * 2 ∧ y.n 39 = 50462720 + y.n 91051 * 2 ∧ y.n 40 = y.n 91000 - y.n 91051 ∧ PLN 3 2 (y.n 91051).toNat (y.l 2) (y.l 3) (y.n 100000) (y.n 100001)) := by rw [hmem]; unfold copy_h23; with_reducible rfl
      rw [e3] at hy1
      rw [e2] at hy2
      rw [e5] at hy3
      rw [e1, e2, e3, e4]
      exact copy_q23 E n ch wd z hp y hy1 hy2 hy3
    · have e1 : h.td = (td1 E) := by rw [hmem]; unfold copy_h24; with_reducible rfl
      have e2 : h.fs = [(0, .r .i64 (1) (100)), (1, .b), (2, .c (.i true .i64 0)), (7, .c (.p 0 0)), (8, .c (.p 1 0)), (9, .c (.i true .u16 50176)), (10, .c (.i true .i64 4)), (50, .i .i64), (51, .r .i64 (0) (100))] := by rw [hmem]; unfold copy_h24; with_reducible rfl
      have e3 : h.ms = [uM0 17408 false false, tW, pR, wR] := by rw [hmem]; unfold copy_h24; with_reducible rfl
      have e4 : h.mu = (fun y => (2000 - y.n 91051).toNat) := by rw [hmem]; unfold copy_h24; with_reducible rfl
      have e5 : h.H = (fun y => y.n 91051 = y.n 91000 ∧ y.n 91050 = y.n 91000 ∧ y.b 91001 = true ∧ PLN 0 4 (y.n 91051).toNat (y.l 2) (y.l 3) (y.n 100000) (y.n 100001)) := by rw [hmem]; unfold copy_h24; with_reducible rfl
      rw [e3] at hy1
      rw [e2] at hy2
      rw [e5] at hy3
      rw [e1, e2, e3, e4]
      exact copy_q24 E n ch wd z hp y hy1 hy2 hy3
    · have e1 : h.td = (td1 E) := by rw [hmem]; unfold copy_h25; with_reducible rfl
      have e2 : h.fs = [(0, .r .i64 (1) (100)), (1, .b), (2, .c (.i true .i64 0)), (7, .c (.p 0 0)), (8, .c (.p 1 0)), (9, .c (.i true .u16 49152)), (10, .c (.i true .i64 2)), (50, .i .i64), (51, .r .i64 (0) (100))] := by rw [hmem]; unfold copy_h25; with_reducible rfl
      have e3 : h.ms = [uM0 16384 false false, tW, pR, wR] := by rw [hmem]; unfold copy_h25; with_reducible rfl
      have e4 : h.mu = (fun y => (2000 - y.n 91051).toNat) := by rw [hmem]; unfold copy_h25; with_reducible rfl
      have e5 : h.H = (fun y => y.n 91051 = y.n 91000 ∧ y.n 91050 = y.n 91000 ∧ y.b 91001 = false ∧ PLN 0 2 (y.n 91051).toNat (y.l 2) (y.l 3) (y.n 100000) (y.n 100001)) := by rw [hmem]; unfold copy_h25; with_reducible rfl
      rw [e3] at hy1
      rw [e2] at hy2
      rw [e5] at hy3
      rw [e1, e2, e3, e4]
      exact copy_q25 E n ch wd z hp y hy1 hy2 hy3
    · have e1 : h.td = (td1 E) := by rw [hmem]; unfold copy_h26; with_reducible rfl
      have e2 : h.fs = [(0, .r .i64 (1) (100)), (1, .b), (2, .c (.i true .i64 1)), (7, .c (.p 0 0)), (8, .c (.p 1 0)), (9, .c (.i true .u16 50176)), (10, .c (.i true .i64 4)), (50, .i .i64), (51, .r .i64 (0) (100))] := by rw [hmem]; unfold copy_h26; with_reducible rfl
      have e3 : h.ms = [uM1 17408 false false, tW, pR, wR] := by rw [hmem]; unfold copy_h26; with_reducible rfl
      have e4 : h.mu = (fun y => (2000 - y.n 91051).toNat) := by rw [hmem]; unfold copy_h26; with_reducible rfl
      have e5 : h.H = (fun y => y.n 91051 = y.n 91000 ∧ y.n 91050 = y.n 91000 ∧ y.b 91001 = true ∧ PLN 1 4 (y.n 91051).toNat (y.l 2) (y.l 3) (y.n 100000) (y.n 100001)) := by rw [hmem]; unfold copy_h26; with_reducible rfl
      rw [e3] at hy1
      rw [e2] at hy2
      rw [e5] at hy3
      rw [e1, e2, e3, e4]
      exact copy_q26 E n ch wd z hp y hy1 hy2 hy3
    · have e1 : h.td = (td1 E) := by rw [hmem]; unfold copy_h27; with_reducible rfl
      have e2 : h.fs = [(0, .r .i64 (1) (100)), (1, .b), (2, .c (.i true .i64 1)), (7, .c (.p 0 0)), (8, .c (.p 1 0)), (9, .c (.i true .u16 49152)), (10, .c (.i true .i64 2)), (50, .i .i64), (51, .r .i64 (0) (100))] := by rw [hmem]; unfold copy_h27; with_reducible rfl
      have e3 : h.ms = [uM1 16384 false false, tW, pR, wR] := by rw [hmem]; unfold copy_h27; with_reducible rfl
      have e4 : h.mu = (fun y => (2000 - y.n 91051).toNat) := by rw [hmem]; unfold copy_h27; with_reducible rfl
      have e5 : h.H = (fun y => y.n 91051 = y.n 91000 ∧ y.n 91050 = y.n 91000 ∧ y.b 91001 = false ∧ PLN 1 2 (y.n 91051).toNat (y.l 2) (y.l 3) (y.n 100000) (y.n 100001)) := by rw [hmem]; unfold copy_h27; with_reducible rfl
      rw [e3] at hy1
      rw [e2] at hy2
      rw [e5] at hy3
      rw [e1, e2, e3, e4]
      exact copy_q27 E n ch wd z hp y hy1 hy2 hy3
    · have e1 : h.td = (td1 E) := by rw [hmem]; unfold copy_h28; with_reducible rfl
      have e2 : h.fs = [(0, .r .i64 (1) (100)), (1, .b), (2, .c (.i true .i64 2)), (7, .c (.p 0 0)), (8, .c (.p 1 0)), (9, .c (.i true .u16 50176)), (10, .c (.i true .i64 4)), (50, .i .i64), (51, .r .i64 (0) (100))] := by rw [hmem]; unfold copy_h28; with_reducible rfl
      have e3 : h.ms = [uM2 17408 false false, tW, pR, wR] := by rw [hmem]; unfold copy_h28; with_reducible rfl
      have e4 : h.mu = (fun y => (2000 - y.n 91051).toNat) := by rw [hmem]; unfold copy_h28; with_reducible rfl
      have e5 : h.H = (fun y => y.n 91051 = y.n 91000 ∧ y.n 91050 = y.n 91000 ∧ y.b 91001 = true ∧ PLN 2 4 (y.n 91051).toNat (y.l 2) (y.l 3) (y.n 100000) (y.n 100001)) := by rw [hmem]; unfold copy_h28; with_reducible rfl
      rw [e3] at hy1
      rw [e2] at hy2
      rw [e5] at hy3
      rw [e1, e2, e3, e4]
      exact copy_q28 E n ch wd z hp y hy1 hy2 hy3
    · have e1 : h.td = (td1 E) := by rw [hmem]; unfold copy_h29; with_reducible rfl
      have e2 : h.fs = [(0, .r .i64 (1) (100)), (1, .b), (2, .c (.i true .i64 2)), (7, .c (.p 0 0)), (8, .c (.p 1 0)), (9, .c (.i true .u16 49152)), (10, .c (.i true .i64 2)), (50, .i .i64), (51, .r .i64 (0) (100))] := by rw [hmem]; unfold copy_h29; with_reducible rfl
      have e3 : h.ms = [uM2 16384 false false, tW, pR, wR] := by rw [hmem]; unfold copy_h29; with_reducible rfl
      have e4 : h.mu = (fun y => (2000 - y.n 91051).toNat) := by rw [hmem]; unfold copy_h29; with_reducible rfl
      have e5 : h.H = (fun y => y.n 91051 = y.n 91000 ∧ y.n 91050 = y.n 91000 ∧ y.b 91001 = false ∧ PLN 2 2 (y.n 91051).toNat (y.l 2) (y.l 3) (y.n 100000) (y.n 100001)) := by rw [hmem]; unfold copy_h29; with_reducible rfl
      rw [e3] at hy1
      rw [e2] at hy2
      rw [e5] at hy3
      rw [e1, e2, e3, e4]
      exact copy_q29 E n ch wd z hp y hy1 hy2 hy3
    · have e1 : h.td = (td1 E) := by rw [hmem]; unfold copy_h30; with_reducible rfl
      have e2 : h.fs = [(0, .r .i64 (1) (100)), (1, .b), (2, .c (.i true .i64 3)), (7, .c (.p 0 0)), (8, .c (.p 1 0)), (9, .c (.i true .u16 50176)), (10, .c (.i true .i64 4)), (50, .i .i64), (51, .r .i64 (0) (100))] := by rw [hmem]; unfold copy_h30; with_reducible rfl
      have e3 : h.ms = [uM3 17408 false false, tW, pR, wR] := by rw [hmem]; unfold copy_h30; with_reducible rfl
      have e4 : h.mu = (fun y => (2000 - y.n 91051).toNat) := by rw [hmem]; unfold copy_h30; with_reducible rfl
      have e5 : h.H = (fun y => y.n 91051 = y.n 91000 ∧ y.n 91050 = y.n 91000 ∧ y.b 91001 = true ∧ PLN 3 4 (y.n 91051).toNat (y.l 2) (y.l 3) (y.n 100000) (y.n 100001)) := by rw [hmem]; unfold copy_h30; with_reducible rfl
      rw [e3] at hy1
      rw [e2] at hy2
      rw [e5] at hy3
      rw [e1, e2, e3, e4]
      exact copy_q30 E n ch wd z hp y hy1 hy2 hy3
    · have e1 : h.td = (td1 E) := by rw [hmem]; unfold copy_h31; with_reducible rfl
      have e2 : h.fs = [(0, .r .i64 (1) (100)), (1, .b), (2, .c (.i true .i64 3)), (7, .c (.p 0 0)), (8, .c (.p 1 0)), (9, .c (.i true .u16 49152)), (10, .c (.i true .i64 2)), (50, .i .i64), (51, .r .i64 (0) (100))] := by rw [hmem]; unfold copy_h31; with_reducible rfl
      have e3 : h.ms = [uM3 16384 false false, tW, pR, wR] := by rw [hmem]; unfold copy_h31; with_reducible rfl
      have e4 : h.mu = (fun y => (2000 - y.n 91051).toNat) := by rw [hmem]; unfold copy_h31; with_reducible rfl
      have e5 : h.H = (fun y => y.n 91051 = y.n 91000 ∧ y.n 91050 = y.n 91000 ∧ y.b 91001 = false ∧ PLN 3 2 (y.n 91051).toNat (y.l 2) (y.l 3) (y.n 100000) (y.n 100001)) := by rw [hmem]; unfold copy_h31; with_reducible rfl
      rw [e3] at hy1
      rw [e2] at hy2
      rw [e5] at hy3
      rw [e1, e2, e3, e4]
      exact copy_q31 E n ch wd z hp y hy1 hy2 hy3
end Go.Proofs.Ytpddbhfebhpohaa

