import Derived.Test.YtpddbhfebhpohaaY
import Derived.Test.YtpddbhfebhpohaaZ
import Derived.Test.YtpddbhfebhpohaaO
set_option linter.unusedVariables false
set_option linter.unusedSimpArgs false
namespace Go.Proofs.Ytpddbhfebhpohaa
open Go Go.Proofs Go.Proofs.Ytpddbhfebhpohaa.Ev Go.Proofs.Ytpddbhfebhpohaa.Ev.Ho
set_option maxRecDepth 100000
set_option maxHeartbeats 8000000 in
theorem first_c (E : World) (a : Option Addr) (n c : Nat) (low high : Int) (z : PX) (hz : rgM z [] 0) (hp : (fun _ => n ≤ maxLen ∧ (a = none → n = 0) ∧ ∀ j, j < n → eRow E a (j * 6) [.i .i64, .i .i64, .i .i64, .i .u16, .i .i64, .i .u32] = true) z) : HD (pe E) 4 [.c (.es a n c), .c (.i false .i64 low), .c (.i false .i64 high)] [] [] (.c .b) (fun _ y => y.b 90000 = true) z := by
  refine HD.loop (P := pe E) orcL_ok tab_ok tab_sz mixed Try.func4 (c := Try.f4.body.getD .skip) rfl (by decide) (Nat.le_of_ble_eq_true rfl) (by rfl) 20000 (2 ^ 200 - 1) (first_hs E a n c low high z) (by rfl) (loopP_lfH ⟨?_⟩) ?_
  · exact first_pt E a n c low high z
  · intro h hmem y hy1 hy2 hy3
    simp only [first_hs, List.mem_cons, List.not_mem_nil, or_false] at hmem
    rcases hmem with hmem | hmem | hmem | hmem | hmem | hmem
    · have e1 : h.td = (law_td E) := by rw [hmem]; unfold first_h0; with_reducible rfl
      have e2 : h.fs = [(1, .r .i64 (0) (3)), (2, .r .i64 (0) (3)), (7, .c (.p 0 0)), (8, .c (.p 1 0)), (9, .c (.p 2 0)), (48, .q (.es a n c)), (49, .q (.i false .i64 n)), (50, .r .i64 (0) (100))] := by rw [hmem]; unfold first_h0; with_reducible rfl
      have e3 : h.ms = [uB, rB, tN] := by rw [hmem]; unfold first_h0; with_reducible rfl
      have e4 : h.mu = (fun y => (10 + ((n : Int) - y.n 91050)).toNat) := by rw [hmem]; unfold first_h0; with_reducible rfl
      have e5 : h.H = (fun y => EQ (U4.mk (Ch.mk (y.n 1) (y.n 2) (y.n 3) (y.n 4) (y.n 5) (y.n 6) (y.n 7) (y.b 8) (y.b 9) (y.n 10)) (Ch.mk (y.n 12) (y.n 13) (y.n 14) (y.n 15) (y.n 16) (y.n 17) (y.n 18) (y.b 19) (y.b 20) (y.n 21)) (Ch.mk (y.n 23) (y.n 24) (y.n 25) (y.n 26) (y.n 27) (y.n 28) (y.n 29) (y.b 30) (y.b 31) (y.n 32)) (Ch.mk (y.n 34) (y.n 35) (y.n 36) (y.n 37) (y.n 38) (y.n 39) (y.n 40) (y.b 41) (y.b 42) (y.n 43))) (U4.mk (Ch.mk (y.n 100000) (y.n 100001) (y.n 100002) (y.n 100003) (y.n 100004) (y.n 100005) (y.n 100006) (y.b 100007) (y.b 100008) (y.n 100009)) (Ch.mk (y.n 100010) (y.n 100011) (y.n 100012) (y.n 100013) (y.n 100014) (y.n 100015) (y.n 100016) (y.b 100017) (y.b 100018) (y.n 100019)) (Ch.mk (y.n 100020) (y.n 100021) (y.n 100022) (y.n 100023) (y.n 100024) (y.n 100025) (y.n 100026) (y.b 100027) (y.b 100028) (y.n 100029)) (Ch.mk (y.n 100030) (y.n 100031) (y.n 100032) (y.n 100033) (y.n 100034) (y.n 100035) (y.n 100036) (y.b 100037) (y.b 100038) (y.n 100039))) ∧ y.n 91001 < y.n 91002 ∧ y.n 91050 ≤ (n : Int) ∧ n ≤ 100) := by rw [hmem]; unfold first_h0; with_reducible rfl
      rw [e3] at hy1
      rw [e2] at hy2
      rw [e5] at hy3
      rw [e1, e2, e3, e4]
      exact first_q0 E a n c low high z hp y hy1 hy2 hy3
    · have e1 : h.td = (law2_td E) := by rw [hmem]; unfold first_h1; with_reducible rfl
      have e2 : h.fs = [(1, .r .i64 (0) (3)), (2, .r .i64 (0) (3)), (7, .c (.p 0 0)), (9, .c (.p 1 0)), (66, .c (.i true .i64 0))] := by rw [hmem]; unfold first_h1; with_reducible rfl
      have e3 : h.ms = [uB, tN] := by rw [hmem]; unfold first_h1; with_reducible rfl
      have e4 : h.mu = (fun _ => 5) := by rw [hmem]; unfold first_h1; with_reducible rfl
      have e5 : h.H = (fun y => y.n 91001 < y.n 91002 ∧ of0 (U4.mk (Ch.mk (y.n 1) (y.n 2) (y.n 3) (y.n 4) (y.n 5) (y.n 6) (y.n 7) (y.b 8) (y.b 9) (y.n 10)) (Ch.mk (y.n 12) (y.n 13) (y.n 14) (y.n 15) (y.n 16) (y.n 17) (y.n 18) (y.b 19) (y.b 20) (y.n 21)) (Ch.mk (y.n 23) (y.n 24) (y.n 25) (y.n 26) (y.n 27) (y.n 28) (y.n 29) (y.b 30) (y.b 31) (y.n 32)) (Ch.mk (y.n 34) (y.n 35) (y.n 36) (y.n 37) (y.n 38) (y.n 39) (y.n 40) (y.b 41) (y.b 42) (y.n 43)))) := by rw [hmem]; unfold first_h1; with_reducible rfl
      rw [e3] at hy1
      rw [e2] at hy2
      rw [e5] at hy3
      rw [e1, e2, e3, e4]
      exact first_q1 E a n c low high z hp y hy1 hy2 hy3
    · have e1 : h.td = (law2_td E) := by rw [hmem]; unfold first_h2; with_reducible rfl
      have e2 : h.fs = [(1, .r .i64 (0) (3)), (2, .r .i64 (0) (3)), (7, .c (.p 0 0)), (9, .c (.p 1 0)), (66, .c (.i true .i64 1))] := by rw [hmem]; unfold first_h2; with_reducible rfl
      have e3 : h.ms = [uB, tN] := by rw [hmem]; unfold first_h2; with_reducible rfl
      have e4 : h.mu = (fun _ => 4) := by rw [hmem]; unfold first_h2; with_reducible rfl
      have e5 : h.H = (fun y => y.n 91001 < y.n 91002 ∧ of1 (U4.mk (Ch.mk (y.n 1) (y.n 2) (y.n 3) (y.n 4) (y.n 5) (y.n 6) (y.n 7) (y.b 8) (y.b 9) (y.n 10)) (Ch.mk (y.n 12) (y.n 13) (y.n 14) (y.n 15) (y.n 16) (y.n 17) (y.n 18) (y.b 19) (y.b 20) (y.n 21)) (Ch.mk (y.n 23) (y.n 24) (y.n 25) (y.n 26) (y.n 27) (y.n 28) (y.n 29) (y.b 30) (y.b 31) (y.n 32)) (Ch.mk (y.n 34) (y.n 35) (y.n 36) (y.n 37) (y.n 38) (y.n 39) (y.n 40) (y.b 41) (y.b 42) (y.n 43)))) := by rw [hmem]; unfold first_h2; with_reducible rfl
      rw [e3] at hy1
      rw [e2] at hy2
      rw [e5] at hy3
      rw [e1, e2, e3, e4]
      exact first_q2 E a n c low high z hp y hy1 hy2 hy3
    · have e1 : h.td = (law2_td E) := by rw [hmem]; unfold first_h3; with_reducible rfl
      have e2 : h.fs = [(1, .r .i64 (0) (3)), (2, .r .i64 (0) (3)), (7, .c (.p 0 0)), (9, .c (.p 1 0)), (66, .c (.i true .i64 2))] := by rw [hmem]; unfold first_h3; with_reducible rfl
      have e3 : h.ms = [uB, tN] := by rw [hmem]; unfold first_h3; with_reducible rfl
      have e4 : h.mu = (fun _ => 3) := by rw [hmem]; unfold first_h3; with_reducible rfl
      have e5 : h.H = (fun y => y.n 91001 < y.n 91002 ∧ of2 (U4.mk (Ch.mk (y.n 1) (y.n 2) (y.n 3) (y.n 4) (y.n 5) (y.n 6) (y.n 7) (y.b 8) (y.b 9) (y.n 10)) (Ch.mk (y.n 12) (y.n 13) (y.n 14) (y.n 15) (y.n 16) (y.n 17) (y.n 18) (y.b 19) (y.b 20) (y.n 21)) (Ch.mk (y.n 23) (y.n 24) (y.n 25) (y.n 26) (y.n 27) (y.n 28) (y.n 29) (y.b 30) (y.b 31) (y.n 32)) (Ch.mk (y.n 34) (y.n 35) (y.n 36) (y.n 37) (y.n 38) (y.n 39) (y.n 40) (y.b 41) (y.b 42) (y.n 43)))) := by rw [hmem]; unfold first_h3; with_reducible rfl
      rw [e3] at hy1
      rw [e2] at hy2
      rw [e5] at hy3
      rw [e1, e2, e3, e4]
      exact first_q3 E a n c low high z hp y hy1 hy2 hy3
    · have e1 : h.td = (law2_td E) := by rw [hmem]; unfold first_h4; with_reducible rfl
      have e2 : h.fs = [(1, .r .i64 (0) (3)), (2, .r .i64 (0) (3)), (7, .c (.p 0 0)), (9, .c (.p 1 0)), (66, .c (.i true .i64 3))] := by rw [hmem]; unfold first_h4; with_reducible rfl
      have e3 : h.ms = [uB, tN] := by rw [hmem]; unfold first_h4; with_reducible rfl
      have e4 : h.mu = (fun _ => 2) := by rw [hmem]; unfold first_h4; with_reducible rfl
      have e5 : h.H = (fun y => y.n 91001 < y.n 91002 ∧ of3 (U4.mk (Ch.mk (y.n 1) (y.n 2) (y.n 3) (y.n 4) (y.n 5) (y.n 6) (y.n 7) (y.b 8) (y.b 9) (y.n 10)) (Ch.mk (y.n 12) (y.n 13) (y.n 14) (y.n 15) (y.n 16) (y.n 17) (y.n 18) (y.b 19) (y.b 20) (y.n 21)) (Ch.mk (y.n 23) (y.n 24) (y.n 25) (y.n 26) (y.n 27) (y.n 28) (y.n 29) (y.b 30) (y.b 31) (y.n 32)) (Ch.mk (y.n 34) (y.n 35) (y.n 36) (y.n 37) (y.n 38) (y.n 39) (y.n 40) (y.b 41) (y.b 42) (y.n 43)))) := by rw [hmem]; unfold first_h4; with_reducible rfl
      rw [e3] at hy1
      rw [e2] at hy2
      rw [e5] at hy3
      rw [e1, e2, e3, e4]
      exact first_q4 E a n c low high z hp y hy1 hy2 hy3
    · have e1 : h.td = (law2_td E) := by rw [hmem]; unfold first_h5; with_reducible rfl
      have e2 : h.fs = [(1, .r .i64 (0) (3)), (2, .r .i64 (0) (3)), (7, .c (.p 0 0)), (9, .c (.p 1 0)), (66, .c (.i true .i64 4))] := by rw [hmem]; unfold first_h5; with_reducible rfl
      have e3 : h.ms = [uB, tN] := by rw [hmem]; unfold first_h5; with_reducible rfl
      have e4 : h.mu = (fun _ => 1) := by rw [hmem]; unfold first_h5; with_reducible rfl
      have e5 : h.H = (fun y => y.n 91001 < y.n 91002 ∧ of4 (U4.mk (Ch.mk (y.n 1) (y.n 2) (y.n 3) (y.n 4) (y.n 5) (y.n 6) (y.n 7) (y.b 8) (y.b 9) (y.n 10)) (Ch.mk (y.n 12) (y.n 13) (y.n 14) (y.n 15) (y.n 16) (y.n 17) (y.n 18) (y.b 19) (y.b 20) (y.n 21)) (Ch.mk (y.n 23) (y.n 24) (y.n 25) (y.n 26) (y.n 27) (y.n 28) (y.n 29) (y.b 30) (y.b 31) (y.n 32)) (Ch.mk (y.n 34) (y.n 35) (y.n 36) (y.n 37) (y.n 38) (y.n 39) (y.n 40) (y.b 41) (y.b 42) (y.n 43)))) := by rw [hmem]; unfold first_h5; with_reducible rfl
      rw [e3] at hy1
      rw [e2] at hy2
      rw [e5] at hy3
      rw [e1, e2, e3, e4]
      exact first_q5 E a n c low high z hp y hy1 hy2 hy3
end Go.Proofs.Ytpddbhfebhpohaa

