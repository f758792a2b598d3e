import Derived.Test.YthgcieloijmgdaaUpro
import Derived.Test.YthgcieloijmgdaaU1aq
import Derived.Test.YthgcieloijmgdaaSafq
import Derived.Test.YthgcieloijmgdaaSatq
import Derived.Test.YthgcieloijmgdaaU3aq
import Derived.Test.YthgcieloijmgdaaU1bq
import Derived.Test.YthgcieloijmgdaaSbfq
import Derived.Test.YthgcieloijmgdaaSbtq
import Derived.Test.YthgcieloijmgdaaU3bq
set_option linter.unusedVariables false
set_option linter.unusedSimpArgs false
namespace Go.Proofs.Ythgcieloijmgdaa
open Go Go.Proofs Go.Proofs.Ythgcieloijmgdaa.Ev Go.Proofs.Ythgcieloijmgdaa.Ev.Ho
set_option maxRecDepth 100000
set_option maxHeartbeats 8000000 in
theorem law_c (E : World) (g : Bool) (sd : Int) (z : PX) (hz : rgM z [] 0) (hp : (fun _ => 0 ≤ sd ∧ sd ≤ 4294967295) z) : HD (pe E) 6 [.c (.b false g), .c (.i false .u32 sd)] [] [] (.c .b) (fun z y => y.b 90000 = true) z := by
  refine HD.loop (P := pe E) orcA_ok tab_ok tab_sz mixed Try.func6 (c := Try.f6.body.getD .skip) rfl (by decide) (Nat.le_of_ble_eq_true rfl) (by rfl) 20000 (2 ^ 2 + 2 ^ 6) (law_hs E g sd z) (by rfl) (loopP_lfH ⟨?_⟩) ?_
  · rw [law_pro]
    have rr : ∀ n : Nat, Row [.r .u8 0 255] (rRep [.i true .u8 0] n) := fun n => by
      refine ⟨Nat.mod_one _, fun p c hc => ?_⟩
      have hm := List.mem_of_getElem? hc
      unfold rRep at hm
      simp at hm
      obtain ⟨w, _, hw⟩ := hm
      rw [Nat.mod_one] at hw
      have hw2 : C.i true .u8 0 = c := hw
      subst hw2
      exact ⟨.r .u8 0 255, by simp [Nat.mod_one], ⟨(by omega : (0 : Int) ≤ 0 ∧ (0 : Int) ≤ 255), trivial⟩⟩
    have r1 : Row [.r .u8 0 255] (rRep [.i true .u8 0] 8192) := rr _
    have r2 : Row [.r .u8 0 255] (rRep [.i true .u8 0] 512) := rr _
    have n1 : Ln (rRep [.i true .u8 0] 8192) 8192 := ⟨by rw [len_rep]; rfl⟩
    have n2 : Ln (rRep [.i true .u8 0] 512) 512 := ⟨by rw [len_rep]; rfl⟩
    have hf : flat [Sp.r .u8 0 255] = true := rfl
    refine ⟨fun _ => ?_, fun _ => ?_⟩ <;> (repeat' (first | exact trivial | with_reducible rfl | assumption | exact hp.1 | exact hp.2 | exact decide_eq_true (by omega) | exact rfl | apply And.intro)) <;> omega
  · intro h hmem y hy1 hy2 hy3
    simp only [law_hs, List.mem_cons, List.not_mem_nil, or_false] at hmem
    rcases hmem with hmem | hmem | hmem | hmem | hmem | hmem | hmem | hmem
    · have e1 : h.td = (t1a_td E) := by rw [hmem]; unfold law_h0; with_reducible rfl
      have e2 : h.fs = [(1, .r .u32 (0) (4294967295)), (5, .c (.i true .i64 14)), (6, .c (.i true .i64 8192)), (7, .q (.rs 0 1 8192)), (25, .q (.i false .i64 8192)), (26, .r .i64 (0) (8192))] := by rw [hmem]; unfold law_h0; with_reducible rfl
      have e3 : h.ms = [rowB] := by rw [hmem]; unfold law_h0; with_reducible rfl
      have e4 : h.mu = (fun y => (20000 - y.n 91026).toNat + 300000) := by rw [hmem]; unfold law_h0; with_reducible rfl
      have e5 : h.H = (fun y => Ln (y.l 0) 8192 ∧ True) := by rw [hmem]; unfold law_h0; with_reducible rfl
      rw [e3] at hy1
      rw [e2] at hy2
      rw [e5] at hy3
      rw [e1, e2, e3, e4]
      exact law_q0 E g sd z hp y hy1 hy2 hy3
    · have e1 : h.td = (t2a_td E) := by rw [hmem]; unfold law_h1; with_reducible rfl
      have e2 : h.fs = [(5, .c (.i true .i64 14)), (6, .c (.i true .i64 8192)), (7, .q (.rs 0 1 8192)), (9, .c (.p 1 0)), (11, .r .i64 (0) (1029))] := by rw [hmem]; unfold law_h1; with_reducible rfl
      have e3 : h.ms = [rowB, mC 14 false] := by rw [hmem]; unfold law_h1; with_reducible rfl
      have e4 : h.mu = (fun y => ((2000 - y.n 91011) * 100 + 90).toNat) := by rw [hmem]; unfold law_h1; with_reducible rfl
      have e5 : h.H = (fun y => (Ln (y.l 0) 8192 ∧ EqT (y.s 100000) (y.l 0) 8192) ∧ y.n 91011 ≤ 1028) := by rw [hmem]; unfold law_h1; with_reducible rfl
      rw [e3] at hy1
      rw [e2] at hy2
      rw [e5] at hy3
      rw [e1, e2, e3, e4]
      exact law_q1 E g sd z hp y hy1 hy2 hy3
    · have e1 : h.td = (t2a_td E) := by rw [hmem]; unfold law_h2; with_reducible rfl
      have e2 : h.fs = [(5, .c (.i true .i64 14)), (6, .c (.i true .i64 8192)), (7, .q (.rs 0 1 8192)), (9, .c (.p 1 0)), (11, .r .i64 (0) (1029))] := by rw [hmem]; unfold law_h2; with_reducible rfl
      have e3 : h.ms = [rowB, mC 14 true] := by rw [hmem]; unfold law_h2; with_reducible rfl
      have e4 : h.mu = (fun y => ((2000 - y.n 91011) * 100 + 90).toNat) := by rw [hmem]; unfold law_h2; with_reducible rfl
      have e5 : h.H = (fun y => (Ln (y.l 0) 8192 ∧ EqT (y.s 100000) (y.l 0) 8192) ∧ y.n 91011 ≤ 1028) := by rw [hmem]; unfold law_h2; with_reducible rfl
      rw [e3] at hy1
      rw [e2] at hy2
      rw [e5] at hy3
      rw [e1, e2, e3, e4]
      exact law_q2 E g sd z hp y hy1 hy2 hy3
    · have e1 : h.td = (t3a_td E) := by rw [hmem]; unfold law_h3; with_reducible rfl
      have e2 : h.fs = [(5, .c (.i true .i64 14)), (6, .c (.i true .i64 8192)), (7, .q (.rs 0 1 8192)), (9, .c (.p 1 0)), (11, .r .i64 (0) (1023)), (73, .r .i64 (0) (64))] := by rw [hmem]; unfold law_h3; with_reducible rfl
      have e3 : h.ms = [rowB, mC 14 true] := by rw [hmem]; unfold law_h3; with_reducible rfl
      have e4 : h.mu = (fun y => ((2000 - y.n 91011) * 100 + (64 - y.n 91073)).toNat) := by rw [hmem]; unfold law_h3; with_reducible rfl
      have e5 : h.H = (fun y => (Ln (y.l 0) 8192 ∧ EqT (y.s 100000) (y.l 0) 8192) ∧ O8 (y.n 100006) (y.l 0) (y.n 91011) ∧ y.n 100007 = 64 - y.n 91073) := by rw [hmem]; unfold law_h3; with_reducible rfl
      rw [e3] at hy1
      rw [e2] at hy2
      rw [e5] at hy3
      rw [e1, e2, e3, e4]
      exact law_q3 E g sd z hp y hy1 hy2 hy3
    · have e1 : h.td = (t1b_td E) := by rw [hmem]; unfold law_h4; with_reducible rfl
      have e2 : h.fs = [(1, .r .u32 (0) (4294967295)), (5, .c (.i true .i64 6)), (6, .c (.i true .i64 512)), (7, .q (.rs 0 1 512)), (25, .q (.i false .i64 512)), (26, .r .i64 (0) (512))] := by rw [hmem]; unfold law_h4; with_reducible rfl
      have e3 : h.ms = [rowB] := by rw [hmem]; unfold law_h4; with_reducible rfl
      have e4 : h.mu = (fun y => (20000 - y.n 91026).toNat + 300000) := by rw [hmem]; unfold law_h4; with_reducible rfl
      have e5 : h.H = (fun y => Ln (y.l 0) 512 ∧ True) := by rw [hmem]; unfold law_h4; with_reducible rfl
      rw [e3] at hy1
      rw [e2] at hy2
      rw [e5] at hy3
      rw [e1, e2, e3, e4]
      exact law_q4 E g sd z hp y hy1 hy2 hy3
    · have e1 : h.td = (t2b_td E) := by rw [hmem]; unfold law_h5; with_reducible rfl
      have e2 : h.fs = [(5, .c (.i true .i64 6)), (6, .c (.i true .i64 512)), (7, .q (.rs 0 1 512)), (9, .c (.p 1 0)), (11, .r .i64 (0) (69))] := by rw [hmem]; unfold law_h5; with_reducible rfl
      have e3 : h.ms = [rowB, mC 6 false] := by rw [hmem]; unfold law_h5; with_reducible rfl
      have e4 : h.mu = (fun y => ((2000 - y.n 91011) * 100 + 90).toNat) := by rw [hmem]; unfold law_h5; with_reducible rfl
      have e5 : h.H = (fun y => (Ln (y.l 0) 512 ∧ EqT (y.s 100000) (y.l 0) 512) ∧ y.n 91011 ≤ 64) := by rw [hmem]; unfold law_h5; with_reducible rfl
      rw [e3] at hy1
      rw [e2] at hy2
      rw [e5] at hy3
      rw [e1, e2, e3, e4]
      exact law_q5 E g sd z hp y hy1 hy2 hy3
    · have e1 : h.td = (t2b_td E) := by rw [hmem]; unfold law_h6; with_reducible rfl
      have e2 : h.fs = [(5, .c (.i true .i64 6)), (6, .c (.i true .i64 512)), (7, .q (.rs 0 1 512)), (9, .c (.p 1 0)), (11, .r .i64 (0) (69))] := by rw [hmem]; unfold law_h6; with_reducible rfl
      have e3 : h.ms = [rowB, mC 6 true] := by rw [hmem]; unfold law_h6; with_reducible rfl
      have e4 : h.mu = (fun y => ((2000 - y.n 91011) * 100 + 90).toNat) := by rw [hmem]; unfold law_h6; with_reducible rfl
      have e5 : h.H = (fun y => (Ln (y.l 0) 512 ∧ EqT (y.s 100000) (y.l 0) 512) ∧ y.n 91011 ≤ 64) := by rw [hmem]; unfold law_h6; with_reducible rfl
      rw [e3] at hy1
      rw [e2] at hy2
      rw [e5] at hy3
      rw [e1, e2, e3, e4]
      exact law_q6 E g sd z hp y hy1 hy2 hy3
    · have e1 : h.td = (t3b_td E) := by rw [hmem]; unfold law_h7; with_reducible rfl
      have e2 : h.fs = [(5, .c (.i true .i64 6)), (6, .c (.i true .i64 512)), (7, .q (.rs 0 1 512)), (9, .c (.p 1 0)), (11, .r .i64 (0) (63)), (73, .r .i64 (0) (64))] := by rw [hmem]; unfold law_h7; with_reducible rfl
      have e3 : h.ms = [rowB, mC 6 true] := by rw [hmem]; unfold law_h7; with_reducible rfl
      have e4 : h.mu = (fun y => ((2000 - y.n 91011) * 100 + (64 - y.n 91073)).toNat) := by rw [hmem]; unfold law_h7; with_reducible rfl
      have e5 : h.H = (fun y => (Ln (y.l 0) 512 ∧ EqT (y.s 100000) (y.l 0) 512) ∧ O8 (y.n 100006) (y.l 0) (y.n 91011) ∧ y.n 100007 = 64 - y.n 91073) := by rw [hmem]; unfold law_h7; with_reducible rfl
      rw [e3] at hy1
      rw [e2] at hy2
      rw [e5] at hy3
      rw [e1, e2, e3, e4]
      exact law_q7 E g sd z hp y hy1 hy2 hy3
end Go.Proofs.Ythgcieloijmgdaa
