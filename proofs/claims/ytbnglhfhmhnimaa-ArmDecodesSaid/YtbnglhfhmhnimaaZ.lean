import Derived.Test.YtbnglhfhmhnimaaXb
import Derived.Test.YtbnglhfhmhnimaaXc
import Derived.Test.YtbnglhfhmhnimaaXd
import Derived.Test.YtbnglhfhmhnimaaY
set_option linter.unusedVariables false
set_option linter.unusedSimpArgs false
namespace Go.Proofs.Ytbnglhfhmhnimaa
open Go Go.Proofs Go.Proofs.Ytbnglhfhmhnimaa.Ev
set_option maxRecDepth 100000
def okP (h : Int) : Nat → Bool
  | 0 => fits pt0 h
  | 1 => fits pt1 h
  | 2 => fits pt2 h
  | 3 => (fits pt3 h && !(fld pt3 h 72 == 0))
  | 4 => fits pt4 h
  | 5 => (fits pt5 h && !(fld pt5 h 72 == 0))
  | 6 => fits pt6 h
  | 7 => fits pt7 h
  | 8 => fits pt8 h
  | 9 => fits pt9 h
  | 10 => fits pt10 h
  | 11 => (fits pt11 h && !(bif bif decide (fld pt11 h 111 ≥ 8) then decide (fld pt11 h 111 ≤ 11) else false then !(fld pt11 h 70 == 1) else false))
  | 12 => (fits pt12 h && !(bif bif decide (fld pt12 h 111 ≥ 8) then decide (fld pt12 h 111 ≤ 11) else false then !(fld pt12 h 70 == 1) else false))
  | 13 => (fits pt13 h && !(bif bif decide (fld pt13 h 111 ≥ 8) then decide (fld pt13 h 111 ≤ 11) else false then !(fld pt13 h 70 == 1) else false))
  | 14 => fits pt14 h
  | 15 => fits pt15 h
  | 16 => fits pt16 h
  | 17 => fits pt17 h
  | 18 => fits pt18 h
  | _ => false
theorem rn_0 (E : World) (h : Int) (R : SV → Prop) (hno : fits pt0 h = false) : loopP (pe E) Try.f9 (fun v _ => R v) (fun todo fr s' => cond (memS s') (True ∧ todo = hd9 E ∧ fr.nt = Try.f9.ntmps ∧ refP fr (lv9 h 1)) False) (run (pe E) (orcT E) (tabL fns) 20000 (2^200-1) (hd9 E) (mkL Try.f9.ntmps (lv9 h 0)) sv9) := by
  rw [dec0]
  simp only [hno, sz_0, Bool.not_false, Bool.true_eq_false, false_implies, true_implies, true_and, and_true]
  repeat' first | exact rfl | exact trivial | apply And.intro | intro e
theorem rn_1 (E : World) (h : Int) (R : SV → Prop) (hno : fits pt1 h = false) : loopP (pe E) Try.f9 (fun v _ => R v) (fun todo fr s' => cond (memS s') (True ∧ todo = hd9 E ∧ fr.nt = Try.f9.ntmps ∧ refP fr (lv9 h 2)) False) (run (pe E) (orcT E) (tabL fns) 20000 (2^200-1) (hd9 E) (mkL Try.f9.ntmps (lv9 h 1)) sv9) := by
  rw [dec1]
  simp only [hno, sz_1, Bool.not_false, Bool.true_eq_false, false_implies, true_implies, true_and, and_true]
  repeat' first | exact rfl | exact trivial | apply And.intro | intro e
theorem rn_2 (E : World) (h : Int) (R : SV → Prop) (hno : fits pt2 h = false) : loopP (pe E) Try.f9 (fun v _ => R v) (fun todo fr s' => cond (memS s') (True ∧ todo = hd9 E ∧ fr.nt = Try.f9.ntmps ∧ refP fr (lv9 h 3)) False) (run (pe E) (orcT E) (tabL fns) 20000 (2^200-1) (hd9 E) (mkL Try.f9.ntmps (lv9 h 2)) sv9) := by
  rw [dec2]
  simp only [hno, sz_2, Bool.not_false, Bool.true_eq_false, false_implies, true_implies, true_and, and_true]
  repeat' first | exact rfl | exact trivial | apply And.intro | intro e
theorem rn_3 (E : World) (h : Int) (R : SV → Prop) (hno : (fits pt3 h && !(fld pt3 h 72 == 0)) = false) : loopP (pe E) Try.f9 (fun v _ => R v) (fun todo fr s' => cond (memS s') (True ∧ todo = hd9 E ∧ fr.nt = Try.f9.ntmps ∧ refP fr (lv9 h 4)) False) (run (pe E) (orcT E) (tabL fns) 20000 (2^200-1) (hd9 E) (mkL Try.f9.ntmps (lv9 h 3)) sv9) := by
  rw [dec3]
  cases hf : fits pt3 h
  · simp only [hf, sz_3, Bool.not_false, Bool.true_eq_false, false_implies, true_implies, true_and, and_true]
    repeat' first | exact rfl | exact trivial | apply And.intro | intro e
  · have hb : (fld pt3 h 72 == 0) = true := by
      rw [hf, Bool.true_and, Bool.not_eq_false'] at hno; exact hno
    simp only [hf, hb, sz_3, Bool.not_true, Bool.false_eq_true, Bool.true_eq_false, false_implies, true_implies, true_and, and_true]
    repeat' first | exact rfl | exact trivial | apply And.intro | intro e
theorem rn_4 (E : World) (h : Int) (R : SV → Prop) (hno : fits pt4 h = false) : loopP (pe E) Try.f9 (fun v _ => R v) (fun todo fr s' => cond (memS s') (True ∧ todo = hd9 E ∧ fr.nt = Try.f9.ntmps ∧ refP fr (lv9 h 5)) False) (run (pe E) (orcT E) (tabL fns) 20000 (2^200-1) (hd9 E) (mkL Try.f9.ntmps (lv9 h 4)) sv9) := by
  rw [dec4]
  simp only [hno, sz_4, Bool.not_false, Bool.true_eq_false, false_implies, true_implies, true_and, and_true]
  repeat' first | exact rfl | exact trivial | apply And.intro | intro e
theorem rn_5 (E : World) (h : Int) (R : SV → Prop) (hno : (fits pt5 h && !(fld pt5 h 72 == 0)) = false) : loopP (pe E) Try.f9 (fun v _ => R v) (fun todo fr s' => cond (memS s') (True ∧ todo = hd9 E ∧ fr.nt = Try.f9.ntmps ∧ refP fr (lv9 h 6)) False) (run (pe E) (orcT E) (tabL fns) 20000 (2^200-1) (hd9 E) (mkL Try.f9.ntmps (lv9 h 5)) sv9) := by
  rw [dec5]
  cases hf : fits pt5 h
  · simp only [hf, sz_5, Bool.not_false, Bool.true_eq_false, false_implies, true_implies, true_and, and_true]
    repeat' first | exact rfl | exact trivial | apply And.intro | intro e
  · have hb : (fld pt5 h 72 == 0) = true := by
      rw [hf, Bool.true_and, Bool.not_eq_false'] at hno; exact hno
    simp only [hf, hb, sz_5, Bool.not_true, Bool.false_eq_true, Bool.true_eq_false, false_implies, true_implies, true_and, and_true]
    repeat' first | exact rfl | exact trivial | apply And.intro | intro e
theorem rn_6 (E : World) (h : Int) (R : SV → Prop) (hno : fits pt6 h = false) : loopP (pe E) Try.f9 (fun v _ => R v) (fun todo fr s' => cond (memS s') (True ∧ todo = hd9 E ∧ fr.nt = Try.f9.ntmps ∧ refP fr (lv9 h 7)) False) (run (pe E) (orcT E) (tabL fns) 20000 (2^200-1) (hd9 E) (mkL Try.f9.ntmps (lv9 h 6)) sv9) := by
  rw [dec6]
  simp only [hno, sz_6, Bool.not_false, Bool.true_eq_false, false_implies, true_implies, true_and, and_true]
  repeat' first | exact rfl | exact trivial | apply And.intro | intro e
theorem rn_7 (E : World) (h : Int) (R : SV → Prop) (hno : fits pt7 h = false) : loopP (pe E) Try.f9 (fun v _ => R v) (fun todo fr s' => cond (memS s') (True ∧ todo = hd9 E ∧ fr.nt = Try.f9.ntmps ∧ refP fr (lv9 h 8)) False) (run (pe E) (orcT E) (tabL fns) 20000 (2^200-1) (hd9 E) (mkL Try.f9.ntmps (lv9 h 7)) sv9) := by
  rw [dec7]
  simp only [hno, sz_7, Bool.not_false, Bool.true_eq_false, false_implies, true_implies, true_and, and_true]
  repeat' first | exact rfl | exact trivial | apply And.intro | intro e
theorem rn_8 (E : World) (h : Int) (R : SV → Prop) (hno : fits pt8 h = false) : loopP (pe E) Try.f9 (fun v _ => R v) (fun todo fr s' => cond (memS s') (True ∧ todo = hd9 E ∧ fr.nt = Try.f9.ntmps ∧ refP fr (lv9 h 9)) False) (run (pe E) (orcT E) (tabL fns) 20000 (2^200-1) (hd9 E) (mkL Try.f9.ntmps (lv9 h 8)) sv9) := by
  rw [dec8]
  simp only [hno, sz_8, Bool.not_false, Bool.true_eq_false, false_implies, true_implies, true_and, and_true]
  repeat' first | exact rfl | exact trivial | apply And.intro | intro e
theorem rn_9 (E : World) (h : Int) (R : SV → Prop) (hno : fits pt9 h = false) : loopP (pe E) Try.f9 (fun v _ => R v) (fun todo fr s' => cond (memS s') (True ∧ todo = hd9 E ∧ fr.nt = Try.f9.ntmps ∧ refP fr (lv9 h 10)) False) (run (pe E) (orcT E) (tabL fns) 20000 (2^200-1) (hd9 E) (mkL Try.f9.ntmps (lv9 h 9)) sv9) := by
  rw [dec9]
  simp only [hno, sz_9, Bool.not_false, Bool.true_eq_false, false_implies, true_implies, true_and, and_true]
  repeat' first | exact rfl | exact trivial | apply And.intro | intro e
theorem rn_10 (E : World) (h : Int) (R : SV → Prop) (hno : fits pt10 h = false) : loopP (pe E) Try.f9 (fun v _ => R v) (fun todo fr s' => cond (memS s') (True ∧ todo = hd9 E ∧ fr.nt = Try.f9.ntmps ∧ refP fr (lv9 h 11)) False) (run (pe E) (orcT E) (tabL fns) 20000 (2^200-1) (hd9 E) (mkL Try.f9.ntmps (lv9 h 10)) sv9) := by
  rw [dec10]
  simp only [hno, sz_10, Bool.not_false, Bool.true_eq_false, false_implies, true_implies, true_and, and_true]
  repeat' first | exact rfl | exact trivial | apply And.intro | intro e
theorem rn_11 (E : World) (h : Int) (R : SV → Prop) (hno : (fits pt11 h && !(bif bif decide (fld pt11 h 111 ≥ 8) then decide (fld pt11 h 111 ≤ 11) else false then !(fld pt11 h 70 == 1) else false)) = false) : loopP (pe E) Try.f9 (fun v _ => R v) (fun todo fr s' => cond (memS s') (True ∧ todo = hd9 E ∧ fr.nt = Try.f9.ntmps ∧ refP fr (lv9 h 12)) False) (run (pe E) (orcT E) (tabL fns) 20000 (2^200-1) (hd9 E) (mkL Try.f9.ntmps (lv9 h 11)) sv9) := by
  rw [dec11]
  cases hf : fits pt11 h
  · simp only [hf, sz_11, Bool.not_false, Bool.true_eq_false, false_implies, true_implies, true_and, and_true]
    repeat' first | exact rfl | exact trivial | apply And.intro | intro e
  · have hb : (bif bif decide (fld pt11 h 111 ≥ 8) then decide (fld pt11 h 111 ≤ 11) else false then !(fld pt11 h 70 == 1) else false) = true := by
      rw [hf, Bool.true_and, Bool.not_eq_false'] at hno; exact hno
    simp only [hf, hb, sz_11, Bool.not_true, Bool.false_eq_true, Bool.true_eq_false, false_implies, true_implies, true_and, and_true]
    repeat' first | exact rfl | exact trivial | apply And.intro | intro e
theorem rn_12 (E : World) (h : Int) (R : SV → Prop) (hno : (fits pt12 h && !(bif bif decide (fld pt12 h 111 ≥ 8) then decide (fld pt12 h 111 ≤ 11) else false then !(fld pt12 h 70 == 1) else false)) = false) : loopP (pe E) Try.f9 (fun v _ => R v) (fun todo fr s' => cond (memS s') (True ∧ todo = hd9 E ∧ fr.nt = Try.f9.ntmps ∧ refP fr (lv9 h 13)) False) (run (pe E) (orcT E) (tabL fns) 20000 (2^200-1) (hd9 E) (mkL Try.f9.ntmps (lv9 h 12)) sv9) := by
  rw [dec12]
  cases hf : fits pt12 h
  · simp only [hf, sz_12, Bool.not_false, Bool.true_eq_false, false_implies, true_implies, true_and, and_true]
    repeat' first | exact rfl | exact trivial | apply And.intro | intro e
  · have hb : (bif bif decide (fld pt12 h 111 ≥ 8) then decide (fld pt12 h 111 ≤ 11) else false then !(fld pt12 h 70 == 1) else false) = true := by
      rw [hf, Bool.true_and, Bool.not_eq_false'] at hno; exact hno
    simp only [hf, hb, sz_12, Bool.not_true, Bool.false_eq_true, Bool.true_eq_false, false_implies, true_implies, true_and, and_true]
    repeat' first | exact rfl | exact trivial | apply And.intro | intro e
theorem rn_13 (E : World) (h : Int) (R : SV → Prop) (hno : (fits pt13 h && !(bif bif decide (fld pt13 h 111 ≥ 8) then decide (fld pt13 h 111 ≤ 11) else false then !(fld pt13 h 70 == 1) else false)) = false) : loopP (pe E) Try.f9 (fun v _ => R v) (fun todo fr s' => cond (memS s') (True ∧ todo = hd9 E ∧ fr.nt = Try.f9.ntmps ∧ refP fr (lv9 h 14)) False) (run (pe E) (orcT E) (tabL fns) 20000 (2^200-1) (hd9 E) (mkL Try.f9.ntmps (lv9 h 13)) sv9) := by
  rw [dec13]
  cases hf : fits pt13 h
  · simp only [hf, sz_13, Bool.not_false, Bool.true_eq_false, false_implies, true_implies, true_and, and_true]
    repeat' first | exact rfl | exact trivial | apply And.intro | intro e
  · have hb : (bif bif decide (fld pt13 h 111 ≥ 8) then decide (fld pt13 h 111 ≤ 11) else false then !(fld pt13 h 70 == 1) else false) = true := by
      rw [hf, Bool.true_and, Bool.not_eq_false'] at hno; exact hno
    simp only [hf, hb, sz_13, Bool.not_true, Bool.false_eq_true, Bool.true_eq_false, false_implies, true_implies, true_and, and_true]
    repeat' first | exact rfl | exact trivial | apply And.intro | intro e
theorem rn_14 (E : World) (h : Int) (R : SV → Prop) (hno : fits pt14 h = false) : loopP (pe E) Try.f9 (fun v _ => R v) (fun todo fr s' => cond (memS s') (True ∧ todo = hd9 E ∧ fr.nt = Try.f9.ntmps ∧ refP fr (lv9 h 15)) False) (run (pe E) (orcT E) (tabL fns) 20000 (2^200-1) (hd9 E) (mkL Try.f9.ntmps (lv9 h 14)) sv9) := by
  rw [dec14]
  simp only [hno, sz_14, Bool.not_false, Bool.true_eq_false, false_implies, true_implies, true_and, and_true]
  repeat' first | exact rfl | exact trivial | apply And.intro | intro e
theorem rn_15 (E : World) (h : Int) (R : SV → Prop) (hno : fits pt15 h = false) : loopP (pe E) Try.f9 (fun v _ => R v) (fun todo fr s' => cond (memS s') (True ∧ todo = hd9 E ∧ fr.nt = Try.f9.ntmps ∧ refP fr (lv9 h 16)) False) (run (pe E) (orcT E) (tabL fns) 20000 (2^200-1) (hd9 E) (mkL Try.f9.ntmps (lv9 h 15)) sv9) := by
  rw [dec15]
  simp only [hno, sz_15, Bool.not_false, Bool.true_eq_false, false_implies, true_implies, true_and, and_true]
  repeat' first | exact rfl | exact trivial | apply And.intro | intro e
theorem rn_16 (E : World) (h : Int) (R : SV → Prop) (hno : fits pt16 h = false) : loopP (pe E) Try.f9 (fun v _ => R v) (fun todo fr s' => cond (memS s') (True ∧ todo = hd9 E ∧ fr.nt = Try.f9.ntmps ∧ refP fr (lv9 h 17)) False) (run (pe E) (orcT E) (tabL fns) 20000 (2^200-1) (hd9 E) (mkL Try.f9.ntmps (lv9 h 16)) sv9) := by
  rw [dec16]
  simp only [hno, sz_16, Bool.not_false, Bool.true_eq_false, false_implies, true_implies, true_and, and_true]
  repeat' first | exact rfl | exact trivial | apply And.intro | intro e
theorem rn_17 (E : World) (h : Int) (R : SV → Prop) (hno : fits pt17 h = false) : loopP (pe E) Try.f9 (fun v _ => R v) (fun todo fr s' => cond (memS s') (True ∧ todo = hd9 E ∧ fr.nt = Try.f9.ntmps ∧ refP fr (lv9 h 18)) False) (run (pe E) (orcT E) (tabL fns) 20000 (2^200-1) (hd9 E) (mkL Try.f9.ntmps (lv9 h 17)) sv9) := by
  rw [dec17]
  simp only [hno, sz_17, Bool.not_false, Bool.true_eq_false, false_implies, true_implies, true_and, and_true]
  repeat' first | exact rfl | exact trivial | apply And.intro | intro e
theorem rn_18 (E : World) (h : Int) (R : SV → Prop) (hno : fits pt18 h = false) : loopP (pe E) Try.f9 (fun v _ => R v) (fun todo fr s' => cond (memS s') (True ∧ todo = hd9 E ∧ fr.nt = Try.f9.ntmps ∧ refP fr (lv9 h 19)) False) (run (pe E) (orcT E) (tabL fns) 20000 (2^200-1) (hd9 E) (mkL Try.f9.ntmps (lv9 h 18)) sv9) := by
  rw [dec18]
  simp only [hno, sz_18, Bool.not_false, Bool.true_eq_false, false_implies, true_implies, true_and, and_true]
  repeat' first | exact rfl | exact trivial | apply And.intro | intro e
set_option maxHeartbeats 8000000 in
theorem rn_all (E : World) (h : Int) (R : SV → Prop) : ∀ j, j < 19 → okP h j = false → loopP (pe E) Try.f9 (fun v _ => R v) (fun todo fr s' => cond (memS s') (True ∧ todo = hd9 E ∧ fr.nt = Try.f9.ntmps ∧ refP fr (lv9 h (j + 1))) False) (run (pe E) (orcT E) (tabL fns) 20000 (2^200-1) (hd9 E) (mkL Try.f9.ntmps (lv9 h j)) sv9)
  | 0, _, hno => rn_0 E h R hno
  | 1, _, hno => rn_1 E h R hno
  | 2, _, hno => rn_2 E h R hno
  | 3, _, hno => rn_3 E h R hno
  | 4, _, hno => rn_4 E h R hno
  | 5, _, hno => rn_5 E h R hno
  | 6, _, hno => rn_6 E h R hno
  | 7, _, hno => rn_7 E h R hno
  | 8, _, hno => rn_8 E h R hno
  | 9, _, hno => rn_9 E h R hno
  | 10, _, hno => rn_10 E h R hno
  | 11, _, hno => rn_11 E h R hno
  | 12, _, hno => rn_12 E h R hno
  | 13, _, hno => rn_13 E h R hno
  | 14, _, hno => rn_14 E h R hno
  | 15, _, hno => rn_15 E h R hno
  | 16, _, hno => rn_16 E h R hno
  | 17, _, hno => rn_17 E h R hno
  | 18, _, hno => rn_18 E h R hno
  | n + 19, hj, _ => absurd hj (by omega)
set_option maxHeartbeats 8000000 in
theorem line_all (E : World) (h : Int) (h0 : 0 ≤ h) (h1 : h < 4294967296) : ∀ j, j < 19 → okP h j = true → ∃ n0 n1 n2 b3 n4 n5 n6 n7 n8 b9 n10 n11 b12 b13 b14 b15 b16 b17 b18 b19 n20 b21 b22 b23, Good E h j (cs24 n0 n1 n2 b3 n4 n5 n6 n7 n8 b9 n10 n11 b12 b13 b14 b15 b16 b17 b18 b19 n20 b21 b22 b23)
  | 0, _, ok => line_0 E h h0 h1 ok
  | 1, _, ok => line_1 E h h0 h1 ok
  | 2, _, ok => line_2 E h h0 h1 ok
  | 3, _, ok => line_3 E h h0 h1 ok
  | 4, _, ok => line_4 E h h0 h1 ok
  | 5, _, ok => line_5 E h h0 h1 ok
  | 6, _, ok => line_6 E h h0 h1 ok
  | 7, _, ok => line_7 E h h0 h1 ok
  | 8, _, ok => line_8 E h h0 h1 ok
  | 9, _, ok => line_9 E h h0 h1 ok
  | 10, _, ok => line_10 E h h0 h1 ok
  | 11, _, ok => line_11 E h h0 h1 ok
  | 12, _, ok => line_12 E h h0 h1 ok
  | 13, _, ok => line_13 E h h0 h1 ok
  | 14, _, ok => line_14 E h h0 h1 ok
  | 15, _, ok => line_15 E h h0 h1 ok
  | 16, _, ok => line_16 E h h0 h1 ok
  | 17, _, ok => line_17 E h h0 h1 ok
  | 18, _, ok => line_18 E h h0 h1 ok
  | n + 19, hj, _ => absurd hj (by omega)
theorem first_ok (h : Int) : ∀ m, (∀ k, k < m → okP h k = false) ∨ ∃ j, j < m ∧ okP h j = true ∧ ∀ k, k < j → okP h k = false
  | 0 => .inl fun k hk => absurd hk (Nat.not_lt_zero k)
  | m + 1 => by
    rcases first_ok h m with hn | ⟨j, hj, ho, hn⟩
    · cases ho : okP h m
      · exact .inl fun k hk => by
          by_cases e : k = m
          · rw [e]; exact ho
          · exact hn k (by omega)
      · exact .inr ⟨m, Nat.lt_succ_self m, ho, hn⟩
    · exact .inr ⟨j, by omega, ho, hn⟩
theorem good_all (E : World) (h : Int) (h0 : 0 ≤ h) (h1 : h < 4294967296) : ∃ j, j ≤ 19 ∧ (∀ k, k < j → okP h k = false) ∧ ∃ n0 n1 n2 b3 n4 n5 n6 n7 n8 b9 n10 n11 b12 b13 b14 b15 b16 b17 b18 b19 n20 b21 b22 b23, Good E h j (cs24 n0 n1 n2 b3 n4 n5 n6 n7 n8 b9 n10 n11 b12 b13 b14 b15 b16 b17 b18 b19 n20 b21 b22 b23) := by
  rcases first_ok h 19 with hn | ⟨j, hj, ho, hn⟩
  · exact ⟨19, Nat.le_refl _, hn, _, _, _, _, _, _, _, _, _, _, _, _, _, _, _, _, _, _, _, _, _, _, _, _, dflt E h h0 h1 (hn 0 (by decide)) (hn 1 (by decide)) (hn 2 (by decide)) (hn 3 (by decide)) (hn 4 (by decide)) (hn 5 (by decide)) (hn 6 (by decide)) (hn 7 (by decide)) (hn 8 (by decide)) (hn 9 (by decide)) (hn 10 (by decide)) (hn 11 (by decide)) (hn 12 (by decide)) (hn 13 (by decide)) (hn 14 (by decide)) (hn 15 (by decide)) (hn 16 (by decide)) (hn 17 (by decide)) (hn 18 (by decide))⟩
  · obtain ⟨n0, n1, n2, b3, n4, n5, n6, n7, n8, b9, n10, n11, b12, b13, b14, b15, b16, b17, b18, b19, n20, b21, b22, b23, hg⟩ := line_all E h h0 h1 j hj ho
    exact ⟨j, Nat.le_of_lt hj, hn, n0, n1, n2, b3, n4, n5, n6, n7, n8, b9, n10, n11, b12, b13, b14, b15, b16, b17, b18, b19, n20, b21, b22, b23, hg⟩
theorem memS_ref : ∀ {s : SW}, memS s = true → refT s sv9 := by
  intro s h
  unfold memS at h
  split at h
  · rename_i a b r
    simp only [Bool.and_eq_true] at h
    have ea : a = zrB.cs := litL_eq h.1
    have eb : b = tabL9 := litL_eq h.2
    subst ea
    subst eb
    exact Go.Proofs.Ytbnglhfhmhnimaa.Ev.refS_refl sv9
  · cases h
theorem loopP_mono {P : PE} {fn : Func} {post : SV → SW → Prop} {I J : List Item → Fr → SW → Prop} (h : ∀ t f s, I t f s → J t f s) : ∀ t : Tree Lf, loopP P fn post I t → loopP P fn post J t := by
  intro t
  induction t with
  | leaf x =>
    intro hx
    unfold loopP at hx ⊢
    cases he : x.ended
    · rw [he] at hx; exact h _ _ _ hx
    · rw [he] at hx; exact hx
  | node b t f iht ihf => exact fun hx => ⟨fun hb => iht (hx.1 hb), fun hb => ihf (hx.2 hb)⟩
  | need b t ih => exact fun hx => ⟨hx.1, ih hx.2⟩
  | fail => exact id
theorem condI {s : SW} {p : Prop} (h : cond (memS s) p False) : memS s = true ∧ p := by
  cases hm : memS s <;> rw [hm] at h
  · exact h.elim
  · exact ⟨rfl, h⟩
theorem sv9_ok : okSW sv9 = true := by kernel_rfl
theorem dec_c (E : World) (h : Int) (j : Nat) (hj : j ≤ 19) (hn : ∀ k, k < j → okP h k = false) (l : List C) (hl : okL 0 l = true) (hg : Good E h j l) (s : SW) : CallTree (pe E) 9 [.c (.i false .u32 h)] s (.leaf (.a l, s)) := by
  refine pure_contract_loop (v := .a l) (by simp [SV.ok, C.ok]) hl (fun W hE => ?_) s
  refine calls_loopT (c := c9) (P := pe E) orcT_ok tab_ok tab_sz mixed Try.func9 rfl (by decide) (vs := [.c (.i false .u32 h)]) (s := []) (Nat.le_of_ble_eq_true rfl) 20000 (2^200-1) (fun x : Nat => x ≤ j) (fun x => 20 - x) (fun _ => hd9 E) (lv9 h) (fun _ => sv9) (fun _ => rfl) (fun x hx => ⟨rfl, sv9_ok, Nat.zero_le _⟩)
    (fun v _ => SV.sim v (.a l)) ?_ ?_ W 0 _ W (Inv.start hE) (by simp [SV.ok, C.ok, okL])
  · refine loopP_mono (fun t f s h2 => ?_) _ (I := fun todo fr s' => cond (memS s') (True ∧ todo = hd9 E ∧ fr.nt = Try.f9.ntmps ∧ refP fr (lv9 h 0)) False) ?_
    · obtain ⟨hm, _, q1, q2, q3⟩ := condI h2
      exact ⟨0, Nat.zero_le _, q1, q2, q3, memS_ref hm⟩
    · rw [dec_pro]
      exact ⟨trivial, rfl, rfl, ⟨rfl, rfl⟩, rfl, rfl, rfl, rfl⟩
  · intro x hx
    have hx : x ≤ j := hx
    by_cases e : x = j
    · subst e
      refine loopP_mono (fun t f s h2 => ?_) _ hg.2
      exact ((condI h2).2.1).elim
    · have hr := rn_all E h (fun v => SV.sim v (.a l)) x (by omega) (hn x (by omega))
      generalize run (pe E) (orcT E) (tabL fns) 20000 (2^200-1) (hd9 E) (mkL Try.f9.ntmps (lv9 h x)) sv9 = T at hr ⊢
      refine loopP_mono (fun t f s h2 => ?_) _ hr
      obtain ⟨hm, _, q1, q2, q3⟩ := condI h2
      exact ⟨x + 1, (show x + 1 ≤ j by omega), (show 20 - (x + 1) < 20 - x by omega), q1, q2, q3, memS_ref hm⟩
theorem prog_c (E : World) (h : Int) (l : List C) (hl : okL 0 l = true) (j : Nat) (hg : Good E h j l) (s : SW) : CallTree (pe E) 8 [.c (.i false .u32 h)] s (.leaf (.a l, s)) :=
  pure_contractH (fnTree_sound (P := pe E) orcA_ok tab_ok tab_sz mixed 20000 Try.func8 (by decide) [.c (.i false .u32 h)] []) (by simp [SV.ok, C.ok, okL]) (v := .a l) hl ⟨hg.1⟩ s
/-- Both take a halfword apart alike. -/
theorem both_c (E : World) (h : Int) (h0 : 0 ≤ h) (h1 : h < 4294967296) : ∃ n0 n1 n2 b3 n4 n5 n6 n7 n8 b9 n10 n11 b12 b13 b14 b15 b16 b17 b18 b19 n20 b21 b22 b23, ∀ s, CallTree (pe E) 8 [.c (.i false .u32 h)] s (.leaf (.a (cs24 n0 n1 n2 b3 n4 n5 n6 n7 n8 b9 n10 n11 b12 b13 b14 b15 b16 b17 b18 b19 n20 b21 b22 b23), s)) ∧ CallTree (pe E) 9 [.c (.i false .u32 h)] s (.leaf (.a (cs24 n0 n1 n2 b3 n4 n5 n6 n7 n8 b9 n10 n11 b12 b13 b14 b15 b16 b17 b18 b19 n20 b21 b22 b23), s)) := by
  obtain ⟨j, hj, hn, n0, n1, n2, b3, n4, n5, n6, n7, n8, b9, n10, n11, b12, b13, b14, b15, b16, b17, b18, b19, n20, b21, b22, b23, hg⟩ := good_all E h h0 h1
  exact ⟨n0, n1, n2, b3, n4, n5, n6, n7, n8, b9, n10, n11, b12, b13, b14, b15, b16, b17, b18, b19, n20, b21, b22, b23, fun s => ⟨prog_c E h _ rfl j hg s, dec_c E h j hj hn _ rfl hg s⟩⟩
end Go.Proofs.Ytbnglhfhmhnimaa

