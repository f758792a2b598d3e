import Derived.Test.YtpfdemmoapjjpaaXb
import Derived.Test.YtpfdemmoapjjpaaXc
import Derived.Test.YtpfdemmoapjjpaaXd
import Derived.Test.YtpfdemmoapjjpaaY
set_option linter.unusedVariables false
set_option linter.unusedSimpArgs false
namespace Go.Proofs.Ytpfdemmoapjjpaa
open Go Go.Proofs Go.Proofs.Ytpfdemmoapjjpaa.Ev
set_option maxRecDepth 100000
def okP (h : Int) : Nat → Bool
  | 0 => (fits pt0 (wh h) && !(bif decide (fld pt0 (wh h) 116 < 0) then true else decide (fld pt0 (wh h) 116 > 2)))
  | 1 => (fits pt1 (wh h) && !(bif decide (fld pt1 (wh h) 73 < 0) then true else decide (fld pt1 (wh h) 73 > 0)))
  | 2 => (fits pt2 (wh h) && !(bif decide (fld pt2 (wh h) 73 < 1) then true else decide (fld pt2 (wh h) 73 > 1)))
  | 3 => fits pt3 (wh h)
  | 4 => fits pt4 (wh h)
  | 5 => fits pt5 (wh h)
  | 6 => fits pt6 (wh h)
  | 7 => (fits pt7 (wh h) && !(bif decide (fld pt7 (wh h) 111 < 0) then true else decide (fld pt7 (wh h) 111 > 1)))
  | 8 => (fits pt8 (wh h) && !(bif decide (fld pt8 (wh h) 111 < 2) then true else decide (fld pt8 (wh h) 111 > 4)))
  | 9 => (fits pt7 (wh h) && !(bif decide (fld pt7 (wh h) 111 < 5) then true else decide (fld pt7 (wh h) 111 > 6)))
  | 10 => (fits pt8 (wh h) && !(bif decide (fld pt8 (wh h) 111 < 7) then true else decide (fld pt8 (wh h) 111 > 7)))
  | 11 => (fits pt9 (wh h) && !(bif decide (fld pt9 (wh h) 111 < 8) then true else decide (fld pt9 (wh h) 111 > 8)))
  | 12 => (fits pt10 (wh h) && !(bif decide (fld pt10 (wh h) 111 < 9) then true else decide (fld pt10 (wh h) 111 > 9)))
  | 13 => (fits pt9 (wh h) && !(bif decide (fld pt9 (wh h) 111 < 10) then true else decide (fld pt9 (wh h) 111 > 11)))
  | 14 => (fits pt7 (wh h) && !(bif decide (fld pt7 (wh h) 111 < 12) then true else decide (fld pt7 (wh h) 111 > 12)))
  | 15 => (fits pt7 (wh h) && !(bif decide (fld pt7 (wh h) 111 < 13) then true else decide (fld pt7 (wh h) 111 > 13)))
  | 16 => (fits pt7 (wh h) && !(bif decide (fld pt7 (wh h) 111 < 14) then true else decide (fld pt7 (wh h) 111 > 14)))
  | 17 => (fits pt7 (wh h) && !(bif decide (fld pt7 (wh h) 111 < 15) then true else decide (fld pt7 (wh h) 111 > 15)))
  | 18 => fits pt11 (wh h)
  | 19 => fits pt12 (wh h)
  | 20 => fits pt13 (wh h)
  | 21 => fits pt14 (wh h)
  | 22 => fits pt15 (wh h)
  | 23 => fits pt16 (wh h)
  | 24 => (fits pt17 (wh h) && !(bif decide (fld pt17 (wh h) 72 < 0) then true else decide (fld pt17 (wh h) 72 > 0)))
  | 25 => (fits pt17 (wh h) && !(bif decide (fld pt17 (wh h) 72 < 1) then true else decide (fld pt17 (wh h) 72 > 1)))
  | 26 => (fits pt17 (wh h) && !(bif decide (fld pt17 (wh h) 72 < 2) then true else decide (fld pt17 (wh h) 72 > 2)))
  | 27 => (fits pt17 (wh h) && !(bif decide (fld pt17 (wh h) 72 < 3) then true else decide (fld pt17 (wh h) 72 > 3)))
  | 28 => fits pt18 (wh h)
  | 29 => fits pt19 (wh h)
  | 30 => fits pt20 (wh h)
  | 31 => fits pt21 (wh h)
  | 32 => fits pt22 (wh h)
  | 33 => fits pt23 (wh h)
  | 34 => fits pt24 (wh h)
  | 35 => fits pt25 (wh h)
  | 36 => fits pt26 (wh h)
  | 37 => fits pt27 (wh h)
  | 38 => fits pt28 (wh h)
  | 39 => fits pt29 (wh h)
  | 40 => (fits pt30 (wh h) && !(bif decide (fld pt30 (wh h) 99 < 0) then true else decide (fld pt30 (wh h) 99 > 13)))
  | 41 => fits pt31 (wh h)
  | 42 => fits pt32 (wh h)
  | 43 => fits pt33 (wh h)
  | 44 => fits pt34 (wh h)
  | _ => false
theorem rn_0 (E : World) (h : Int) (R : SV → Prop) (hno : (fits pt0 (wh h) && !(bif decide (fld pt0 (wh h) 116 < 0) then true else decide (fld pt0 (wh h) 116 > 2))) = false) : loopP (pe E) Try.f8 (fun v _ => R v) (fun todo fr s' => cond (memS s') (True ∧ todo = hd8 E ∧ fr.nt = Try.f8.ntmps ∧ refP fr (lv8 h 1)) False) (run (pe E) (orcT E) (tabL fns) 20000 (2^200-1) (hd8 E) (mkL Try.f8.ntmps (lv8 h 0)) sv8) := by
  rw [dec0]
  exact ⟨sz_0, fun _ => ⟨trivial, rfl, rfl, ⟨rfl, rfl⟩, rfl, ⟨rfl, rfl⟩, rfl, rfl, rfl⟩, fun e => ⟨sz_0, fun _ => ⟨trivial, rfl, rfl, ⟨rfl, rfl⟩, rfl, ⟨rfl, rfl⟩, rfl, rfl, rfl⟩, fun e2 => by rw [e2] at hno; cases hf : fits pt0 (wh h) <;> rw [hf] at e hno <;> first | (cases e; done) | cases hno⟩⟩
theorem rn_1 (E : World) (h : Int) (R : SV → Prop) (hno : (fits pt1 (wh h) && !(bif decide (fld pt1 (wh h) 73 < 0) then true else decide (fld pt1 (wh h) 73 > 0))) = false) : loopP (pe E) Try.f8 (fun v _ => R v) (fun todo fr s' => cond (memS s') (True ∧ todo = hd8 E ∧ fr.nt = Try.f8.ntmps ∧ refP fr (lv8 h 2)) False) (run (pe E) (orcT E) (tabL fns) 20000 (2^200-1) (hd8 E) (mkL Try.f8.ntmps (lv8 h 1)) sv8) := by
  rw [dec1]
  exact ⟨sz_1, fun _ => ⟨trivial, rfl, rfl, ⟨rfl, rfl⟩, rfl, ⟨rfl, rfl⟩, rfl, rfl, rfl⟩, fun e => ⟨sz_1, fun _ => ⟨trivial, rfl, rfl, ⟨rfl, rfl⟩, rfl, ⟨rfl, rfl⟩, rfl, rfl, rfl⟩, fun e2 => by rw [e2] at hno; cases hf : fits pt1 (wh h) <;> rw [hf] at e hno <;> first | (cases e; done) | cases hno⟩⟩
theorem rn_2 (E : World) (h : Int) (R : SV → Prop) (hno : (fits pt2 (wh h) && !(bif decide (fld pt2 (wh h) 73 < 1) then true else decide (fld pt2 (wh h) 73 > 1))) = false) : loopP (pe E) Try.f8 (fun v _ => R v) (fun todo fr s' => cond (memS s') (True ∧ todo = hd8 E ∧ fr.nt = Try.f8.ntmps ∧ refP fr (lv8 h 3)) False) (run (pe E) (orcT E) (tabL fns) 20000 (2^200-1) (hd8 E) (mkL Try.f8.ntmps (lv8 h 2)) sv8) := by
  rw [dec2]
  exact ⟨sz_2, fun _ => ⟨trivial, rfl, rfl, ⟨rfl, rfl⟩, rfl, ⟨rfl, rfl⟩, rfl, rfl, rfl⟩, fun e => ⟨sz_2, fun _ => ⟨trivial, rfl, rfl, ⟨rfl, rfl⟩, rfl, ⟨rfl, rfl⟩, rfl, rfl, rfl⟩, fun e2 => by rw [e2] at hno; cases hf : fits pt2 (wh h) <;> rw [hf] at e hno <;> first | (cases e; done) | cases hno⟩⟩
theorem rn_3 (E : World) (h : Int) (R : SV → Prop) (hno : fits pt3 (wh h) = false) : loopP (pe E) Try.f8 (fun v _ => R v) (fun todo fr s' => cond (memS s') (True ∧ todo = hd8 E ∧ fr.nt = Try.f8.ntmps ∧ refP fr (lv8 h 4)) False) (run (pe E) (orcT E) (tabL fns) 20000 (2^200-1) (hd8 E) (mkL Try.f8.ntmps (lv8 h 3)) sv8) := by
  rw [dec3]
  exact ⟨sz_3, fun _ => ⟨trivial, rfl, rfl, ⟨rfl, rfl⟩, rfl, ⟨rfl, rfl⟩, rfl, rfl, rfl⟩, fun e => by rw [hno] at e; cases e⟩
theorem rn_4 (E : World) (h : Int) (R : SV → Prop) (hno : fits pt4 (wh h) = false) : loopP (pe E) Try.f8 (fun v _ => R v) (fun todo fr s' => cond (memS s') (True ∧ todo = hd8 E ∧ fr.nt = Try.f8.ntmps ∧ refP fr (lv8 h 5)) False) (run (pe E) (orcT E) (tabL fns) 20000 (2^200-1) (hd8 E) (mkL Try.f8.ntmps (lv8 h 4)) sv8) := by
  rw [dec4]
  exact ⟨sz_4, fun _ => ⟨trivial, rfl, rfl, ⟨rfl, rfl⟩, rfl, ⟨rfl, rfl⟩, rfl, rfl, rfl⟩, fun e => by rw [hno] at e; cases e⟩
theorem rn_5 (E : World) (h : Int) (R : SV → Prop) (hno : fits pt5 (wh h) = false) : loopP (pe E) Try.f8 (fun v _ => R v) (fun todo fr s' => cond (memS s') (True ∧ todo = hd8 E ∧ fr.nt = Try.f8.ntmps ∧ refP fr (lv8 h 6)) False) (run (pe E) (orcT E) (tabL fns) 20000 (2^200-1) (hd8 E) (mkL Try.f8.ntmps (lv8 h 5)) sv8) := by
  rw [dec5]
  exact ⟨sz_5, fun _ => ⟨trivial, rfl, rfl, ⟨rfl, rfl⟩, rfl, ⟨rfl, rfl⟩, rfl, rfl, rfl⟩, fun e => by rw [hno] at e; cases e⟩
theorem rn_6 (E : World) (h : Int) (R : SV → Prop) (hno : fits pt6 (wh h) = false) : loopP (pe E) Try.f8 (fun v _ => R v) (fun todo fr s' => cond (memS s') (True ∧ todo = hd8 E ∧ fr.nt = Try.f8.ntmps ∧ refP fr (lv8 h 7)) False) (run (pe E) (orcT E) (tabL fns) 20000 (2^200-1) (hd8 E) (mkL Try.f8.ntmps (lv8 h 6)) sv8) := by
  rw [dec6]
  exact ⟨sz_6, fun _ => ⟨trivial, rfl, rfl, ⟨rfl, rfl⟩, rfl, ⟨rfl, rfl⟩, rfl, rfl, rfl⟩, fun e => by rw [hno] at e; cases e⟩
theorem rn_7 (E : World) (h : Int) (R : SV → Prop) (hno : (fits pt7 (wh h) && !(bif decide (fld pt7 (wh h) 111 < 0) then true else decide (fld pt7 (wh h) 111 > 1))) = false) : loopP (pe E) Try.f8 (fun v _ => R v) (fun todo fr s' => cond (memS s') (True ∧ todo = hd8 E ∧ fr.nt = Try.f8.ntmps ∧ refP fr (lv8 h 8)) False) (run (pe E) (orcT E) (tabL fns) 20000 (2^200-1) (hd8 E) (mkL Try.f8.ntmps (lv8 h 7)) sv8) := by
  rw [dec7]
  exact ⟨sz_7, fun _ => ⟨trivial, rfl, rfl, ⟨rfl, rfl⟩, rfl, ⟨rfl, rfl⟩, rfl, rfl, rfl⟩, fun e => ⟨sz_7, fun _ => ⟨trivial, rfl, rfl, ⟨rfl, rfl⟩, rfl, ⟨rfl, rfl⟩, rfl, rfl, rfl⟩, fun e2 => by rw [e2] at hno; cases hf : fits pt7 (wh h) <;> rw [hf] at e hno <;> first | (cases e; done) | cases hno⟩⟩
theorem rn_8 (E : World) (h : Int) (R : SV → Prop) (hno : (fits pt8 (wh h) && !(bif decide (fld pt8 (wh h) 111 < 2) then true else decide (fld pt8 (wh h) 111 > 4))) = false) : loopP (pe E) Try.f8 (fun v _ => R v) (fun todo fr s' => cond (memS s') (True ∧ todo = hd8 E ∧ fr.nt = Try.f8.ntmps ∧ refP fr (lv8 h 9)) False) (run (pe E) (orcT E) (tabL fns) 20000 (2^200-1) (hd8 E) (mkL Try.f8.ntmps (lv8 h 8)) sv8) := by
  rw [dec8]
  exact ⟨sz_8, fun _ => ⟨trivial, rfl, rfl, ⟨rfl, rfl⟩, rfl, ⟨rfl, rfl⟩, rfl, rfl, rfl⟩, fun e => ⟨sz_8, fun _ => ⟨trivial, rfl, rfl, ⟨rfl, rfl⟩, rfl, ⟨rfl, rfl⟩, rfl, rfl, rfl⟩, fun e2 => by rw [e2] at hno; cases hf : fits pt8 (wh h) <;> rw [hf] at e hno <;> first | (cases e; done) | cases hno⟩⟩
theorem rn_9 (E : World) (h : Int) (R : SV → Prop) (hno : (fits pt7 (wh h) && !(bif decide (fld pt7 (wh h) 111 < 5) then true else decide (fld pt7 (wh h) 111 > 6))) = false) : loopP (pe E) Try.f8 (fun v _ => R v) (fun todo fr s' => cond (memS s') (True ∧ todo = hd8 E ∧ fr.nt = Try.f8.ntmps ∧ refP fr (lv8 h 10)) False) (run (pe E) (orcT E) (tabL fns) 20000 (2^200-1) (hd8 E) (mkL Try.f8.ntmps (lv8 h 9)) sv8) := by
  rw [dec9]
  exact ⟨sz_7, fun _ => ⟨trivial, rfl, rfl, ⟨rfl, rfl⟩, rfl, ⟨rfl, rfl⟩, rfl, rfl, rfl⟩, fun e => ⟨sz_7, fun _ => ⟨trivial, rfl, rfl, ⟨rfl, rfl⟩, rfl, ⟨rfl, rfl⟩, rfl, rfl, rfl⟩, fun e2 => by rw [e2] at hno; cases hf : fits pt7 (wh h) <;> rw [hf] at e hno <;> first | (cases e; done) | cases hno⟩⟩
theorem rn_10 (E : World) (h : Int) (R : SV → Prop) (hno : (fits pt8 (wh h) && !(bif decide (fld pt8 (wh h) 111 < 7) then true else decide (fld pt8 (wh h) 111 > 7))) = false) : loopP (pe E) Try.f8 (fun v _ => R v) (fun todo fr s' => cond (memS s') (True ∧ todo = hd8 E ∧ fr.nt = Try.f8.ntmps ∧ refP fr (lv8 h 11)) False) (run (pe E) (orcT E) (tabL fns) 20000 (2^200-1) (hd8 E) (mkL Try.f8.ntmps (lv8 h 10)) sv8) := by
  rw [dec10]
  exact ⟨sz_8, fun _ => ⟨trivial, rfl, rfl, ⟨rfl, rfl⟩, rfl, ⟨rfl, rfl⟩, rfl, rfl, rfl⟩, fun e => ⟨sz_8, fun _ => ⟨trivial, rfl, rfl, ⟨rfl, rfl⟩, rfl, ⟨rfl, rfl⟩, rfl, rfl, rfl⟩, fun e2 => by rw [e2] at hno; cases hf : fits pt8 (wh h) <;> rw [hf] at e hno <;> first | (cases e; done) | cases hno⟩⟩
theorem rn_11 (E : World) (h : Int) (R : SV → Prop) (hno : (fits pt9 (wh h) && !(bif decide (fld pt9 (wh h) 111 < 8) then true else decide (fld pt9 (wh h) 111 > 8))) = false) : loopP (pe E) Try.f8 (fun v _ => R v) (fun todo fr s' => cond (memS s') (True ∧ todo = hd8 E ∧ fr.nt = Try.f8.ntmps ∧ refP fr (lv8 h 12)) False) (run (pe E) (orcT E) (tabL fns) 20000 (2^200-1) (hd8 E) (mkL Try.f8.ntmps (lv8 h 11)) sv8) := by
  rw [dec11]
  exact ⟨sz_9, fun _ => ⟨trivial, rfl, rfl, ⟨rfl, rfl⟩, rfl, ⟨rfl, rfl⟩, rfl, rfl, rfl⟩, fun e => ⟨sz_9, fun _ => ⟨trivial, rfl, rfl, ⟨rfl, rfl⟩, rfl, ⟨rfl, rfl⟩, rfl, rfl, rfl⟩, fun e2 => by rw [e2] at hno; cases hf : fits pt9 (wh h) <;> rw [hf] at e hno <;> first | (cases e; done) | cases hno⟩⟩
theorem rn_12 (E : World) (h : Int) (R : SV → Prop) (hno : (fits pt10 (wh h) && !(bif decide (fld pt10 (wh h) 111 < 9) then true else decide (fld pt10 (wh h) 111 > 9))) = false) : loopP (pe E) Try.f8 (fun v _ => R v) (fun todo fr s' => cond (memS s') (True ∧ todo = hd8 E ∧ fr.nt = Try.f8.ntmps ∧ refP fr (lv8 h 13)) False) (run (pe E) (orcT E) (tabL fns) 20000 (2^200-1) (hd8 E) (mkL Try.f8.ntmps (lv8 h 12)) sv8) := by
  rw [dec12]
  exact ⟨sz_10, fun _ => ⟨trivial, rfl, rfl, ⟨rfl, rfl⟩, rfl, ⟨rfl, rfl⟩, rfl, rfl, rfl⟩, fun e => ⟨sz_10, fun _ => ⟨trivial, rfl, rfl, ⟨rfl, rfl⟩, rfl, ⟨rfl, rfl⟩, rfl, rfl, rfl⟩, fun e2 => by rw [e2] at hno; cases hf : fits pt10 (wh h) <;> rw [hf] at e hno <;> first | (cases e; done) | cases hno⟩⟩
theorem rn_13 (E : World) (h : Int) (R : SV → Prop) (hno : (fits pt9 (wh h) && !(bif decide (fld pt9 (wh h) 111 < 10) then true else decide (fld pt9 (wh h) 111 > 11))) = false) : loopP (pe E) Try.f8 (fun v _ => R v) (fun todo fr s' => cond (memS s') (True ∧ todo = hd8 E ∧ fr.nt = Try.f8.ntmps ∧ refP fr (lv8 h 14)) False) (run (pe E) (orcT E) (tabL fns) 20000 (2^200-1) (hd8 E) (mkL Try.f8.ntmps (lv8 h 13)) sv8) := by
  rw [dec13]
  exact ⟨sz_9, fun _ => ⟨trivial, rfl, rfl, ⟨rfl, rfl⟩, rfl, ⟨rfl, rfl⟩, rfl, rfl, rfl⟩, fun e => ⟨sz_9, fun _ => ⟨trivial, rfl, rfl, ⟨rfl, rfl⟩, rfl, ⟨rfl, rfl⟩, rfl, rfl, rfl⟩, fun e2 => by rw [e2] at hno; cases hf : fits pt9 (wh h) <;> rw [hf] at e hno <;> first | (cases e; done) | cases hno⟩⟩
theorem rn_14 (E : World) (h : Int) (R : SV → Prop) (hno : (fits pt7 (wh h) && !(bif decide (fld pt7 (wh h) 111 < 12) then true else decide (fld pt7 (wh h) 111 > 12))) = false) : loopP (pe E) Try.f8 (fun v _ => R v) (fun todo fr s' => cond (memS s') (True ∧ todo = hd8 E ∧ fr.nt = Try.f8.ntmps ∧ refP fr (lv8 h 15)) False) (run (pe E) (orcT E) (tabL fns) 20000 (2^200-1) (hd8 E) (mkL Try.f8.ntmps (lv8 h 14)) sv8) := by
  rw [dec14]
  exact ⟨sz_7, fun _ => ⟨trivial, rfl, rfl, ⟨rfl, rfl⟩, rfl, ⟨rfl, rfl⟩, rfl, rfl, rfl⟩, fun e => ⟨sz_7, fun _ => ⟨trivial, rfl, rfl, ⟨rfl, rfl⟩, rfl, ⟨rfl, rfl⟩, rfl, rfl, rfl⟩, fun e2 => by rw [e2] at hno; cases hf : fits pt7 (wh h) <;> rw [hf] at e hno <;> first | (cases e; done) | cases hno⟩⟩
theorem rn_15 (E : World) (h : Int) (R : SV → Prop) (hno : (fits pt7 (wh h) && !(bif decide (fld pt7 (wh h) 111 < 13) then true else decide (fld pt7 (wh h) 111 > 13))) = false) : loopP (pe E) Try.f8 (fun v _ => R v) (fun todo fr s' => cond (memS s') (True ∧ todo = hd8 E ∧ fr.nt = Try.f8.ntmps ∧ refP fr (lv8 h 16)) False) (run (pe E) (orcT E) (tabL fns) 20000 (2^200-1) (hd8 E) (mkL Try.f8.ntmps (lv8 h 15)) sv8) := by
  rw [dec15]
  exact ⟨sz_7, fun _ => ⟨trivial, rfl, rfl, ⟨rfl, rfl⟩, rfl, ⟨rfl, rfl⟩, rfl, rfl, rfl⟩, fun e => ⟨sz_7, fun _ => ⟨trivial, rfl, rfl, ⟨rfl, rfl⟩, rfl, ⟨rfl, rfl⟩, rfl, rfl, rfl⟩, fun e2 => by rw [e2] at hno; cases hf : fits pt7 (wh h) <;> rw [hf] at e hno <;> first | (cases e; done) | cases hno⟩⟩
theorem rn_16 (E : World) (h : Int) (R : SV → Prop) (hno : (fits pt7 (wh h) && !(bif decide (fld pt7 (wh h) 111 < 14) then true else decide (fld pt7 (wh h) 111 > 14))) = false) : loopP (pe E) Try.f8 (fun v _ => R v) (fun todo fr s' => cond (memS s') (True ∧ todo = hd8 E ∧ fr.nt = Try.f8.ntmps ∧ refP fr (lv8 h 17)) False) (run (pe E) (orcT E) (tabL fns) 20000 (2^200-1) (hd8 E) (mkL Try.f8.ntmps (lv8 h 16)) sv8) := by
  rw [dec16]
  exact ⟨sz_7, fun _ => ⟨trivial, rfl, rfl, ⟨rfl, rfl⟩, rfl, ⟨rfl, rfl⟩, rfl, rfl, rfl⟩, fun e => ⟨sz_7, fun _ => ⟨trivial, rfl, rfl, ⟨rfl, rfl⟩, rfl, ⟨rfl, rfl⟩, rfl, rfl, rfl⟩, fun e2 => by rw [e2] at hno; cases hf : fits pt7 (wh h) <;> rw [hf] at e hno <;> first | (cases e; done) | cases hno⟩⟩
theorem rn_17 (E : World) (h : Int) (R : SV → Prop) (hno : (fits pt7 (wh h) && !(bif decide (fld pt7 (wh h) 111 < 15) then true else decide (fld pt7 (wh h) 111 > 15))) = false) : loopP (pe E) Try.f8 (fun v _ => R v) (fun todo fr s' => cond (memS s') (True ∧ todo = hd8 E ∧ fr.nt = Try.f8.ntmps ∧ refP fr (lv8 h 18)) False) (run (pe E) (orcT E) (tabL fns) 20000 (2^200-1) (hd8 E) (mkL Try.f8.ntmps (lv8 h 17)) sv8) := by
  rw [dec17]
  exact ⟨sz_7, fun _ => ⟨trivial, rfl, rfl, ⟨rfl, rfl⟩, rfl, ⟨rfl, rfl⟩, rfl, rfl, rfl⟩, fun e => ⟨sz_7, fun _ => ⟨trivial, rfl, rfl, ⟨rfl, rfl⟩, rfl, ⟨rfl, rfl⟩, rfl, rfl, rfl⟩, fun e2 => by rw [e2] at hno; cases hf : fits pt7 (wh h) <;> rw [hf] at e hno <;> first | (cases e; done) | cases hno⟩⟩
theorem rn_18 (E : World) (h : Int) (R : SV → Prop) (hno : fits pt11 (wh h) = false) : loopP (pe E) Try.f8 (fun v _ => R v) (fun todo fr s' => cond (memS s') (True ∧ todo = hd8 E ∧ fr.nt = Try.f8.ntmps ∧ refP fr (lv8 h 19)) False) (run (pe E) (orcT E) (tabL fns) 20000 (2^200-1) (hd8 E) (mkL Try.f8.ntmps (lv8 h 18)) sv8) := by
  rw [dec18]
  exact ⟨sz_11, fun _ => ⟨trivial, rfl, rfl, ⟨rfl, rfl⟩, rfl, ⟨rfl, rfl⟩, rfl, rfl, rfl⟩, fun e => by rw [hno] at e; cases e⟩
theorem rn_19 (E : World) (h : Int) (R : SV → Prop) (hno : fits pt12 (wh h) = false) : loopP (pe E) Try.f8 (fun v _ => R v) (fun todo fr s' => cond (memS s') (True ∧ todo = hd8 E ∧ fr.nt = Try.f8.ntmps ∧ refP fr (lv8 h 20)) False) (run (pe E) (orcT E) (tabL fns) 20000 (2^200-1) (hd8 E) (mkL Try.f8.ntmps (lv8 h 19)) sv8) := by
  rw [dec19]
  exact ⟨sz_12, fun _ => ⟨trivial, rfl, rfl, ⟨rfl, rfl⟩, rfl, ⟨rfl, rfl⟩, rfl, rfl, rfl⟩, fun e => by rw [hno] at e; cases e⟩
theorem rn_20 (E : World) (h : Int) (R : SV → Prop) (hno : fits pt13 (wh h) = false) : loopP (pe E) Try.f8 (fun v _ => R v) (fun todo fr s' => cond (memS s') (True ∧ todo = hd8 E ∧ fr.nt = Try.f8.ntmps ∧ refP fr (lv8 h 21)) False) (run (pe E) (orcT E) (tabL fns) 20000 (2^200-1) (hd8 E) (mkL Try.f8.ntmps (lv8 h 20)) sv8) := by
  rw [dec20]
  exact ⟨sz_13, fun _ => ⟨trivial, rfl, rfl, ⟨rfl, rfl⟩, rfl, ⟨rfl, rfl⟩, rfl, rfl, rfl⟩, fun e => by rw [hno] at e; cases e⟩
theorem rn_21 (E : World) (h : Int) (R : SV → Prop) (hno : fits pt14 (wh h) = false) : loopP (pe E) Try.f8 (fun v _ => R v) (fun todo fr s' => cond (memS s') (True ∧ todo = hd8 E ∧ fr.nt = Try.f8.ntmps ∧ refP fr (lv8 h 22)) False) (run (pe E) (orcT E) (tabL fns) 20000 (2^200-1) (hd8 E) (mkL Try.f8.ntmps (lv8 h 21)) sv8) := by
  rw [dec21]
  exact ⟨sz_14, fun _ => ⟨trivial, rfl, rfl, ⟨rfl, rfl⟩, rfl, ⟨rfl, rfl⟩, rfl, rfl, rfl⟩, fun e => by rw [hno] at e; cases e⟩
theorem rn_22 (E : World) (h : Int) (R : SV → Prop) (hno : fits pt15 (wh h) = false) : loopP (pe E) Try.f8 (fun v _ => R v) (fun todo fr s' => cond (memS s') (True ∧ todo = hd8 E ∧ fr.nt = Try.f8.ntmps ∧ refP fr (lv8 h 23)) False) (run (pe E) (orcT E) (tabL fns) 20000 (2^200-1) (hd8 E) (mkL Try.f8.ntmps (lv8 h 22)) sv8) := by
  rw [dec22]
  exact ⟨sz_15, fun _ => ⟨trivial, rfl, rfl, ⟨rfl, rfl⟩, rfl, ⟨rfl, rfl⟩, rfl, rfl, rfl⟩, fun e => by rw [hno] at e; cases e⟩
theorem rn_23 (E : World) (h : Int) (R : SV → Prop) (hno : fits pt16 (wh h) = false) : loopP (pe E) Try.f8 (fun v _ => R v) (fun todo fr s' => cond (memS s') (True ∧ todo = hd8 E ∧ fr.nt = Try.f8.ntmps ∧ refP fr (lv8 h 24)) False) (run (pe E) (orcT E) (tabL fns) 20000 (2^200-1) (hd8 E) (mkL Try.f8.ntmps (lv8 h 23)) sv8) := by
  rw [dec23]
  exact ⟨sz_16, fun _ => ⟨trivial, rfl, rfl, ⟨rfl, rfl⟩, rfl, ⟨rfl, rfl⟩, rfl, rfl, rfl⟩, fun e => by rw [hno] at e; cases e⟩
theorem rn_24 (E : World) (h : Int) (R : SV → Prop) (hno : (fits pt17 (wh h) && !(bif decide (fld pt17 (wh h) 72 < 0) then true else decide (fld pt17 (wh h) 72 > 0))) = false) : loopP (pe E) Try.f8 (fun v _ => R v) (fun todo fr s' => cond (memS s') (True ∧ todo = hd8 E ∧ fr.nt = Try.f8.ntmps ∧ refP fr (lv8 h 25)) False) (run (pe E) (orcT E) (tabL fns) 20000 (2^200-1) (hd8 E) (mkL Try.f8.ntmps (lv8 h 24)) sv8) := by
  rw [dec24]
  exact ⟨sz_17, fun _ => ⟨trivial, rfl, rfl, ⟨rfl, rfl⟩, rfl, ⟨rfl, rfl⟩, rfl, rfl, rfl⟩, fun e => ⟨sz_17, fun _ => ⟨trivial, rfl, rfl, ⟨rfl, rfl⟩, rfl, ⟨rfl, rfl⟩, rfl, rfl, rfl⟩, fun e2 => by rw [e2] at hno; cases hf : fits pt17 (wh h) <;> rw [hf] at e hno <;> first | (cases e; done) | cases hno⟩⟩
theorem rn_25 (E : World) (h : Int) (R : SV → Prop) (hno : (fits pt17 (wh h) && !(bif decide (fld pt17 (wh h) 72 < 1) then true else decide (fld pt17 (wh h) 72 > 1))) = false) : loopP (pe E) Try.f8 (fun v _ => R v) (fun todo fr s' => cond (memS s') (True ∧ todo = hd8 E ∧ fr.nt = Try.f8.ntmps ∧ refP fr (lv8 h 26)) False) (run (pe E) (orcT E) (tabL fns) 20000 (2^200-1) (hd8 E) (mkL Try.f8.ntmps (lv8 h 25)) sv8) := by
  rw [dec25]
  exact ⟨sz_17, fun _ => ⟨trivial, rfl, rfl, ⟨rfl, rfl⟩, rfl, ⟨rfl, rfl⟩, rfl, rfl, rfl⟩, fun e => ⟨sz_17, fun _ => ⟨trivial, rfl, rfl, ⟨rfl, rfl⟩, rfl, ⟨rfl, rfl⟩, rfl, rfl, rfl⟩, fun e2 => by rw [e2] at hno; cases hf : fits pt17 (wh h) <;> rw [hf] at e hno <;> first | (cases e; done) | cases hno⟩⟩
theorem rn_26 (E : World) (h : Int) (R : SV → Prop) (hno : (fits pt17 (wh h) && !(bif decide (fld pt17 (wh h) 72 < 2) then true else decide (fld pt17 (wh h) 72 > 2))) = false) : loopP (pe E) Try.f8 (fun v _ => R v) (fun todo fr s' => cond (memS s') (True ∧ todo = hd8 E ∧ fr.nt = Try.f8.ntmps ∧ refP fr (lv8 h 27)) False) (run (pe E) (orcT E) (tabL fns) 20000 (2^200-1) (hd8 E) (mkL Try.f8.ntmps (lv8 h 26)) sv8) := by
  rw [dec26]
  exact ⟨sz_17, fun _ => ⟨trivial, rfl, rfl, ⟨rfl, rfl⟩, rfl, ⟨rfl, rfl⟩, rfl, rfl, rfl⟩, fun e => ⟨sz_17, fun _ => ⟨trivial, rfl, rfl, ⟨rfl, rfl⟩, rfl, ⟨rfl, rfl⟩, rfl, rfl, rfl⟩, fun e2 => by rw [e2] at hno; cases hf : fits pt17 (wh h) <;> rw [hf] at e hno <;> first | (cases e; done) | cases hno⟩⟩
theorem rn_27 (E : World) (h : Int) (R : SV → Prop) (hno : (fits pt17 (wh h) && !(bif decide (fld pt17 (wh h) 72 < 3) then true else decide (fld pt17 (wh h) 72 > 3))) = false) : loopP (pe E) Try.f8 (fun v _ => R v) (fun todo fr s' => cond (memS s') (True ∧ todo = hd8 E ∧ fr.nt = Try.f8.ntmps ∧ refP fr (lv8 h 28)) False) (run (pe E) (orcT E) (tabL fns) 20000 (2^200-1) (hd8 E) (mkL Try.f8.ntmps (lv8 h 27)) sv8) := by
  rw [dec27]
  exact ⟨sz_17, fun _ => ⟨trivial, rfl, rfl, ⟨rfl, rfl⟩, rfl, ⟨rfl, rfl⟩, rfl, rfl, rfl⟩, fun e => ⟨sz_17, fun _ => ⟨trivial, rfl, rfl, ⟨rfl, rfl⟩, rfl, ⟨rfl, rfl⟩, rfl, rfl, rfl⟩, fun e2 => by rw [e2] at hno; cases hf : fits pt17 (wh h) <;> rw [hf] at e hno <;> first | (cases e; done) | cases hno⟩⟩
theorem rn_28 (E : World) (h : Int) (R : SV → Prop) (hno : fits pt18 (wh h) = false) : loopP (pe E) Try.f8 (fun v _ => R v) (fun todo fr s' => cond (memS s') (True ∧ todo = hd8 E ∧ fr.nt = Try.f8.ntmps ∧ refP fr (lv8 h 29)) False) (run (pe E) (orcT E) (tabL fns) 20000 (2^200-1) (hd8 E) (mkL Try.f8.ntmps (lv8 h 28)) sv8) := by
  rw [dec28]
  exact ⟨sz_18, fun _ => ⟨trivial, rfl, rfl, ⟨rfl, rfl⟩, rfl, ⟨rfl, rfl⟩, rfl, rfl, rfl⟩, fun e => by rw [hno] at e; cases e⟩
theorem rn_29 (E : World) (h : Int) (R : SV → Prop) (hno : fits pt19 (wh h) = false) : loopP (pe E) Try.f8 (fun v _ => R v) (fun todo fr s' => cond (memS s') (True ∧ todo = hd8 E ∧ fr.nt = Try.f8.ntmps ∧ refP fr (lv8 h 30)) False) (run (pe E) (orcT E) (tabL fns) 20000 (2^200-1) (hd8 E) (mkL Try.f8.ntmps (lv8 h 29)) sv8) := by
  rw [dec29]
  exact ⟨sz_19, fun _ => ⟨trivial, rfl, rfl, ⟨rfl, rfl⟩, rfl, ⟨rfl, rfl⟩, rfl, rfl, rfl⟩, fun e => by rw [hno] at e; cases e⟩
theorem rn_30 (E : World) (h : Int) (R : SV → Prop) (hno : fits pt20 (wh h) = false) : loopP (pe E) Try.f8 (fun v _ => R v) (fun todo fr s' => cond (memS s') (True ∧ todo = hd8 E ∧ fr.nt = Try.f8.ntmps ∧ refP fr (lv8 h 31)) False) (run (pe E) (orcT E) (tabL fns) 20000 (2^200-1) (hd8 E) (mkL Try.f8.ntmps (lv8 h 30)) sv8) := by
  rw [dec30]
  exact ⟨sz_20, fun _ => ⟨trivial, rfl, rfl, ⟨rfl, rfl⟩, rfl, ⟨rfl, rfl⟩, rfl, rfl, rfl⟩, fun e => by rw [hno] at e; cases e⟩
theorem rn_31 (E : World) (h : Int) (R : SV → Prop) (hno : fits pt21 (wh h) = false) : loopP (pe E) Try.f8 (fun v _ => R v) (fun todo fr s' => cond (memS s') (True ∧ todo = hd8 E ∧ fr.nt = Try.f8.ntmps ∧ refP fr (lv8 h 32)) False) (run (pe E) (orcT E) (tabL fns) 20000 (2^200-1) (hd8 E) (mkL Try.f8.ntmps (lv8 h 31)) sv8) := by
  rw [dec31]
  exact ⟨sz_21, fun _ => ⟨trivial, rfl, rfl, ⟨rfl, rfl⟩, rfl, ⟨rfl, rfl⟩, rfl, rfl, rfl⟩, fun e => by rw [hno] at e; cases e⟩
theorem rn_32 (E : World) (h : Int) (R : SV → Prop) (hno : fits pt22 (wh h) = false) : loopP (pe E) Try.f8 (fun v _ => R v) (fun todo fr s' => cond (memS s') (True ∧ todo = hd8 E ∧ fr.nt = Try.f8.ntmps ∧ refP fr (lv8 h 33)) False) (run (pe E) (orcT E) (tabL fns) 20000 (2^200-1) (hd8 E) (mkL Try.f8.ntmps (lv8 h 32)) sv8) := by
  rw [dec32]
  exact ⟨sz_22, fun _ => ⟨trivial, rfl, rfl, ⟨rfl, rfl⟩, rfl, ⟨rfl, rfl⟩, rfl, rfl, rfl⟩, fun e => by rw [hno] at e; cases e⟩
theorem rn_33 (E : World) (h : Int) (R : SV → Prop) (hno : fits pt23 (wh h) = false) : loopP (pe E) Try.f8 (fun v _ => R v) (fun todo fr s' => cond (memS s') (True ∧ todo = hd8 E ∧ fr.nt = Try.f8.ntmps ∧ refP fr (lv8 h 34)) False) (run (pe E) (orcT E) (tabL fns) 20000 (2^200-1) (hd8 E) (mkL Try.f8.ntmps (lv8 h 33)) sv8) := by
  rw [dec33]
  exact ⟨sz_23, fun _ => ⟨trivial, rfl, rfl, ⟨rfl, rfl⟩, rfl, ⟨rfl, rfl⟩, rfl, rfl, rfl⟩, fun e => by rw [hno] at e; cases e⟩
theorem rn_34 (E : World) (h : Int) (R : SV → Prop) (hno : fits pt24 (wh h) = false) : loopP (pe E) Try.f8 (fun v _ => R v) (fun todo fr s' => cond (memS s') (True ∧ todo = hd8 E ∧ fr.nt = Try.f8.ntmps ∧ refP fr (lv8 h 35)) False) (run (pe E) (orcT E) (tabL fns) 20000 (2^200-1) (hd8 E) (mkL Try.f8.ntmps (lv8 h 34)) sv8) := by
  rw [dec34]
  exact ⟨sz_24, fun _ => ⟨trivial, rfl, rfl, ⟨rfl, rfl⟩, rfl, ⟨rfl, rfl⟩, rfl, rfl, rfl⟩, fun e => by rw [hno] at e; cases e⟩
theorem rn_35 (E : World) (h : Int) (R : SV → Prop) (hno : fits pt25 (wh h) = false) : loopP (pe E) Try.f8 (fun v _ => R v) (fun todo fr s' => cond (memS s') (True ∧ todo = hd8 E ∧ fr.nt = Try.f8.ntmps ∧ refP fr (lv8 h 36)) False) (run (pe E) (orcT E) (tabL fns) 20000 (2^200-1) (hd8 E) (mkL Try.f8.ntmps (lv8 h 35)) sv8) := by
  rw [dec35]
  exact ⟨sz_25, fun _ => ⟨trivial, rfl, rfl, ⟨rfl, rfl⟩, rfl, ⟨rfl, rfl⟩, rfl, rfl, rfl⟩, fun e => by rw [hno] at e; cases e⟩
theorem rn_36 (E : World) (h : Int) (R : SV → Prop) (hno : fits pt26 (wh h) = false) : loopP (pe E) Try.f8 (fun v _ => R v) (fun todo fr s' => cond (memS s') (True ∧ todo = hd8 E ∧ fr.nt = Try.f8.ntmps ∧ refP fr (lv8 h 37)) False) (run (pe E) (orcT E) (tabL fns) 20000 (2^200-1) (hd8 E) (mkL Try.f8.ntmps (lv8 h 36)) sv8) := by
  rw [dec36]
  exact ⟨sz_26, fun _ => ⟨trivial, rfl, rfl, ⟨rfl, rfl⟩, rfl, ⟨rfl, rfl⟩, rfl, rfl, rfl⟩, fun e => by rw [hno] at e; cases e⟩
theorem rn_37 (E : World) (h : Int) (R : SV → Prop) (hno : fits pt27 (wh h) = false) : loopP (pe E) Try.f8 (fun v _ => R v) (fun todo fr s' => cond (memS s') (True ∧ todo = hd8 E ∧ fr.nt = Try.f8.ntmps ∧ refP fr (lv8 h 38)) False) (run (pe E) (orcT E) (tabL fns) 20000 (2^200-1) (hd8 E) (mkL Try.f8.ntmps (lv8 h 37)) sv8) := by
  rw [dec37]
  exact ⟨sz_27, fun _ => ⟨trivial, rfl, rfl, ⟨rfl, rfl⟩, rfl, ⟨rfl, rfl⟩, rfl, rfl, rfl⟩, fun e => by rw [hno] at e; cases e⟩
theorem rn_38 (E : World) (h : Int) (R : SV → Prop) (hno : fits pt28 (wh h) = false) : loopP (pe E) Try.f8 (fun v _ => R v) (fun todo fr s' => cond (memS s') (True ∧ todo = hd8 E ∧ fr.nt = Try.f8.ntmps ∧ refP fr (lv8 h 39)) False) (run (pe E) (orcT E) (tabL fns) 20000 (2^200-1) (hd8 E) (mkL Try.f8.ntmps (lv8 h 38)) sv8) := by
  rw [dec38]
  exact ⟨sz_28, fun _ => ⟨trivial, rfl, rfl, ⟨rfl, rfl⟩, rfl, ⟨rfl, rfl⟩, rfl, rfl, rfl⟩, fun e => by rw [hno] at e; cases e⟩
theorem rn_39 (E : World) (h : Int) (R : SV → Prop) (hno : fits pt29 (wh h) = false) : loopP (pe E) Try.f8 (fun v _ => R v) (fun todo fr s' => cond (memS s') (True ∧ todo = hd8 E ∧ fr.nt = Try.f8.ntmps ∧ refP fr (lv8 h 40)) False) (run (pe E) (orcT E) (tabL fns) 20000 (2^200-1) (hd8 E) (mkL Try.f8.ntmps (lv8 h 39)) sv8) := by
  rw [dec39]
  exact ⟨sz_29, fun _ => ⟨trivial, rfl, rfl, ⟨rfl, rfl⟩, rfl, ⟨rfl, rfl⟩, rfl, rfl, rfl⟩, fun e => by rw [hno] at e; cases e⟩
theorem rn_40 (E : World) (h : Int) (R : SV → Prop) (hno : (fits pt30 (wh h) && !(bif decide (fld pt30 (wh h) 99 < 0) then true else decide (fld pt30 (wh h) 99 > 13))) = false) : loopP (pe E) Try.f8 (fun v _ => R v) (fun todo fr s' => cond (memS s') (True ∧ todo = hd8 E ∧ fr.nt = Try.f8.ntmps ∧ refP fr (lv8 h 41)) False) (run (pe E) (orcT E) (tabL fns) 20000 (2^200-1) (hd8 E) (mkL Try.f8.ntmps (lv8 h 40)) sv8) := by
  rw [dec40]
  exact ⟨sz_30, fun _ => ⟨trivial, rfl, rfl, ⟨rfl, rfl⟩, rfl, ⟨rfl, rfl⟩, rfl, rfl, rfl⟩, fun e => ⟨sz_30, fun _ => ⟨trivial, rfl, rfl, ⟨rfl, rfl⟩, rfl, ⟨rfl, rfl⟩, rfl, rfl, rfl⟩, fun e2 => by rw [e2] at hno; cases hf : fits pt30 (wh h) <;> rw [hf] at e hno <;> first | (cases e; done) | cases hno⟩⟩
theorem rn_41 (E : World) (h : Int) (R : SV → Prop) (hno : fits pt31 (wh h) = false) : loopP (pe E) Try.f8 (fun v _ => R v) (fun todo fr s' => cond (memS s') (True ∧ todo = hd8 E ∧ fr.nt = Try.f8.ntmps ∧ refP fr (lv8 h 42)) False) (run (pe E) (orcT E) (tabL fns) 20000 (2^200-1) (hd8 E) (mkL Try.f8.ntmps (lv8 h 41)) sv8) := by
  rw [dec41]
  exact ⟨sz_31, fun _ => ⟨trivial, rfl, rfl, ⟨rfl, rfl⟩, rfl, ⟨rfl, rfl⟩, rfl, rfl, rfl⟩, fun e => by rw [hno] at e; cases e⟩
theorem rn_42 (E : World) (h : Int) (R : SV → Prop) (hno : fits pt32 (wh h) = false) : loopP (pe E) Try.f8 (fun v _ => R v) (fun todo fr s' => cond (memS s') (True ∧ todo = hd8 E ∧ fr.nt = Try.f8.ntmps ∧ refP fr (lv8 h 43)) False) (run (pe E) (orcT E) (tabL fns) 20000 (2^200-1) (hd8 E) (mkL Try.f8.ntmps (lv8 h 42)) sv8) := by
  rw [dec42]
  exact ⟨sz_32, fun _ => ⟨trivial, rfl, rfl, ⟨rfl, rfl⟩, rfl, ⟨rfl, rfl⟩, rfl, rfl, rfl⟩, fun e => by rw [hno] at e; cases e⟩
theorem rn_43 (E : World) (h : Int) (R : SV → Prop) (hno : fits pt33 (wh h) = false) : loopP (pe E) Try.f8 (fun v _ => R v) (fun todo fr s' => cond (memS s') (True ∧ todo = hd8 E ∧ fr.nt = Try.f8.ntmps ∧ refP fr (lv8 h 44)) False) (run (pe E) (orcT E) (tabL fns) 20000 (2^200-1) (hd8 E) (mkL Try.f8.ntmps (lv8 h 43)) sv8) := by
  rw [dec43]
  exact ⟨sz_33, fun _ => ⟨trivial, rfl, rfl, ⟨rfl, rfl⟩, rfl, ⟨rfl, rfl⟩, rfl, rfl, rfl⟩, fun e => by rw [hno] at e; cases e⟩
theorem rn_44 (E : World) (h : Int) (R : SV → Prop) (hno : fits pt34 (wh h) = false) : loopP (pe E) Try.f8 (fun v _ => R v) (fun todo fr s' => cond (memS s') (True ∧ todo = hd8 E ∧ fr.nt = Try.f8.ntmps ∧ refP fr (lv8 h 45)) False) (run (pe E) (orcT E) (tabL fns) 20000 (2^200-1) (hd8 E) (mkL Try.f8.ntmps (lv8 h 44)) sv8) := by
  rw [dec44]
  exact ⟨sz_34, fun _ => ⟨trivial, rfl, rfl, ⟨rfl, rfl⟩, rfl, ⟨rfl, rfl⟩, rfl, rfl, rfl⟩, fun e => by rw [hno] at e; cases e⟩
set_option maxHeartbeats 8000000 in
theorem rn_all (E : World) (h : Int) (R : SV → Prop) : ∀ j, j < 45 → okP h j = false → loopP (pe E) Try.f8 (fun v _ => R v) (fun todo fr s' => cond (memS s') (True ∧ todo = hd8 E ∧ fr.nt = Try.f8.ntmps ∧ refP fr (lv8 h (j + 1))) False) (run (pe E) (orcT E) (tabL fns) 20000 (2^200-1) (hd8 E) (mkL Try.f8.ntmps (lv8 h j)) sv8)
  | 0, _, hno => rn_0 E h R hno
  | 1, _, hno => rn_1 E h R hno
  | 2, _, hno => rn_2 E h R hno
  | 3, _, hno => rn_3 E h R hno
  | 4, _, hno => rn_4 E h R hno
  | 5, _, hno => rn_5 E h R hno
  | 6, _, hno => rn_6 E h R hno
  | 7, _, hno => rn_7 E h R hno
  | 8, _, hno => rn_8 E h R hno
  | 9, _, hno => rn_9 E h R hno
  | 10, _, hno => rn_10 E h R hno
  | 11, _, hno => rn_11 E h R hno
  | 12, _, hno => rn_12 E h R hno
  | 13, _, hno => rn_13 E h R hno
  | 14, _, hno => rn_14 E h R hno
  | 15, _, hno => rn_15 E h R hno
  | 16, _, hno => rn_16 E h R hno
  | 17, _, hno => rn_17 E h R hno
  | 18, _, hno => rn_18 E h R hno
  | 19, _, hno => rn_19 E h R hno
  | 20, _, hno => rn_20 E h R hno
  | 21, _, hno => rn_21 E h R hno
  | 22, _, hno => rn_22 E h R hno
  | 23, _, hno => rn_23 E h R hno
  | 24, _, hno => rn_24 E h R hno
  | 25, _, hno => rn_25 E h R hno
  | 26, _, hno => rn_26 E h R hno
  | 27, _, hno => rn_27 E h R hno
  | 28, _, hno => rn_28 E h R hno
  | 29, _, hno => rn_29 E h R hno
  | 30, _, hno => rn_30 E h R hno
  | 31, _, hno => rn_31 E h R hno
  | 32, _, hno => rn_32 E h R hno
  | 33, _, hno => rn_33 E h R hno
  | 34, _, hno => rn_34 E h R hno
  | 35, _, hno => rn_35 E h R hno
  | 36, _, hno => rn_36 E h R hno
  | 37, _, hno => rn_37 E h R hno
  | 38, _, hno => rn_38 E h R hno
  | 39, _, hno => rn_39 E h R hno
  | 40, _, hno => rn_40 E h R hno
  | 41, _, hno => rn_41 E h R hno
  | 42, _, hno => rn_42 E h R hno
  | 43, _, hno => rn_43 E h R hno
  | 44, _, hno => rn_44 E h R hno
  | n + 45, hj, _ => absurd hj (by omega)
set_option maxHeartbeats 8000000 in
theorem line_all (E : World) (h : Int) (h0 : 0 ≤ h) (h1 : h < 65536) : ∀ j, j < 45 → okP h j = true → ∃ n0 n1 n2 b3 n4 n5 n6 n7 n8 b9 n10 n11 b12 b13 b14 b15 b16 b17 b18 b19 n20 b21 b22 b23, Good E h j (cs24 n0 n1 n2 b3 n4 n5 n6 n7 n8 b9 n10 n11 b12 b13 b14 b15 b16 b17 b18 b19 n20 b21 b22 b23)
  | 0, _, ok => line_0 E h h0 h1 ok
  | 1, _, ok => line_1 E h h0 h1 ok
  | 2, _, ok => line_2 E h h0 h1 ok
  | 3, _, ok => line_3 E h h0 h1 ok
  | 4, _, ok => line_4 E h h0 h1 ok
  | 5, _, ok => line_5 E h h0 h1 ok
  | 6, _, ok => line_6 E h h0 h1 ok
  | 7, _, ok => line_7 E h h0 h1 ok
  | 8, _, ok => line_8 E h h0 h1 ok
  | 9, _, ok => line_9 E h h0 h1 ok
  | 10, _, ok => line_10 E h h0 h1 ok
  | 11, _, ok => line_11 E h h0 h1 ok
  | 12, _, ok => line_12 E h h0 h1 ok
  | 13, _, ok => line_13 E h h0 h1 ok
  | 14, _, ok => line_14 E h h0 h1 ok
  | 15, _, ok => line_15 E h h0 h1 ok
  | 16, _, ok => line_16 E h h0 h1 ok
  | 17, _, ok => line_17 E h h0 h1 ok
  | 18, _, ok => line_18 E h h0 h1 ok
  | 19, _, ok => line_19 E h h0 h1 ok
  | 20, _, ok => line_20 E h h0 h1 ok
  | 21, _, ok => line_21 E h h0 h1 ok
  | 22, _, ok => line_22 E h h0 h1 ok
  | 23, _, ok => line_23 E h h0 h1 ok
  | 24, _, ok => line_24 E h h0 h1 ok
  | 25, _, ok => line_25 E h h0 h1 ok
  | 26, _, ok => line_26 E h h0 h1 ok
  | 27, _, ok => line_27 E h h0 h1 ok
  | 28, _, ok => line_28 E h h0 h1 ok
  | 29, _, ok => line_29 E h h0 h1 ok
  | 30, _, ok => line_30 E h h0 h1 ok
  | 31, _, ok => line_31 E h h0 h1 ok
  | 32, _, ok => line_32 E h h0 h1 ok
  | 33, _, ok => line_33 E h h0 h1 ok
  | 34, _, ok => line_34 E h h0 h1 ok
  | 35, _, ok => line_35 E h h0 h1 ok
  | 36, _, ok => line_36 E h h0 h1 ok
  | 37, _, ok => line_37 E h h0 h1 ok
  | 38, _, ok => line_38 E h h0 h1 ok
  | 39, _, ok => line_39 E h h0 h1 ok
  | 40, _, ok => line_40 E h h0 h1 ok
  | 41, _, ok => line_41 E h h0 h1 ok
  | 42, _, ok => line_42 E h h0 h1 ok
  | 43, _, ok => line_43 E h h0 h1 ok
  | 44, _, ok => line_44 E h h0 h1 ok
  | n + 45, hj, _ => absurd hj (by omega)
theorem first_ok (h : Int) : ∀ m, (∀ k, k < m → okP h k = false) ∨ ∃ j, j < m ∧ okP h j = true ∧ ∀ k, k < j → okP h k = false
  | 0 => .inl fun k hk => absurd hk (Nat.not_lt_zero k)
  | m + 1 => by
    rcases first_ok h m with hn | ⟨j, hj, ho, hn⟩
    · cases ho : okP h m
      · exact .inl fun k hk => by
          by_cases e : k = m
          · rw [e]; exact ho
          · exact hn k (by omega)
      · exact .inr ⟨m, Nat.lt_succ_self m, ho, hn⟩
    · exact .inr ⟨j, by omega, ho, hn⟩
theorem good_all (E : World) (h : Int) (h0 : 0 ≤ h) (h1 : h < 65536) : ∃ j, j ≤ 45 ∧ (∀ k, k < j → okP h k = false) ∧ ∃ n0 n1 n2 b3 n4 n5 n6 n7 n8 b9 n10 n11 b12 b13 b14 b15 b16 b17 b18 b19 n20 b21 b22 b23, Good E h j (cs24 n0 n1 n2 b3 n4 n5 n6 n7 n8 b9 n10 n11 b12 b13 b14 b15 b16 b17 b18 b19 n20 b21 b22 b23) := by
  rcases first_ok h 45 with hn | ⟨j, hj, ho, hn⟩
  · exact ⟨45, Nat.le_refl _, hn, _, _, _, _, _, _, _, _, _, _, _, _, _, _, _, _, _, _, _, _, _, _, _, _, dflt E h h0 h1 (hn 0 (by decide)) (hn 1 (by decide)) (hn 2 (by decide)) (hn 3 (by decide)) (hn 4 (by decide)) (hn 5 (by decide)) (hn 6 (by decide)) (hn 7 (by decide)) (hn 8 (by decide)) (hn 9 (by decide)) (hn 10 (by decide)) (hn 11 (by decide)) (hn 12 (by decide)) (hn 13 (by decide)) (hn 14 (by decide)) (hn 15 (by decide)) (hn 16 (by decide)) (hn 17 (by decide)) (hn 18 (by decide)) (hn 19 (by decide)) (hn 20 (by decide)) (hn 21 (by decide)) (hn 22 (by decide)) (hn 23 (by decide)) (hn 24 (by decide)) (hn 25 (by decide)) (hn 26 (by decide)) (hn 27 (by decide)) (hn 28 (by decide)) (hn 29 (by decide)) (hn 30 (by decide)) (hn 31 (by decide)) (hn 32 (by decide)) (hn 33 (by decide)) (hn 34 (by decide)) (hn 35 (by decide)) (hn 36 (by decide)) (hn 37 (by decide)) (hn 38 (by decide)) (hn 39 (by decide)) (hn 40 (by decide)) (hn 41 (by decide)) (hn 42 (by decide)) (hn 43 (by decide)) (hn 44 (by decide))⟩
  · obtain ⟨n0, n1, n2, b3, n4, n5, n6, n7, n8, b9, n10, n11, b12, b13, b14, b15, b16, b17, b18, b19, n20, b21, b22, b23, hg⟩ := line_all E h h0 h1 j hj ho
    exact ⟨j, Nat.le_of_lt hj, hn, n0, n1, n2, b3, n4, n5, n6, n7, n8, b9, n10, n11, b12, b13, b14, b15, b16, b17, b18, b19, n20, b21, b22, b23, hg⟩
theorem memS_ref : ∀ {s : SW}, memS s = true → refT s sv8 := by
  intro s h
  unfold memS at h
  split at h
  · rename_i a b r
    simp only [Bool.and_eq_true] at h
    have ea : a = zrB.cs := litL_eq h.1
    have eb : b = tabL8 := litL_eq h.2
    subst ea
    subst eb
    exact Go.Proofs.Ytpfdemmoapjjpaa.Ev.refS_refl sv8
  · cases h
theorem loopP_mono {P : PE} {fn : Func} {post : SV → SW → Prop} {I J : List Item → Fr → SW → Prop} (h : ∀ t f s, I t f s → J t f s) : ∀ t : Tree Lf, loopP P fn post I t → loopP P fn post J t := by
  intro t
  induction t with
  | leaf x =>
    intro hx
    unfold loopP at hx ⊢
    cases he : x.ended
    · rw [he] at hx; exact h _ _ _ hx
    · rw [he] at hx; exact hx
  | node b t f iht ihf => exact fun hx => ⟨fun hb => iht (hx.1 hb), fun hb => ihf (hx.2 hb)⟩
  | need b t ih => exact fun hx => ⟨hx.1, ih hx.2⟩
  | fail => exact id
theorem condI {s : SW} {p : Prop} (h : cond (memS s) p False) : memS s = true ∧ p := by
  cases hm : memS s <;> rw [hm] at h
  · exact h.elim
  · exact ⟨rfl, h⟩
theorem sv8_ok : okSW sv8 = true := by kernel_rfl
theorem dec_c (E : World) (h : Int) (j : Nat) (hj : j ≤ 45) (hn : ∀ k, k < j → okP h k = false) (l : List C) (hl : okL 0 l = true) (hg : Good E h j l) (s : SW) : CallTree (pe E) 8 [.c (.i false .u16 h)] s (.leaf (.a l, s)) := by
  refine pure_contract_loop (v := .a l) (by simp [SV.ok, C.ok]) hl (fun W hE => ?_) s
  refine calls_loopT (c := c8) (P := pe E) orcT_ok tab_ok tab_sz mixed Try.func8 rfl (by decide) (vs := [.c (.i false .u16 h)]) (s := []) (Nat.le_of_ble_eq_true rfl) 20000 (2^200-1) (fun x : Nat => x ≤ j) (fun x => 46 - x) (fun _ => hd8 E) (lv8 h) (fun _ => sv8) (fun _ => rfl) (fun x hx => ⟨rfl, sv8_ok, Nat.zero_le _⟩)
    (fun v _ => SV.sim v (.a l)) ?_ ?_ W 0 _ W (Inv.start hE) (by simp [SV.ok, C.ok, okL])
  · refine loopP_mono (fun t f s h2 => ?_) _ (I := fun todo fr s' => cond (memS s') (True ∧ todo = hd8 E ∧ fr.nt = Try.f8.ntmps ∧ refP fr (lv8 h 0)) False) ?_
    · obtain ⟨hm, _, q1, q2, q3⟩ := condI h2
      exact ⟨0, Nat.zero_le _, q1, q2, q3, memS_ref hm⟩
    · rw [dec_pro]
      exact ⟨trivial, rfl, rfl, ⟨rfl, rfl⟩, rfl, ⟨rfl, rfl⟩, rfl, rfl, rfl⟩
  · intro x hx
    have hx : x ≤ j := hx
    by_cases e : x = j
    · subst e
      refine loopP_mono (fun t f s h2 => ?_) _ hg.2
      exact ((condI h2).2.1).elim
    · have hr := rn_all E h (fun v => SV.sim v (.a l)) x (by omega) (hn x (by omega))
      generalize run (pe E) (orcT E) (tabL fns) 20000 (2^200-1) (hd8 E) (mkL Try.f8.ntmps (lv8 h x)) sv8 = T at hr ⊢
      refine loopP_mono (fun t f s h2 => ?_) _ hr
      obtain ⟨hm, _, q1, q2, q3⟩ := condI h2
      exact ⟨x + 1, (show x + 1 ≤ j by omega), (show 46 - (x + 1) < 46 - x by omega), q1, q2, q3, memS_ref hm⟩
theorem prog_c (E : World) (h : Int) (l : List C) (hl : okL 0 l = true) (j : Nat) (hg : Good E h j l) (s : SW) : CallTree (pe E) 7 [.c (.i false .u16 h)] s (.leaf (.a l, s)) :=
  pure_contractH (fnTree_sound (P := pe E) orcA_ok tab_ok tab_sz mixed 20000 Try.func7 (by decide) [.c (.i false .u16 h)] []) (by simp [SV.ok, C.ok, okL]) (v := .a l) hl ⟨hg.1⟩ s
/-- Both take a halfword apart alike. -/
theorem both_c (E : World) (h : Int) (h0 : 0 ≤ h) (h1 : h < 65536) : ∃ n0 n1 n2 b3 n4 n5 n6 n7 n8 b9 n10 n11 b12 b13 b14 b15 b16 b17 b18 b19 n20 b21 b22 b23, ∀ s, CallTree (pe E) 7 [.c (.i false .u16 h)] s (.leaf (.a (cs24 n0 n1 n2 b3 n4 n5 n6 n7 n8 b9 n10 n11 b12 b13 b14 b15 b16 b17 b18 b19 n20 b21 b22 b23), s)) ∧ CallTree (pe E) 8 [.c (.i false .u16 h)] s (.leaf (.a (cs24 n0 n1 n2 b3 n4 n5 n6 n7 n8 b9 n10 n11 b12 b13 b14 b15 b16 b17 b18 b19 n20 b21 b22 b23), s)) := by
  obtain ⟨j, hj, hn, n0, n1, n2, b3, n4, n5, n6, n7, n8, b9, n10, n11, b12, b13, b14, b15, b16, b17, b18, b19, n20, b21, b22, b23, hg⟩ := good_all E h h0 h1
  exact ⟨n0, n1, n2, b3, n4, n5, n6, n7, n8, b9, n10, n11, b12, b13, b14, b15, b16, b17, b18, b19, n20, b21, b22, b23, fun s => ⟨prog_c E h _ rfl j hg s, dec_c E h j hj hn _ rfl hg s⟩⟩
end Go.Proofs.Ytpfdemmoapjjpaa

