import Derived.Test.YtpfdemmoapjjpaaU
set_option linter.unusedVariables false
set_option linter.unusedSimpArgs false
namespace Go.Proofs.Ytpfdemmoapjjpaa
open Go Go.Proofs Go.Proofs.Ytpfdemmoapjjpaa.Ev
set_option maxRecDepth 100000
theorem dec16 (E : World) (h : Int) (R : SV → Prop) (X : Prop) :
    (loopP (pe E) Try.f8 (fun v _ => R v) (fun todo fr s' => cond (memS s') (X ∧ todo = hd8 E ∧ fr.nt = Try.f8.ntmps ∧ refP fr (lv8 h 17)) False) (run (pe E) (orcT E) (tabL fns) 20000 (2^200-1) (hd8 E) (mkL Try.f8.ntmps (lv8 h 16)) sv8)) =
    (szOK pt7 = true ∧ ((!fits pt7 (wh h)) = true → X ∧ hd8 E = hd8 E ∧ (125 : Nat) = (125 : Nat) ∧ (IntKind.u16 = IntKind.u16 ∧ h = h) ∧ C.p (0 : Nat) (0 : Nat) = C.p (0 :
      Nat) (0 : Nat) ∧ (IntKind.u32 = IntKind.u32 ∧ IntKind.u32.wrap h = IntKind.u32.wrap h) ∧ C.slc (1 : Nat) (0 : Nat) (45 : Nat) (45 : Nat) = C.slc (1 : Nat) (0 : Nat) (45 :
      Nat) (45 : Nat) ∧ IntKind.i64 = IntKind.i64 ∧ (17 : Int) = (17 : Int)) ∧ ((!fits pt7 (wh h)) = false → szOK pt7 = true ∧ ((bif decide (fld pt7 (wh h) (111 : Int) < (14 :
      Int)) then true else decide (fld pt7 (wh h) (111 : Int) > (14 : Int))) = true → X ∧ hd8 E = hd8 E ∧ (125 : Nat) = (125 : Nat) ∧ (IntKind.u16 = IntKind.u16 ∧ h = h) ∧ C.p
      (0 : Nat) (0 : Nat) = C.p (0 : Nat) (0 : Nat) ∧ (IntKind.u32 = IntKind.u32 ∧ IntKind.u32.wrap h = IntKind.u32.wrap h) ∧ C.slc (1 : Nat) (0 : Nat) (45 : Nat) (45 : Nat) =
      C.slc (1 : Nat) (0 : Nat) (45 : Nat) (45 : Nat) ∧ IntKind.i64 = IntKind.i64 ∧ (17 : Int) = (17 : Int)) ∧ ((bif decide (fld pt7 (wh h) (111 : Int) < (14 : Int)) then true
      else decide (fld pt7 (wh h) (111 : Int) > (14 : Int))) = false → szOK pt7 = true ∧ szOK pt7 = true ∧ szOK pt7 = true ∧ szOK pt7 = true ∧ szOK pt7 = true ∧ szOK pt7 = true
      ∧ szOK pt7 = true ∧ szOK pt7 = true ∧ szOK pt7 = true ∧ szOK pt7 = true ∧ szOK pt7 = true ∧ szOK pt7 = true ∧ szOK pt7 = true ∧ ((fld pt7 (wh h) (79 : Int) == (1 : Int)) =
      true → szOK pt7 = true ∧ szOK pt7 = true ∧ R (SV.a [C.i true IntKind.i64 (1 : Int), C.i true IntKind.i64 (14 : Int), C.i true IntKind.i64 (2 : Int), C.b true true, C.i
      false IntKind.i64 (fld pt7 (wh h) (100 : Int)), C.i false IntKind.i64 (fld pt7 (wh h) (100 : Int)), C.i true IntKind.i64 (0 : Int), C.i false IntKind.i64 (fld pt7 (wh h)
      (109 : Int)), C.i false IntKind.u32 (IntKind.u32.wrap (IntKind.u32.wrap (fld pt7 (wh h) (105 : Int)) * (1 : Int))), C.b true false, C.i false IntKind.i64 (fld pt7 (wh h)
      (116 : Int)), C.i true IntKind.i64 (0 : Int), C.b true false, C.b true false, C.b true false, C.b true false, C.b true false, C.b true false, C.b true false, C.b true
      false, C.i false IntKind.i64 (IntKind.i64.wrap ((0 : Int) + fld pt7 (wh h) (108 : Int))), C.b true false, C.b true false, C.b true false])) ∧ ((fld pt7 (wh h) (79 : Int)
      == (1 : Int)) = false → szOK pt7 = true ∧ szOK pt7 = true ∧ R (SV.a [C.i true IntKind.i64 (1 : Int), C.i true IntKind.i64 (14 : Int), C.i false IntKind.i64 (fld pt7 (wh h)
      (111 : Int)), C.b true true, C.i false IntKind.i64 (fld pt7 (wh h) (100 : Int)), C.i false IntKind.i64 (fld pt7 (wh h) (100 : Int)), C.i true IntKind.i64 (0 : Int), C.i
      false IntKind.i64 (fld pt7 (wh h) (109 : Int)), C.i false IntKind.u32 (IntKind.u32.wrap (IntKind.u32.wrap (fld pt7 (wh h) (105 : Int)) * (1 : Int))), C.b true false, C.i
      false IntKind.i64 (fld pt7 (wh h) (116 : Int)), C.i true IntKind.i64 (0 : Int), C.b true false, C.b true false, C.b true false, C.b true false, C.b true false, C.b true
      false, C.b true false, C.b true false, C.i false IntKind.i64 (IntKind.i64.wrap ((0 : Int) + fld pt7 (wh h) (108 : Int))), C.b true false, C.b true false, C.b true
      false]))))) := by kernel_rfl
theorem dec17 (E : World) (h : Int) (R : SV → Prop) (X : Prop) :
    (loopP (pe E) Try.f8 (fun v _ => R v) (fun todo fr s' => cond (memS s') (X ∧ todo = hd8 E ∧ fr.nt = Try.f8.ntmps ∧ refP fr (lv8 h 18)) False) (run (pe E) (orcT E) (tabL fns) 20000 (2^200-1) (hd8 E) (mkL Try.f8.ntmps (lv8 h 17)) sv8)) =
    (szOK pt7 = true ∧ ((!fits pt7 (wh h)) = true → X ∧ hd8 E = hd8 E ∧ (125 : Nat) = (125 : Nat) ∧ (IntKind.u16 = IntKind.u16 ∧ h = h) ∧ C.p (0 : Nat) (0 : Nat) = C.p (0 :
      Nat) (0 : Nat) ∧ (IntKind.u32 = IntKind.u32 ∧ IntKind.u32.wrap h = IntKind.u32.wrap h) ∧ C.slc (1 : Nat) (0 : Nat) (45 : Nat) (45 : Nat) = C.slc (1 : Nat) (0 : Nat) (45 :
      Nat) (45 : Nat) ∧ IntKind.i64 = IntKind.i64 ∧ (18 : Int) = (18 : Int)) ∧ ((!fits pt7 (wh h)) = false → szOK pt7 = true ∧ ((bif decide (fld pt7 (wh h) (111 : Int) < (15 :
      Int)) then true else decide (fld pt7 (wh h) (111 : Int) > (15 : Int))) = true → X ∧ hd8 E = hd8 E ∧ (125 : Nat) = (125 : Nat) ∧ (IntKind.u16 = IntKind.u16 ∧ h = h) ∧ C.p
      (0 : Nat) (0 : Nat) = C.p (0 : Nat) (0 : Nat) ∧ (IntKind.u32 = IntKind.u32 ∧ IntKind.u32.wrap h = IntKind.u32.wrap h) ∧ C.slc (1 : Nat) (0 : Nat) (45 : Nat) (45 : Nat) =
      C.slc (1 : Nat) (0 : Nat) (45 : Nat) (45 : Nat) ∧ IntKind.i64 = IntKind.i64 ∧ (18 : Int) = (18 : Int)) ∧ ((bif decide (fld pt7 (wh h) (111 : Int) < (15 : Int)) then true
      else decide (fld pt7 (wh h) (111 : Int) > (15 : Int))) = false → szOK pt7 = true ∧ szOK pt7 = true ∧ szOK pt7 = true ∧ szOK pt7 = true ∧ szOK pt7 = true ∧ szOK pt7 = true
      ∧ szOK pt7 = true ∧ szOK pt7 = true ∧ szOK pt7 = true ∧ szOK pt7 = true ∧ szOK pt7 = true ∧ szOK pt7 = true ∧ szOK pt7 = true ∧ ((fld pt7 (wh h) (79 : Int) == (1 : Int)) =
      true → szOK pt7 = true ∧ szOK pt7 = true ∧ R (SV.a [C.i true IntKind.i64 (1 : Int), C.i true IntKind.i64 (14 : Int), C.i true IntKind.i64 (2 : Int), C.b true true, C.i
      false IntKind.i64 (fld pt7 (wh h) (100 : Int)), C.i true IntKind.i64 (0 : Int), C.i true IntKind.i64 (0 : Int), C.i false IntKind.i64 (fld pt7 (wh h) (109 : Int)), C.i
      false IntKind.u32 (IntKind.u32.wrap (IntKind.u32.wrap (fld pt7 (wh h) (105 : Int)) * (1 : Int))), C.b true false, C.i false IntKind.i64 (fld pt7 (wh h) (116 : Int)), C.i
      true IntKind.i64 (0 : Int), C.b true false, C.b true false, C.b true false, C.b true false, C.b true false, C.b true false, C.b true false, C.b true false, C.i false
      IntKind.i64 (IntKind.i64.wrap ((0 : Int) + fld pt7 (wh h) (108 : Int))), C.b true false, C.b true false, C.b true false])) ∧ ((fld pt7 (wh h) (79 : Int) == (1 : Int)) =
      false → szOK pt7 = true ∧ szOK pt7 = true ∧ R (SV.a [C.i true IntKind.i64 (1 : Int), C.i true IntKind.i64 (14 : Int), C.i false IntKind.i64 (fld pt7 (wh h) (111 : Int)),
      C.b true true, C.i false IntKind.i64 (fld pt7 (wh h) (100 : Int)), C.i true IntKind.i64 (0 : Int), C.i true IntKind.i64 (0 : Int), C.i false IntKind.i64 (fld pt7 (wh h)
      (109 : Int)), C.i false IntKind.u32 (IntKind.u32.wrap (IntKind.u32.wrap (fld pt7 (wh h) (105 : Int)) * (1 : Int))), C.b true false, C.i false IntKind.i64 (fld pt7 (wh h)
      (116 : Int)), C.i true IntKind.i64 (0 : Int), C.b true false, C.b true false, C.b true false, C.b true false, C.b true false, C.b true false, C.b true false, C.b true
      false, C.i false IntKind.i64 (IntKind.i64.wrap ((0 : Int) + fld pt7 (wh h) (108 : Int))), C.b true false, C.b true false, C.b true false]))))) := by kernel_rfl
theorem dec18 (E : World) (h : Int) (R : SV → Prop) (X : Prop) :
    (loopP (pe E) Try.f8 (fun v _ => R v) (fun todo fr s' => cond (memS s') (X ∧ todo = hd8 E ∧ fr.nt = Try.f8.ntmps ∧ refP fr (lv8 h 19)) False) (run (pe E) (orcT E) (tabL fns) 20000 (2^200-1) (hd8 E) (mkL Try.f8.ntmps (lv8 h 18)) sv8)) =
    (szOK pt11 = true ∧ ((!fits pt11 (wh h)) = true → X ∧ hd8 E = hd8 E ∧ (125 : Nat) = (125 : Nat) ∧ (IntKind.u16 = IntKind.u16 ∧ h = h) ∧ C.p (0 : Nat) (0 : Nat) = C.p (0 :
      Nat) (0 : Nat) ∧ (IntKind.u32 = IntKind.u32 ∧ IntKind.u32.wrap h = IntKind.u32.wrap h) ∧ C.slc (1 : Nat) (0 : Nat) (45 : Nat) (45 : Nat) = C.slc (1 : Nat) (0 : Nat) (45 :
      Nat) (45 : Nat) ∧ IntKind.i64 = IntKind.i64 ∧ (19 : Int) = (19 : Int)) ∧ ((!fits pt11 (wh h)) = false → szOK pt11 = true ∧ szOK pt11 = true ∧ szOK pt11 = true ∧ szOK pt11
      = true ∧ szOK pt11 = true ∧ szOK pt11 = true ∧ szOK pt11 = true ∧ szOK pt11 = true ∧ szOK pt11 = true ∧ szOK pt11 = true ∧ szOK pt11 = true ∧ szOK pt11 = true ∧ szOK pt11
      = true ∧ ((fld pt11 (wh h) (79 : Int) == (1 : Int)) = true → szOK pt11 = true ∧ szOK pt11 = true ∧ R (SV.a [C.i true IntKind.i64 (1 : Int), C.i true IntKind.i64 (14 :
      Int), C.i true IntKind.i64 (2 : Int), C.b true false, C.i false IntKind.i64 (fld pt11 (wh h) (100 : Int)), C.i false IntKind.i64 (fld pt11 (wh h) (100 : Int)), C.i true
      IntKind.i64 (0 : Int), C.i false IntKind.i64 (fld pt11 (wh h) (109 : Int)), C.i false IntKind.u32 (IntKind.u32.wrap (IntKind.u32.wrap (fld pt11 (wh h) (105 : Int)) * (1 :
      Int))), C.b true false, C.i false IntKind.i64 (fld pt11 (wh h) (116 : Int)), C.i true IntKind.i64 (0 : Int), C.b true false, C.b true false, C.b true false, C.b true
      false, C.b true false, C.b true false, C.b true false, C.b true false, C.i false IntKind.i64 (IntKind.i64.wrap ((0 : Int) + fld pt11 (wh h) (108 : Int))), C.b true false,
      C.b true false, C.b true false])) ∧ ((fld pt11 (wh h) (79 : Int) == (1 : Int)) = false → szOK pt11 = true ∧ szOK pt11 = true ∧ R (SV.a [C.i true IntKind.i64 (1 : Int), C.i
      true IntKind.i64 (14 : Int), C.i true IntKind.i64 (4 : Int), C.b true false, C.i false IntKind.i64 (fld pt11 (wh h) (100 : Int)), C.i false IntKind.i64 (fld pt11 (wh h)
      (100 : Int)), C.i true IntKind.i64 (0 : Int), C.i false IntKind.i64 (fld pt11 (wh h) (109 : Int)), C.i false IntKind.u32 (IntKind.u32.wrap (IntKind.u32.wrap (fld pt11 (wh
      h) (105 : Int)) * (1 : Int))), C.b true false, C.i false IntKind.i64 (fld pt11 (wh h) (116 : Int)), C.i true IntKind.i64 (0 : Int), C.b true false, C.b true false, C.b
      true false, C.b true false, C.b true false, C.b true false, C.b true false, C.b true false, C.i false IntKind.i64 (IntKind.i64.wrap ((0 : Int) + fld pt11 (wh h) (108 :
      Int))), C.b true false, C.b true false, C.b true false])))) := by kernel_rfl
theorem dec19 (E : World) (h : Int) (R : SV → Prop) (X : Prop) :
    (loopP (pe E) Try.f8 (fun v _ => R v) (fun todo fr s' => cond (memS s') (X ∧ todo = hd8 E ∧ fr.nt = Try.f8.ntmps ∧ refP fr (lv8 h 20)) False) (run (pe E) (orcT E) (tabL fns) 20000 (2^200-1) (hd8 E) (mkL Try.f8.ntmps (lv8 h 19)) sv8)) =
    (szOK pt12 = true ∧ ((!fits pt12 (wh h)) = true → X ∧ hd8 E = hd8 E ∧ (125 : Nat) = (125 : Nat) ∧ (IntKind.u16 = IntKind.u16 ∧ h = h) ∧ C.p (0 : Nat) (0 : Nat) = C.p (0 :
      Nat) (0 : Nat) ∧ (IntKind.u32 = IntKind.u32 ∧ IntKind.u32.wrap h = IntKind.u32.wrap h) ∧ C.slc (1 : Nat) (0 : Nat) (45 : Nat) (45 : Nat) = C.slc (1 : Nat) (0 : Nat) (45 :
      Nat) (45 : Nat) ∧ IntKind.i64 = IntKind.i64 ∧ (20 : Int) = (20 : Int)) ∧ ((!fits pt12 (wh h)) = false → szOK pt12 = true ∧ szOK pt12 = true ∧ szOK pt12 = true ∧ szOK pt12
      = true ∧ szOK pt12 = true ∧ szOK pt12 = true ∧ szOK pt12 = true ∧ szOK pt12 = true ∧ szOK pt12 = true ∧ szOK pt12 = true ∧ szOK pt12 = true ∧ szOK pt12 = true ∧ szOK pt12
      = true ∧ szOK pt12 = true ∧ ((fld pt12 (wh h) (79 : Int) == (1 : Int)) = true → szOK pt12 = true ∧ szOK pt12 = true ∧ R (SV.a [C.i true IntKind.i64 (1 : Int), C.i true
      IntKind.i64 (14 : Int), C.i true IntKind.i64 (2 : Int), C.b true true, C.i true IntKind.i64 (0 : Int), C.i false IntKind.i64 (fld pt12 (wh h) (110 : Int)), C.i true
      IntKind.i64 (0 : Int), C.i false IntKind.i64 (fld pt12 (wh h) (109 : Int)), C.i false IntKind.u32 (IntKind.u32.wrap (IntKind.u32.wrap (fld pt12 (wh h) (105 : Int)) * (1 :
      Int))), C.b true false, C.i false IntKind.i64 (fld pt12 (wh h) (116 : Int)), C.i true IntKind.i64 (0 : Int), C.b true false, C.b true false, C.b true false, C.b true
      false, C.b true false, C.b true false, C.b true false, C.b true false, C.i false IntKind.i64 (IntKind.i64.wrap ((0 : Int) + fld pt12 (wh h) (108 : Int))), C.b true false,
      C.b true false, C.b true false])) ∧ ((fld pt12 (wh h) (79 : Int) == (1 : Int)) = false → szOK pt12 = true ∧ szOK pt12 = true ∧ R (SV.a [C.i true IntKind.i64 (1 : Int), C.i
      true IntKind.i64 (14 : Int), C.i true IntKind.i64 (10 : Int), C.b true true, C.i true IntKind.i64 (0 : Int), C.i false IntKind.i64 (fld pt12 (wh h) (110 : Int)), C.i true
      IntKind.i64 (0 : Int), C.i false IntKind.i64 (fld pt12 (wh h) (109 : Int)), C.i false IntKind.u32 (IntKind.u32.wrap (IntKind.u32.wrap (fld pt12 (wh h) (105 : Int)) * (1 :
      Int))), C.b true false, C.i false IntKind.i64 (fld pt12 (wh h) (116 : Int)), C.i true IntKind.i64 (0 : Int), C.b true false, C.b true false, C.b true false, C.b true
      false, C.b true false, C.b true false, C.b true false, C.b true false, C.i false IntKind.i64 (IntKind.i64.wrap ((0 : Int) + fld pt12 (wh h) (108 : Int))), C.b true false,
      C.b true false, C.b true false])))) := by kernel_rfl
theorem dec20 (E : World) (h : Int) (R : SV → Prop) (X : Prop) :
    (loopP (pe E) Try.f8 (fun v _ => R v) (fun todo fr s' => cond (memS s') (X ∧ todo = hd8 E ∧ fr.nt = Try.f8.ntmps ∧ refP fr (lv8 h 21)) False) (run (pe E) (orcT E) (tabL fns) 20000 (2^200-1) (hd8 E) (mkL Try.f8.ntmps (lv8 h 20)) sv8)) =
    (szOK pt13 = true ∧ ((!fits pt13 (wh h)) = true → X ∧ hd8 E = hd8 E ∧ (125 : Nat) = (125 : Nat) ∧ (IntKind.u16 = IntKind.u16 ∧ h = h) ∧ C.p (0 : Nat) (0 : Nat) = C.p (0 :
      Nat) (0 : Nat) ∧ (IntKind.u32 = IntKind.u32 ∧ IntKind.u32.wrap h = IntKind.u32.wrap h) ∧ C.slc (1 : Nat) (0 : Nat) (45 : Nat) (45 : Nat) = C.slc (1 : Nat) (0 : Nat) (45 :
      Nat) (45 : Nat) ∧ IntKind.i64 = IntKind.i64 ∧ (21 : Int) = (21 : Int)) ∧ ((!fits pt13 (wh h)) = false → szOK pt13 = true ∧ szOK pt13 = true ∧ szOK pt13 = true ∧ szOK pt13
      = true ∧ szOK pt13 = true ∧ szOK pt13 = true ∧ szOK pt13 = true ∧ szOK pt13 = true ∧ szOK pt13 = true ∧ szOK pt13 = true ∧ szOK pt13 = true ∧ szOK pt13 = true ∧ szOK pt13
      = true ∧ ((fld pt13 (wh h) (79 : Int) == (1 : Int)) = true → szOK pt13 = true ∧ szOK pt13 = true ∧ R (SV.a [C.i true IntKind.i64 (1 : Int), C.i true IntKind.i64 (14 :
      Int), C.i true IntKind.i64 (2 : Int), C.b true false, C.i false IntKind.i64 (fld pt13 (wh h) (100 : Int)), C.i true IntKind.i64 (0 : Int), C.i true IntKind.i64 (0 : Int),
      C.i false IntKind.i64 (fld pt13 (wh h) (109 : Int)), C.i false IntKind.u32 (IntKind.u32.wrap (IntKind.u32.wrap (fld pt13 (wh h) (105 : Int)) * (1 : Int))), C.b true false,
      C.i false IntKind.i64 (fld pt13 (wh h) (116 : Int)), C.i true IntKind.i64 (0 : Int), C.b true false, C.b true false, C.b true false, C.b true false, C.b true false, C.b
      true false, C.b true false, C.b true false, C.i false IntKind.i64 (IntKind.i64.wrap ((0 : Int) + fld pt13 (wh h) (108 : Int))), C.b true false, C.b true false, C.b true
      false])) ∧ ((fld pt13 (wh h) (79 : Int) == (1 : Int)) = false → szOK pt13 = true ∧ szOK pt13 = true ∧ R (SV.a [C.i true IntKind.i64 (1 : Int), C.i true IntKind.i64 (14 :
      Int), C.i true IntKind.i64 (13 : Int), C.b true false, C.i false IntKind.i64 (fld pt13 (wh h) (100 : Int)), C.i true IntKind.i64 (0 : Int), C.i true IntKind.i64 (0 : Int),
      C.i false IntKind.i64 (fld pt13 (wh h) (109 : Int)), C.i false IntKind.u32 (IntKind.u32.wrap (IntKind.u32.wrap (fld pt13 (wh h) (105 : Int)) * (1 : Int))), C.b true false,
      C.i false IntKind.i64 (fld pt13 (wh h) (116 : Int)), C.i true IntKind.i64 (0 : Int), C.b true false, C.b true false, C.b true false, C.b true false, C.b true false, C.b
      true false, C.b true false, C.b true false, C.i false IntKind.i64 (IntKind.i64.wrap ((0 : Int) + fld pt13 (wh h) (108 : Int))), C.b true false, C.b true false, C.b true
      false])))) := by kernel_rfl
theorem dec21 (E : World) (h : Int) (R : SV → Prop) (X : Prop) :
    (loopP (pe E) Try.f8 (fun v _ => R v) (fun todo fr s' => cond (memS s') (X ∧ todo = hd8 E ∧ fr.nt = Try.f8.ntmps ∧ refP fr (lv8 h 22)) False) (run (pe E) (orcT E) (tabL fns) 20000 (2^200-1) (hd8 E) (mkL Try.f8.ntmps (lv8 h 21)) sv8)) =
    (szOK pt14 = true ∧ ((!fits pt14 (wh h)) = true → X ∧ hd8 E = hd8 E ∧ (125 : Nat) = (125 : Nat) ∧ (IntKind.u16 = IntKind.u16 ∧ h = h) ∧ C.p (0 : Nat) (0 : Nat) = C.p (0 :
      Nat) (0 : Nat) ∧ (IntKind.u32 = IntKind.u32 ∧ IntKind.u32.wrap h = IntKind.u32.wrap h) ∧ C.slc (1 : Nat) (0 : Nat) (45 : Nat) (45 : Nat) = C.slc (1 : Nat) (0 : Nat) (45 :
      Nat) (45 : Nat) ∧ IntKind.i64 = IntKind.i64 ∧ (22 : Int) = (22 : Int)) ∧ ((!fits pt14 (wh h)) = false → szOK pt14 = true ∧ szOK pt14 = true ∧ szOK pt14 = true ∧ szOK pt14
      = true ∧ szOK pt14 = true ∧ szOK pt14 = true ∧ szOK pt14 = true ∧ szOK pt14 = true ∧ szOK pt14 = true ∧ szOK pt14 = true ∧ szOK pt14 = true ∧ szOK pt14 = true ∧ szOK pt14
      = true ∧ ((fld pt14 (wh h) (79 : Int) == (1 : Int)) = true → szOK pt14 = true ∧ szOK pt14 = true ∧ R (SV.a [C.i true IntKind.i64 (5 : Int), C.i true IntKind.i64 (14 :
      Int), C.i true IntKind.i64 (2 : Int), C.b true false, C.i true IntKind.i64 (0 : Int), C.i true IntKind.i64 (0 : Int), C.i true IntKind.i64 (0 : Int), C.i false IntKind.i64
      (fld pt14 (wh h) (109 : Int)), C.i false IntKind.u32 (IntKind.u32.wrap (IntKind.u32.wrap (fld pt14 (wh h) (105 : Int)) * (1 : Int))), C.b true false, C.i false IntKind.i64
      (fld pt14 (wh h) (116 : Int)), C.i true IntKind.i64 (0 : Int), C.b true false, C.b true false, C.b true false, C.b true false, C.b true false, C.b true false, C.b true
      false, C.b true false, C.i false IntKind.i64 (IntKind.i64.wrap ((0 : Int) + fld pt14 (wh h) (108 : Int))), C.b true false, C.b true false, C.b true false])) ∧ ((fld pt14
      (wh h) (79 : Int) == (1 : Int)) = false → szOK pt14 = true ∧ szOK pt14 = true ∧ R (SV.a [C.i true IntKind.i64 (5 : Int), C.i true IntKind.i64 (14 : Int), C.i true
      IntKind.i64 (0 : Int), C.b true false, C.i true IntKind.i64 (0 : Int), C.i true IntKind.i64 (0 : Int), C.i true IntKind.i64 (0 : Int), C.i false IntKind.i64 (fld pt14 (wh
      h) (109 : Int)), C.i false IntKind.u32 (IntKind.u32.wrap (IntKind.u32.wrap (fld pt14 (wh h) (105 : Int)) * (1 : Int))), C.b true false, C.i false IntKind.i64 (fld pt14 (wh
      h) (116 : Int)), C.i true IntKind.i64 (0 : Int), C.b true false, C.b true false, C.b true false, C.b true false, C.b true false, C.b true false, C.b true false, C.b true
      false, C.i false IntKind.i64 (IntKind.i64.wrap ((0 : Int) + fld pt14 (wh h) (108 : Int))), C.b true false, C.b true false, C.b true false])))) := by kernel_rfl
theorem dec22 (E : World) (h : Int) (R : SV → Prop) (X : Prop) :
    (loopP (pe E) Try.f8 (fun v _ => R v) (fun todo fr s' => cond (memS s') (X ∧ todo = hd8 E ∧ fr.nt = Try.f8.ntmps ∧ refP fr (lv8 h 23)) False) (run (pe E) (orcT E) (tabL fns) 20000 (2^200-1) (hd8 E) (mkL Try.f8.ntmps (lv8 h 22)) sv8)) =
    (szOK pt15 = true ∧ ((!fits pt15 (wh h)) = true → X ∧ hd8 E = hd8 E ∧ (125 : Nat) = (125 : Nat) ∧ (IntKind.u16 = IntKind.u16 ∧ h = h) ∧ C.p (0 : Nat) (0 : Nat) = C.p (0 :
      Nat) (0 : Nat) ∧ (IntKind.u32 = IntKind.u32 ∧ IntKind.u32.wrap h = IntKind.u32.wrap h) ∧ C.slc (1 : Nat) (0 : Nat) (45 : Nat) (45 : Nat) = C.slc (1 : Nat) (0 : Nat) (45 :
      Nat) (45 : Nat) ∧ IntKind.i64 = IntKind.i64 ∧ (23 : Int) = (23 : Int)) ∧ ((!fits pt15 (wh h)) = false → szOK pt15 = true ∧ szOK pt15 = true ∧ szOK pt15 = true ∧ szOK pt15
      = true ∧ szOK pt15 = true ∧ szOK pt15 = true ∧ szOK pt15 = true ∧ szOK pt15 = true ∧ szOK pt15 = true ∧ szOK pt15 = true ∧ szOK pt15 = true ∧ szOK pt15 = true ∧ ((fld pt15
      (wh h) (79 : Int) == (1 : Int)) = true → szOK pt15 = true ∧ szOK pt15 = true ∧ R (SV.a [C.i true IntKind.i64 (7 : Int), C.i true IntKind.i64 (14 : Int), C.i true
      IntKind.i64 (2 : Int), C.b true false, C.i false IntKind.i64 (fld pt15 (wh h) (100 : Int)), C.i true IntKind.i64 (15 : Int), C.i true IntKind.i64 (0 : Int), C.i true
      IntKind.i64 (0 : Int), C.i false IntKind.u32 (IntKind.u32.wrap (IntKind.u32.wrap (fld pt15 (wh h) (105 : Int)) * (4 : Int))), C.b true true, C.i false IntKind.i64 (fld
      pt15 (wh h) (116 : Int)), C.i true IntKind.i64 (0 : Int), C.b true false, C.b true true, C.b true false, C.b true false, C.b true true, C.b true true, C.b true false, C.b
      true false, C.i false IntKind.i64 (IntKind.i64.wrap ((0 : Int) + fld pt15 (wh h) (108 : Int))), C.b true false, C.b true false, C.b true true])) ∧ ((fld pt15 (wh h) (79 :
      Int) == (1 : Int)) = false → szOK pt15 = true ∧ szOK pt15 = true ∧ R (SV.a [C.i true IntKind.i64 (7 : Int), C.i true IntKind.i64 (14 : Int), C.i true IntKind.i64 (0 :
      Int), C.b true false, C.i false IntKind.i64 (fld pt15 (wh h) (100 : Int)), C.i true IntKind.i64 (15 : Int), C.i true IntKind.i64 (0 : Int), C.i true IntKind.i64 (0 : Int),
      C.i false IntKind.u32 (IntKind.u32.wrap (IntKind.u32.wrap (fld pt15 (wh h) (105 : Int)) * (4 : Int))), C.b true true, C.i false IntKind.i64 (fld pt15 (wh h) (116 : Int)),
      C.i true IntKind.i64 (0 : Int), C.b true false, C.b true true, C.b true false, C.b true false, C.b true true, C.b true true, C.b true false, C.b true false, C.i false
      IntKind.i64 (IntKind.i64.wrap ((0 : Int) + fld pt15 (wh h) (108 : Int))), C.b true false, C.b true false, C.b true true])))) := by kernel_rfl
theorem dec23 (E : World) (h : Int) (R : SV → Prop) (X : Prop) :
    (loopP (pe E) Try.f8 (fun v _ => R v) (fun todo fr s' => cond (memS s') (X ∧ todo = hd8 E ∧ fr.nt = Try.f8.ntmps ∧ refP fr (lv8 h 24)) False) (run (pe E) (orcT E) (tabL fns) 20000 (2^200-1) (hd8 E) (mkL Try.f8.ntmps (lv8 h 23)) sv8)) =
    (szOK pt16 = true ∧ ((!fits pt16 (wh h)) = true → X ∧ hd8 E = hd8 E ∧ (125 : Nat) = (125 : Nat) ∧ (IntKind.u16 = IntKind.u16 ∧ h = h) ∧ C.p (0 : Nat) (0 : Nat) = C.p (0 :
      Nat) (0 : Nat) ∧ (IntKind.u32 = IntKind.u32 ∧ IntKind.u32.wrap h = IntKind.u32.wrap h) ∧ C.slc (1 : Nat) (0 : Nat) (45 : Nat) (45 : Nat) = C.slc (1 : Nat) (0 : Nat) (45 :
      Nat) (45 : Nat) ∧ IntKind.i64 = IntKind.i64 ∧ (24 : Int) = (24 : Int)) ∧ ((!fits pt16 (wh h)) = false → szOK pt16 = true ∧ szOK pt16 = true ∧ szOK pt16 = true ∧ szOK pt16
      = true ∧ szOK pt16 = true ∧ szOK pt16 = true ∧ szOK pt16 = true ∧ szOK pt16 = true ∧ szOK pt16 = true ∧ szOK pt16 = true ∧ szOK pt16 = true ∧ szOK pt16 = true ∧ szOK pt16
      = true ∧ szOK pt16 = true ∧ szOK pt16 = true ∧ szOK pt16 = true ∧ ((fld pt16 (wh h) (79 : Int) == (1 : Int)) = true → szOK pt16 = true ∧ szOK pt16 = true ∧ R (SV.a [C.i
      true IntKind.i64 (7 : Int), C.i true IntKind.i64 (14 : Int), C.i true IntKind.i64 (2 : Int), C.b true false, C.i false IntKind.i64 (fld pt16 (wh h) (100 : Int)), C.i false
      IntKind.i64 (fld pt16 (wh h) (110 : Int)), C.i true IntKind.i64 (0 : Int), C.i false IntKind.i64 (fld pt16 (wh h) (109 : Int)), C.i false IntKind.u32 (IntKind.u32.wrap
      (IntKind.u32.wrap (fld pt16 (wh h) (105 : Int)) * (1 : Int))), C.b true false, C.i false IntKind.i64 (fld pt16 (wh h) (116 : Int)), C.i true IntKind.i64 (0 : Int), C.b
      true false, C.b false (fld pt16 (wh h) (76 : Int) == (1 : Int)), C.b false (fld pt16 (wh h) (66 : Int) == (1 : Int)), C.b true false, C.b true true, C.b true true, C.b
      true false, C.b true false, C.i false IntKind.i64 (IntKind.i64.wrap ((0 : Int) + fld pt16 (wh h) (108 : Int))), C.b true false, C.b true false, C.b true false])) ∧ ((fld
      pt16 (wh h) (79 : Int) == (1 : Int)) = false → szOK pt16 = true ∧ szOK pt16 = true ∧ R (SV.a [C.i true IntKind.i64 (7 : Int), C.i true IntKind.i64 (14 : Int), C.i true
      IntKind.i64 (0 : Int), C.b true false, C.i false IntKind.i64 (fld pt16 (wh h) (100 : Int)), C.i false IntKind.i64 (fld pt16 (wh h) (110 : Int)), C.i true IntKind.i64 (0 :
      Int), C.i false IntKind.i64 (fld pt16 (wh h) (109 : Int)), C.i false IntKind.u32 (IntKind.u32.wrap (IntKind.u32.wrap (fld pt16 (wh h) (105 : Int)) * (1 : Int))), C.b true
      false, C.i false IntKind.i64 (fld pt16 (wh h) (116 : Int)), C.i true IntKind.i64 (0 : Int), C.b true false, C.b false (fld pt16 (wh h) (76 : Int) == (1 : Int)), C.b false
      (fld pt16 (wh h) (66 : Int) == (1 : Int)), C.b true false, C.b true true, C.b true true, C.b true false, C.b true false, C.i false IntKind.i64 (IntKind.i64.wrap ((0 : Int)
      + fld pt16 (wh h) (108 : Int))), C.b true false, C.b true false, C.b true false])))) := by kernel_rfl
theorem dec24 (E : World) (h : Int) (R : SV → Prop) (X : Prop) :
    (loopP (pe E) Try.f8 (fun v _ => R v) (fun todo fr s' => cond (memS s') (X ∧ todo = hd8 E ∧ fr.nt = Try.f8.ntmps ∧ refP fr (lv8 h 25)) False) (run (pe E) (orcT E) (tabL fns) 20000 (2^200-1) (hd8 E) (mkL Try.f8.ntmps (lv8 h 24)) sv8)) =
    (szOK pt17 = true ∧ ((!fits pt17 (wh h)) = true → X ∧ hd8 E = hd8 E ∧ (125 : Nat) = (125 : Nat) ∧ (IntKind.u16 = IntKind.u16 ∧ h = h) ∧ C.p (0 : Nat) (0 : Nat) = C.p (0 :
      Nat) (0 : Nat) ∧ (IntKind.u32 = IntKind.u32 ∧ IntKind.u32.wrap h = IntKind.u32.wrap h) ∧ C.slc (1 : Nat) (0 : Nat) (45 : Nat) (45 : Nat) = C.slc (1 : Nat) (0 : Nat) (45 :
      Nat) (45 : Nat) ∧ IntKind.i64 = IntKind.i64 ∧ (25 : Int) = (25 : Int)) ∧ ((!fits pt17 (wh h)) = false → szOK pt17 = true ∧ ((bif decide (fld pt17 (wh h) (72 : Int) < (0 :
      Int)) then true else decide (fld pt17 (wh h) (72 : Int) > (0 : Int))) = true → X ∧ hd8 E = hd8 E ∧ (125 : Nat) = (125 : Nat) ∧ (IntKind.u16 = IntKind.u16 ∧ h = h) ∧ C.p (0
      : Nat) (0 : Nat) = C.p (0 : Nat) (0 : Nat) ∧ (IntKind.u32 = IntKind.u32 ∧ IntKind.u32.wrap h = IntKind.u32.wrap h) ∧ C.slc (1 : Nat) (0 : Nat) (45 : Nat) (45 : Nat) =
      C.slc (1 : Nat) (0 : Nat) (45 : Nat) (45 : Nat) ∧ IntKind.i64 = IntKind.i64 ∧ (25 : Int) = (25 : Int)) ∧ ((bif decide (fld pt17 (wh h) (72 : Int) < (0 : Int)) then true
      else decide (fld pt17 (wh h) (72 : Int) > (0 : Int))) = false → szOK pt17 = true ∧ szOK pt17 = true ∧ szOK pt17 = true ∧ szOK pt17 = true ∧ szOK pt17 = true ∧ szOK pt17 =
      true ∧ szOK pt17 = true ∧ szOK pt17 = true ∧ szOK pt17 = true ∧ szOK pt17 = true ∧ szOK pt17 = true ∧ szOK pt17 = true ∧ szOK pt17 = true ∧ szOK pt17 = true ∧ ((fld pt17
      (wh h) (79 : Int) == (1 : Int)) = true → szOK pt17 = true ∧ szOK pt17 = true ∧ R (SV.a [C.i true IntKind.i64 (6 : Int), C.i true IntKind.i64 (14 : Int), C.i true
      IntKind.i64 (2 : Int), C.b true false, C.i false IntKind.i64 (fld pt17 (wh h) (100 : Int)), C.i false IntKind.i64 (fld pt17 (wh h) (110 : Int)), C.i true IntKind.i64 (0 :
      Int), C.i false IntKind.i64 (fld pt17 (wh h) (109 : Int)), C.i false IntKind.u32 (IntKind.u32.wrap (IntKind.u32.wrap (fld pt17 (wh h) (105 : Int)) * (1 : Int))), C.b true
      false, C.i false IntKind.i64 (fld pt17 (wh h) (116 : Int)), C.i true IntKind.i64 (0 : Int), C.b true false, C.b true false, C.b true false, C.b true false, C.b true true,
      C.b true true, C.b true false, C.b true false, C.i false IntKind.i64 (IntKind.i64.wrap ((0 : Int) + fld pt17 (wh h) (108 : Int))), C.b true false, C.b true false, C.b true
      false])) ∧ ((fld pt17 (wh h) (79 : Int) == (1 : Int)) = false → szOK pt17 = true ∧ szOK pt17 = true ∧ R (SV.a [C.i true IntKind.i64 (6 : Int), C.i true IntKind.i64 (14 :
      Int), C.i true IntKind.i64 (1 : Int), C.b true false, C.i false IntKind.i64 (fld pt17 (wh h) (100 : Int)), C.i false IntKind.i64 (fld pt17 (wh h) (110 : Int)), C.i true
      IntKind.i64 (0 : Int), C.i false IntKind.i64 (fld pt17 (wh h) (109 : Int)), C.i false IntKind.u32 (IntKind.u32.wrap (IntKind.u32.wrap (fld pt17 (wh h) (105 : Int)) * (1 :
      Int))), C.b true false, C.i false IntKind.i64 (fld pt17 (wh h) (116 : Int)), C.i true IntKind.i64 (0 : Int), C.b true false, C.b true false, C.b true false, C.b true
      false, C.b true true, C.b true true, C.b true false, C.b true false, C.i false IntKind.i64 (IntKind.i64.wrap ((0 : Int) + fld pt17 (wh h) (108 : Int))), C.b true false,
      C.b true false, C.b true false]))))) := by kernel_rfl
theorem dec25 (E : World) (h : Int) (R : SV → Prop) (X : Prop) :
    (loopP (pe E) Try.f8 (fun v _ => R v) (fun todo fr s' => cond (memS s') (X ∧ todo = hd8 E ∧ fr.nt = Try.f8.ntmps ∧ refP fr (lv8 h 26)) False) (run (pe E) (orcT E) (tabL fns) 20000 (2^200-1) (hd8 E) (mkL Try.f8.ntmps (lv8 h 25)) sv8)) =
    (szOK pt17 = true ∧ ((!fits pt17 (wh h)) = true → X ∧ hd8 E = hd8 E ∧ (125 : Nat) = (125 : Nat) ∧ (IntKind.u16 = IntKind.u16 ∧ h = h) ∧ C.p (0 : Nat) (0 : Nat) = C.p (0 :
      Nat) (0 : Nat) ∧ (IntKind.u32 = IntKind.u32 ∧ IntKind.u32.wrap h = IntKind.u32.wrap h) ∧ C.slc (1 : Nat) (0 : Nat) (45 : Nat) (45 : Nat) = C.slc (1 : Nat) (0 : Nat) (45 :
      Nat) (45 : Nat) ∧ IntKind.i64 = IntKind.i64 ∧ (26 : Int) = (26 : Int)) ∧ ((!fits pt17 (wh h)) = false → szOK pt17 = true ∧ ((bif decide (fld pt17 (wh h) (72 : Int) < (1 :
      Int)) then true else decide (fld pt17 (wh h) (72 : Int) > (1 : Int))) = true → X ∧ hd8 E = hd8 E ∧ (125 : Nat) = (125 : Nat) ∧ (IntKind.u16 = IntKind.u16 ∧ h = h) ∧ C.p (0
      : Nat) (0 : Nat) = C.p (0 : Nat) (0 : Nat) ∧ (IntKind.u32 = IntKind.u32 ∧ IntKind.u32.wrap h = IntKind.u32.wrap h) ∧ C.slc (1 : Nat) (0 : Nat) (45 : Nat) (45 : Nat) =
      C.slc (1 : Nat) (0 : Nat) (45 : Nat) (45 : Nat) ∧ IntKind.i64 = IntKind.i64 ∧ (26 : Int) = (26 : Int)) ∧ ((bif decide (fld pt17 (wh h) (72 : Int) < (1 : Int)) then true
      else decide (fld pt17 (wh h) (72 : Int) > (1 : Int))) = false → szOK pt17 = true ∧ szOK pt17 = true ∧ szOK pt17 = true ∧ szOK pt17 = true ∧ szOK pt17 = true ∧ szOK pt17 =
      true ∧ szOK pt17 = true ∧ szOK pt17 = true ∧ szOK pt17 = true ∧ szOK pt17 = true ∧ szOK pt17 = true ∧ szOK pt17 = true ∧ szOK pt17 = true ∧ szOK pt17 = true ∧ ((fld pt17
      (wh h) (79 : Int) == (1 : Int)) = true → szOK pt17 = true ∧ szOK pt17 = true ∧ R (SV.a [C.i true IntKind.i64 (6 : Int), C.i true IntKind.i64 (14 : Int), C.i true
      IntKind.i64 (2 : Int), C.b true false, C.i false IntKind.i64 (fld pt17 (wh h) (100 : Int)), C.i false IntKind.i64 (fld pt17 (wh h) (110 : Int)), C.i true IntKind.i64 (0 :
      Int), C.i false IntKind.i64 (fld pt17 (wh h) (109 : Int)), C.i false IntKind.u32 (IntKind.u32.wrap (IntKind.u32.wrap (fld pt17 (wh h) (105 : Int)) * (1 : Int))), C.b true
      false, C.i false IntKind.i64 (fld pt17 (wh h) (116 : Int)), C.i true IntKind.i64 (0 : Int), C.b true false, C.b true true, C.b true false, C.b true false, C.b true true,
      C.b true true, C.b true false, C.b true false, C.i false IntKind.i64 (IntKind.i64.wrap ((0 : Int) + fld pt17 (wh h) (108 : Int))), C.b true false, C.b true false, C.b true
      false])) ∧ ((fld pt17 (wh h) (79 : Int) == (1 : Int)) = false → szOK pt17 = true ∧ szOK pt17 = true ∧ R (SV.a [C.i true IntKind.i64 (6 : Int), C.i true IntKind.i64 (14 :
      Int), C.i true IntKind.i64 (2 : Int), C.b true false, C.i false IntKind.i64 (fld pt17 (wh h) (100 : Int)), C.i false IntKind.i64 (fld pt17 (wh h) (110 : Int)), C.i true
      IntKind.i64 (0 : Int), C.i false IntKind.i64 (fld pt17 (wh h) (109 : Int)), C.i false IntKind.u32 (IntKind.u32.wrap (IntKind.u32.wrap (fld pt17 (wh h) (105 : Int)) * (1 :
      Int))), C.b true false, C.i false IntKind.i64 (fld pt17 (wh h) (116 : Int)), C.i true IntKind.i64 (0 : Int), C.b true false, C.b true true, C.b true false, C.b true false,
      C.b true true, C.b true true, C.b true false, C.b true false, C.i false IntKind.i64 (IntKind.i64.wrap ((0 : Int) + fld pt17 (wh h) (108 : Int))), C.b true false, C.b true
      false, C.b true false]))))) := by kernel_rfl
theorem dec26 (E : World) (h : Int) (R : SV → Prop) (X : Prop) :
    (loopP (pe E) Try.f8 (fun v _ => R v) (fun todo fr s' => cond (memS s') (X ∧ todo = hd8 E ∧ fr.nt = Try.f8.ntmps ∧ refP fr (lv8 h 27)) False) (run (pe E) (orcT E) (tabL fns) 20000 (2^200-1) (hd8 E) (mkL Try.f8.ntmps (lv8 h 26)) sv8)) =
    (szOK pt17 = true ∧ ((!fits pt17 (wh h)) = true → X ∧ hd8 E = hd8 E ∧ (125 : Nat) = (125 : Nat) ∧ (IntKind.u16 = IntKind.u16 ∧ h = h) ∧ C.p (0 : Nat) (0 : Nat) = C.p (0 :
      Nat) (0 : Nat) ∧ (IntKind.u32 = IntKind.u32 ∧ IntKind.u32.wrap h = IntKind.u32.wrap h) ∧ C.slc (1 : Nat) (0 : Nat) (45 : Nat) (45 : Nat) = C.slc (1 : Nat) (0 : Nat) (45 :
      Nat) (45 : Nat) ∧ IntKind.i64 = IntKind.i64 ∧ (27 : Int) = (27 : Int)) ∧ ((!fits pt17 (wh h)) = false → szOK pt17 = true ∧ ((bif decide (fld pt17 (wh h) (72 : Int) < (2 :
      Int)) then true else decide (fld pt17 (wh h) (72 : Int) > (2 : Int))) = true → X ∧ hd8 E = hd8 E ∧ (125 : Nat) = (125 : Nat) ∧ (IntKind.u16 = IntKind.u16 ∧ h = h) ∧ C.p (0
      : Nat) (0 : Nat) = C.p (0 : Nat) (0 : Nat) ∧ (IntKind.u32 = IntKind.u32 ∧ IntKind.u32.wrap h = IntKind.u32.wrap h) ∧ C.slc (1 : Nat) (0 : Nat) (45 : Nat) (45 : Nat) =
      C.slc (1 : Nat) (0 : Nat) (45 : Nat) (45 : Nat) ∧ IntKind.i64 = IntKind.i64 ∧ (27 : Int) = (27 : Int)) ∧ ((bif decide (fld pt17 (wh h) (72 : Int) < (2 : Int)) then true
      else decide (fld pt17 (wh h) (72 : Int) > (2 : Int))) = false → szOK pt17 = true ∧ szOK pt17 = true ∧ szOK pt17 = true ∧ szOK pt17 = true ∧ szOK pt17 = true ∧ szOK pt17 =
      true ∧ szOK pt17 = true ∧ szOK pt17 = true ∧ szOK pt17 = true ∧ szOK pt17 = true ∧ szOK pt17 = true ∧ szOK pt17 = true ∧ szOK pt17 = true ∧ szOK pt17 = true ∧ ((fld pt17
      (wh h) (79 : Int) == (1 : Int)) = true → szOK pt17 = true ∧ szOK pt17 = true ∧ R (SV.a [C.i true IntKind.i64 (6 : Int), C.i true IntKind.i64 (14 : Int), C.i true
      IntKind.i64 (2 : Int), C.b true false, C.i false IntKind.i64 (fld pt17 (wh h) (100 : Int)), C.i false IntKind.i64 (fld pt17 (wh h) (110 : Int)), C.i true IntKind.i64 (0 :
      Int), C.i false IntKind.i64 (fld pt17 (wh h) (109 : Int)), C.i false IntKind.u32 (IntKind.u32.wrap (IntKind.u32.wrap (fld pt17 (wh h) (105 : Int)) * (1 : Int))), C.b true
      false, C.i false IntKind.i64 (fld pt17 (wh h) (116 : Int)), C.i true IntKind.i64 (0 : Int), C.b true false, C.b true true, C.b true false, C.b true false, C.b true true,
      C.b true true, C.b true false, C.b true false, C.i false IntKind.i64 (IntKind.i64.wrap ((0 : Int) + fld pt17 (wh h) (108 : Int))), C.b true false, C.b true false, C.b true
      false])) ∧ ((fld pt17 (wh h) (79 : Int) == (1 : Int)) = false → szOK pt17 = true ∧ szOK pt17 = true ∧ R (SV.a [C.i true IntKind.i64 (6 : Int), C.i true IntKind.i64 (14 :
      Int), C.i true IntKind.i64 (1 : Int), C.b true false, C.i false IntKind.i64 (fld pt17 (wh h) (100 : Int)), C.i false IntKind.i64 (fld pt17 (wh h) (110 : Int)), C.i true
      IntKind.i64 (0 : Int), C.i false IntKind.i64 (fld pt17 (wh h) (109 : Int)), C.i false IntKind.u32 (IntKind.u32.wrap (IntKind.u32.wrap (fld pt17 (wh h) (105 : Int)) * (1 :
      Int))), C.b true false, C.i false IntKind.i64 (fld pt17 (wh h) (116 : Int)), C.i true IntKind.i64 (0 : Int), C.b true false, C.b true true, C.b true false, C.b true false,
      C.b true true, C.b true true, C.b true false, C.b true false, C.i false IntKind.i64 (IntKind.i64.wrap ((0 : Int) + fld pt17 (wh h) (108 : Int))), C.b true false, C.b true
      false, C.b true false]))))) := by kernel_rfl
theorem dec27 (E : World) (h : Int) (R : SV → Prop) (X : Prop) :
    (loopP (pe E) Try.f8 (fun v _ => R v) (fun todo fr s' => cond (memS s') (X ∧ todo = hd8 E ∧ fr.nt = Try.f8.ntmps ∧ refP fr (lv8 h 28)) False) (run (pe E) (orcT E) (tabL fns) 20000 (2^200-1) (hd8 E) (mkL Try.f8.ntmps (lv8 h 27)) sv8)) =
    (szOK pt17 = true ∧ ((!fits pt17 (wh h)) = true → X ∧ hd8 E = hd8 E ∧ (125 : Nat) = (125 : Nat) ∧ (IntKind.u16 = IntKind.u16 ∧ h = h) ∧ C.p (0 : Nat) (0 : Nat) = C.p (0 :
      Nat) (0 : Nat) ∧ (IntKind.u32 = IntKind.u32 ∧ IntKind.u32.wrap h = IntKind.u32.wrap h) ∧ C.slc (1 : Nat) (0 : Nat) (45 : Nat) (45 : Nat) = C.slc (1 : Nat) (0 : Nat) (45 :
      Nat) (45 : Nat) ∧ IntKind.i64 = IntKind.i64 ∧ (28 : Int) = (28 : Int)) ∧ ((!fits pt17 (wh h)) = false → szOK pt17 = true ∧ ((bif decide (fld pt17 (wh h) (72 : Int) < (3 :
      Int)) then true else decide (fld pt17 (wh h) (72 : Int) > (3 : Int))) = true → X ∧ hd8 E = hd8 E ∧ (125 : Nat) = (125 : Nat) ∧ (IntKind.u16 = IntKind.u16 ∧ h = h) ∧ C.p (0
      : Nat) (0 : Nat) = C.p (0 : Nat) (0 : Nat) ∧ (IntKind.u32 = IntKind.u32 ∧ IntKind.u32.wrap h = IntKind.u32.wrap h) ∧ C.slc (1 : Nat) (0 : Nat) (45 : Nat) (45 : Nat) =
      C.slc (1 : Nat) (0 : Nat) (45 : Nat) (45 : Nat) ∧ IntKind.i64 = IntKind.i64 ∧ (28 : Int) = (28 : Int)) ∧ ((bif decide (fld pt17 (wh h) (72 : Int) < (3 : Int)) then true
      else decide (fld pt17 (wh h) (72 : Int) > (3 : Int))) = false → szOK pt17 = true ∧ szOK pt17 = true ∧ szOK pt17 = true ∧ szOK pt17 = true ∧ szOK pt17 = true ∧ szOK pt17 =
      true ∧ szOK pt17 = true ∧ szOK pt17 = true ∧ szOK pt17 = true ∧ szOK pt17 = true ∧ szOK pt17 = true ∧ szOK pt17 = true ∧ szOK pt17 = true ∧ szOK pt17 = true ∧ ((fld pt17
      (wh h) (79 : Int) == (1 : Int)) = true → szOK pt17 = true ∧ szOK pt17 = true ∧ R (SV.a [C.i true IntKind.i64 (6 : Int), C.i true IntKind.i64 (14 : Int), C.i true
      IntKind.i64 (2 : Int), C.b true false, C.i false IntKind.i64 (fld pt17 (wh h) (100 : Int)), C.i false IntKind.i64 (fld pt17 (wh h) (110 : Int)), C.i true IntKind.i64 (0 :
      Int), C.i false IntKind.i64 (fld pt17 (wh h) (109 : Int)), C.i false IntKind.u32 (IntKind.u32.wrap (IntKind.u32.wrap (fld pt17 (wh h) (105 : Int)) * (1 : Int))), C.b true
      false, C.i false IntKind.i64 (fld pt17 (wh h) (116 : Int)), C.i true IntKind.i64 (0 : Int), C.b true false, C.b true true, C.b true false, C.b true false, C.b true true,
      C.b true true, C.b true false, C.b true false, C.i false IntKind.i64 (IntKind.i64.wrap ((0 : Int) + fld pt17 (wh h) (108 : Int))), C.b true false, C.b true false, C.b true
      false])) ∧ ((fld pt17 (wh h) (79 : Int) == (1 : Int)) = false → szOK pt17 = true ∧ szOK pt17 = true ∧ R (SV.a [C.i true IntKind.i64 (6 : Int), C.i true IntKind.i64 (14 :
      Int), C.i true IntKind.i64 (3 : Int), C.b true false, C.i false IntKind.i64 (fld pt17 (wh h) (100 : Int)), C.i false IntKind.i64 (fld pt17 (wh h) (110 : Int)), C.i true
      IntKind.i64 (0 : Int), C.i false IntKind.i64 (fld pt17 (wh h) (109 : Int)), C.i false IntKind.u32 (IntKind.u32.wrap (IntKind.u32.wrap (fld pt17 (wh h) (105 : Int)) * (1 :
      Int))), C.b true false, C.i false IntKind.i64 (fld pt17 (wh h) (116 : Int)), C.i true IntKind.i64 (0 : Int), C.b true false, C.b true true, C.b true false, C.b true false,
      C.b true true, C.b true true, C.b true false, C.b true false, C.i false IntKind.i64 (IntKind.i64.wrap ((0 : Int) + fld pt17 (wh h) (108 : Int))), C.b true false, C.b true
      false, C.b true false]))))) := by kernel_rfl
theorem dec28 (E : World) (h : Int) (R : SV → Prop) (X : Prop) :
    (loopP (pe E) Try.f8 (fun v _ => R v) (fun todo fr s' => cond (memS s') (X ∧ todo = hd8 E ∧ fr.nt = Try.f8.ntmps ∧ refP fr (lv8 h 29)) False) (run (pe E) (orcT E) (tabL fns) 20000 (2^200-1) (hd8 E) (mkL Try.f8.ntmps (lv8 h 28)) sv8)) =
    (szOK pt18 = true ∧ ((!fits pt18 (wh h)) = true → X ∧ hd8 E = hd8 E ∧ (125 : Nat) = (125 : Nat) ∧ (IntKind.u16 = IntKind.u16 ∧ h = h) ∧ C.p (0 : Nat) (0 : Nat) = C.p (0 :
      Nat) (0 : Nat) ∧ (IntKind.u32 = IntKind.u32 ∧ IntKind.u32.wrap h = IntKind.u32.wrap h) ∧ C.slc (1 : Nat) (0 : Nat) (45 : Nat) (45 : Nat) = C.slc (1 : Nat) (0 : Nat) (45 :
      Nat) (45 : Nat) ∧ IntKind.i64 = IntKind.i64 ∧ (29 : Int) = (29 : Int)) ∧ ((!fits pt18 (wh h)) = false → szOK pt18 = true ∧ szOK pt18 = true ∧ szOK pt18 = true ∧ szOK pt18
      = true ∧ szOK pt18 = true ∧ szOK pt18 = true ∧ szOK pt18 = true ∧ szOK pt18 = true ∧ szOK pt18 = true ∧ szOK pt18 = true ∧ szOK pt18 = true ∧ szOK pt18 = true ∧ szOK pt18
      = true ∧ szOK pt18 = true ∧ ((fld pt18 (wh h) (79 : Int) == (1 : Int)) = true → szOK pt18 = true ∧ szOK pt18 = true ∧ R (SV.a [C.i true IntKind.i64 (7 : Int), C.i true
      IntKind.i64 (14 : Int), C.i true IntKind.i64 (2 : Int), C.b true false, C.i false IntKind.i64 (fld pt18 (wh h) (100 : Int)), C.i false IntKind.i64 (fld pt18 (wh h) (110 :
      Int)), C.i true IntKind.i64 (0 : Int), C.i true IntKind.i64 (0 : Int), C.i false IntKind.u32 (IntKind.u32.wrap (IntKind.u32.wrap (fld pt18 (wh h) (105 : Int)) * (4 :
      Int))), C.b true true, C.i false IntKind.i64 (fld pt18 (wh h) (116 : Int)), C.i true IntKind.i64 (0 : Int), C.b true false, C.b false (fld pt18 (wh h) (76 : Int) == (1 :
      Int)), C.b true false, C.b true false, C.b true true, C.b true true, C.b true false, C.b true false, C.i false IntKind.i64 (IntKind.i64.wrap ((0 : Int) + fld pt18 (wh h)
      (108 : Int))), C.b true false, C.b true false, C.b true false])) ∧ ((fld pt18 (wh h) (79 : Int) == (1 : Int)) = false → szOK pt18 = true ∧ szOK pt18 = true ∧ R (SV.a [C.i
      true IntKind.i64 (7 : Int), C.i true IntKind.i64 (14 : Int), C.i true IntKind.i64 (0 : Int), C.b true false, C.i false IntKind.i64 (fld pt18 (wh h) (100 : Int)), C.i false
      IntKind.i64 (fld pt18 (wh h) (110 : Int)), C.i true IntKind.i64 (0 : Int), C.i true IntKind.i64 (0 : Int), C.i false IntKind.u32 (IntKind.u32.wrap (IntKind.u32.wrap (fld
      pt18 (wh h) (105 : Int)) * (4 : Int))), C.b true true, C.i false IntKind.i64 (fld pt18 (wh h) (116 : Int)), C.i true IntKind.i64 (0 : Int), C.b true false, C.b false (fld
      pt18 (wh h) (76 : Int) == (1 : Int)), C.b true false, C.b true false, C.b true true, C.b true true, C.b true false, C.b true false, C.i false IntKind.i64 (IntKind.i64.wrap
      ((0 : Int) + fld pt18 (wh h) (108 : Int))), C.b true false, C.b true false, C.b true false])))) := by kernel_rfl
theorem dec29 (E : World) (h : Int) (R : SV → Prop) (X : Prop) :
    (loopP (pe E) Try.f8 (fun v _ => R v) (fun todo fr s' => cond (memS s') (X ∧ todo = hd8 E ∧ fr.nt = Try.f8.ntmps ∧ refP fr (lv8 h 30)) False) (run (pe E) (orcT E) (tabL fns) 20000 (2^200-1) (hd8 E) (mkL Try.f8.ntmps (lv8 h 29)) sv8)) =
    (szOK pt19 = true ∧ ((!fits pt19 (wh h)) = true → X ∧ hd8 E = hd8 E ∧ (125 : Nat) = (125 : Nat) ∧ (IntKind.u16 = IntKind.u16 ∧ h = h) ∧ C.p (0 : Nat) (0 : Nat) = C.p (0 :
      Nat) (0 : Nat) ∧ (IntKind.u32 = IntKind.u32 ∧ IntKind.u32.wrap h = IntKind.u32.wrap h) ∧ C.slc (1 : Nat) (0 : Nat) (45 : Nat) (45 : Nat) = C.slc (1 : Nat) (0 : Nat) (45 :
      Nat) (45 : Nat) ∧ IntKind.i64 = IntKind.i64 ∧ (30 : Int) = (30 : Int)) ∧ ((!fits pt19 (wh h)) = false → szOK pt19 = true ∧ szOK pt19 = true ∧ szOK pt19 = true ∧ szOK pt19
      = true ∧ szOK pt19 = true ∧ szOK pt19 = true ∧ szOK pt19 = true ∧ szOK pt19 = true ∧ szOK pt19 = true ∧ szOK pt19 = true ∧ szOK pt19 = true ∧ szOK pt19 = true ∧ szOK pt19
      = true ∧ szOK pt19 = true ∧ ((fld pt19 (wh h) (79 : Int) == (1 : Int)) = true → szOK pt19 = true ∧ szOK pt19 = true ∧ R (SV.a [C.i true IntKind.i64 (7 : Int), C.i true
      IntKind.i64 (14 : Int), C.i true IntKind.i64 (2 : Int), C.b true false, C.i false IntKind.i64 (fld pt19 (wh h) (100 : Int)), C.i false IntKind.i64 (fld pt19 (wh h) (110 :
      Int)), C.i true IntKind.i64 (0 : Int), C.i true IntKind.i64 (0 : Int), C.i false IntKind.u32 (IntKind.u32.wrap (IntKind.u32.wrap (fld pt19 (wh h) (105 : Int)) * (1 :
      Int))), C.b true true, C.i false IntKind.i64 (fld pt19 (wh h) (116 : Int)), C.i true IntKind.i64 (0 : Int), C.b true false, C.b false (fld pt19 (wh h) (76 : Int) == (1 :
      Int)), C.b true true, C.b true false, C.b true true, C.b true true, C.b true false, C.b true false, C.i false IntKind.i64 (IntKind.i64.wrap ((0 : Int) + fld pt19 (wh h)
      (108 : Int))), C.b true false, C.b true false, C.b true false])) ∧ ((fld pt19 (wh h) (79 : Int) == (1 : Int)) = false → szOK pt19 = true ∧ szOK pt19 = true ∧ R (SV.a [C.i
      true IntKind.i64 (7 : Int), C.i true IntKind.i64 (14 : Int), C.i true IntKind.i64 (0 : Int), C.b true false, C.i false IntKind.i64 (fld pt19 (wh h) (100 : Int)), C.i false
      IntKind.i64 (fld pt19 (wh h) (110 : Int)), C.i true IntKind.i64 (0 : Int), C.i true IntKind.i64 (0 : Int), C.i false IntKind.u32 (IntKind.u32.wrap (IntKind.u32.wrap (fld
      pt19 (wh h) (105 : Int)) * (1 : Int))), C.b true true, C.i false IntKind.i64 (fld pt19 (wh h) (116 : Int)), C.i true IntKind.i64 (0 : Int), C.b true false, C.b false (fld
      pt19 (wh h) (76 : Int) == (1 : Int)), C.b true true, C.b true false, C.b true true, C.b true true, C.b true false, C.b true false, C.i false IntKind.i64 (IntKind.i64.wrap
      ((0 : Int) + fld pt19 (wh h) (108 : Int))), C.b true false, C.b true false, C.b true false])))) := by kernel_rfl
theorem dec30 (E : World) (h : Int) (R : SV → Prop) (X : Prop) :
    (loopP (pe E) Try.f8 (fun v _ => R v) (fun todo fr s' => cond (memS s') (X ∧ todo = hd8 E ∧ fr.nt = Try.f8.ntmps ∧ refP fr (lv8 h 31)) False) (run (pe E) (orcT E) (tabL fns) 20000 (2^200-1) (hd8 E) (mkL Try.f8.ntmps (lv8 h 30)) sv8)) =
    (szOK pt20 = true ∧ ((!fits pt20 (wh h)) = true → X ∧ hd8 E = hd8 E ∧ (125 : Nat) = (125 : Nat) ∧ (IntKind.u16 = IntKind.u16 ∧ h = h) ∧ C.p (0 : Nat) (0 : Nat) = C.p (0 :
      Nat) (0 : Nat) ∧ (IntKind.u32 = IntKind.u32 ∧ IntKind.u32.wrap h = IntKind.u32.wrap h) ∧ C.slc (1 : Nat) (0 : Nat) (45 : Nat) (45 : Nat) = C.slc (1 : Nat) (0 : Nat) (45 :
      Nat) (45 : Nat) ∧ IntKind.i64 = IntKind.i64 ∧ (31 : Int) = (31 : Int)) ∧ ((!fits pt20 (wh h)) = false → szOK pt20 = true ∧ szOK pt20 = true ∧ szOK pt20 = true ∧ szOK pt20
      = true ∧ szOK pt20 = true ∧ szOK pt20 = true ∧ szOK pt20 = true ∧ szOK pt20 = true ∧ szOK pt20 = true ∧ szOK pt20 = true ∧ szOK pt20 = true ∧ szOK pt20 = true ∧ szOK pt20
      = true ∧ szOK pt20 = true ∧ ((fld pt20 (wh h) (79 : Int) == (1 : Int)) = true → szOK pt20 = true ∧ szOK pt20 = true ∧ R (SV.a [C.i true IntKind.i64 (6 : Int), C.i true
      IntKind.i64 (14 : Int), C.i true IntKind.i64 (2 : Int), C.b true false, C.i false IntKind.i64 (fld pt20 (wh h) (100 : Int)), C.i false IntKind.i64 (fld pt20 (wh h) (110 :
      Int)), C.i true IntKind.i64 (0 : Int), C.i true IntKind.i64 (0 : Int), C.i false IntKind.u32 (IntKind.u32.wrap (IntKind.u32.wrap (fld pt20 (wh h) (105 : Int)) * (2 :
      Int))), C.b true true, C.i false IntKind.i64 (fld pt20 (wh h) (116 : Int)), C.i true IntKind.i64 (0 : Int), C.b true false, C.b false (fld pt20 (wh h) (76 : Int) == (1 :
      Int)), C.b true false, C.b true false, C.b true true, C.b true true, C.b true false, C.b true false, C.i false IntKind.i64 (IntKind.i64.wrap ((0 : Int) + fld pt20 (wh h)
      (108 : Int))), C.b true false, C.b true false, C.b true false])) ∧ ((fld pt20 (wh h) (79 : Int) == (1 : Int)) = false → szOK pt20 = true ∧ szOK pt20 = true ∧ R (SV.a [C.i
      true IntKind.i64 (6 : Int), C.i true IntKind.i64 (14 : Int), C.i true IntKind.i64 (1 : Int), C.b true false, C.i false IntKind.i64 (fld pt20 (wh h) (100 : Int)), C.i false
      IntKind.i64 (fld pt20 (wh h) (110 : Int)), C.i true IntKind.i64 (0 : Int), C.i true IntKind.i64 (0 : Int), C.i false IntKind.u32 (IntKind.u32.wrap (IntKind.u32.wrap (fld
      pt20 (wh h) (105 : Int)) * (2 : Int))), C.b true true, C.i false IntKind.i64 (fld pt20 (wh h) (116 : Int)), C.i true IntKind.i64 (0 : Int), C.b true false, C.b false (fld
      pt20 (wh h) (76 : Int) == (1 : Int)), C.b true false, C.b true false, C.b true true, C.b true true, C.b true false, C.b true false, C.i false IntKind.i64 (IntKind.i64.wrap
      ((0 : Int) + fld pt20 (wh h) (108 : Int))), C.b true false, C.b true false, C.b true false])))) := by kernel_rfl
end Go.Proofs.Ytpfdemmoapjjpaa

