import Derived.Test.YtpfdemmoapjjpaaU
set_option linter.unusedVariables false
set_option linter.unusedSimpArgs false
namespace Go.Proofs.Ytpfdemmoapjjpaa
open Go Go.Proofs Go.Proofs.Ytpfdemmoapjjpaa.Ev
set_option maxRecDepth 100000
theorem dec31 (E : World) (h : Int) (R : SV → Prop) (X : Prop) :
    (loopP (pe E) Try.f8 (fun v _ => R v) (fun todo fr s' => cond (memS s') (X ∧ todo = hd8 E ∧ fr.nt = Try.f8.ntmps ∧ refP fr (lv8 h 32)) False) (run (pe E) (orcT E) (tabL fns) 20000 (2^200-1) (hd8 E) (mkL Try.f8.ntmps (lv8 h 31)) sv8)) =
    (szOK pt21 = true ∧ ((!fits pt21 (wh h)) = true → X ∧ hd8 E = hd8 E ∧ (125 : Nat) = (125 : Nat) ∧ (IntKind.u16 = IntKind.u16 ∧ h = h) ∧ C.p (0 : Nat) (0 : Nat) = C.p (0 :
      Nat) (0 : Nat) ∧ (IntKind.u32 = IntKind.u32 ∧ IntKind.u32.wrap h = IntKind.u32.wrap h) ∧ C.slc (1 : Nat) (0 : Nat) (45 : Nat) (45 : Nat) = C.slc (1 : Nat) (0 : Nat) (45 :
      Nat) (45 : Nat) ∧ IntKind.i64 = IntKind.i64 ∧ (32 : Int) = (32 : Int)) ∧ ((!fits pt21 (wh h)) = false → szOK pt21 = true ∧ szOK pt21 = true ∧ szOK pt21 = true ∧ szOK pt21
      = true ∧ szOK pt21 = true ∧ szOK pt21 = true ∧ szOK pt21 = true ∧ szOK pt21 = true ∧ szOK pt21 = true ∧ szOK pt21 = true ∧ szOK pt21 = true ∧ szOK pt21 = true ∧ szOK pt21
      = true ∧ ((fld pt21 (wh h) (79 : Int) == (1 : Int)) = true → szOK pt21 = true ∧ szOK pt21 = true ∧ R (SV.a [C.i true IntKind.i64 (7 : Int), C.i true IntKind.i64 (14 :
      Int), C.i true IntKind.i64 (2 : Int), C.b true false, C.i false IntKind.i64 (fld pt21 (wh h) (100 : Int)), C.i true IntKind.i64 (13 : Int), C.i true IntKind.i64 (0 : Int),
      C.i true IntKind.i64 (0 : Int), C.i false IntKind.u32 (IntKind.u32.wrap (IntKind.u32.wrap (fld pt21 (wh h) (105 : Int)) * (4 : Int))), C.b true true, C.i false IntKind.i64
      (fld pt21 (wh h) (116 : Int)), C.i true IntKind.i64 (0 : Int), C.b true false, C.b false (fld pt21 (wh h) (76 : Int) == (1 : Int)), C.b true false, C.b true false, C.b
      true true, C.b true true, C.b true false, C.b true false, C.i false IntKind.i64 (IntKind.i64.wrap ((0 : Int) + fld pt21 (wh h) (108 : Int))), C.b true false, C.b true
      false, C.b true false])) ∧ ((fld pt21 (wh h) (79 : Int) == (1 : Int)) = false → szOK pt21 = true ∧ szOK pt21 = true ∧ R (SV.a [C.i true IntKind.i64 (7 : Int), C.i true
      IntKind.i64 (14 : Int), C.i true IntKind.i64 (0 : Int), C.b true false, C.i false IntKind.i64 (fld pt21 (wh h) (100 : Int)), C.i true IntKind.i64 (13 : Int), C.i true
      IntKind.i64 (0 : Int), C.i true IntKind.i64 (0 : Int), C.i false IntKind.u32 (IntKind.u32.wrap (IntKind.u32.wrap (fld pt21 (wh h) (105 : Int)) * (4 : Int))), C.b true
      true, C.i false IntKind.i64 (fld pt21 (wh h) (116 : Int)), C.i true IntKind.i64 (0 : Int), C.b true false, C.b false (fld pt21 (wh h) (76 : Int) == (1 : Int)), C.b true
      false, C.b true false, C.b true true, C.b true true, C.b true false, C.b true false, C.i false IntKind.i64 (IntKind.i64.wrap ((0 : Int) + fld pt21 (wh h) (108 : Int))),
      C.b true false, C.b true false, C.b true false])))) := by kernel_rfl
theorem dec32 (E : World) (h : Int) (R : SV → Prop) (X : Prop) :
    (loopP (pe E) Try.f8 (fun v _ => R v) (fun todo fr s' => cond (memS s') (X ∧ todo = hd8 E ∧ fr.nt = Try.f8.ntmps ∧ refP fr (lv8 h 33)) False) (run (pe E) (orcT E) (tabL fns) 20000 (2^200-1) (hd8 E) (mkL Try.f8.ntmps (lv8 h 32)) sv8)) =
    (szOK pt22 = true ∧ ((!fits pt22 (wh h)) = true → X ∧ hd8 E = hd8 E ∧ (125 : Nat) = (125 : Nat) ∧ (IntKind.u16 = IntKind.u16 ∧ h = h) ∧ C.p (0 : Nat) (0 : Nat) = C.p (0 :
      Nat) (0 : Nat) ∧ (IntKind.u32 = IntKind.u32 ∧ IntKind.u32.wrap h = IntKind.u32.wrap h) ∧ C.slc (1 : Nat) (0 : Nat) (45 : Nat) (45 : Nat) = C.slc (1 : Nat) (0 : Nat) (45 :
      Nat) (45 : Nat) ∧ IntKind.i64 = IntKind.i64 ∧ (33 : Int) = (33 : Int)) ∧ ((!fits pt22 (wh h)) = false → szOK pt22 = true ∧ szOK pt22 = true ∧ szOK pt22 = true ∧ szOK pt22
      = true ∧ szOK pt22 = true ∧ szOK pt22 = true ∧ szOK pt22 = true ∧ szOK pt22 = true ∧ szOK pt22 = true ∧ szOK pt22 = true ∧ szOK pt22 = true ∧ szOK pt22 = true ∧ ((fld pt22
      (wh h) (79 : Int) == (1 : Int)) = true → szOK pt22 = true ∧ szOK pt22 = true ∧ R (SV.a [C.i true IntKind.i64 (1 : Int), C.i true IntKind.i64 (14 : Int), C.i true
      IntKind.i64 (2 : Int), C.b true false, C.i false IntKind.i64 (fld pt22 (wh h) (100 : Int)), C.i true IntKind.i64 (15 : Int), C.i true IntKind.i64 (0 : Int), C.i true
      IntKind.i64 (0 : Int), C.i false IntKind.u32 (IntKind.u32.wrap (IntKind.u32.wrap (fld pt22 (wh h) (105 : Int)) * (1 : Int))), C.b true true, C.i false IntKind.i64 (fld
      pt22 (wh h) (116 : Int)), C.i true IntKind.i64 (15 : Int), C.b true false, C.b true false, C.b true false, C.b true false, C.b true false, C.b true false, C.b true false,
      C.b true false, C.i false IntKind.i64 (IntKind.i64.wrap ((0 : Int) + fld pt22 (wh h) (108 : Int))), C.b true false, C.b true false, C.b true true])) ∧ ((fld pt22 (wh h)
      (79 : Int) == (1 : Int)) = false → szOK pt22 = true ∧ szOK pt22 = true ∧ R (SV.a [C.i true IntKind.i64 (1 : Int), C.i true IntKind.i64 (14 : Int), C.i true IntKind.i64 (4
      : Int), C.b true false, C.i false IntKind.i64 (fld pt22 (wh h) (100 : Int)), C.i true IntKind.i64 (15 : Int), C.i true IntKind.i64 (0 : Int), C.i true IntKind.i64 (0 :
      Int), C.i false IntKind.u32 (IntKind.u32.wrap (IntKind.u32.wrap (fld pt22 (wh h) (105 : Int)) * (1 : Int))), C.b true true, C.i false IntKind.i64 (fld pt22 (wh h) (116 :
      Int)), C.i true IntKind.i64 (15 : Int), C.b true false, C.b true false, C.b true false, C.b true false, C.b true false, C.b true false, C.b true false, C.b true false, C.i
      false IntKind.i64 (IntKind.i64.wrap ((0 : Int) + fld pt22 (wh h) (108 : Int))), C.b true false, C.b true false, C.b true true])))) := by kernel_rfl
theorem dec33 (E : World) (h : Int) (R : SV → Prop) (X : Prop) :
    (loopP (pe E) Try.f8 (fun v _ => R v) (fun todo fr s' => cond (memS s') (X ∧ todo = hd8 E ∧ fr.nt = Try.f8.ntmps ∧ refP fr (lv8 h 34)) False) (run (pe E) (orcT E) (tabL fns) 20000 (2^200-1) (hd8 E) (mkL Try.f8.ntmps (lv8 h 33)) sv8)) =
    (szOK pt23 = true ∧ ((!fits pt23 (wh h)) = true → X ∧ hd8 E = hd8 E ∧ (125 : Nat) = (125 : Nat) ∧ (IntKind.u16 = IntKind.u16 ∧ h = h) ∧ C.p (0 : Nat) (0 : Nat) = C.p (0 :
      Nat) (0 : Nat) ∧ (IntKind.u32 = IntKind.u32 ∧ IntKind.u32.wrap h = IntKind.u32.wrap h) ∧ C.slc (1 : Nat) (0 : Nat) (45 : Nat) (45 : Nat) = C.slc (1 : Nat) (0 : Nat) (45 :
      Nat) (45 : Nat) ∧ IntKind.i64 = IntKind.i64 ∧ (34 : Int) = (34 : Int)) ∧ ((!fits pt23 (wh h)) = false → szOK pt23 = true ∧ szOK pt23 = true ∧ szOK pt23 = true ∧ szOK pt23
      = true ∧ szOK pt23 = true ∧ szOK pt23 = true ∧ szOK pt23 = true ∧ szOK pt23 = true ∧ szOK pt23 = true ∧ szOK pt23 = true ∧ szOK pt23 = true ∧ szOK pt23 = true ∧ ((fld pt23
      (wh h) (79 : Int) == (1 : Int)) = true → szOK pt23 = true ∧ szOK pt23 = true ∧ R (SV.a [C.i true IntKind.i64 (1 : Int), C.i true IntKind.i64 (14 : Int), C.i true
      IntKind.i64 (2 : Int), C.b true false, C.i false IntKind.i64 (fld pt23 (wh h) (100 : Int)), C.i true IntKind.i64 (13 : Int), C.i true IntKind.i64 (0 : Int), C.i true
      IntKind.i64 (0 : Int), C.i false IntKind.u32 (IntKind.u32.wrap (IntKind.u32.wrap (fld pt23 (wh h) (105 : Int)) * (1 : Int))), C.b true true, C.i false IntKind.i64 (fld
      pt23 (wh h) (116 : Int)), C.i true IntKind.i64 (15 : Int), C.b true false, C.b true false, C.b true false, C.b true false, C.b true false, C.b true false, C.b true false,
      C.b true false, C.i false IntKind.i64 (IntKind.i64.wrap ((0 : Int) + fld pt23 (wh h) (108 : Int))), C.b true false, C.b true false, C.b true false])) ∧ ((fld pt23 (wh h)
      (79 : Int) == (1 : Int)) = false → szOK pt23 = true ∧ szOK pt23 = true ∧ R (SV.a [C.i true IntKind.i64 (1 : Int), C.i true IntKind.i64 (14 : Int), C.i true IntKind.i64 (4
      : Int), C.b true false, C.i false IntKind.i64 (fld pt23 (wh h) (100 : Int)), C.i true IntKind.i64 (13 : Int), C.i true IntKind.i64 (0 : Int), C.i true IntKind.i64 (0 :
      Int), C.i false IntKind.u32 (IntKind.u32.wrap (IntKind.u32.wrap (fld pt23 (wh h) (105 : Int)) * (1 : Int))), C.b true true, C.i false IntKind.i64 (fld pt23 (wh h) (116 :
      Int)), C.i true IntKind.i64 (15 : Int), C.b true false, C.b true false, C.b true false, C.b true false, C.b true false, C.b true false, C.b true false, C.b true false, C.i
      false IntKind.i64 (IntKind.i64.wrap ((0 : Int) + fld pt23 (wh h) (108 : Int))), C.b true false, C.b true false, C.b true false])))) := by kernel_rfl
theorem dec34 (E : World) (h : Int) (R : SV → Prop) (X : Prop) :
    (loopP (pe E) Try.f8 (fun v _ => R v) (fun todo fr s' => cond (memS s') (X ∧ todo = hd8 E ∧ fr.nt = Try.f8.ntmps ∧ refP fr (lv8 h 35)) False) (run (pe E) (orcT E) (tabL fns) 20000 (2^200-1) (hd8 E) (mkL Try.f8.ntmps (lv8 h 34)) sv8)) =
    (szOK pt24 = true ∧ ((!fits pt24 (wh h)) = true → X ∧ hd8 E = hd8 E ∧ (125 : Nat) = (125 : Nat) ∧ (IntKind.u16 = IntKind.u16 ∧ h = h) ∧ C.p (0 : Nat) (0 : Nat) = C.p (0 :
      Nat) (0 : Nat) ∧ (IntKind.u32 = IntKind.u32 ∧ IntKind.u32.wrap h = IntKind.u32.wrap h) ∧ C.slc (1 : Nat) (0 : Nat) (45 : Nat) (45 : Nat) = C.slc (1 : Nat) (0 : Nat) (45 :
      Nat) (45 : Nat) ∧ IntKind.i64 = IntKind.i64 ∧ (35 : Int) = (35 : Int)) ∧ ((!fits pt24 (wh h)) = false → szOK pt24 = true ∧ szOK pt24 = true ∧ szOK pt24 = true ∧ szOK pt24
      = true ∧ szOK pt24 = true ∧ szOK pt24 = true ∧ szOK pt24 = true ∧ szOK pt24 = true ∧ szOK pt24 = true ∧ szOK pt24 = true ∧ szOK pt24 = true ∧ szOK pt24 = true ∧ ((fld pt24
      (wh h) (79 : Int) == (1 : Int)) = true → szOK pt24 = true ∧ szOK pt24 = true ∧ R (SV.a [C.i true IntKind.i64 (1 : Int), C.i true IntKind.i64 (14 : Int), C.i true
      IntKind.i64 (2 : Int), C.b true false, C.i true IntKind.i64 (13 : Int), C.i true IntKind.i64 (13 : Int), C.i true IntKind.i64 (0 : Int), C.i true IntKind.i64 (0 : Int),
      C.i false IntKind.u32 (IntKind.u32.wrap (IntKind.u32.wrap (fld pt24 (wh h) (105 : Int)) * (1 : Int))), C.b true true, C.i false IntKind.i64 (fld pt24 (wh h) (116 : Int)),
      C.i true IntKind.i64 (15 : Int), C.b true false, C.b true false, C.b true false, C.b true false, C.b true false, C.b true false, C.b true false, C.b true false, C.i false
      IntKind.i64 (IntKind.i64.wrap ((0 : Int) + fld pt24 (wh h) (108 : Int))), C.b true false, C.b true false, C.b true false])) ∧ ((fld pt24 (wh h) (79 : Int) == (1 : Int)) =
      false → szOK pt24 = true ∧ szOK pt24 = true ∧ R (SV.a [C.i true IntKind.i64 (1 : Int), C.i true IntKind.i64 (14 : Int), C.i true IntKind.i64 (4 : Int), C.b true false, C.i
      true IntKind.i64 (13 : Int), C.i true IntKind.i64 (13 : Int), C.i true IntKind.i64 (0 : Int), C.i true IntKind.i64 (0 : Int), C.i false IntKind.u32 (IntKind.u32.wrap
      (IntKind.u32.wrap (fld pt24 (wh h) (105 : Int)) * (1 : Int))), C.b true true, C.i false IntKind.i64 (fld pt24 (wh h) (116 : Int)), C.i true IntKind.i64 (15 : Int), C.b
      true false, C.b true false, C.b true false, C.b true false, C.b true false, C.b true false, C.b true false, C.b true false, C.i false IntKind.i64 (IntKind.i64.wrap ((0 :
      Int) + fld pt24 (wh h) (108 : Int))), C.b true false, C.b true false, C.b true false])))) := by kernel_rfl
theorem dec35 (E : World) (h : Int) (R : SV → Prop) (X : Prop) :
    (loopP (pe E) Try.f8 (fun v _ => R v) (fun todo fr s' => cond (memS s') (X ∧ todo = hd8 E ∧ fr.nt = Try.f8.ntmps ∧ refP fr (lv8 h 36)) False) (run (pe E) (orcT E) (tabL fns) 20000 (2^200-1) (hd8 E) (mkL Try.f8.ntmps (lv8 h 35)) sv8)) =
    (szOK pt25 = true ∧ ((!fits pt25 (wh h)) = true → X ∧ hd8 E = hd8 E ∧ (125 : Nat) = (125 : Nat) ∧ (IntKind.u16 = IntKind.u16 ∧ h = h) ∧ C.p (0 : Nat) (0 : Nat) = C.p (0 :
      Nat) (0 : Nat) ∧ (IntKind.u32 = IntKind.u32 ∧ IntKind.u32.wrap h = IntKind.u32.wrap h) ∧ C.slc (1 : Nat) (0 : Nat) (45 : Nat) (45 : Nat) = C.slc (1 : Nat) (0 : Nat) (45 :
      Nat) (45 : Nat) ∧ IntKind.i64 = IntKind.i64 ∧ (36 : Int) = (36 : Int)) ∧ ((!fits pt25 (wh h)) = false → szOK pt25 = true ∧ szOK pt25 = true ∧ szOK pt25 = true ∧ szOK pt25
      = true ∧ szOK pt25 = true ∧ szOK pt25 = true ∧ szOK pt25 = true ∧ szOK pt25 = true ∧ szOK pt25 = true ∧ szOK pt25 = true ∧ szOK pt25 = true ∧ szOK pt25 = true ∧ ((fld pt25
      (wh h) (79 : Int) == (1 : Int)) = true → szOK pt25 = true ∧ szOK pt25 = true ∧ R (SV.a [C.i true IntKind.i64 (8 : Int), C.i true IntKind.i64 (14 : Int), C.i true
      IntKind.i64 (2 : Int), C.b true false, C.i true IntKind.i64 (0 : Int), C.i true IntKind.i64 (13 : Int), C.i true IntKind.i64 (0 : Int), C.i true IntKind.i64 (0 : Int), C.i
      false IntKind.u32 (IntKind.u32.wrap (IntKind.u32.wrap (fld pt25 (wh h) (105 : Int)) * (1 : Int))), C.b true false, C.i false IntKind.i64 (fld pt25 (wh h) (116 : Int)), C.i
      true IntKind.i64 (0 : Int), C.b true false, C.b true false, C.b true false, C.b true false, C.b true true, C.b true false, C.b true true, C.b true false, C.i false
      IntKind.i64 (IntKind.i64.wrap ((0 : Int) + fld pt25 (wh h) (108 : Int))), C.b true false, C.b true false, C.b true false])) ∧ ((fld pt25 (wh h) (79 : Int) == (1 : Int)) =
      false → szOK pt25 = true ∧ szOK pt25 = true ∧ R (SV.a [C.i true IntKind.i64 (8 : Int), C.i true IntKind.i64 (14 : Int), C.i true IntKind.i64 (0 : Int), C.b true false, C.i
      true IntKind.i64 (0 : Int), C.i true IntKind.i64 (13 : Int), C.i true IntKind.i64 (0 : Int), C.i true IntKind.i64 (0 : Int), C.i false IntKind.u32 (IntKind.u32.wrap
      (IntKind.u32.wrap (fld pt25 (wh h) (105 : Int)) * (1 : Int))), C.b true false, C.i false IntKind.i64 (fld pt25 (wh h) (116 : Int)), C.i true IntKind.i64 (0 : Int), C.b
      true false, C.b true false, C.b true false, C.b true false, C.b true true, C.b true false, C.b true true, C.b true false, C.i false IntKind.i64 (IntKind.i64.wrap ((0 :
      Int) + fld pt25 (wh h) (108 : Int))), C.b true false, C.b true false, C.b true false])))) := by kernel_rfl
theorem dec36 (E : World) (h : Int) (R : SV → Prop) (X : Prop) :
    (loopP (pe E) Try.f8 (fun v _ => R v) (fun todo fr s' => cond (memS s') (X ∧ todo = hd8 E ∧ fr.nt = Try.f8.ntmps ∧ refP fr (lv8 h 37)) False) (run (pe E) (orcT E) (tabL fns) 20000 (2^200-1) (hd8 E) (mkL Try.f8.ntmps (lv8 h 36)) sv8)) =
    (szOK pt26 = true ∧ ((!fits pt26 (wh h)) = true → X ∧ hd8 E = hd8 E ∧ (125 : Nat) = (125 : Nat) ∧ (IntKind.u16 = IntKind.u16 ∧ h = h) ∧ C.p (0 : Nat) (0 : Nat) = C.p (0 :
      Nat) (0 : Nat) ∧ (IntKind.u32 = IntKind.u32 ∧ IntKind.u32.wrap h = IntKind.u32.wrap h) ∧ C.slc (1 : Nat) (0 : Nat) (45 : Nat) (45 : Nat) = C.slc (1 : Nat) (0 : Nat) (45 :
      Nat) (45 : Nat) ∧ IntKind.i64 = IntKind.i64 ∧ (37 : Int) = (37 : Int)) ∧ ((!fits pt26 (wh h)) = false → szOK pt26 = true ∧ szOK pt26 = true ∧ szOK pt26 = true ∧ szOK pt26
      = true ∧ szOK pt26 = true ∧ szOK pt26 = true ∧ szOK pt26 = true ∧ szOK pt26 = true ∧ szOK pt26 = true ∧ szOK pt26 = true ∧ szOK pt26 = true ∧ szOK pt26 = true ∧ ((fld pt26
      (wh h) (79 : Int) == (1 : Int)) = true → szOK pt26 = true ∧ szOK pt26 = true ∧ R (SV.a [C.i true IntKind.i64 (8 : Int), C.i true IntKind.i64 (14 : Int), C.i true
      IntKind.i64 (2 : Int), C.b true false, C.i true IntKind.i64 (0 : Int), C.i true IntKind.i64 (13 : Int), C.i true IntKind.i64 (0 : Int), C.i true IntKind.i64 (0 : Int), C.i
      false IntKind.u32 (IntKind.u32.wrap (IntKind.u32.wrap (fld pt26 (wh h) (105 : Int)) * (1 : Int))), C.b true false, C.i false IntKind.i64 (fld pt26 (wh h) (116 : Int)), C.i
      true IntKind.i64 (0 : Int), C.b true false, C.b true false, C.b true false, C.b true false, C.b true true, C.b true false, C.b true true, C.b true false, C.i false
      IntKind.i64 (IntKind.i64.wrap ((16384 : Int) + fld pt26 (wh h) (108 : Int))), C.b true false, C.b true false, C.b true false])) ∧ ((fld pt26 (wh h) (79 : Int) == (1 :
      Int)) = false → szOK pt26 = true ∧ szOK pt26 = true ∧ R (SV.a [C.i true IntKind.i64 (8 : Int), C.i true IntKind.i64 (14 : Int), C.i true IntKind.i64 (0 : Int), C.b true
      false, C.i true IntKind.i64 (0 : Int), C.i true IntKind.i64 (13 : Int), C.i true IntKind.i64 (0 : Int), C.i true IntKind.i64 (0 : Int), C.i false IntKind.u32
      (IntKind.u32.wrap (IntKind.u32.wrap (fld pt26 (wh h) (105 : Int)) * (1 : Int))), C.b true false, C.i false IntKind.i64 (fld pt26 (wh h) (116 : Int)), C.i true IntKind.i64
      (0 : Int), C.b true false, C.b true false, C.b true false, C.b true false, C.b true true, C.b true false, C.b true true, C.b true false, C.i false IntKind.i64
      (IntKind.i64.wrap ((16384 : Int) + fld pt26 (wh h) (108 : Int))), C.b true false, C.b true false, C.b true false])))) := by kernel_rfl
theorem dec37 (E : World) (h : Int) (R : SV → Prop) (X : Prop) :
    (loopP (pe E) Try.f8 (fun v _ => R v) (fun todo fr s' => cond (memS s') (X ∧ todo = hd8 E ∧ fr.nt = Try.f8.ntmps ∧ refP fr (lv8 h 38)) False) (run (pe E) (orcT E) (tabL fns) 20000 (2^200-1) (hd8 E) (mkL Try.f8.ntmps (lv8 h 37)) sv8)) =
    (szOK pt27 = true ∧ ((!fits pt27 (wh h)) = true → X ∧ hd8 E = hd8 E ∧ (125 : Nat) = (125 : Nat) ∧ (IntKind.u16 = IntKind.u16 ∧ h = h) ∧ C.p (0 : Nat) (0 : Nat) = C.p (0 :
      Nat) (0 : Nat) ∧ (IntKind.u32 = IntKind.u32 ∧ IntKind.u32.wrap h = IntKind.u32.wrap h) ∧ C.slc (1 : Nat) (0 : Nat) (45 : Nat) (45 : Nat) = C.slc (1 : Nat) (0 : Nat) (45 :
      Nat) (45 : Nat) ∧ IntKind.i64 = IntKind.i64 ∧ (38 : Int) = (38 : Int)) ∧ ((!fits pt27 (wh h)) = false → szOK pt27 = true ∧ szOK pt27 = true ∧ szOK pt27 = true ∧ szOK pt27
      = true ∧ szOK pt27 = true ∧ szOK pt27 = true ∧ szOK pt27 = true ∧ szOK pt27 = true ∧ szOK pt27 = true ∧ szOK pt27 = true ∧ szOK pt27 = true ∧ szOK pt27 = true ∧ ((fld pt27
      (wh h) (79 : Int) == (1 : Int)) = true → szOK pt27 = true ∧ szOK pt27 = true ∧ R (SV.a [C.i true IntKind.i64 (8 : Int), C.i true IntKind.i64 (14 : Int), C.i true
      IntKind.i64 (2 : Int), C.b true false, C.i true IntKind.i64 (0 : Int), C.i true IntKind.i64 (13 : Int), C.i true IntKind.i64 (0 : Int), C.i true IntKind.i64 (0 : Int), C.i
      false IntKind.u32 (IntKind.u32.wrap (IntKind.u32.wrap (fld pt27 (wh h) (105 : Int)) * (1 : Int))), C.b true false, C.i false IntKind.i64 (fld pt27 (wh h) (116 : Int)), C.i
      true IntKind.i64 (0 : Int), C.b true false, C.b true true, C.b true false, C.b true false, C.b true false, C.b true true, C.b true true, C.b true false, C.i false
      IntKind.i64 (IntKind.i64.wrap ((0 : Int) + fld pt27 (wh h) (108 : Int))), C.b true false, C.b true false, C.b true false])) ∧ ((fld pt27 (wh h) (79 : Int) == (1 : Int)) =
      false → szOK pt27 = true ∧ szOK pt27 = true ∧ R (SV.a [C.i true IntKind.i64 (8 : Int), C.i true IntKind.i64 (14 : Int), C.i true IntKind.i64 (0 : Int), C.b true false, C.i
      true IntKind.i64 (0 : Int), C.i true IntKind.i64 (13 : Int), C.i true IntKind.i64 (0 : Int), C.i true IntKind.i64 (0 : Int), C.i false IntKind.u32 (IntKind.u32.wrap
      (IntKind.u32.wrap (fld pt27 (wh h) (105 : Int)) * (1 : Int))), C.b true false, C.i false IntKind.i64 (fld pt27 (wh h) (116 : Int)), C.i true IntKind.i64 (0 : Int), C.b
      true false, C.b true true, C.b true false, C.b true false, C.b true false, C.b true true, C.b true true, C.b true false, C.i false IntKind.i64 (IntKind.i64.wrap ((0 : Int)
      + fld pt27 (wh h) (108 : Int))), C.b true false, C.b true false, C.b true false])))) := by kernel_rfl
theorem dec38 (E : World) (h : Int) (R : SV → Prop) (X : Prop) :
    (loopP (pe E) Try.f8 (fun v _ => R v) (fun todo fr s' => cond (memS s') (X ∧ todo = hd8 E ∧ fr.nt = Try.f8.ntmps ∧ refP fr (lv8 h 39)) False) (run (pe E) (orcT E) (tabL fns) 20000 (2^200-1) (hd8 E) (mkL Try.f8.ntmps (lv8 h 38)) sv8)) =
    (szOK pt28 = true ∧ ((!fits pt28 (wh h)) = true → X ∧ hd8 E = hd8 E ∧ (125 : Nat) = (125 : Nat) ∧ (IntKind.u16 = IntKind.u16 ∧ h = h) ∧ C.p (0 : Nat) (0 : Nat) = C.p (0 :
      Nat) (0 : Nat) ∧ (IntKind.u32 = IntKind.u32 ∧ IntKind.u32.wrap h = IntKind.u32.wrap h) ∧ C.slc (1 : Nat) (0 : Nat) (45 : Nat) (45 : Nat) = C.slc (1 : Nat) (0 : Nat) (45 :
      Nat) (45 : Nat) ∧ IntKind.i64 = IntKind.i64 ∧ (39 : Int) = (39 : Int)) ∧ ((!fits pt28 (wh h)) = false → szOK pt28 = true ∧ szOK pt28 = true ∧ szOK pt28 = true ∧ szOK pt28
      = true ∧ szOK pt28 = true ∧ szOK pt28 = true ∧ szOK pt28 = true ∧ szOK pt28 = true ∧ szOK pt28 = true ∧ szOK pt28 = true ∧ szOK pt28 = true ∧ szOK pt28 = true ∧ ((fld pt28
      (wh h) (79 : Int) == (1 : Int)) = true → szOK pt28 = true ∧ szOK pt28 = true ∧ R (SV.a [C.i true IntKind.i64 (8 : Int), C.i true IntKind.i64 (14 : Int), C.i true
      IntKind.i64 (2 : Int), C.b true false, C.i true IntKind.i64 (0 : Int), C.i true IntKind.i64 (13 : Int), C.i true IntKind.i64 (0 : Int), C.i true IntKind.i64 (0 : Int), C.i
      false IntKind.u32 (IntKind.u32.wrap (IntKind.u32.wrap (fld pt28 (wh h) (105 : Int)) * (1 : Int))), C.b true false, C.i false IntKind.i64 (fld pt28 (wh h) (116 : Int)), C.i
      true IntKind.i64 (0 : Int), C.b true false, C.b true true, C.b true false, C.b true false, C.b true false, C.b true true, C.b true true, C.b true false, C.i false
      IntKind.i64 (IntKind.i64.wrap ((32768 : Int) + fld pt28 (wh h) (108 : Int))), C.b true false, C.b true false, C.b true false])) ∧ ((fld pt28 (wh h) (79 : Int) == (1 :
      Int)) = false → szOK pt28 = true ∧ szOK pt28 = true ∧ R (SV.a [C.i true IntKind.i64 (8 : Int), C.i true IntKind.i64 (14 : Int), C.i true IntKind.i64 (0 : Int), C.b true
      false, C.i true IntKind.i64 (0 : Int), C.i true IntKind.i64 (13 : Int), C.i true IntKind.i64 (0 : Int), C.i true IntKind.i64 (0 : Int), C.i false IntKind.u32
      (IntKind.u32.wrap (IntKind.u32.wrap (fld pt28 (wh h) (105 : Int)) * (1 : Int))), C.b true false, C.i false IntKind.i64 (fld pt28 (wh h) (116 : Int)), C.i true IntKind.i64
      (0 : Int), C.b true false, C.b true true, C.b true false, C.b true false, C.b true false, C.b true true, C.b true true, C.b true false, C.i false IntKind.i64
      (IntKind.i64.wrap ((32768 : Int) + fld pt28 (wh h) (108 : Int))), C.b true false, C.b true false, C.b true false])))) := by kernel_rfl
theorem dec39 (E : World) (h : Int) (R : SV → Prop) (X : Prop) :
    (loopP (pe E) Try.f8 (fun v _ => R v) (fun todo fr s' => cond (memS s') (X ∧ todo = hd8 E ∧ fr.nt = Try.f8.ntmps ∧ refP fr (lv8 h 40)) False) (run (pe E) (orcT E) (tabL fns) 20000 (2^200-1) (hd8 E) (mkL Try.f8.ntmps (lv8 h 39)) sv8)) =
    (szOK pt29 = true ∧ ((!fits pt29 (wh h)) = true → X ∧ hd8 E = hd8 E ∧ (125 : Nat) = (125 : Nat) ∧ (IntKind.u16 = IntKind.u16 ∧ h = h) ∧ C.p (0 : Nat) (0 : Nat) = C.p (0 :
      Nat) (0 : Nat) ∧ (IntKind.u32 = IntKind.u32 ∧ IntKind.u32.wrap h = IntKind.u32.wrap h) ∧ C.slc (1 : Nat) (0 : Nat) (45 : Nat) (45 : Nat) = C.slc (1 : Nat) (0 : Nat) (45 :
      Nat) (45 : Nat) ∧ IntKind.i64 = IntKind.i64 ∧ (40 : Int) = (40 : Int)) ∧ ((!fits pt29 (wh h)) = false → szOK pt29 = true ∧ szOK pt29 = true ∧ szOK pt29 = true ∧ szOK pt29
      = true ∧ szOK pt29 = true ∧ szOK pt29 = true ∧ szOK pt29 = true ∧ szOK pt29 = true ∧ szOK pt29 = true ∧ szOK pt29 = true ∧ szOK pt29 = true ∧ szOK pt29 = true ∧ szOK pt29
      = true ∧ szOK pt29 = true ∧ ((fld pt29 (wh h) (79 : Int) == (1 : Int)) = true → szOK pt29 = true ∧ szOK pt29 = true ∧ R (SV.a [C.i true IntKind.i64 (8 : Int), C.i true
      IntKind.i64 (14 : Int), C.i true IntKind.i64 (2 : Int), C.b true false, C.i true IntKind.i64 (0 : Int), C.i false IntKind.i64 (fld pt29 (wh h) (110 : Int)), C.i true
      IntKind.i64 (0 : Int), C.i true IntKind.i64 (0 : Int), C.i false IntKind.u32 (IntKind.u32.wrap (IntKind.u32.wrap (fld pt29 (wh h) (105 : Int)) * (1 : Int))), C.b true
      false, C.i false IntKind.i64 (fld pt29 (wh h) (116 : Int)), C.i true IntKind.i64 (0 : Int), C.b true false, C.b false (fld pt29 (wh h) (76 : Int) == (1 : Int)), C.b true
      false, C.b true false, C.b true false, C.b true true, C.b true true, C.b true false, C.i false IntKind.i64 (IntKind.i64.wrap ((0 : Int) + fld pt29 (wh h) (108 : Int))),
      C.b true false, C.b true false, C.b true false])) ∧ ((fld pt29 (wh h) (79 : Int) == (1 : Int)) = false → szOK pt29 = true ∧ szOK pt29 = true ∧ R (SV.a [C.i true
      IntKind.i64 (8 : Int), C.i true IntKind.i64 (14 : Int), C.i true IntKind.i64 (0 : Int), C.b true false, C.i true IntKind.i64 (0 : Int), C.i false IntKind.i64 (fld pt29 (wh
      h) (110 : Int)), C.i true IntKind.i64 (0 : Int), C.i true IntKind.i64 (0 : Int), C.i false IntKind.u32 (IntKind.u32.wrap (IntKind.u32.wrap (fld pt29 (wh h) (105 : Int)) *
      (1 : Int))), C.b true false, C.i false IntKind.i64 (fld pt29 (wh h) (116 : Int)), C.i true IntKind.i64 (0 : Int), C.b true false, C.b false (fld pt29 (wh h) (76 : Int) ==
      (1 : Int)), C.b true false, C.b true false, C.b true false, C.b true true, C.b true true, C.b true false, C.i false IntKind.i64 (IntKind.i64.wrap ((0 : Int) + fld pt29 (wh
      h) (108 : Int))), C.b true false, C.b true false, C.b true false])))) := by kernel_rfl
theorem dec40 (E : World) (h : Int) (R : SV → Prop) (X : Prop) :
    (loopP (pe E) Try.f8 (fun v _ => R v) (fun todo fr s' => cond (memS s') (X ∧ todo = hd8 E ∧ fr.nt = Try.f8.ntmps ∧ refP fr (lv8 h 41)) False) (run (pe E) (orcT E) (tabL fns) 20000 (2^200-1) (hd8 E) (mkL Try.f8.ntmps (lv8 h 40)) sv8)) =
    (szOK pt30 = true ∧ ((!fits pt30 (wh h)) = true → X ∧ hd8 E = hd8 E ∧ (125 : Nat) = (125 : Nat) ∧ (IntKind.u16 = IntKind.u16 ∧ h = h) ∧ C.p (0 : Nat) (0 : Nat) = C.p (0 :
      Nat) (0 : Nat) ∧ (IntKind.u32 = IntKind.u32 ∧ IntKind.u32.wrap h = IntKind.u32.wrap h) ∧ C.slc (1 : Nat) (0 : Nat) (45 : Nat) (45 : Nat) = C.slc (1 : Nat) (0 : Nat) (45 :
      Nat) (45 : Nat) ∧ IntKind.i64 = IntKind.i64 ∧ (41 : Int) = (41 : Int)) ∧ ((!fits pt30 (wh h)) = false → szOK pt30 = true ∧ ((bif decide (fld pt30 (wh h) (99 : Int) < (0 :
      Int)) then true else decide (fld pt30 (wh h) (99 : Int) > (13 : Int))) = true → X ∧ hd8 E = hd8 E ∧ (125 : Nat) = (125 : Nat) ∧ (IntKind.u16 = IntKind.u16 ∧ h = h) ∧ C.p
      (0 : Nat) (0 : Nat) = C.p (0 : Nat) (0 : Nat) ∧ (IntKind.u32 = IntKind.u32 ∧ IntKind.u32.wrap h = IntKind.u32.wrap h) ∧ C.slc (1 : Nat) (0 : Nat) (45 : Nat) (45 : Nat) =
      C.slc (1 : Nat) (0 : Nat) (45 : Nat) (45 : Nat) ∧ IntKind.i64 = IntKind.i64 ∧ (41 : Int) = (41 : Int)) ∧ ((bif decide (fld pt30 (wh h) (99 : Int) < (0 : Int)) then true
      else decide (fld pt30 (wh h) (99 : Int) > (13 : Int))) = false → szOK pt30 = true ∧ szOK pt30 = true ∧ szOK pt30 = true ∧ szOK pt30 = true ∧ szOK pt30 = true ∧ szOK pt30 =
      true ∧ szOK pt30 = true ∧ szOK pt30 = true ∧ szOK pt30 = true ∧ szOK pt30 = true ∧ szOK pt30 = true ∧ szOK pt30 = true ∧ szOK pt30 = true ∧ ((fld pt30 (wh h) (79 : Int) ==
      (1 : Int)) = true → szOK pt30 = true ∧ szOK pt30 = true ∧ ((fld pt30 (wh h) (99 : Int) != (14 : Int)) = true → (decide (IntKind.u32.wrap (IntKind.u32.wrap (fld pt30 (wh h)
      (105 : Int)) * (1 : Int)) ≥ (128 : Int)) = true → R (SV.a [C.i true IntKind.i64 (9 : Int), C.i false IntKind.i64 (fld pt30 (wh h) (99 : Int)), C.i true IntKind.i64 (2 :
      Int), C.b true false, C.i true IntKind.i64 (0 : Int), C.i true IntKind.i64 (0 : Int), C.i true IntKind.i64 (0 : Int), C.i true IntKind.i64 (0 : Int), C.i false IntKind.u32
      (IntKind.u32.wrap (IntKind.u32.wrap (IntKind.u32.wrap (IntKind.u32.wrap (fld pt30 (wh h) (105 : Int)) * (1 : Int)) - (256 : Int)) * (2 : Int))), C.b true false, C.i false
      IntKind.i64 (fld pt30 (wh h) (116 : Int)), C.i true IntKind.i64 (0 : Int), C.b true false, C.b true false, C.b true false, C.b true false, C.b true false, C.b true false,
      C.b true false, C.b true false, C.i false IntKind.i64 (IntKind.i64.wrap ((0 : Int) + fld pt30 (wh h) (108 : Int))), C.b true false, C.b true false, C.b true false])) ∧
      (decide (IntKind.u32.wrap (IntKind.u32.wrap (fld pt30 (wh h) (105 : Int)) * (1 : Int)) ≥ (128 : Int)) = false → R (SV.a [C.i true IntKind.i64 (9 : Int), C.i false
      IntKind.i64 (fld pt30 (wh h) (99 : Int)), C.i true IntKind.i64 (2 : Int), C.b true false, C.i true IntKind.i64 (0 : Int), C.i true IntKind.i64 (0 : Int), C.i true
      IntKind.i64 (0 : Int), C.i true IntKind.i64 (0 : Int), C.i false IntKind.u32 (IntKind.u32.wrap (IntKind.u32.wrap (IntKind.u32.wrap (fld pt30 (wh h) (105 : Int)) * (1 :
      Int)) * (2 : Int))), C.b true false, C.i false IntKind.i64 (fld pt30 (wh h) (116 : Int)), C.i true IntKind.i64 (0 : Int), C.b true false, C.b true false, C.b true false,
      C.b true false, C.b true false, C.b true false, C.b true false, C.b true false, C.i false IntKind.i64 (IntKind.i64.wrap ((0 : Int) + fld pt30 (wh h) (108 : Int))), C.b
      true false, C.b true false, C.b true false]))) ∧ ((fld pt30 (wh h) (99 : Int) != (14 : Int)) = false → (decide (IntKind.u32.wrap (IntKind.u32.wrap (fld pt30 (wh h) (105 :
      Int)) * (1 : Int)) ≥ (1024 : Int)) = true → R (SV.a [C.i true IntKind.i64 (9 : Int), C.i false IntKind.i64 (fld pt30 (wh h) (99 : Int)), C.i true IntKind.i64 (2 : Int),
      C.b true false, C.i true IntKind.i64 (0 : Int), C.i true IntKind.i64 (0 : Int), C.i true IntKind.i64 (0 : Int), C.i true IntKind.i64 (0 : Int), C.i false IntKind.u32
      (IntKind.u32.wrap (IntKind.u32.wrap (IntKind.u32.wrap (IntKind.u32.wrap (fld pt30 (wh h) (105 : Int)) * (1 : Int)) - (2048 : Int)) * (2 : Int))), C.b true false, C.i false
      IntKind.i64 (fld pt30 (wh h) (116 : Int)), C.i true IntKind.i64 (0 : Int), C.b true false, C.b true false, C.b true false, C.b true false, C.b true false, C.b true false,
      C.b true false, C.b true false, C.i false IntKind.i64 (IntKind.i64.wrap ((0 : Int) + fld pt30 (wh h) (108 : Int))), C.b true false, C.b true false, C.b true false])) ∧
      (decide (IntKind.u32.wrap (IntKind.u32.wrap (fld pt30 (wh h) (105 : Int)) * (1 : Int)) ≥ (1024 : Int)) = false → R (SV.a [C.i true IntKind.i64 (9 : Int), C.i false
      IntKind.i64 (fld pt30 (wh h) (99 : Int)), C.i true IntKind.i64 (2 : Int), C.b true false, C.i true IntKind.i64 (0 : Int), C.i true IntKind.i64 (0 : Int), C.i true
      IntKind.i64 (0 : Int), C.i true IntKind.i64 (0 : Int), C.i false IntKind.u32 (IntKind.u32.wrap (IntKind.u32.wrap (IntKind.u32.wrap (fld pt30 (wh h) (105 : Int)) * (1 :
      Int)) * (2 : Int))), C.b true false, C.i false IntKind.i64 (fld pt30 (wh h) (116 : Int)), C.i true IntKind.i64 (0 : Int), C.b true false, C.b true false, C.b true false,
      C.b true false, C.b true false, C.b true false, C.b true false, C.b true false, C.i false IntKind.i64 (IntKind.i64.wrap ((0 : Int) + fld pt30 (wh h) (108 : Int))), C.b
      true false, C.b true false, C.b true false])))) ∧ ((fld pt30 (wh h) (79 : Int) == (1 : Int)) = false → szOK pt30 = true ∧ szOK pt30 = true ∧ ((fld pt30 (wh h) (99 : Int)
      != (14 : Int)) = true → (decide (IntKind.u32.wrap (IntKind.u32.wrap (fld pt30 (wh h) (105 : Int)) * (1 : Int)) ≥ (128 : Int)) = true → R (SV.a [C.i true IntKind.i64 (9 :
      Int), C.i false IntKind.i64 (fld pt30 (wh h) (99 : Int)), C.i true IntKind.i64 (0 : Int), C.b true false, C.i true IntKind.i64 (0 : Int), C.i true IntKind.i64 (0 : Int),
      C.i true IntKind.i64 (0 : Int), C.i true IntKind.i64 (0 : Int), C.i false IntKind.u32 (IntKind.u32.wrap (IntKind.u32.wrap (IntKind.u32.wrap (IntKind.u32.wrap (fld pt30 (wh
      h) (105 : Int)) * (1 : Int)) - (256 : Int)) * (2 : Int))), C.b true false, C.i false IntKind.i64 (fld pt30 (wh h) (116 : Int)), C.i true IntKind.i64 (0 : Int), C.b true
      false, C.b true false, C.b true false, C.b true false, C.b true false, C.b true false, C.b true false, C.b true false, C.i false IntKind.i64 (IntKind.i64.wrap ((0 : Int) +
      fld pt30 (wh h) (108 : Int))), C.b true false, C.b true false, C.b true false])) ∧ (decide (IntKind.u32.wrap (IntKind.u32.wrap (fld pt30 (wh h) (105 : Int)) * (1 : Int)) ≥
      (128 : Int)) = false → R (SV.a [C.i true IntKind.i64 (9 : Int), C.i false IntKind.i64 (fld pt30 (wh h) (99 : Int)), C.i true IntKind.i64 (0 : Int), C.b true false, C.i
      true IntKind.i64 (0 : Int), C.i true IntKind.i64 (0 : Int), C.i true IntKind.i64 (0 : Int), C.i true IntKind.i64 (0 : Int), C.i false IntKind.u32 (IntKind.u32.wrap
      (IntKind.u32.wrap (IntKind.u32.wrap (fld pt30 (wh h) (105 : Int)) * (1 : Int)) * (2 : Int))), C.b true false, C.i false IntKind.i64 (fld pt30 (wh h) (116 : Int)), C.i true
      IntKind.i64 (0 : Int), C.b true false, C.b true false, C.b true false, C.b true false, C.b true false, C.b true false, C.b true false, C.b true false, C.i false
      IntKind.i64 (IntKind.i64.wrap ((0 : Int) + fld pt30 (wh h) (108 : Int))), C.b true false, C.b true false, C.b true false]))) ∧ ((fld pt30 (wh h) (99 : Int) != (14 : Int))
      = false → (decide (IntKind.u32.wrap (IntKind.u32.wrap (fld pt30 (wh h) (105 : Int)) * (1 : Int)) ≥ (1024 : Int)) = true → R (SV.a [C.i true IntKind.i64 (9 : Int), C.i
      false IntKind.i64 (fld pt30 (wh h) (99 : Int)), C.i true IntKind.i64 (0 : Int), C.b true false, C.i true IntKind.i64 (0 : Int), C.i true IntKind.i64 (0 : Int), C.i true
      IntKind.i64 (0 : Int), C.i true IntKind.i64 (0 : Int), C.i false IntKind.u32 (IntKind.u32.wrap (IntKind.u32.wrap (IntKind.u32.wrap (IntKind.u32.wrap (fld pt30 (wh h) (105
      : Int)) * (1 : Int)) - (2048 : Int)) * (2 : Int))), C.b true false, C.i false IntKind.i64 (fld pt30 (wh h) (116 : Int)), C.i true IntKind.i64 (0 : Int), C.b true false,
      C.b true false, C.b true false, C.b true false, C.b true false, C.b true false, C.b true false, C.b true false, C.i false IntKind.i64 (IntKind.i64.wrap ((0 : Int) + fld
      pt30 (wh h) (108 : Int))), C.b true false, C.b true false, C.b true false])) ∧ (decide (IntKind.u32.wrap (IntKind.u32.wrap (fld pt30 (wh h) (105 : Int)) * (1 : Int)) ≥
      (1024 : Int)) = false → R (SV.a [C.i true IntKind.i64 (9 : Int), C.i false IntKind.i64 (fld pt30 (wh h) (99 : Int)), C.i true IntKind.i64 (0 : Int), C.b true false, C.i
      true IntKind.i64 (0 : Int), C.i true IntKind.i64 (0 : Int), C.i true IntKind.i64 (0 : Int), C.i true IntKind.i64 (0 : Int), C.i false IntKind.u32 (IntKind.u32.wrap
      (IntKind.u32.wrap (IntKind.u32.wrap (fld pt30 (wh h) (105 : Int)) * (1 : Int)) * (2 : Int))), C.b true false, C.i false IntKind.i64 (fld pt30 (wh h) (116 : Int)), C.i true
      IntKind.i64 (0 : Int), C.b true false, C.b true false, C.b true false, C.b true false, C.b true false, C.b true false, C.b true false, C.b true false, C.i false
      IntKind.i64 (IntKind.i64.wrap ((0 : Int) + fld pt30 (wh h) (108 : Int))), C.b true false, C.b true false, C.b true false]))))))) := by kernel_rfl
theorem dec41 (E : World) (h : Int) (R : SV → Prop) (X : Prop) :
    (loopP (pe E) Try.f8 (fun v _ => R v) (fun todo fr s' => cond (memS s') (X ∧ todo = hd8 E ∧ fr.nt = Try.f8.ntmps ∧ refP fr (lv8 h 42)) False) (run (pe E) (orcT E) (tabL fns) 20000 (2^200-1) (hd8 E) (mkL Try.f8.ntmps (lv8 h 41)) sv8)) =
    (szOK pt31 = true ∧ ((!fits pt31 (wh h)) = true → X ∧ hd8 E = hd8 E ∧ (125 : Nat) = (125 : Nat) ∧ (IntKind.u16 = IntKind.u16 ∧ h = h) ∧ C.p (0 : Nat) (0 : Nat) = C.p (0 :
      Nat) (0 : Nat) ∧ (IntKind.u32 = IntKind.u32 ∧ IntKind.u32.wrap h = IntKind.u32.wrap h) ∧ C.slc (1 : Nat) (0 : Nat) (45 : Nat) (45 : Nat) = C.slc (1 : Nat) (0 : Nat) (45 :
      Nat) (45 : Nat) ∧ IntKind.i64 = IntKind.i64 ∧ (42 : Int) = (42 : Int)) ∧ ((!fits pt31 (wh h)) = false → szOK pt31 = true ∧ szOK pt31 = true ∧ szOK pt31 = true ∧ szOK pt31
      = true ∧ szOK pt31 = true ∧ szOK pt31 = true ∧ szOK pt31 = true ∧ szOK pt31 = true ∧ szOK pt31 = true ∧ szOK pt31 = true ∧ szOK pt31 = true ∧ szOK pt31 = true ∧ ((fld pt31
      (wh h) (79 : Int) == (1 : Int)) = true → szOK pt31 = true ∧ szOK pt31 = true ∧ R (SV.a [C.i true IntKind.i64 (10 : Int), C.i true IntKind.i64 (14 : Int), C.i true
      IntKind.i64 (2 : Int), C.b true false, C.i true IntKind.i64 (0 : Int), C.i true IntKind.i64 (0 : Int), C.i true IntKind.i64 (0 : Int), C.i true IntKind.i64 (0 : Int), C.i
      false IntKind.u32 (IntKind.u32.wrap (IntKind.u32.wrap (fld pt31 (wh h) (105 : Int)) * (1 : Int))), C.b true false, C.i false IntKind.i64 (fld pt31 (wh h) (116 : Int)), C.i
      true IntKind.i64 (0 : Int), C.b true false, C.b true false, C.b true false, C.b true false, C.b true false, C.b true false, C.b true false, C.b true false, C.i false
      IntKind.i64 (IntKind.i64.wrap ((0 : Int) + fld pt31 (wh h) (108 : Int))), C.b true false, C.b true false, C.b true false])) ∧ ((fld pt31 (wh h) (79 : Int) == (1 : Int)) =
      false → szOK pt31 = true ∧ szOK pt31 = true ∧ R (SV.a [C.i true IntKind.i64 (10 : Int), C.i true IntKind.i64 (14 : Int), C.i true IntKind.i64 (0 : Int), C.b true false,
      C.i true IntKind.i64 (0 : Int), C.i true IntKind.i64 (0 : Int), C.i true IntKind.i64 (0 : Int), C.i true IntKind.i64 (0 : Int), C.i false IntKind.u32 (IntKind.u32.wrap
      (IntKind.u32.wrap (fld pt31 (wh h) (105 : Int)) * (1 : Int))), C.b true false, C.i false IntKind.i64 (fld pt31 (wh h) (116 : Int)), C.i true IntKind.i64 (0 : Int), C.b
      true false, C.b true false, C.b true false, C.b true false, C.b true false, C.b true false, C.b true false, C.b true false, C.i false IntKind.i64 (IntKind.i64.wrap ((0 :
      Int) + fld pt31 (wh h) (108 : Int))), C.b true false, C.b true false, C.b true false])))) := by kernel_rfl
theorem dec42 (E : World) (h : Int) (R : SV → Prop) (X : Prop) :
    (loopP (pe E) Try.f8 (fun v _ => R v) (fun todo fr s' => cond (memS s') (X ∧ todo = hd8 E ∧ fr.nt = Try.f8.ntmps ∧ refP fr (lv8 h 43)) False) (run (pe E) (orcT E) (tabL fns) 20000 (2^200-1) (hd8 E) (mkL Try.f8.ntmps (lv8 h 42)) sv8)) =
    (szOK pt32 = true ∧ ((!fits pt32 (wh h)) = true → X ∧ hd8 E = hd8 E ∧ (125 : Nat) = (125 : Nat) ∧ (IntKind.u16 = IntKind.u16 ∧ h = h) ∧ C.p (0 : Nat) (0 : Nat) = C.p (0 :
      Nat) (0 : Nat) ∧ (IntKind.u32 = IntKind.u32 ∧ IntKind.u32.wrap h = IntKind.u32.wrap h) ∧ C.slc (1 : Nat) (0 : Nat) (45 : Nat) (45 : Nat) = C.slc (1 : Nat) (0 : Nat) (45 :
      Nat) (45 : Nat) ∧ IntKind.i64 = IntKind.i64 ∧ (43 : Int) = (43 : Int)) ∧ ((!fits pt32 (wh h)) = false → szOK pt32 = true ∧ szOK pt32 = true ∧ szOK pt32 = true ∧ szOK pt32
      = true ∧ szOK pt32 = true ∧ szOK pt32 = true ∧ szOK pt32 = true ∧ szOK pt32 = true ∧ szOK pt32 = true ∧ szOK pt32 = true ∧ szOK pt32 = true ∧ szOK pt32 = true ∧ ((fld pt32
      (wh h) (79 : Int) == (1 : Int)) = true → szOK pt32 = true ∧ szOK pt32 = true ∧ (decide (IntKind.u32.wrap (IntKind.u32.wrap (fld pt32 (wh h) (105 : Int)) * (1 : Int)) ≥
      (1024 : Int)) = true → R (SV.a [C.i true IntKind.i64 (9 : Int), C.i true IntKind.i64 (14 : Int), C.i true IntKind.i64 (2 : Int), C.b true false, C.i true IntKind.i64 (0 :
      Int), C.i true IntKind.i64 (0 : Int), C.i true IntKind.i64 (0 : Int), C.i true IntKind.i64 (0 : Int), C.i false IntKind.u32 (IntKind.u32.wrap (IntKind.u32.wrap
      (IntKind.u32.wrap (IntKind.u32.wrap (fld pt32 (wh h) (105 : Int)) * (1 : Int)) - (2048 : Int)) * (2 : Int))), C.b true false, C.i false IntKind.i64 (fld pt32 (wh h) (116 :
      Int)), C.i true IntKind.i64 (0 : Int), C.b true false, C.b true false, C.b true false, C.b true false, C.b true false, C.b true false, C.b true false, C.b true false, C.i
      false IntKind.i64 (IntKind.i64.wrap ((0 : Int) + fld pt32 (wh h) (108 : Int))), C.b true false, C.b true false, C.b true false])) ∧ (decide (IntKind.u32.wrap
      (IntKind.u32.wrap (fld pt32 (wh h) (105 : Int)) * (1 : Int)) ≥ (1024 : Int)) = false → R (SV.a [C.i true IntKind.i64 (9 : Int), C.i true IntKind.i64 (14 : Int), C.i true
      IntKind.i64 (2 : Int), C.b true false, C.i true IntKind.i64 (0 : Int), C.i true IntKind.i64 (0 : Int), C.i true IntKind.i64 (0 : Int), C.i true IntKind.i64 (0 : Int), C.i
      false IntKind.u32 (IntKind.u32.wrap (IntKind.u32.wrap (IntKind.u32.wrap (fld pt32 (wh h) (105 : Int)) * (1 : Int)) * (2 : Int))), C.b true false, C.i false IntKind.i64
      (fld pt32 (wh h) (116 : Int)), C.i true IntKind.i64 (0 : Int), C.b true false, C.b true false, C.b true false, C.b true false, C.b true false, C.b true false, C.b true
      false, C.b true false, C.i false IntKind.i64 (IntKind.i64.wrap ((0 : Int) + fld pt32 (wh h) (108 : Int))), C.b true false, C.b true false, C.b true false]))) ∧ ((fld pt32
      (wh h) (79 : Int) == (1 : Int)) = false → szOK pt32 = true ∧ szOK pt32 = true ∧ (decide (IntKind.u32.wrap (IntKind.u32.wrap (fld pt32 (wh h) (105 : Int)) * (1 : Int)) ≥
      (1024 : Int)) = true → R (SV.a [C.i true IntKind.i64 (9 : Int), C.i true IntKind.i64 (14 : Int), C.i true IntKind.i64 (0 : Int), C.b true false, C.i true IntKind.i64 (0 :
      Int), C.i true IntKind.i64 (0 : Int), C.i true IntKind.i64 (0 : Int), C.i true IntKind.i64 (0 : Int), C.i false IntKind.u32 (IntKind.u32.wrap (IntKind.u32.wrap
      (IntKind.u32.wrap (IntKind.u32.wrap (fld pt32 (wh h) (105 : Int)) * (1 : Int)) - (2048 : Int)) * (2 : Int))), C.b true false, C.i false IntKind.i64 (fld pt32 (wh h) (116 :
      Int)), C.i true IntKind.i64 (0 : Int), C.b true false, C.b true false, C.b true false, C.b true false, C.b true false, C.b true false, C.b true false, C.b true false, C.i
      false IntKind.i64 (IntKind.i64.wrap ((0 : Int) + fld pt32 (wh h) (108 : Int))), C.b true false, C.b true false, C.b true false])) ∧ (decide (IntKind.u32.wrap
      (IntKind.u32.wrap (fld pt32 (wh h) (105 : Int)) * (1 : Int)) ≥ (1024 : Int)) = false → R (SV.a [C.i true IntKind.i64 (9 : Int), C.i true IntKind.i64 (14 : Int), C.i true
      IntKind.i64 (0 : Int), C.b true false, C.i true IntKind.i64 (0 : Int), C.i true IntKind.i64 (0 : Int), C.i true IntKind.i64 (0 : Int), C.i true IntKind.i64 (0 : Int), C.i
      false IntKind.u32 (IntKind.u32.wrap (IntKind.u32.wrap (IntKind.u32.wrap (fld pt32 (wh h) (105 : Int)) * (1 : Int)) * (2 : Int))), C.b true false, C.i false IntKind.i64
      (fld pt32 (wh h) (116 : Int)), C.i true IntKind.i64 (0 : Int), C.b true false, C.b true false, C.b true false, C.b true false, C.b true false, C.b true false, C.b true
      false, C.b true false, C.i false IntKind.i64 (IntKind.i64.wrap ((0 : Int) + fld pt32 (wh h) (108 : Int))), C.b true false, C.b true false, C.b true false]))))) := by kernel_rfl
theorem dec43 (E : World) (h : Int) (R : SV → Prop) (X : Prop) :
    (loopP (pe E) Try.f8 (fun v _ => R v) (fun todo fr s' => cond (memS s') (X ∧ todo = hd8 E ∧ fr.nt = Try.f8.ntmps ∧ refP fr (lv8 h 44)) False) (run (pe E) (orcT E) (tabL fns) 20000 (2^200-1) (hd8 E) (mkL Try.f8.ntmps (lv8 h 43)) sv8)) =
    (szOK pt33 = true ∧ ((!fits pt33 (wh h)) = true → X ∧ hd8 E = hd8 E ∧ (125 : Nat) = (125 : Nat) ∧ (IntKind.u16 = IntKind.u16 ∧ h = h) ∧ C.p (0 : Nat) (0 : Nat) = C.p (0 :
      Nat) (0 : Nat) ∧ (IntKind.u32 = IntKind.u32 ∧ IntKind.u32.wrap h = IntKind.u32.wrap h) ∧ C.slc (1 : Nat) (0 : Nat) (45 : Nat) (45 : Nat) = C.slc (1 : Nat) (0 : Nat) (45 :
      Nat) (45 : Nat) ∧ IntKind.i64 = IntKind.i64 ∧ (44 : Int) = (44 : Int)) ∧ ((!fits pt33 (wh h)) = false → szOK pt33 = true ∧ szOK pt33 = true ∧ szOK pt33 = true ∧ szOK pt33
      = true ∧ szOK pt33 = true ∧ szOK pt33 = true ∧ szOK pt33 = true ∧ szOK pt33 = true ∧ szOK pt33 = true ∧ szOK pt33 = true ∧ szOK pt33 = true ∧ szOK pt33 = true ∧ ((fld pt33
      (wh h) (79 : Int) == (1 : Int)) = true → szOK pt33 = true ∧ szOK pt33 = true ∧ R (SV.a [C.i true IntKind.i64 (13 : Int), C.i true IntKind.i64 (14 : Int), C.i true
      IntKind.i64 (2 : Int), C.b true false, C.i true IntKind.i64 (0 : Int), C.i true IntKind.i64 (0 : Int), C.i true IntKind.i64 (0 : Int), C.i true IntKind.i64 (0 : Int), C.i
      false IntKind.u32 (IntKind.u32.wrap (IntKind.u32.wrap (fld pt33 (wh h) (105 : Int)) * (1 : Int))), C.b true false, C.i false IntKind.i64 (fld pt33 (wh h) (116 : Int)), C.i
      true IntKind.i64 (0 : Int), C.b true false, C.b true false, C.b true false, C.b true false, C.b true false, C.b true false, C.b true false, C.b true false, C.i false
      IntKind.i64 (IntKind.i64.wrap ((0 : Int) + fld pt33 (wh h) (108 : Int))), C.b true false, C.b true false, C.b true false])) ∧ ((fld pt33 (wh h) (79 : Int) == (1 : Int)) =
      false → szOK pt33 = true ∧ szOK pt33 = true ∧ (decide (IntKind.u32.wrap (IntKind.u32.wrap (fld pt33 (wh h) (105 : Int)) * (1 : Int)) ≥ (1024 : Int)) = true → R (SV.a [C.i
      true IntKind.i64 (13 : Int), C.i true IntKind.i64 (14 : Int), C.i true IntKind.i64 (0 : Int), C.b true false, C.i true IntKind.i64 (0 : Int), C.i true IntKind.i64 (0 :
      Int), C.i true IntKind.i64 (0 : Int), C.i true IntKind.i64 (0 : Int), C.i false IntKind.u32 (IntKind.u32.wrap (IntKind.u32.wrap (IntKind.u32.wrap (IntKind.u32.wrap (fld
      pt33 (wh h) (105 : Int)) * (1 : Int)) - (2048 : Int)) * (4096 : Int))), C.b true false, C.i false IntKind.i64 (fld pt33 (wh h) (116 : Int)), C.i true IntKind.i64 (0 :
      Int), C.b true false, C.b true false, C.b true false, C.b true false, C.b true false, C.b true false, C.b true false, C.b true false, C.i false IntKind.i64
      (IntKind.i64.wrap ((0 : Int) + fld pt33 (wh h) (108 : Int))), C.b true false, C.b true false, C.b true false])) ∧ (decide (IntKind.u32.wrap (IntKind.u32.wrap (fld pt33 (wh
      h) (105 : Int)) * (1 : Int)) ≥ (1024 : Int)) = false → R (SV.a [C.i true IntKind.i64 (13 : Int), C.i true IntKind.i64 (14 : Int), C.i true IntKind.i64 (0 : Int), C.b true
      false, C.i true IntKind.i64 (0 : Int), C.i true IntKind.i64 (0 : Int), C.i true IntKind.i64 (0 : Int), C.i true IntKind.i64 (0 : Int), C.i false IntKind.u32
      (IntKind.u32.wrap (IntKind.u32.wrap (IntKind.u32.wrap (fld pt33 (wh h) (105 : Int)) * (1 : Int)) * (4096 : Int))), C.b true false, C.i false IntKind.i64 (fld pt33 (wh h)
      (116 : Int)), C.i true IntKind.i64 (0 : Int), C.b true false, C.b true false, C.b true false, C.b true false, C.b true false, C.b true false, C.b true false, C.b true
      false, C.i false IntKind.i64 (IntKind.i64.wrap ((0 : Int) + fld pt33 (wh h) (108 : Int))), C.b true false, C.b true false, C.b true false]))))) := by kernel_rfl
theorem dec44 (E : World) (h : Int) (R : SV → Prop) (X : Prop) :
    (loopP (pe E) Try.f8 (fun v _ => R v) (fun todo fr s' => cond (memS s') (X ∧ todo = hd8 E ∧ fr.nt = Try.f8.ntmps ∧ refP fr (lv8 h 45)) False) (run (pe E) (orcT E) (tabL fns) 20000 (2^200-1) (hd8 E) (mkL Try.f8.ntmps (lv8 h 44)) sv8)) =
    (szOK pt34 = true ∧ ((!fits pt34 (wh h)) = true → X ∧ hd8 E = hd8 E ∧ (125 : Nat) = (125 : Nat) ∧ (IntKind.u16 = IntKind.u16 ∧ h = h) ∧ C.p (0 : Nat) (0 : Nat) = C.p (0 :
      Nat) (0 : Nat) ∧ (IntKind.u32 = IntKind.u32 ∧ IntKind.u32.wrap h = IntKind.u32.wrap h) ∧ C.slc (1 : Nat) (0 : Nat) (45 : Nat) (45 : Nat) = C.slc (1 : Nat) (0 : Nat) (45 :
      Nat) (45 : Nat) ∧ IntKind.i64 = IntKind.i64 ∧ (45 : Int) = (45 : Int)) ∧ ((!fits pt34 (wh h)) = false → szOK pt34 = true ∧ szOK pt34 = true ∧ szOK pt34 = true ∧ szOK pt34
      = true ∧ szOK pt34 = true ∧ szOK pt34 = true ∧ szOK pt34 = true ∧ szOK pt34 = true ∧ szOK pt34 = true ∧ szOK pt34 = true ∧ szOK pt34 = true ∧ szOK pt34 = true ∧ ((fld pt34
      (wh h) (79 : Int) == (1 : Int)) = true → szOK pt34 = true ∧ szOK pt34 = true ∧ R (SV.a [C.i true IntKind.i64 (13 : Int), C.i true IntKind.i64 (14 : Int), C.i true
      IntKind.i64 (2 : Int), C.b true false, C.i true IntKind.i64 (0 : Int), C.i true IntKind.i64 (0 : Int), C.i true IntKind.i64 (0 : Int), C.i true IntKind.i64 (0 : Int), C.i
      false IntKind.u32 (IntKind.u32.wrap (IntKind.u32.wrap (fld pt34 (wh h) (105 : Int)) * (2 : Int))), C.b true false, C.i false IntKind.i64 (fld pt34 (wh h) (116 : Int)), C.i
      true IntKind.i64 (0 : Int), C.b true false, C.b true false, C.b true false, C.b true false, C.b true false, C.b true false, C.b true false, C.b true false, C.i false
      IntKind.i64 (IntKind.i64.wrap ((0 : Int) + fld pt34 (wh h) (108 : Int))), C.b true false, C.b true false, C.b true false])) ∧ ((fld pt34 (wh h) (79 : Int) == (1 : Int)) =
      false → szOK pt34 = true ∧ szOK pt34 = true ∧ R (SV.a [C.i true IntKind.i64 (13 : Int), C.i true IntKind.i64 (14 : Int), C.i true IntKind.i64 (1 : Int), C.b true false,
      C.i true IntKind.i64 (0 : Int), C.i true IntKind.i64 (0 : Int), C.i true IntKind.i64 (0 : Int), C.i true IntKind.i64 (0 : Int), C.i false IntKind.u32 (IntKind.u32.wrap
      (IntKind.u32.wrap (fld pt34 (wh h) (105 : Int)) * (2 : Int))), C.b true false, C.i false IntKind.i64 (fld pt34 (wh h) (116 : Int)), C.i true IntKind.i64 (0 : Int), C.b
      true false, C.b true false, C.b true false, C.b true false, C.b true false, C.b true false, C.b true false, C.b true false, C.i false IntKind.i64 (IntKind.i64.wrap ((0 :
      Int) + fld pt34 (wh h) (108 : Int))), C.b true false, C.b true false, C.b true false])))) := by kernel_rfl
theorem dec45 (E : World) (h : Int) (R : SV → Prop) (X : Prop) :
    (loopP (pe E) Try.f8 (fun v _ => R v) (fun todo fr s' => cond (memS s') (X ∧ todo = hd8 E ∧ fr.nt = Try.f8.ntmps ∧ refP fr (lv8 h 46)) False) (run (pe E) (orcT E) (tabL fns) 20000 (2^200-1) (hd8 E) (mkL Try.f8.ntmps (lv8 h 45)) sv8)) =
    (R (SV.a [C.i true IntKind.i64 (0 : Int), C.i true IntKind.i64 (14 : Int), C.i true IntKind.i64 (0 : Int), C.b true false, C.i true IntKind.i64 (0 : Int), C.i true
      IntKind.i64 (0 : Int), C.i true IntKind.i64 (0 : Int), C.i true IntKind.i64 (0 : Int), C.i true IntKind.u32 (0 : Int), C.b true false, C.i true IntKind.i64 (0 : Int), C.i
      true IntKind.i64 (0 : Int), C.b true false, C.b true false, C.b true false, C.b true false, C.b true false, C.b true false, C.b true false, C.b true false, C.i true
      IntKind.i64 (0 : Int), C.b true false, C.b true false, C.b true false])) := by kernel_rfl
end Go.Proofs.Ytpfdemmoapjjpaa

