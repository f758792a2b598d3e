import Derived.Test.YtpfdemmoapjjpaaT
set_option linter.unusedVariables false
set_option linter.unusedSimpArgs false
namespace Go.Proofs.Ytpfdemmoapjjpaa
open Go Go.Proofs Go.Proofs.Ytpfdemmoapjjpaa.Ev
set_option maxRecDepth 100000
def pt0 : ByteArray := ByteArray.mk #[48, 48, 48, 116, 116, 97, 97, 97, 97, 97, 109, 109, 109, 100, 100, 100]
def pt1 : ByteArray := ByteArray.mk #[48, 48, 48, 49, 49, 73, 79, 109, 109, 109, 110, 110, 110, 100, 100, 100]
def pt2 : ByteArray := ByteArray.mk #[48, 48, 48, 49, 49, 73, 79, 105, 105, 105, 110, 110, 110, 100, 100, 100]
def pt3 : ByteArray := ByteArray.mk #[48, 48, 49, 48, 48, 100, 100, 100, 105, 105, 105, 105, 105, 105, 105, 105]
def pt4 : ByteArray := ByteArray.mk #[48, 48, 49, 48, 49, 110, 110, 110, 105, 105, 105, 105, 105, 105, 105, 105]
def pt5 : ByteArray := ByteArray.mk #[48, 48, 49, 49, 48, 100, 100, 100, 105, 105, 105, 105, 105, 105, 105, 105]
def pt6 : ByteArray := ByteArray.mk #[48, 48, 49, 49, 49, 100, 100, 100, 105, 105, 105, 105, 105, 105, 105, 105]
def pt7 : ByteArray := ByteArray.mk #[48, 49, 48, 48, 48, 48, 111, 111, 111, 111, 109, 109, 109, 100, 100, 100]
def pt8 : ByteArray := ByteArray.mk #[48, 49, 48, 48, 48, 48, 111, 111, 111, 111, 115, 115, 115, 100, 100, 100]
def pt9 : ByteArray := ByteArray.mk #[48, 49, 48, 48, 48, 48, 111, 111, 111, 111, 109, 109, 109, 110, 110, 110]
def pt10 : ByteArray := ByteArray.mk #[48, 49, 48, 48, 48, 48, 111, 111, 111, 111, 110, 110, 110, 100, 100, 100]
def pt11 : ByteArray := ByteArray.mk #[48, 49, 48, 48, 48, 49, 48, 48, 100, 109, 109, 109, 109, 100, 100, 100]
def pt12 : ByteArray := ByteArray.mk #[48, 49, 48, 48, 48, 49, 48, 49, 110, 109, 109, 109, 109, 110, 110, 110]
def pt13 : ByteArray := ByteArray.mk #[48, 49, 48, 48, 48, 49, 49, 48, 100, 109, 109, 109, 109, 100, 100, 100]
def pt14 : ByteArray := ByteArray.mk #[48, 49, 48, 48, 48, 49, 49, 49, 46, 109, 109, 109, 109, 46, 46, 46]
def pt15 : ByteArray := ByteArray.mk #[48, 49, 48, 48, 49, 100, 100, 100, 105, 105, 105, 105, 105, 105, 105, 105]
def pt16 : ByteArray := ByteArray.mk #[48, 49, 48, 49, 76, 66, 48, 109, 109, 109, 110, 110, 110, 100, 100, 100]
def pt17 : ByteArray := ByteArray.mk #[48, 49, 48, 49, 72, 72, 49, 109, 109, 109, 110, 110, 110, 100, 100, 100]
def pt18 : ByteArray := ByteArray.mk #[48, 49, 49, 48, 76, 105, 105, 105, 105, 105, 110, 110, 110, 100, 100, 100]
def pt19 : ByteArray := ByteArray.mk #[48, 49, 49, 49, 76, 105, 105, 105, 105, 105, 110, 110, 110, 100, 100, 100]
def pt20 : ByteArray := ByteArray.mk #[49, 48, 48, 48, 76, 105, 105, 105, 105, 105, 110, 110, 110, 100, 100, 100]
def pt21 : ByteArray := ByteArray.mk #[49, 48, 48, 49, 76, 100, 100, 100, 105, 105, 105, 105, 105, 105, 105, 105]
def pt22 : ByteArray := ByteArray.mk #[49, 48, 49, 48, 48, 100, 100, 100, 105, 105, 105, 105, 105, 105, 105, 105]
def pt23 : ByteArray := ByteArray.mk #[49, 48, 49, 48, 49, 100, 100, 100, 105, 105, 105, 105, 105, 105, 105, 105]
def pt24 : ByteArray := ByteArray.mk #[49, 48, 49, 49, 48, 48, 48, 48, 79, 105, 105, 105, 105, 105, 105, 105]
def pt25 : ByteArray := ByteArray.mk #[49, 48, 49, 49, 48, 49, 48, 48, 108, 108, 108, 108, 108, 108, 108, 108]
def pt26 : ByteArray := ByteArray.mk #[49, 48, 49, 49, 48, 49, 48, 49, 108, 108, 108, 108, 108, 108, 108, 108]
def pt27 : ByteArray := ByteArray.mk #[49, 48, 49, 49, 49, 49, 48, 48, 108, 108, 108, 108, 108, 108, 108, 108]
def pt28 : ByteArray := ByteArray.mk #[49, 48, 49, 49, 49, 49, 48, 49, 108, 108, 108, 108, 108, 108, 108, 108]
def pt29 : ByteArray := ByteArray.mk #[49, 49, 48, 48, 76, 110, 110, 110, 108, 108, 108, 108, 108, 108, 108, 108]
def pt30 : ByteArray := ByteArray.mk #[49, 49, 48, 49, 99, 99, 99, 99, 105, 105, 105, 105, 105, 105, 105, 105]
def pt31 : ByteArray := ByteArray.mk #[49, 49, 48, 49, 49, 49, 49, 49, 105, 105, 105, 105, 105, 105, 105, 105]
def pt32 : ByteArray := ByteArray.mk #[49, 49, 49, 48, 48, 105, 105, 105, 105, 105, 105, 105, 105, 105, 105, 105]
def pt33 : ByteArray := ByteArray.mk #[49, 49, 49, 49, 48, 105, 105, 105, 105, 105, 105, 105, 105, 105, 105, 105]
def pt34 : ByteArray := ByteArray.mk #[49, 49, 49, 49, 49, 105, 105, 105, 105, 105, 105, 105, 105, 105, 105, 105]
def wh (h : Int) : Int := IntKind.u32.wrap h
noncomputable def c8 : Code := Try.f8.body.getD .skip
noncomputable def hd8 (E : World) : List Item := headOf (run (pe E) (orcT E) (tabL fns) 20000 (2^200-1) [.code c8] ⟨Try.f8.ntmps, mkFrGo (Tr.mk 12) 0 [.c (.i true .u16 0)]⟩ [])
def zrB : Bl := ⟨[.i true .i64 0, .i true .i64 0, .i true .i64 0, .b true false, .i true .i64 0, .i true .i64 0, .i true .i64 0, .i true .i64 0, .i true .u32 0, .b true false, .i true .i64 0, .i true .i64 0, .b true false, .b true false, .b true false, .b true false, .b true false, .b true false, .b true false, .b true false, .i true .i64 0, .b true false, .b true false, .b true false], 26⟩
def lv8 (h : Int) (i : Nat) : List (Nat × SV) := [(0, .c (.i false .u16 h)), (2, .c (.p 0 0)), (3, .c (.i false .u32 (IntKind.u32.wrap h))), (4, .c (.slc 1 0 45 45)), (5, .c (.i true .i64 (i : Int)))]
def sv8 : SW := [zrB, tabB]
def memS : SW → Bool
  | ⟨a, 26⟩ :: ⟨b, 34⟩ :: _ => litL a zrB.cs && litL b tabL8
  | _ => false
theorem dec_pro (E : World) (h : Int) (R : SV → Prop) (X : Prop) :
    (loopP (pe E) Try.f8 (fun v _ => R v) (fun todo fr s' => cond (memS s') (X ∧ todo = hd8 E ∧ fr.nt = Try.f8.ntmps ∧ refP fr (lv8 h 0)) False) (run (pe E) (orcT E) (tabL fns) 20000 (2^200-1) [.code c8] ⟨Try.f8.ntmps, mkFrGo (Tr.mk 12) 0 [.c (.i false .u16 h)]⟩ [])) =
    (X ∧ hd8 E = hd8 E ∧ (125 : Nat) = (125 : Nat) ∧ (IntKind.u16 = IntKind.u16 ∧ h = h) ∧ C.p (0 : Nat) (0 : Nat) = C.p (0 : Nat) (0 : Nat) ∧ (IntKind.u32 = IntKind.u32 ∧
      IntKind.u32.wrap h = IntKind.u32.wrap h) ∧ C.slc (1 : Nat) (0 : Nat) (45 : Nat) (45 : Nat) = C.slc (1 : Nat) (0 : Nat) (45 : Nat) (45 : Nat) ∧ IntKind.i64 = IntKind.i64 ∧
      (0 : Int) = (0 : Int)) := by kernel_rfl
theorem dec0 (E : World) (h : Int) (R : SV → Prop) (X : Prop) :
    (loopP (pe E) Try.f8 (fun v _ => R v) (fun todo fr s' => cond (memS s') (X ∧ todo = hd8 E ∧ fr.nt = Try.f8.ntmps ∧ refP fr (lv8 h 1)) False) (run (pe E) (orcT E) (tabL fns) 20000 (2^200-1) (hd8 E) (mkL Try.f8.ntmps (lv8 h 0)) sv8)) =
    (szOK pt0 = true ∧ ((!fits pt0 (wh h)) = true → X ∧ hd8 E = hd8 E ∧ (125 : Nat) = (125 : Nat) ∧ (IntKind.u16 = IntKind.u16 ∧ h = h) ∧ C.p (0 : Nat) (0 : Nat) = C.p (0 :
      Nat) (0 : Nat) ∧ (IntKind.u32 = IntKind.u32 ∧ IntKind.u32.wrap h = IntKind.u32.wrap h) ∧ C.slc (1 : Nat) (0 : Nat) (45 : Nat) (45 : Nat) = C.slc (1 : Nat) (0 : Nat) (45 :
      Nat) (45 : Nat) ∧ IntKind.i64 = IntKind.i64 ∧ (1 : Int) = (1 : Int)) ∧ ((!fits pt0 (wh h)) = false → szOK pt0 = true ∧ ((bif decide (fld pt0 (wh h) (116 : Int) < (0 :
      Int)) then true else decide (fld pt0 (wh h) (116 : Int) > (2 : Int))) = true → X ∧ hd8 E = hd8 E ∧ (125 : Nat) = (125 : Nat) ∧ (IntKind.u16 = IntKind.u16 ∧ h = h) ∧ C.p (0
      : Nat) (0 : Nat) = C.p (0 : Nat) (0 : Nat) ∧ (IntKind.u32 = IntKind.u32 ∧ IntKind.u32.wrap h = IntKind.u32.wrap h) ∧ C.slc (1 : Nat) (0 : Nat) (45 : Nat) (45 : Nat) =
      C.slc (1 : Nat) (0 : Nat) (45 : Nat) (45 : Nat) ∧ IntKind.i64 = IntKind.i64 ∧ (1 : Int) = (1 : Int)) ∧ ((bif decide (fld pt0 (wh h) (116 : Int) < (0 : Int)) then true else
      decide (fld pt0 (wh h) (116 : Int) > (2 : Int))) = false → szOK pt0 = true ∧ szOK pt0 = true ∧ szOK pt0 = true ∧ szOK pt0 = true ∧ szOK pt0 = true ∧ szOK pt0 = true ∧ szOK
      pt0 = true ∧ szOK pt0 = true ∧ szOK pt0 = true ∧ szOK pt0 = true ∧ szOK pt0 = true ∧ szOK pt0 = true ∧ szOK pt0 = true ∧ szOK pt0 = true ∧ ((fld pt0 (wh h) (79 : Int) ==
      (1 : Int)) = true → szOK pt0 = true ∧ szOK pt0 = true ∧ R (SV.a [C.i true IntKind.i64 (1 : Int), C.i true IntKind.i64 (14 : Int), C.i true IntKind.i64 (2 : Int), C.b true
      true, C.i false IntKind.i64 (fld pt0 (wh h) (100 : Int)), C.i true IntKind.i64 (0 : Int), C.i true IntKind.i64 (0 : Int), C.i false IntKind.i64 (fld pt0 (wh h) (109 :
      Int)), C.i false IntKind.u32 (IntKind.u32.wrap (IntKind.u32.wrap (fld pt0 (wh h) (105 : Int)) * (1 : Int))), C.b true false, C.i false IntKind.i64 (fld pt0 (wh h) (116 :
      Int)), C.i false IntKind.i64 (fld pt0 (wh h) (97 : Int)), C.b true false, C.b true false, C.b true false, C.b true false, C.b true false, C.b true false, C.b true false,
      C.b true false, C.i false IntKind.i64 (IntKind.i64.wrap ((0 : Int) + fld pt0 (wh h) (108 : Int))), C.b true false, C.b true false, C.b true false])) ∧ ((fld pt0 (wh h) (79
      : Int) == (1 : Int)) = false → szOK pt0 = true ∧ szOK pt0 = true ∧ R (SV.a [C.i true IntKind.i64 (1 : Int), C.i true IntKind.i64 (14 : Int), C.i true IntKind.i64 (13 :
      Int), C.b true true, C.i false IntKind.i64 (fld pt0 (wh h) (100 : Int)), C.i true IntKind.i64 (0 : Int), C.i true IntKind.i64 (0 : Int), C.i false IntKind.i64 (fld pt0 (wh
      h) (109 : Int)), C.i false IntKind.u32 (IntKind.u32.wrap (IntKind.u32.wrap (fld pt0 (wh h) (105 : Int)) * (1 : Int))), C.b true false, C.i false IntKind.i64 (fld pt0 (wh
      h) (116 : Int)), C.i false IntKind.i64 (fld pt0 (wh h) (97 : Int)), C.b true false, C.b true false, C.b true false, C.b true false, C.b true false, C.b true false, C.b
      true false, C.b true false, C.i false IntKind.i64 (IntKind.i64.wrap ((0 : Int) + fld pt0 (wh h) (108 : Int))), C.b true false, C.b true false, C.b true false]))))) := by kernel_rfl
theorem dec1 (E : World) (h : Int) (R : SV → Prop) (X : Prop) :
    (loopP (pe E) Try.f8 (fun v _ => R v) (fun todo fr s' => cond (memS s') (X ∧ todo = hd8 E ∧ fr.nt = Try.f8.ntmps ∧ refP fr (lv8 h 2)) False) (run (pe E) (orcT E) (tabL fns) 20000 (2^200-1) (hd8 E) (mkL Try.f8.ntmps (lv8 h 1)) sv8)) =
    (szOK pt1 = true ∧ ((!fits pt1 (wh h)) = true → X ∧ hd8 E = hd8 E ∧ (125 : Nat) = (125 : Nat) ∧ (IntKind.u16 = IntKind.u16 ∧ h = h) ∧ C.p (0 : Nat) (0 : Nat) = C.p (0 :
      Nat) (0 : Nat) ∧ (IntKind.u32 = IntKind.u32 ∧ IntKind.u32.wrap h = IntKind.u32.wrap h) ∧ C.slc (1 : Nat) (0 : Nat) (45 : Nat) (45 : Nat) = C.slc (1 : Nat) (0 : Nat) (45 :
      Nat) (45 : Nat) ∧ IntKind.i64 = IntKind.i64 ∧ (2 : Int) = (2 : Int)) ∧ ((!fits pt1 (wh h)) = false → szOK pt1 = true ∧ ((bif decide (fld pt1 (wh h) (73 : Int) < (0 : Int))
      then true else decide (fld pt1 (wh h) (73 : Int) > (0 : Int))) = true → X ∧ hd8 E = hd8 E ∧ (125 : Nat) = (125 : Nat) ∧ (IntKind.u16 = IntKind.u16 ∧ h = h) ∧ C.p (0 : Nat)
      (0 : Nat) = C.p (0 : Nat) (0 : Nat) ∧ (IntKind.u32 = IntKind.u32 ∧ IntKind.u32.wrap h = IntKind.u32.wrap h) ∧ C.slc (1 : Nat) (0 : Nat) (45 : Nat) (45 : Nat) = C.slc (1 :
      Nat) (0 : Nat) (45 : Nat) (45 : Nat) ∧ IntKind.i64 = IntKind.i64 ∧ (2 : Int) = (2 : Int)) ∧ ((bif decide (fld pt1 (wh h) (73 : Int) < (0 : Int)) then true else decide (fld
      pt1 (wh h) (73 : Int) > (0 : Int))) = false → szOK pt1 = true ∧ szOK pt1 = true ∧ szOK pt1 = true ∧ szOK pt1 = true ∧ szOK pt1 = true ∧ szOK pt1 = true ∧ szOK pt1 = true ∧
      szOK pt1 = true ∧ szOK pt1 = true ∧ szOK pt1 = true ∧ szOK pt1 = true ∧ szOK pt1 = true ∧ szOK pt1 = true ∧ szOK pt1 = true ∧ ((fld pt1 (wh h) (79 : Int) == (1 : Int)) =
      true → szOK pt1 = true ∧ szOK pt1 = true ∧ R (SV.a [C.i true IntKind.i64 (1 : Int), C.i true IntKind.i64 (14 : Int), C.i true IntKind.i64 (2 : Int), C.b true true, C.i
      false IntKind.i64 (fld pt1 (wh h) (100 : Int)), C.i false IntKind.i64 (fld pt1 (wh h) (110 : Int)), C.i true IntKind.i64 (0 : Int), C.i false IntKind.i64 (fld pt1 (wh h)
      (109 : Int)), C.i false IntKind.u32 (IntKind.u32.wrap (IntKind.u32.wrap (fld pt1 (wh h) (105 : Int)) * (1 : Int))), C.b true false, C.i false IntKind.i64 (fld pt1 (wh h)
      (116 : Int)), C.i true IntKind.i64 (0 : Int), C.b true false, C.b true false, C.b true false, C.b true false, C.b true false, C.b true false, C.b true false, C.b true
      false, C.i false IntKind.i64 (IntKind.i64.wrap ((0 : Int) + fld pt1 (wh h) (108 : Int))), C.b true false, C.b true false, C.b true false])) ∧ ((fld pt1 (wh h) (79 : Int)
      == (1 : Int)) = false → szOK pt1 = true ∧ szOK pt1 = true ∧ R (SV.a [C.i true IntKind.i64 (1 : Int), C.i true IntKind.i64 (14 : Int), C.i true IntKind.i64 (4 : Int), C.b
      true true, C.i false IntKind.i64 (fld pt1 (wh h) (100 : Int)), C.i false IntKind.i64 (fld pt1 (wh h) (110 : Int)), C.i true IntKind.i64 (0 : Int), C.i false IntKind.i64
      (fld pt1 (wh h) (109 : Int)), C.i false IntKind.u32 (IntKind.u32.wrap (IntKind.u32.wrap (fld pt1 (wh h) (105 : Int)) * (1 : Int))), C.b true false, C.i false IntKind.i64
      (fld pt1 (wh h) (116 : Int)), C.i true IntKind.i64 (0 : Int), C.b true false, C.b true false, C.b true false, C.b true false, C.b true false, C.b true false, C.b true
      false, C.b true false, C.i false IntKind.i64 (IntKind.i64.wrap ((0 : Int) + fld pt1 (wh h) (108 : Int))), C.b true false, C.b true false, C.b true false]))))) := by kernel_rfl
theorem dec2 (E : World) (h : Int) (R : SV → Prop) (X : Prop) :
    (loopP (pe E) Try.f8 (fun v _ => R v) (fun todo fr s' => cond (memS s') (X ∧ todo = hd8 E ∧ fr.nt = Try.f8.ntmps ∧ refP fr (lv8 h 3)) False) (run (pe E) (orcT E) (tabL fns) 20000 (2^200-1) (hd8 E) (mkL Try.f8.ntmps (lv8 h 2)) sv8)) =
    (szOK pt2 = true ∧ ((!fits pt2 (wh h)) = true → X ∧ hd8 E = hd8 E ∧ (125 : Nat) = (125 : Nat) ∧ (IntKind.u16 = IntKind.u16 ∧ h = h) ∧ C.p (0 : Nat) (0 : Nat) = C.p (0 :
      Nat) (0 : Nat) ∧ (IntKind.u32 = IntKind.u32 ∧ IntKind.u32.wrap h = IntKind.u32.wrap h) ∧ C.slc (1 : Nat) (0 : Nat) (45 : Nat) (45 : Nat) = C.slc (1 : Nat) (0 : Nat) (45 :
      Nat) (45 : Nat) ∧ IntKind.i64 = IntKind.i64 ∧ (3 : Int) = (3 : Int)) ∧ ((!fits pt2 (wh h)) = false → szOK pt2 = true ∧ ((bif decide (fld pt2 (wh h) (73 : Int) < (1 : Int))
      then true else decide (fld pt2 (wh h) (73 : Int) > (1 : Int))) = true → X ∧ hd8 E = hd8 E ∧ (125 : Nat) = (125 : Nat) ∧ (IntKind.u16 = IntKind.u16 ∧ h = h) ∧ C.p (0 : Nat)
      (0 : Nat) = C.p (0 : Nat) (0 : Nat) ∧ (IntKind.u32 = IntKind.u32 ∧ IntKind.u32.wrap h = IntKind.u32.wrap h) ∧ C.slc (1 : Nat) (0 : Nat) (45 : Nat) (45 : Nat) = C.slc (1 :
      Nat) (0 : Nat) (45 : Nat) (45 : Nat) ∧ IntKind.i64 = IntKind.i64 ∧ (3 : Int) = (3 : Int)) ∧ ((bif decide (fld pt2 (wh h) (73 : Int) < (1 : Int)) then true else decide (fld
      pt2 (wh h) (73 : Int) > (1 : Int))) = false → szOK pt2 = true ∧ szOK pt2 = true ∧ szOK pt2 = true ∧ szOK pt2 = true ∧ szOK pt2 = true ∧ szOK pt2 = true ∧ szOK pt2 = true ∧
      szOK pt2 = true ∧ szOK pt2 = true ∧ szOK pt2 = true ∧ szOK pt2 = true ∧ szOK pt2 = true ∧ szOK pt2 = true ∧ ((fld pt2 (wh h) (79 : Int) == (1 : Int)) = true → szOK pt2 =
      true ∧ szOK pt2 = true ∧ R (SV.a [C.i true IntKind.i64 (1 : Int), C.i true IntKind.i64 (14 : Int), C.i true IntKind.i64 (2 : Int), C.b true true, C.i false IntKind.i64
      (fld pt2 (wh h) (100 : Int)), C.i false IntKind.i64 (fld pt2 (wh h) (110 : Int)), C.i true IntKind.i64 (0 : Int), C.i true IntKind.i64 (0 : Int), C.i false IntKind.u32
      (IntKind.u32.wrap (IntKind.u32.wrap (fld pt2 (wh h) (105 : Int)) * (1 : Int))), C.b true true, C.i false IntKind.i64 (fld pt2 (wh h) (116 : Int)), C.i true IntKind.i64 (0
      : Int), C.b true false, C.b true false, C.b true false, C.b true false, C.b true false, C.b true false, C.b true false, C.b true false, C.i false IntKind.i64
      (IntKind.i64.wrap ((0 : Int) + fld pt2 (wh h) (108 : Int))), C.b true false, C.b true false, C.b true false])) ∧ ((fld pt2 (wh h) (79 : Int) == (1 : Int)) = false → szOK
      pt2 = true ∧ szOK pt2 = true ∧ R (SV.a [C.i true IntKind.i64 (1 : Int), C.i true IntKind.i64 (14 : Int), C.i true IntKind.i64 (4 : Int), C.b true true, C.i false
      IntKind.i64 (fld pt2 (wh h) (100 : Int)), C.i false IntKind.i64 (fld pt2 (wh h) (110 : Int)), C.i true IntKind.i64 (0 : Int), C.i true IntKind.i64 (0 : Int), C.i false
      IntKind.u32 (IntKind.u32.wrap (IntKind.u32.wrap (fld pt2 (wh h) (105 : Int)) * (1 : Int))), C.b true true, C.i false IntKind.i64 (fld pt2 (wh h) (116 : Int)), C.i true
      IntKind.i64 (0 : Int), C.b true false, C.b true false, C.b true false, C.b true false, C.b true false, C.b true false, C.b true false, C.b true false, C.i false
      IntKind.i64 (IntKind.i64.wrap ((0 : Int) + fld pt2 (wh h) (108 : Int))), C.b true false, C.b true false, C.b true false]))))) := by kernel_rfl
theorem dec3 (E : World) (h : Int) (R : SV → Prop) (X : Prop) :
    (loopP (pe E) Try.f8 (fun v _ => R v) (fun todo fr s' => cond (memS s') (X ∧ todo = hd8 E ∧ fr.nt = Try.f8.ntmps ∧ refP fr (lv8 h 4)) False) (run (pe E) (orcT E) (tabL fns) 20000 (2^200-1) (hd8 E) (mkL Try.f8.ntmps (lv8 h 3)) sv8)) =
    (szOK pt3 = true ∧ ((!fits pt3 (wh h)) = true → X ∧ hd8 E = hd8 E ∧ (125 : Nat) = (125 : Nat) ∧ (IntKind.u16 = IntKind.u16 ∧ h = h) ∧ C.p (0 : Nat) (0 : Nat) = C.p (0 :
      Nat) (0 : Nat) ∧ (IntKind.u32 = IntKind.u32 ∧ IntKind.u32.wrap h = IntKind.u32.wrap h) ∧ C.slc (1 : Nat) (0 : Nat) (45 : Nat) (45 : Nat) = C.slc (1 : Nat) (0 : Nat) (45 :
      Nat) (45 : Nat) ∧ IntKind.i64 = IntKind.i64 ∧ (4 : Int) = (4 : Int)) ∧ ((!fits pt3 (wh h)) = false → szOK pt3 = true ∧ szOK pt3 = true ∧ szOK pt3 = true ∧ szOK pt3 = true
      ∧ szOK pt3 = true ∧ szOK pt3 = true ∧ szOK pt3 = true ∧ szOK pt3 = true ∧ szOK pt3 = true ∧ szOK pt3 = true ∧ szOK pt3 = true ∧ szOK pt3 = true ∧ ((fld pt3 (wh h) (79 :
      Int) == (1 : Int)) = true → szOK pt3 = true ∧ szOK pt3 = true ∧ R (SV.a [C.i true IntKind.i64 (1 : Int), C.i true IntKind.i64 (14 : Int), C.i true IntKind.i64 (2 : Int),
      C.b true true, C.i false IntKind.i64 (fld pt3 (wh h) (100 : Int)), C.i true IntKind.i64 (0 : Int), C.i true IntKind.i64 (0 : Int), C.i true IntKind.i64 (0 : Int), C.i
      false IntKind.u32 (IntKind.u32.wrap (IntKind.u32.wrap (fld pt3 (wh h) (105 : Int)) * (1 : Int))), C.b true true, C.i false IntKind.i64 (fld pt3 (wh h) (116 : Int)), C.i
      true IntKind.i64 (0 : Int), C.b true false, C.b true false, C.b true false, C.b true false, C.b true false, C.b true false, C.b true false, C.b true false, C.i false
      IntKind.i64 (IntKind.i64.wrap ((0 : Int) + fld pt3 (wh h) (108 : Int))), C.b true false, C.b true false, C.b true false])) ∧ ((fld pt3 (wh h) (79 : Int) == (1 : Int)) =
      false → szOK pt3 = true ∧ szOK pt3 = true ∧ R (SV.a [C.i true IntKind.i64 (1 : Int), C.i true IntKind.i64 (14 : Int), C.i true IntKind.i64 (13 : Int), C.b true true, C.i
      false IntKind.i64 (fld pt3 (wh h) (100 : Int)), C.i true IntKind.i64 (0 : Int), C.i true IntKind.i64 (0 : Int), C.i true IntKind.i64 (0 : Int), C.i false IntKind.u32
      (IntKind.u32.wrap (IntKind.u32.wrap (fld pt3 (wh h) (105 : Int)) * (1 : Int))), C.b true true, C.i false IntKind.i64 (fld pt3 (wh h) (116 : Int)), C.i true IntKind.i64 (0
      : Int), C.b true false, C.b true false, C.b true false, C.b true false, C.b true false, C.b true false, C.b true false, C.b true false, C.i false IntKind.i64
      (IntKind.i64.wrap ((0 : Int) + fld pt3 (wh h) (108 : Int))), C.b true false, C.b true false, C.b true false])))) := by kernel_rfl
theorem dec4 (E : World) (h : Int) (R : SV → Prop) (X : Prop) :
    (loopP (pe E) Try.f8 (fun v _ => R v) (fun todo fr s' => cond (memS s') (X ∧ todo = hd8 E ∧ fr.nt = Try.f8.ntmps ∧ refP fr (lv8 h 5)) False) (run (pe E) (orcT E) (tabL fns) 20000 (2^200-1) (hd8 E) (mkL Try.f8.ntmps (lv8 h 4)) sv8)) =
    (szOK pt4 = true ∧ ((!fits pt4 (wh h)) = true → X ∧ hd8 E = hd8 E ∧ (125 : Nat) = (125 : Nat) ∧ (IntKind.u16 = IntKind.u16 ∧ h = h) ∧ C.p (0 : Nat) (0 : Nat) = C.p (0 :
      Nat) (0 : Nat) ∧ (IntKind.u32 = IntKind.u32 ∧ IntKind.u32.wrap h = IntKind.u32.wrap h) ∧ C.slc (1 : Nat) (0 : Nat) (45 : Nat) (45 : Nat) = C.slc (1 : Nat) (0 : Nat) (45 :
      Nat) (45 : Nat) ∧ IntKind.i64 = IntKind.i64 ∧ (5 : Int) = (5 : Int)) ∧ ((!fits pt4 (wh h)) = false → szOK pt4 = true ∧ szOK pt4 = true ∧ szOK pt4 = true ∧ szOK pt4 = true
      ∧ szOK pt4 = true ∧ szOK pt4 = true ∧ szOK pt4 = true ∧ szOK pt4 = true ∧ szOK pt4 = true ∧ szOK pt4 = true ∧ szOK pt4 = true ∧ szOK pt4 = true ∧ szOK pt4 = true ∧ ((fld
      pt4 (wh h) (79 : Int) == (1 : Int)) = true → szOK pt4 = true ∧ szOK pt4 = true ∧ R (SV.a [C.i true IntKind.i64 (1 : Int), C.i true IntKind.i64 (14 : Int), C.i true
      IntKind.i64 (2 : Int), C.b true true, C.i true IntKind.i64 (0 : Int), C.i false IntKind.i64 (fld pt4 (wh h) (110 : Int)), C.i true IntKind.i64 (0 : Int), C.i true
      IntKind.i64 (0 : Int), C.i false IntKind.u32 (IntKind.u32.wrap (IntKind.u32.wrap (fld pt4 (wh h) (105 : Int)) * (1 : Int))), C.b true true, C.i false IntKind.i64 (fld pt4
      (wh h) (116 : Int)), C.i true IntKind.i64 (0 : Int), C.b true false, C.b true false, C.b true false, C.b true false, C.b true false, C.b true false, C.b true false, C.b
      true false, C.i false IntKind.i64 (IntKind.i64.wrap ((0 : Int) + fld pt4 (wh h) (108 : Int))), C.b true false, C.b true false, C.b true false])) ∧ ((fld pt4 (wh h) (79 :
      Int) == (1 : Int)) = false → szOK pt4 = true ∧ szOK pt4 = true ∧ R (SV.a [C.i true IntKind.i64 (1 : Int), C.i true IntKind.i64 (14 : Int), C.i true IntKind.i64 (10 : Int),
      C.b true true, C.i true IntKind.i64 (0 : Int), C.i false IntKind.i64 (fld pt4 (wh h) (110 : Int)), C.i true IntKind.i64 (0 : Int), C.i true IntKind.i64 (0 : Int), C.i
      false IntKind.u32 (IntKind.u32.wrap (IntKind.u32.wrap (fld pt4 (wh h) (105 : Int)) * (1 : Int))), C.b true true, C.i false IntKind.i64 (fld pt4 (wh h) (116 : Int)), C.i
      true IntKind.i64 (0 : Int), C.b true false, C.b true false, C.b true false, C.b true false, C.b true false, C.b true false, C.b true false, C.b true false, C.i false
      IntKind.i64 (IntKind.i64.wrap ((0 : Int) + fld pt4 (wh h) (108 : Int))), C.b true false, C.b true false, C.b true false])))) := by kernel_rfl
theorem dec5 (E : World) (h : Int) (R : SV → Prop) (X : Prop) :
    (loopP (pe E) Try.f8 (fun v _ => R v) (fun todo fr s' => cond (memS s') (X ∧ todo = hd8 E ∧ fr.nt = Try.f8.ntmps ∧ refP fr (lv8 h 6)) False) (run (pe E) (orcT E) (tabL fns) 20000 (2^200-1) (hd8 E) (mkL Try.f8.ntmps (lv8 h 5)) sv8)) =
    (szOK pt5 = true ∧ ((!fits pt5 (wh h)) = true → X ∧ hd8 E = hd8 E ∧ (125 : Nat) = (125 : Nat) ∧ (IntKind.u16 = IntKind.u16 ∧ h = h) ∧ C.p (0 : Nat) (0 : Nat) = C.p (0 :
      Nat) (0 : Nat) ∧ (IntKind.u32 = IntKind.u32 ∧ IntKind.u32.wrap h = IntKind.u32.wrap h) ∧ C.slc (1 : Nat) (0 : Nat) (45 : Nat) (45 : Nat) = C.slc (1 : Nat) (0 : Nat) (45 :
      Nat) (45 : Nat) ∧ IntKind.i64 = IntKind.i64 ∧ (6 : Int) = (6 : Int)) ∧ ((!fits pt5 (wh h)) = false → szOK pt5 = true ∧ szOK pt5 = true ∧ szOK pt5 = true ∧ szOK pt5 = true
      ∧ szOK pt5 = true ∧ szOK pt5 = true ∧ szOK pt5 = true ∧ szOK pt5 = true ∧ szOK pt5 = true ∧ szOK pt5 = true ∧ szOK pt5 = true ∧ szOK pt5 = true ∧ ((fld pt5 (wh h) (79 :
      Int) == (1 : Int)) = true → szOK pt5 = true ∧ szOK pt5 = true ∧ R (SV.a [C.i true IntKind.i64 (1 : Int), C.i true IntKind.i64 (14 : Int), C.i true IntKind.i64 (2 : Int),
      C.b true true, C.i false IntKind.i64 (fld pt5 (wh h) (100 : Int)), C.i false IntKind.i64 (fld pt5 (wh h) (100 : Int)), C.i true IntKind.i64 (0 : Int), C.i true IntKind.i64
      (0 : Int), C.i false IntKind.u32 (IntKind.u32.wrap (IntKind.u32.wrap (fld pt5 (wh h) (105 : Int)) * (1 : Int))), C.b true true, C.i false IntKind.i64 (fld pt5 (wh h) (116
      : Int)), C.i true IntKind.i64 (0 : Int), C.b true false, C.b true false, C.b true false, C.b true false, C.b true false, C.b true false, C.b true false, C.b true false,
      C.i false IntKind.i64 (IntKind.i64.wrap ((0 : Int) + fld pt5 (wh h) (108 : Int))), C.b true false, C.b true false, C.b true false])) ∧ ((fld pt5 (wh h) (79 : Int) == (1 :
      Int)) = false → szOK pt5 = true ∧ szOK pt5 = true ∧ R (SV.a [C.i true IntKind.i64 (1 : Int), C.i true IntKind.i64 (14 : Int), C.i true IntKind.i64 (4 : Int), C.b true
      true, C.i false IntKind.i64 (fld pt5 (wh h) (100 : Int)), C.i false IntKind.i64 (fld pt5 (wh h) (100 : Int)), C.i true IntKind.i64 (0 : Int), C.i true IntKind.i64 (0 :
      Int), C.i false IntKind.u32 (IntKind.u32.wrap (IntKind.u32.wrap (fld pt5 (wh h) (105 : Int)) * (1 : Int))), C.b true true, C.i false IntKind.i64 (fld pt5 (wh h) (116 :
      Int)), C.i true IntKind.i64 (0 : Int), C.b true false, C.b true false, C.b true false, C.b true false, C.b true false, C.b true false, C.b true false, C.b true false, C.i
      false IntKind.i64 (IntKind.i64.wrap ((0 : Int) + fld pt5 (wh h) (108 : Int))), C.b true false, C.b true false, C.b true false])))) := by kernel_rfl
theorem dec6 (E : World) (h : Int) (R : SV → Prop) (X : Prop) :
    (loopP (pe E) Try.f8 (fun v _ => R v) (fun todo fr s' => cond (memS s') (X ∧ todo = hd8 E ∧ fr.nt = Try.f8.ntmps ∧ refP fr (lv8 h 7)) False) (run (pe E) (orcT E) (tabL fns) 20000 (2^200-1) (hd8 E) (mkL Try.f8.ntmps (lv8 h 6)) sv8)) =
    (szOK pt6 = true ∧ ((!fits pt6 (wh h)) = true → X ∧ hd8 E = hd8 E ∧ (125 : Nat) = (125 : Nat) ∧ (IntKind.u16 = IntKind.u16 ∧ h = h) ∧ C.p (0 : Nat) (0 : Nat) = C.p (0 :
      Nat) (0 : Nat) ∧ (IntKind.u32 = IntKind.u32 ∧ IntKind.u32.wrap h = IntKind.u32.wrap h) ∧ C.slc (1 : Nat) (0 : Nat) (45 : Nat) (45 : Nat) = C.slc (1 : Nat) (0 : Nat) (45 :
      Nat) (45 : Nat) ∧ IntKind.i64 = IntKind.i64 ∧ (7 : Int) = (7 : Int)) ∧ ((!fits pt6 (wh h)) = false → szOK pt6 = true ∧ szOK pt6 = true ∧ szOK pt6 = true ∧ szOK pt6 = true
      ∧ szOK pt6 = true ∧ szOK pt6 = true ∧ szOK pt6 = true ∧ szOK pt6 = true ∧ szOK pt6 = true ∧ szOK pt6 = true ∧ szOK pt6 = true ∧ szOK pt6 = true ∧ ((fld pt6 (wh h) (79 :
      Int) == (1 : Int)) = true → szOK pt6 = true ∧ szOK pt6 = true ∧ R (SV.a [C.i true IntKind.i64 (1 : Int), C.i true IntKind.i64 (14 : Int), C.i true IntKind.i64 (2 : Int),
      C.b true true, C.i false IntKind.i64 (fld pt6 (wh h) (100 : Int)), C.i false IntKind.i64 (fld pt6 (wh h) (100 : Int)), C.i true IntKind.i64 (0 : Int), C.i true IntKind.i64
      (0 : Int), C.i false IntKind.u32 (IntKind.u32.wrap (IntKind.u32.wrap (fld pt6 (wh h) (105 : Int)) * (1 : Int))), C.b true true, C.i false IntKind.i64 (fld pt6 (wh h) (116
      : Int)), C.i true IntKind.i64 (0 : Int), C.b true false, C.b true false, C.b true false, C.b true false, C.b true false, C.b true false, C.b true false, C.b true false,
      C.i false IntKind.i64 (IntKind.i64.wrap ((0 : Int) + fld pt6 (wh h) (108 : Int))), C.b true false, C.b true false, C.b true false])) ∧ ((fld pt6 (wh h) (79 : Int) == (1 :
      Int)) = false → szOK pt6 = true ∧ szOK pt6 = true ∧ R (SV.a [C.i true IntKind.i64 (1 : Int), C.i true IntKind.i64 (14 : Int), C.i true IntKind.i64 (2 : Int), C.b true
      true, C.i false IntKind.i64 (fld pt6 (wh h) (100 : Int)), C.i false IntKind.i64 (fld pt6 (wh h) (100 : Int)), C.i true IntKind.i64 (0 : Int), C.i true IntKind.i64 (0 :
      Int), C.i false IntKind.u32 (IntKind.u32.wrap (IntKind.u32.wrap (fld pt6 (wh h) (105 : Int)) * (1 : Int))), C.b true true, C.i false IntKind.i64 (fld pt6 (wh h) (116 :
      Int)), C.i true IntKind.i64 (0 : Int), C.b true false, C.b true false, C.b true false, C.b true false, C.b true false, C.b true false, C.b true false, C.b true false, C.i
      false IntKind.i64 (IntKind.i64.wrap ((0 : Int) + fld pt6 (wh h) (108 : Int))), C.b true false, C.b true false, C.b true false])))) := by kernel_rfl
theorem dec7 (E : World) (h : Int) (R : SV → Prop) (X : Prop) :
    (loopP (pe E) Try.f8 (fun v _ => R v) (fun todo fr s' => cond (memS s') (X ∧ todo = hd8 E ∧ fr.nt = Try.f8.ntmps ∧ refP fr (lv8 h 8)) False) (run (pe E) (orcT E) (tabL fns) 20000 (2^200-1) (hd8 E) (mkL Try.f8.ntmps (lv8 h 7)) sv8)) =
    (szOK pt7 = true ∧ ((!fits pt7 (wh h)) = true → X ∧ hd8 E = hd8 E ∧ (125 : Nat) = (125 : Nat) ∧ (IntKind.u16 = IntKind.u16 ∧ h = h) ∧ C.p (0 : Nat) (0 : Nat) = C.p (0 :
      Nat) (0 : Nat) ∧ (IntKind.u32 = IntKind.u32 ∧ IntKind.u32.wrap h = IntKind.u32.wrap h) ∧ C.slc (1 : Nat) (0 : Nat) (45 : Nat) (45 : Nat) = C.slc (1 : Nat) (0 : Nat) (45 :
      Nat) (45 : Nat) ∧ IntKind.i64 = IntKind.i64 ∧ (8 : Int) = (8 : Int)) ∧ ((!fits pt7 (wh h)) = false → szOK pt7 = true ∧ ((bif decide (fld pt7 (wh h) (111 : Int) < (0 :
      Int)) then true else decide (fld pt7 (wh h) (111 : Int) > (1 : Int))) = true → X ∧ hd8 E = hd8 E ∧ (125 : Nat) = (125 : Nat) ∧ (IntKind.u16 = IntKind.u16 ∧ h = h) ∧ C.p (0
      : Nat) (0 : Nat) = C.p (0 : Nat) (0 : Nat) ∧ (IntKind.u32 = IntKind.u32 ∧ IntKind.u32.wrap h = IntKind.u32.wrap h) ∧ C.slc (1 : Nat) (0 : Nat) (45 : Nat) (45 : Nat) =
      C.slc (1 : Nat) (0 : Nat) (45 : Nat) (45 : Nat) ∧ IntKind.i64 = IntKind.i64 ∧ (8 : Int) = (8 : Int)) ∧ ((bif decide (fld pt7 (wh h) (111 : Int) < (0 : Int)) then true else
      decide (fld pt7 (wh h) (111 : Int) > (1 : Int))) = false → szOK pt7 = true ∧ szOK pt7 = true ∧ szOK pt7 = true ∧ szOK pt7 = true ∧ szOK pt7 = true ∧ szOK pt7 = true ∧ szOK
      pt7 = true ∧ szOK pt7 = true ∧ szOK pt7 = true ∧ szOK pt7 = true ∧ szOK pt7 = true ∧ szOK pt7 = true ∧ szOK pt7 = true ∧ ((fld pt7 (wh h) (79 : Int) == (1 : Int)) = true →
      szOK pt7 = true ∧ szOK pt7 = true ∧ R (SV.a [C.i true IntKind.i64 (1 : Int), C.i true IntKind.i64 (14 : Int), C.i true IntKind.i64 (2 : Int), C.b true true, C.i false
      IntKind.i64 (fld pt7 (wh h) (100 : Int)), C.i false IntKind.i64 (fld pt7 (wh h) (100 : Int)), C.i true IntKind.i64 (0 : Int), C.i false IntKind.i64 (fld pt7 (wh h) (109 :
      Int)), C.i false IntKind.u32 (IntKind.u32.wrap (IntKind.u32.wrap (fld pt7 (wh h) (105 : Int)) * (1 : Int))), C.b true false, C.i false IntKind.i64 (fld pt7 (wh h) (116 :
      Int)), C.i true IntKind.i64 (0 : Int), C.b true false, C.b true false, C.b true false, C.b true false, C.b true false, C.b true false, C.b true false, C.b true false, C.i
      false IntKind.i64 (IntKind.i64.wrap ((0 : Int) + fld pt7 (wh h) (108 : Int))), C.b true false, C.b true false, C.b true false])) ∧ ((fld pt7 (wh h) (79 : Int) == (1 :
      Int)) = false → szOK pt7 = true ∧ szOK pt7 = true ∧ R (SV.a [C.i true IntKind.i64 (1 : Int), C.i true IntKind.i64 (14 : Int), C.i false IntKind.i64 (fld pt7 (wh h) (111 :
      Int)), C.b true true, C.i false IntKind.i64 (fld pt7 (wh h) (100 : Int)), C.i false IntKind.i64 (fld pt7 (wh h) (100 : Int)), C.i true IntKind.i64 (0 : Int), C.i false
      IntKind.i64 (fld pt7 (wh h) (109 : Int)), C.i false IntKind.u32 (IntKind.u32.wrap (IntKind.u32.wrap (fld pt7 (wh h) (105 : Int)) * (1 : Int))), C.b true false, C.i false
      IntKind.i64 (fld pt7 (wh h) (116 : Int)), C.i true IntKind.i64 (0 : Int), C.b true false, C.b true false, C.b true false, C.b true false, C.b true false, C.b true false,
      C.b true false, C.b true false, C.i false IntKind.i64 (IntKind.i64.wrap ((0 : Int) + fld pt7 (wh h) (108 : Int))), C.b true false, C.b true false, C.b true false]))))) := by kernel_rfl
theorem dec8 (E : World) (h : Int) (R : SV → Prop) (X : Prop) :
    (loopP (pe E) Try.f8 (fun v _ => R v) (fun todo fr s' => cond (memS s') (X ∧ todo = hd8 E ∧ fr.nt = Try.f8.ntmps ∧ refP fr (lv8 h 9)) False) (run (pe E) (orcT E) (tabL fns) 20000 (2^200-1) (hd8 E) (mkL Try.f8.ntmps (lv8 h 8)) sv8)) =
    (szOK pt8 = true ∧ ((!fits pt8 (wh h)) = true → X ∧ hd8 E = hd8 E ∧ (125 : Nat) = (125 : Nat) ∧ (IntKind.u16 = IntKind.u16 ∧ h = h) ∧ C.p (0 : Nat) (0 : Nat) = C.p (0 :
      Nat) (0 : Nat) ∧ (IntKind.u32 = IntKind.u32 ∧ IntKind.u32.wrap h = IntKind.u32.wrap h) ∧ C.slc (1 : Nat) (0 : Nat) (45 : Nat) (45 : Nat) = C.slc (1 : Nat) (0 : Nat) (45 :
      Nat) (45 : Nat) ∧ IntKind.i64 = IntKind.i64 ∧ (9 : Int) = (9 : Int)) ∧ ((!fits pt8 (wh h)) = false → szOK pt8 = true ∧ ((bif decide (fld pt8 (wh h) (111 : Int) < (2 :
      Int)) then true else decide (fld pt8 (wh h) (111 : Int) > (4 : Int))) = true → X ∧ hd8 E = hd8 E ∧ (125 : Nat) = (125 : Nat) ∧ (IntKind.u16 = IntKind.u16 ∧ h = h) ∧ C.p (0
      : Nat) (0 : Nat) = C.p (0 : Nat) (0 : Nat) ∧ (IntKind.u32 = IntKind.u32 ∧ IntKind.u32.wrap h = IntKind.u32.wrap h) ∧ C.slc (1 : Nat) (0 : Nat) (45 : Nat) (45 : Nat) =
      C.slc (1 : Nat) (0 : Nat) (45 : Nat) (45 : Nat) ∧ IntKind.i64 = IntKind.i64 ∧ (9 : Int) = (9 : Int)) ∧ ((bif decide (fld pt8 (wh h) (111 : Int) < (2 : Int)) then true else
      decide (fld pt8 (wh h) (111 : Int) > (4 : Int))) = false → szOK pt8 = true ∧ szOK pt8 = true ∧ szOK pt8 = true ∧ szOK pt8 = true ∧ szOK pt8 = true ∧ szOK pt8 = true ∧ szOK
      pt8 = true ∧ szOK pt8 = true ∧ szOK pt8 = true ∧ szOK pt8 = true ∧ szOK pt8 = true ∧ szOK pt8 = true ∧ szOK pt8 = true ∧ ((fld pt8 (wh h) (79 : Int) == (1 : Int)) = true →
      szOK pt8 = true ∧ szOK pt8 = true ∧ ((fld pt8 (wh h) (111 : Int) == (7 : Int)) = true → R (SV.a [C.i true IntKind.i64 (1 : Int), C.i true IntKind.i64 (14 : Int), C.i true
      IntKind.i64 (2 : Int), C.b true true, C.i false IntKind.i64 (fld pt8 (wh h) (100 : Int)), C.i true IntKind.i64 (0 : Int), C.i false IntKind.i64 (fld pt8 (wh h) (115 :
      Int)), C.i false IntKind.i64 (fld pt8 (wh h) (100 : Int)), C.i false IntKind.u32 (IntKind.u32.wrap (IntKind.u32.wrap (fld pt8 (wh h) (105 : Int)) * (1 : Int))), C.b true
      false, C.i true IntKind.i64 (3 : Int), C.i true IntKind.i64 (0 : Int), C.b true true, C.b true false, C.b true false, C.b true false, C.b true false, C.b true false, C.b
      true false, C.b true false, C.i false IntKind.i64 (IntKind.i64.wrap ((0 : Int) + fld pt8 (wh h) (108 : Int))), C.b true false, C.b true false, C.b true false])) ∧ ((fld
      pt8 (wh h) (111 : Int) == (7 : Int)) = false → R (SV.a [C.i true IntKind.i64 (1 : Int), C.i true IntKind.i64 (14 : Int), C.i true IntKind.i64 (2 : Int), C.b true true, C.i
      false IntKind.i64 (fld pt8 (wh h) (100 : Int)), C.i true IntKind.i64 (0 : Int), C.i false IntKind.i64 (fld pt8 (wh h) (115 : Int)), C.i false IntKind.i64 (fld pt8 (wh h)
      (100 : Int)), C.i false IntKind.u32 (IntKind.u32.wrap (IntKind.u32.wrap (fld pt8 (wh h) (105 : Int)) * (1 : Int))), C.b true false, C.i false IntKind.i64 (IntKind.i64.wrap
      (fld pt8 (wh h) (111 : Int) - (2 : Int))), C.i true IntKind.i64 (0 : Int), C.b true true, C.b true false, C.b true false, C.b true false, C.b true false, C.b true false,
      C.b true false, C.b true false, C.i false IntKind.i64 (IntKind.i64.wrap ((0 : Int) + fld pt8 (wh h) (108 : Int))), C.b true false, C.b true false, C.b true false]))) ∧
      ((fld pt8 (wh h) (79 : Int) == (1 : Int)) = false → szOK pt8 = true ∧ szOK pt8 = true ∧ ((fld pt8 (wh h) (111 : Int) == (7 : Int)) = true → R (SV.a [C.i true IntKind.i64
      (1 : Int), C.i true IntKind.i64 (14 : Int), C.i true IntKind.i64 (13 : Int), C.b true true, C.i false IntKind.i64 (fld pt8 (wh h) (100 : Int)), C.i true IntKind.i64 (0 :
      Int), C.i false IntKind.i64 (fld pt8 (wh h) (115 : Int)), C.i false IntKind.i64 (fld pt8 (wh h) (100 : Int)), C.i false IntKind.u32 (IntKind.u32.wrap (IntKind.u32.wrap
      (fld pt8 (wh h) (105 : Int)) * (1 : Int))), C.b true false, C.i true IntKind.i64 (3 : Int), C.i true IntKind.i64 (0 : Int), C.b true true, C.b true false, C.b true false,
      C.b true false, C.b true false, C.b true false, C.b true false, C.b true false, C.i false IntKind.i64 (IntKind.i64.wrap ((0 : Int) + fld pt8 (wh h) (108 : Int))), C.b true
      false, C.b true false, C.b true false])) ∧ ((fld pt8 (wh h) (111 : Int) == (7 : Int)) = false → R (SV.a [C.i true IntKind.i64 (1 : Int), C.i true IntKind.i64 (14 : Int),
      C.i true IntKind.i64 (13 : Int), C.b true true, C.i false IntKind.i64 (fld pt8 (wh h) (100 : Int)), C.i true IntKind.i64 (0 : Int), C.i false IntKind.i64 (fld pt8 (wh h)
      (115 : Int)), C.i false IntKind.i64 (fld pt8 (wh h) (100 : Int)), C.i false IntKind.u32 (IntKind.u32.wrap (IntKind.u32.wrap (fld pt8 (wh h) (105 : Int)) * (1 : Int))), C.b
      true false, C.i false IntKind.i64 (IntKind.i64.wrap (fld pt8 (wh h) (111 : Int) - (2 : Int))), C.i true IntKind.i64 (0 : Int), C.b true true, C.b true false, C.b true
      false, C.b true false, C.b true false, C.b true false, C.b true false, C.b true false, C.i false IntKind.i64 (IntKind.i64.wrap ((0 : Int) + fld pt8 (wh h) (108 : Int))),
      C.b true false, C.b true false, C.b true false])))))) := by kernel_rfl
theorem dec9 (E : World) (h : Int) (R : SV → Prop) (X : Prop) :
    (loopP (pe E) Try.f8 (fun v _ => R v) (fun todo fr s' => cond (memS s') (X ∧ todo = hd8 E ∧ fr.nt = Try.f8.ntmps ∧ refP fr (lv8 h 10)) False) (run (pe E) (orcT E) (tabL fns) 20000 (2^200-1) (hd8 E) (mkL Try.f8.ntmps (lv8 h 9)) sv8)) =
    (szOK pt7 = true ∧ ((!fits pt7 (wh h)) = true → X ∧ hd8 E = hd8 E ∧ (125 : Nat) = (125 : Nat) ∧ (IntKind.u16 = IntKind.u16 ∧ h = h) ∧ C.p (0 : Nat) (0 : Nat) = C.p (0 :
      Nat) (0 : Nat) ∧ (IntKind.u32 = IntKind.u32 ∧ IntKind.u32.wrap h = IntKind.u32.wrap h) ∧ C.slc (1 : Nat) (0 : Nat) (45 : Nat) (45 : Nat) = C.slc (1 : Nat) (0 : Nat) (45 :
      Nat) (45 : Nat) ∧ IntKind.i64 = IntKind.i64 ∧ (10 : Int) = (10 : Int)) ∧ ((!fits pt7 (wh h)) = false → szOK pt7 = true ∧ ((bif decide (fld pt7 (wh h) (111 : Int) < (5 :
      Int)) then true else decide (fld pt7 (wh h) (111 : Int) > (6 : Int))) = true → X ∧ hd8 E = hd8 E ∧ (125 : Nat) = (125 : Nat) ∧ (IntKind.u16 = IntKind.u16 ∧ h = h) ∧ C.p (0
      : Nat) (0 : Nat) = C.p (0 : Nat) (0 : Nat) ∧ (IntKind.u32 = IntKind.u32 ∧ IntKind.u32.wrap h = IntKind.u32.wrap h) ∧ C.slc (1 : Nat) (0 : Nat) (45 : Nat) (45 : Nat) =
      C.slc (1 : Nat) (0 : Nat) (45 : Nat) (45 : Nat) ∧ IntKind.i64 = IntKind.i64 ∧ (10 : Int) = (10 : Int)) ∧ ((bif decide (fld pt7 (wh h) (111 : Int) < (5 : Int)) then true
      else decide (fld pt7 (wh h) (111 : Int) > (6 : Int))) = false → szOK pt7 = true ∧ szOK pt7 = true ∧ szOK pt7 = true ∧ szOK pt7 = true ∧ szOK pt7 = true ∧ szOK pt7 = true ∧
      szOK pt7 = true ∧ szOK pt7 = true ∧ szOK pt7 = true ∧ szOK pt7 = true ∧ szOK pt7 = true ∧ szOK pt7 = true ∧ szOK pt7 = true ∧ ((fld pt7 (wh h) (79 : Int) == (1 : Int)) =
      true → szOK pt7 = true ∧ szOK pt7 = true ∧ R (SV.a [C.i true IntKind.i64 (1 : Int), C.i true IntKind.i64 (14 : Int), C.i true IntKind.i64 (2 : Int), C.b true true, C.i
      false IntKind.i64 (fld pt7 (wh h) (100 : Int)), C.i false IntKind.i64 (fld pt7 (wh h) (100 : Int)), C.i true IntKind.i64 (0 : Int), C.i false IntKind.i64 (fld pt7 (wh h)
      (109 : Int)), C.i false IntKind.u32 (IntKind.u32.wrap (IntKind.u32.wrap (fld pt7 (wh h) (105 : Int)) * (1 : Int))), C.b true false, C.i false IntKind.i64 (fld pt7 (wh h)
      (116 : Int)), C.i true IntKind.i64 (0 : Int), C.b true false, C.b true false, C.b true false, C.b true false, C.b true false, C.b true false, C.b true false, C.b true
      false, C.i false IntKind.i64 (IntKind.i64.wrap ((0 : Int) + fld pt7 (wh h) (108 : Int))), C.b true false, C.b true false, C.b true false])) ∧ ((fld pt7 (wh h) (79 : Int)
      == (1 : Int)) = false → szOK pt7 = true ∧ szOK pt7 = true ∧ R (SV.a [C.i true IntKind.i64 (1 : Int), C.i true IntKind.i64 (14 : Int), C.i false IntKind.i64 (fld pt7 (wh h)
      (111 : Int)), C.b true true, C.i false IntKind.i64 (fld pt7 (wh h) (100 : Int)), C.i false IntKind.i64 (fld pt7 (wh h) (100 : Int)), C.i true IntKind.i64 (0 : Int), C.i
      false IntKind.i64 (fld pt7 (wh h) (109 : Int)), C.i false IntKind.u32 (IntKind.u32.wrap (IntKind.u32.wrap (fld pt7 (wh h) (105 : Int)) * (1 : Int))), C.b true false, C.i
      false IntKind.i64 (fld pt7 (wh h) (116 : Int)), C.i true IntKind.i64 (0 : Int), C.b true false, C.b true false, C.b true false, C.b true false, C.b true false, C.b true
      false, C.b true false, C.b true false, C.i false IntKind.i64 (IntKind.i64.wrap ((0 : Int) + fld pt7 (wh h) (108 : Int))), C.b true false, C.b true false, C.b true
      false]))))) := by kernel_rfl
theorem dec10 (E : World) (h : Int) (R : SV → Prop) (X : Prop) :
    (loopP (pe E) Try.f8 (fun v _ => R v) (fun todo fr s' => cond (memS s') (X ∧ todo = hd8 E ∧ fr.nt = Try.f8.ntmps ∧ refP fr (lv8 h 11)) False) (run (pe E) (orcT E) (tabL fns) 20000 (2^200-1) (hd8 E) (mkL Try.f8.ntmps (lv8 h 10)) sv8)) =
    (szOK pt8 = true ∧ ((!fits pt8 (wh h)) = true → X ∧ hd8 E = hd8 E ∧ (125 : Nat) = (125 : Nat) ∧ (IntKind.u16 = IntKind.u16 ∧ h = h) ∧ C.p (0 : Nat) (0 : Nat) = C.p (0 :
      Nat) (0 : Nat) ∧ (IntKind.u32 = IntKind.u32 ∧ IntKind.u32.wrap h = IntKind.u32.wrap h) ∧ C.slc (1 : Nat) (0 : Nat) (45 : Nat) (45 : Nat) = C.slc (1 : Nat) (0 : Nat) (45 :
      Nat) (45 : Nat) ∧ IntKind.i64 = IntKind.i64 ∧ (11 : Int) = (11 : Int)) ∧ ((!fits pt8 (wh h)) = false → szOK pt8 = true ∧ ((bif decide (fld pt8 (wh h) (111 : Int) < (7 :
      Int)) then true else decide (fld pt8 (wh h) (111 : Int) > (7 : Int))) = true → X ∧ hd8 E = hd8 E ∧ (125 : Nat) = (125 : Nat) ∧ (IntKind.u16 = IntKind.u16 ∧ h = h) ∧ C.p (0
      : Nat) (0 : Nat) = C.p (0 : Nat) (0 : Nat) ∧ (IntKind.u32 = IntKind.u32 ∧ IntKind.u32.wrap h = IntKind.u32.wrap h) ∧ C.slc (1 : Nat) (0 : Nat) (45 : Nat) (45 : Nat) =
      C.slc (1 : Nat) (0 : Nat) (45 : Nat) (45 : Nat) ∧ IntKind.i64 = IntKind.i64 ∧ (11 : Int) = (11 : Int)) ∧ ((bif decide (fld pt8 (wh h) (111 : Int) < (7 : Int)) then true
      else decide (fld pt8 (wh h) (111 : Int) > (7 : Int))) = false → szOK pt8 = true ∧ szOK pt8 = true ∧ szOK pt8 = true ∧ szOK pt8 = true ∧ szOK pt8 = true ∧ szOK pt8 = true ∧
      szOK pt8 = true ∧ szOK pt8 = true ∧ szOK pt8 = true ∧ szOK pt8 = true ∧ szOK pt8 = true ∧ szOK pt8 = true ∧ szOK pt8 = true ∧ ((fld pt8 (wh h) (79 : Int) == (1 : Int)) =
      true → szOK pt8 = true ∧ szOK pt8 = true ∧ ((fld pt8 (wh h) (111 : Int) == (7 : Int)) = true → R (SV.a [C.i true IntKind.i64 (1 : Int), C.i true IntKind.i64 (14 : Int),
      C.i true IntKind.i64 (2 : Int), C.b true true, C.i false IntKind.i64 (fld pt8 (wh h) (100 : Int)), C.i true IntKind.i64 (0 : Int), C.i false IntKind.i64 (fld pt8 (wh h)
      (115 : Int)), C.i false IntKind.i64 (fld pt8 (wh h) (100 : Int)), C.i false IntKind.u32 (IntKind.u32.wrap (IntKind.u32.wrap (fld pt8 (wh h) (105 : Int)) * (1 : Int))), C.b
      true false, C.i true IntKind.i64 (3 : Int), C.i true IntKind.i64 (0 : Int), C.b true true, C.b true false, C.b true false, C.b true false, C.b true false, C.b true false,
      C.b true false, C.b true false, C.i false IntKind.i64 (IntKind.i64.wrap ((0 : Int) + fld pt8 (wh h) (108 : Int))), C.b true false, C.b true false, C.b true false])) ∧
      ((fld pt8 (wh h) (111 : Int) == (7 : Int)) = false → R (SV.a [C.i true IntKind.i64 (1 : Int), C.i true IntKind.i64 (14 : Int), C.i true IntKind.i64 (2 : Int), C.b true
      true, C.i false IntKind.i64 (fld pt8 (wh h) (100 : Int)), C.i true IntKind.i64 (0 : Int), C.i false IntKind.i64 (fld pt8 (wh h) (115 : Int)), C.i false IntKind.i64 (fld
      pt8 (wh h) (100 : Int)), C.i false IntKind.u32 (IntKind.u32.wrap (IntKind.u32.wrap (fld pt8 (wh h) (105 : Int)) * (1 : Int))), C.b true false, C.i false IntKind.i64
      (IntKind.i64.wrap (fld pt8 (wh h) (111 : Int) - (2 : Int))), C.i true IntKind.i64 (0 : Int), C.b true true, C.b true false, C.b true false, C.b true false, C.b true false,
      C.b true false, C.b true false, C.b true false, C.i false IntKind.i64 (IntKind.i64.wrap ((0 : Int) + fld pt8 (wh h) (108 : Int))), C.b true false, C.b true false, C.b true
      false]))) ∧ ((fld pt8 (wh h) (79 : Int) == (1 : Int)) = false → szOK pt8 = true ∧ szOK pt8 = true ∧ ((fld pt8 (wh h) (111 : Int) == (7 : Int)) = true → R (SV.a [C.i true
      IntKind.i64 (1 : Int), C.i true IntKind.i64 (14 : Int), C.i true IntKind.i64 (13 : Int), C.b true true, C.i false IntKind.i64 (fld pt8 (wh h) (100 : Int)), C.i true
      IntKind.i64 (0 : Int), C.i false IntKind.i64 (fld pt8 (wh h) (115 : Int)), C.i false IntKind.i64 (fld pt8 (wh h) (100 : Int)), C.i false IntKind.u32 (IntKind.u32.wrap
      (IntKind.u32.wrap (fld pt8 (wh h) (105 : Int)) * (1 : Int))), C.b true false, C.i true IntKind.i64 (3 : Int), C.i true IntKind.i64 (0 : Int), C.b true true, C.b true
      false, C.b true false, C.b true false, C.b true false, C.b true false, C.b true false, C.b true false, C.i false IntKind.i64 (IntKind.i64.wrap ((0 : Int) + fld pt8 (wh h)
      (108 : Int))), C.b true false, C.b true false, C.b true false])) ∧ ((fld pt8 (wh h) (111 : Int) == (7 : Int)) = false → R (SV.a [C.i true IntKind.i64 (1 : Int), C.i true
      IntKind.i64 (14 : Int), C.i true IntKind.i64 (13 : Int), C.b true true, C.i false IntKind.i64 (fld pt8 (wh h) (100 : Int)), C.i true IntKind.i64 (0 : Int), C.i false
      IntKind.i64 (fld pt8 (wh h) (115 : Int)), C.i false IntKind.i64 (fld pt8 (wh h) (100 : Int)), C.i false IntKind.u32 (IntKind.u32.wrap (IntKind.u32.wrap (fld pt8 (wh h)
      (105 : Int)) * (1 : Int))), C.b true false, C.i false IntKind.i64 (IntKind.i64.wrap (fld pt8 (wh h) (111 : Int) - (2 : Int))), C.i true IntKind.i64 (0 : Int), C.b true
      true, C.b true false, C.b true false, C.b true false, C.b true false, C.b true false, C.b true false, C.b true false, C.i false IntKind.i64 (IntKind.i64.wrap ((0 : Int) +
      fld pt8 (wh h) (108 : Int))), C.b true false, C.b true false, C.b true false])))))) := by kernel_rfl
theorem dec11 (E : World) (h : Int) (R : SV → Prop) (X : Prop) :
    (loopP (pe E) Try.f8 (fun v _ => R v) (fun todo fr s' => cond (memS s') (X ∧ todo = hd8 E ∧ fr.nt = Try.f8.ntmps ∧ refP fr (lv8 h 12)) False) (run (pe E) (orcT E) (tabL fns) 20000 (2^200-1) (hd8 E) (mkL Try.f8.ntmps (lv8 h 11)) sv8)) =
    (szOK pt9 = true ∧ ((!fits pt9 (wh h)) = true → X ∧ hd8 E = hd8 E ∧ (125 : Nat) = (125 : Nat) ∧ (IntKind.u16 = IntKind.u16 ∧ h = h) ∧ C.p (0 : Nat) (0 : Nat) = C.p (0 :
      Nat) (0 : Nat) ∧ (IntKind.u32 = IntKind.u32 ∧ IntKind.u32.wrap h = IntKind.u32.wrap h) ∧ C.slc (1 : Nat) (0 : Nat) (45 : Nat) (45 : Nat) = C.slc (1 : Nat) (0 : Nat) (45 :
      Nat) (45 : Nat) ∧ IntKind.i64 = IntKind.i64 ∧ (12 : Int) = (12 : Int)) ∧ ((!fits pt9 (wh h)) = false → szOK pt9 = true ∧ ((bif decide (fld pt9 (wh h) (111 : Int) < (8 :
      Int)) then true else decide (fld pt9 (wh h) (111 : Int) > (8 : Int))) = true → X ∧ hd8 E = hd8 E ∧ (125 : Nat) = (125 : Nat) ∧ (IntKind.u16 = IntKind.u16 ∧ h = h) ∧ C.p (0
      : Nat) (0 : Nat) = C.p (0 : Nat) (0 : Nat) ∧ (IntKind.u32 = IntKind.u32 ∧ IntKind.u32.wrap h = IntKind.u32.wrap h) ∧ C.slc (1 : Nat) (0 : Nat) (45 : Nat) (45 : Nat) =
      C.slc (1 : Nat) (0 : Nat) (45 : Nat) (45 : Nat) ∧ IntKind.i64 = IntKind.i64 ∧ (12 : Int) = (12 : Int)) ∧ ((bif decide (fld pt9 (wh h) (111 : Int) < (8 : Int)) then true
      else decide (fld pt9 (wh h) (111 : Int) > (8 : Int))) = false → szOK pt9 = true ∧ szOK pt9 = true ∧ szOK pt9 = true ∧ szOK pt9 = true ∧ szOK pt9 = true ∧ szOK pt9 = true ∧
      szOK pt9 = true ∧ szOK pt9 = true ∧ szOK pt9 = true ∧ szOK pt9 = true ∧ szOK pt9 = true ∧ szOK pt9 = true ∧ szOK pt9 = true ∧ szOK pt9 = true ∧ ((fld pt9 (wh h) (79 : Int)
      == (1 : Int)) = true → szOK pt9 = true ∧ szOK pt9 = true ∧ R (SV.a [C.i true IntKind.i64 (1 : Int), C.i true IntKind.i64 (14 : Int), C.i true IntKind.i64 (2 : Int), C.b
      true true, C.i true IntKind.i64 (0 : Int), C.i false IntKind.i64 (fld pt9 (wh h) (110 : Int)), C.i true IntKind.i64 (0 : Int), C.i false IntKind.i64 (fld pt9 (wh h) (109 :
      Int)), C.i false IntKind.u32 (IntKind.u32.wrap (IntKind.u32.wrap (fld pt9 (wh h) (105 : Int)) * (1 : Int))), C.b true false, C.i false IntKind.i64 (fld pt9 (wh h) (116 :
      Int)), C.i true IntKind.i64 (0 : Int), C.b true false, C.b true false, C.b true false, C.b true false, C.b true false, C.b true false, C.b true false, C.b true false, C.i
      false IntKind.i64 (IntKind.i64.wrap ((0 : Int) + fld pt9 (wh h) (108 : Int))), C.b true false, C.b true false, C.b true false])) ∧ ((fld pt9 (wh h) (79 : Int) == (1 :
      Int)) = false → szOK pt9 = true ∧ szOK pt9 = true ∧ R (SV.a [C.i true IntKind.i64 (1 : Int), C.i true IntKind.i64 (14 : Int), C.i false IntKind.i64 (fld pt9 (wh h) (111 :
      Int)), C.b true true, C.i true IntKind.i64 (0 : Int), C.i false IntKind.i64 (fld pt9 (wh h) (110 : Int)), C.i true IntKind.i64 (0 : Int), C.i false IntKind.i64 (fld pt9
      (wh h) (109 : Int)), C.i false IntKind.u32 (IntKind.u32.wrap (IntKind.u32.wrap (fld pt9 (wh h) (105 : Int)) * (1 : Int))), C.b true false, C.i false IntKind.i64 (fld pt9
      (wh h) (116 : Int)), C.i true IntKind.i64 (0 : Int), C.b true false, C.b true false, C.b true false, C.b true false, C.b true false, C.b true false, C.b true false, C.b
      true false, C.i false IntKind.i64 (IntKind.i64.wrap ((0 : Int) + fld pt9 (wh h) (108 : Int))), C.b true false, C.b true false, C.b true false]))))) := by kernel_rfl
theorem dec12 (E : World) (h : Int) (R : SV → Prop) (X : Prop) :
    (loopP (pe E) Try.f8 (fun v _ => R v) (fun todo fr s' => cond (memS s') (X ∧ todo = hd8 E ∧ fr.nt = Try.f8.ntmps ∧ refP fr (lv8 h 13)) False) (run (pe E) (orcT E) (tabL fns) 20000 (2^200-1) (hd8 E) (mkL Try.f8.ntmps (lv8 h 12)) sv8)) =
    (szOK pt10 = true ∧ ((!fits pt10 (wh h)) = true → X ∧ hd8 E = hd8 E ∧ (125 : Nat) = (125 : Nat) ∧ (IntKind.u16 = IntKind.u16 ∧ h = h) ∧ C.p (0 : Nat) (0 : Nat) = C.p (0 :
      Nat) (0 : Nat) ∧ (IntKind.u32 = IntKind.u32 ∧ IntKind.u32.wrap h = IntKind.u32.wrap h) ∧ C.slc (1 : Nat) (0 : Nat) (45 : Nat) (45 : Nat) = C.slc (1 : Nat) (0 : Nat) (45 :
      Nat) (45 : Nat) ∧ IntKind.i64 = IntKind.i64 ∧ (13 : Int) = (13 : Int)) ∧ ((!fits pt10 (wh h)) = false → szOK pt10 = true ∧ ((bif decide (fld pt10 (wh h) (111 : Int) < (9 :
      Int)) then true else decide (fld pt10 (wh h) (111 : Int) > (9 : Int))) = true → X ∧ hd8 E = hd8 E ∧ (125 : Nat) = (125 : Nat) ∧ (IntKind.u16 = IntKind.u16 ∧ h = h) ∧ C.p
      (0 : Nat) (0 : Nat) = C.p (0 : Nat) (0 : Nat) ∧ (IntKind.u32 = IntKind.u32 ∧ IntKind.u32.wrap h = IntKind.u32.wrap h) ∧ C.slc (1 : Nat) (0 : Nat) (45 : Nat) (45 : Nat) =
      C.slc (1 : Nat) (0 : Nat) (45 : Nat) (45 : Nat) ∧ IntKind.i64 = IntKind.i64 ∧ (13 : Int) = (13 : Int)) ∧ ((bif decide (fld pt10 (wh h) (111 : Int) < (9 : Int)) then true
      else decide (fld pt10 (wh h) (111 : Int) > (9 : Int))) = false → szOK pt10 = true ∧ szOK pt10 = true ∧ szOK pt10 = true ∧ szOK pt10 = true ∧ szOK pt10 = true ∧ szOK pt10 =
      true ∧ szOK pt10 = true ∧ szOK pt10 = true ∧ szOK pt10 = true ∧ szOK pt10 = true ∧ szOK pt10 = true ∧ szOK pt10 = true ∧ szOK pt10 = true ∧ ((fld pt10 (wh h) (79 : Int) ==
      (1 : Int)) = true → szOK pt10 = true ∧ szOK pt10 = true ∧ R (SV.a [C.i true IntKind.i64 (1 : Int), C.i true IntKind.i64 (14 : Int), C.i true IntKind.i64 (2 : Int), C.b
      true true, C.i false IntKind.i64 (fld pt10 (wh h) (100 : Int)), C.i false IntKind.i64 (fld pt10 (wh h) (110 : Int)), C.i true IntKind.i64 (0 : Int), C.i true IntKind.i64
      (0 : Int), C.i false IntKind.u32 (IntKind.u32.wrap (IntKind.u32.wrap (fld pt10 (wh h) (105 : Int)) * (1 : Int))), C.b true true, C.i false IntKind.i64 (fld pt10 (wh h)
      (116 : Int)), C.i true IntKind.i64 (0 : Int), C.b true false, C.b true false, C.b true false, C.b true false, C.b true false, C.b true false, C.b true false, C.b true
      false, C.i false IntKind.i64 (IntKind.i64.wrap ((0 : Int) + fld pt10 (wh h) (108 : Int))), C.b true false, C.b true false, C.b true false])) ∧ ((fld pt10 (wh h) (79 : Int)
      == (1 : Int)) = false → szOK pt10 = true ∧ szOK pt10 = true ∧ R (SV.a [C.i true IntKind.i64 (1 : Int), C.i true IntKind.i64 (14 : Int), C.i true IntKind.i64 (3 : Int), C.b
      true true, C.i false IntKind.i64 (fld pt10 (wh h) (100 : Int)), C.i false IntKind.i64 (fld pt10 (wh h) (110 : Int)), C.i true IntKind.i64 (0 : Int), C.i true IntKind.i64
      (0 : Int), C.i false IntKind.u32 (IntKind.u32.wrap (IntKind.u32.wrap (fld pt10 (wh h) (105 : Int)) * (1 : Int))), C.b true true, C.i false IntKind.i64 (fld pt10 (wh h)
      (116 : Int)), C.i true IntKind.i64 (0 : Int), C.b true false, C.b true false, C.b true false, C.b true false, C.b true false, C.b true false, C.b true false, C.b true
      false, C.i false IntKind.i64 (IntKind.i64.wrap ((0 : Int) + fld pt10 (wh h) (108 : Int))), C.b true false, C.b true false, C.b true false]))))) := by kernel_rfl
theorem dec13 (E : World) (h : Int) (R : SV → Prop) (X : Prop) :
    (loopP (pe E) Try.f8 (fun v _ => R v) (fun todo fr s' => cond (memS s') (X ∧ todo = hd8 E ∧ fr.nt = Try.f8.ntmps ∧ refP fr (lv8 h 14)) False) (run (pe E) (orcT E) (tabL fns) 20000 (2^200-1) (hd8 E) (mkL Try.f8.ntmps (lv8 h 13)) sv8)) =
    (szOK pt9 = true ∧ ((!fits pt9 (wh h)) = true → X ∧ hd8 E = hd8 E ∧ (125 : Nat) = (125 : Nat) ∧ (IntKind.u16 = IntKind.u16 ∧ h = h) ∧ C.p (0 : Nat) (0 : Nat) = C.p (0 :
      Nat) (0 : Nat) ∧ (IntKind.u32 = IntKind.u32 ∧ IntKind.u32.wrap h = IntKind.u32.wrap h) ∧ C.slc (1 : Nat) (0 : Nat) (45 : Nat) (45 : Nat) = C.slc (1 : Nat) (0 : Nat) (45 :
      Nat) (45 : Nat) ∧ IntKind.i64 = IntKind.i64 ∧ (14 : Int) = (14 : Int)) ∧ ((!fits pt9 (wh h)) = false → szOK pt9 = true ∧ ((bif decide (fld pt9 (wh h) (111 : Int) < (10 :
      Int)) then true else decide (fld pt9 (wh h) (111 : Int) > (11 : Int))) = true → X ∧ hd8 E = hd8 E ∧ (125 : Nat) = (125 : Nat) ∧ (IntKind.u16 = IntKind.u16 ∧ h = h) ∧ C.p
      (0 : Nat) (0 : Nat) = C.p (0 : Nat) (0 : Nat) ∧ (IntKind.u32 = IntKind.u32 ∧ IntKind.u32.wrap h = IntKind.u32.wrap h) ∧ C.slc (1 : Nat) (0 : Nat) (45 : Nat) (45 : Nat) =
      C.slc (1 : Nat) (0 : Nat) (45 : Nat) (45 : Nat) ∧ IntKind.i64 = IntKind.i64 ∧ (14 : Int) = (14 : Int)) ∧ ((bif decide (fld pt9 (wh h) (111 : Int) < (10 : Int)) then true
      else decide (fld pt9 (wh h) (111 : Int) > (11 : Int))) = false → szOK pt9 = true ∧ szOK pt9 = true ∧ szOK pt9 = true ∧ szOK pt9 = true ∧ szOK pt9 = true ∧ szOK pt9 = true
      ∧ szOK pt9 = true ∧ szOK pt9 = true ∧ szOK pt9 = true ∧ szOK pt9 = true ∧ szOK pt9 = true ∧ szOK pt9 = true ∧ szOK pt9 = true ∧ szOK pt9 = true ∧ ((fld pt9 (wh h) (79 :
      Int) == (1 : Int)) = true → szOK pt9 = true ∧ szOK pt9 = true ∧ R (SV.a [C.i true IntKind.i64 (1 : Int), C.i true IntKind.i64 (14 : Int), C.i true IntKind.i64 (2 : Int),
      C.b true true, C.i true IntKind.i64 (0 : Int), C.i false IntKind.i64 (fld pt9 (wh h) (110 : Int)), C.i true IntKind.i64 (0 : Int), C.i false IntKind.i64 (fld pt9 (wh h)
      (109 : Int)), C.i false IntKind.u32 (IntKind.u32.wrap (IntKind.u32.wrap (fld pt9 (wh h) (105 : Int)) * (1 : Int))), C.b true false, C.i false IntKind.i64 (fld pt9 (wh h)
      (116 : Int)), C.i true IntKind.i64 (0 : Int), C.b true false, C.b true false, C.b true false, C.b true false, C.b true false, C.b true false, C.b true false, C.b true
      false, C.i false IntKind.i64 (IntKind.i64.wrap ((0 : Int) + fld pt9 (wh h) (108 : Int))), C.b true false, C.b true false, C.b true false])) ∧ ((fld pt9 (wh h) (79 : Int)
      == (1 : Int)) = false → szOK pt9 = true ∧ szOK pt9 = true ∧ R (SV.a [C.i true IntKind.i64 (1 : Int), C.i true IntKind.i64 (14 : Int), C.i false IntKind.i64 (fld pt9 (wh h)
      (111 : Int)), C.b true true, C.i true IntKind.i64 (0 : Int), C.i false IntKind.i64 (fld pt9 (wh h) (110 : Int)), C.i true IntKind.i64 (0 : Int), C.i false IntKind.i64 (fld
      pt9 (wh h) (109 : Int)), C.i false IntKind.u32 (IntKind.u32.wrap (IntKind.u32.wrap (fld pt9 (wh h) (105 : Int)) * (1 : Int))), C.b true false, C.i false IntKind.i64 (fld
      pt9 (wh h) (116 : Int)), C.i true IntKind.i64 (0 : Int), C.b true false, C.b true false, C.b true false, C.b true false, C.b true false, C.b true false, C.b true false,
      C.b true false, C.i false IntKind.i64 (IntKind.i64.wrap ((0 : Int) + fld pt9 (wh h) (108 : Int))), C.b true false, C.b true false, C.b true false]))))) := by kernel_rfl
theorem dec14 (E : World) (h : Int) (R : SV → Prop) (X : Prop) :
    (loopP (pe E) Try.f8 (fun v _ => R v) (fun todo fr s' => cond (memS s') (X ∧ todo = hd8 E ∧ fr.nt = Try.f8.ntmps ∧ refP fr (lv8 h 15)) False) (run (pe E) (orcT E) (tabL fns) 20000 (2^200-1) (hd8 E) (mkL Try.f8.ntmps (lv8 h 14)) sv8)) =
    (szOK pt7 = true ∧ ((!fits pt7 (wh h)) = true → X ∧ hd8 E = hd8 E ∧ (125 : Nat) = (125 : Nat) ∧ (IntKind.u16 = IntKind.u16 ∧ h = h) ∧ C.p (0 : Nat) (0 : Nat) = C.p (0 :
      Nat) (0 : Nat) ∧ (IntKind.u32 = IntKind.u32 ∧ IntKind.u32.wrap h = IntKind.u32.wrap h) ∧ C.slc (1 : Nat) (0 : Nat) (45 : Nat) (45 : Nat) = C.slc (1 : Nat) (0 : Nat) (45 :
      Nat) (45 : Nat) ∧ IntKind.i64 = IntKind.i64 ∧ (15 : Int) = (15 : Int)) ∧ ((!fits pt7 (wh h)) = false → szOK pt7 = true ∧ ((bif decide (fld pt7 (wh h) (111 : Int) < (12 :
      Int)) then true else decide (fld pt7 (wh h) (111 : Int) > (12 : Int))) = true → X ∧ hd8 E = hd8 E ∧ (125 : Nat) = (125 : Nat) ∧ (IntKind.u16 = IntKind.u16 ∧ h = h) ∧ C.p
      (0 : Nat) (0 : Nat) = C.p (0 : Nat) (0 : Nat) ∧ (IntKind.u32 = IntKind.u32 ∧ IntKind.u32.wrap h = IntKind.u32.wrap h) ∧ C.slc (1 : Nat) (0 : Nat) (45 : Nat) (45 : Nat) =
      C.slc (1 : Nat) (0 : Nat) (45 : Nat) (45 : Nat) ∧ IntKind.i64 = IntKind.i64 ∧ (15 : Int) = (15 : Int)) ∧ ((bif decide (fld pt7 (wh h) (111 : Int) < (12 : Int)) then true
      else decide (fld pt7 (wh h) (111 : Int) > (12 : Int))) = false → szOK pt7 = true ∧ szOK pt7 = true ∧ szOK pt7 = true ∧ szOK pt7 = true ∧ szOK pt7 = true ∧ szOK pt7 = true
      ∧ szOK pt7 = true ∧ szOK pt7 = true ∧ szOK pt7 = true ∧ szOK pt7 = true ∧ szOK pt7 = true ∧ szOK pt7 = true ∧ szOK pt7 = true ∧ ((fld pt7 (wh h) (79 : Int) == (1 : Int)) =
      true → szOK pt7 = true ∧ szOK pt7 = true ∧ R (SV.a [C.i true IntKind.i64 (1 : Int), C.i true IntKind.i64 (14 : Int), C.i true IntKind.i64 (2 : Int), C.b true true, C.i
      false IntKind.i64 (fld pt7 (wh h) (100 : Int)), C.i false IntKind.i64 (fld pt7 (wh h) (100 : Int)), C.i true IntKind.i64 (0 : Int), C.i false IntKind.i64 (fld pt7 (wh h)
      (109 : Int)), C.i false IntKind.u32 (IntKind.u32.wrap (IntKind.u32.wrap (fld pt7 (wh h) (105 : Int)) * (1 : Int))), C.b true false, C.i false IntKind.i64 (fld pt7 (wh h)
      (116 : Int)), C.i true IntKind.i64 (0 : Int), C.b true false, C.b true false, C.b true false, C.b true false, C.b true false, C.b true false, C.b true false, C.b true
      false, C.i false IntKind.i64 (IntKind.i64.wrap ((0 : Int) + fld pt7 (wh h) (108 : Int))), C.b true false, C.b true false, C.b true false])) ∧ ((fld pt7 (wh h) (79 : Int)
      == (1 : Int)) = false → szOK pt7 = true ∧ szOK pt7 = true ∧ R (SV.a [C.i true IntKind.i64 (1 : Int), C.i true IntKind.i64 (14 : Int), C.i false IntKind.i64 (fld pt7 (wh h)
      (111 : Int)), C.b true true, C.i false IntKind.i64 (fld pt7 (wh h) (100 : Int)), C.i false IntKind.i64 (fld pt7 (wh h) (100 : Int)), C.i true IntKind.i64 (0 : Int), C.i
      false IntKind.i64 (fld pt7 (wh h) (109 : Int)), C.i false IntKind.u32 (IntKind.u32.wrap (IntKind.u32.wrap (fld pt7 (wh h) (105 : Int)) * (1 : Int))), C.b true false, C.i
      false IntKind.i64 (fld pt7 (wh h) (116 : Int)), C.i true IntKind.i64 (0 : Int), C.b true false, C.b true false, C.b true false, C.b true false, C.b true false, C.b true
      false, C.b true false, C.b true false, C.i false IntKind.i64 (IntKind.i64.wrap ((0 : Int) + fld pt7 (wh h) (108 : Int))), C.b true false, C.b true false, C.b true
      false]))))) := by kernel_rfl
theorem dec15 (E : World) (h : Int) (R : SV → Prop) (X : Prop) :
    (loopP (pe E) Try.f8 (fun v _ => R v) (fun todo fr s' => cond (memS s') (X ∧ todo = hd8 E ∧ fr.nt = Try.f8.ntmps ∧ refP fr (lv8 h 16)) False) (run (pe E) (orcT E) (tabL fns) 20000 (2^200-1) (hd8 E) (mkL Try.f8.ntmps (lv8 h 15)) sv8)) =
    (szOK pt7 = true ∧ ((!fits pt7 (wh h)) = true → X ∧ hd8 E = hd8 E ∧ (125 : Nat) = (125 : Nat) ∧ (IntKind.u16 = IntKind.u16 ∧ h = h) ∧ C.p (0 : Nat) (0 : Nat) = C.p (0 :
      Nat) (0 : Nat) ∧ (IntKind.u32 = IntKind.u32 ∧ IntKind.u32.wrap h = IntKind.u32.wrap h) ∧ C.slc (1 : Nat) (0 : Nat) (45 : Nat) (45 : Nat) = C.slc (1 : Nat) (0 : Nat) (45 :
      Nat) (45 : Nat) ∧ IntKind.i64 = IntKind.i64 ∧ (16 : Int) = (16 : Int)) ∧ ((!fits pt7 (wh h)) = false → szOK pt7 = true ∧ ((bif decide (fld pt7 (wh h) (111 : Int) < (13 :
      Int)) then true else decide (fld pt7 (wh h) (111 : Int) > (13 : Int))) = true → X ∧ hd8 E = hd8 E ∧ (125 : Nat) = (125 : Nat) ∧ (IntKind.u16 = IntKind.u16 ∧ h = h) ∧ C.p
      (0 : Nat) (0 : Nat) = C.p (0 : Nat) (0 : Nat) ∧ (IntKind.u32 = IntKind.u32 ∧ IntKind.u32.wrap h = IntKind.u32.wrap h) ∧ C.slc (1 : Nat) (0 : Nat) (45 : Nat) (45 : Nat) =
      C.slc (1 : Nat) (0 : Nat) (45 : Nat) (45 : Nat) ∧ IntKind.i64 = IntKind.i64 ∧ (16 : Int) = (16 : Int)) ∧ ((bif decide (fld pt7 (wh h) (111 : Int) < (13 : Int)) then true
      else decide (fld pt7 (wh h) (111 : Int) > (13 : Int))) = false → szOK pt7 = true ∧ szOK pt7 = true ∧ szOK pt7 = true ∧ szOK pt7 = true ∧ szOK pt7 = true ∧ szOK pt7 = true
      ∧ szOK pt7 = true ∧ szOK pt7 = true ∧ szOK pt7 = true ∧ szOK pt7 = true ∧ szOK pt7 = true ∧ szOK pt7 = true ∧ szOK pt7 = true ∧ ((fld pt7 (wh h) (79 : Int) == (1 : Int)) =
      true → szOK pt7 = true ∧ szOK pt7 = true ∧ R (SV.a [C.i true IntKind.i64 (2 : Int), C.i true IntKind.i64 (14 : Int), C.i true IntKind.i64 (2 : Int), C.b true true, C.i
      false IntKind.i64 (fld pt7 (wh h) (100 : Int)), C.i true IntKind.i64 (0 : Int), C.i false IntKind.i64 (fld pt7 (wh h) (100 : Int)), C.i false IntKind.i64 (fld pt7 (wh h)
      (109 : Int)), C.i false IntKind.u32 (IntKind.u32.wrap (IntKind.u32.wrap (fld pt7 (wh h) (105 : Int)) * (1 : Int))), C.b true false, C.i false IntKind.i64 (fld pt7 (wh h)
      (116 : Int)), C.i true IntKind.i64 (0 : Int), C.b true false, C.b true false, C.b true false, C.b true false, C.b true false, C.b true false, C.b true false, C.b true
      false, C.i false IntKind.i64 (IntKind.i64.wrap ((0 : Int) + fld pt7 (wh h) (108 : Int))), C.b true false, C.b true false, C.b true false])) ∧ ((fld pt7 (wh h) (79 : Int)
      == (1 : Int)) = false → szOK pt7 = true ∧ szOK pt7 = true ∧ R (SV.a [C.i true IntKind.i64 (2 : Int), C.i true IntKind.i64 (14 : Int), C.i true IntKind.i64 (0 : Int), C.b
      true true, C.i false IntKind.i64 (fld pt7 (wh h) (100 : Int)), C.i true IntKind.i64 (0 : Int), C.i false IntKind.i64 (fld pt7 (wh h) (100 : Int)), C.i false IntKind.i64
      (fld pt7 (wh h) (109 : Int)), C.i false IntKind.u32 (IntKind.u32.wrap (IntKind.u32.wrap (fld pt7 (wh h) (105 : Int)) * (1 : Int))), C.b true false, C.i false IntKind.i64
      (fld pt7 (wh h) (116 : Int)), C.i true IntKind.i64 (0 : Int), C.b true false, C.b true false, C.b true false, C.b true false, C.b true false, C.b true false, C.b true
      false, C.b true false, C.i false IntKind.i64 (IntKind.i64.wrap ((0 : Int) + fld pt7 (wh h) (108 : Int))), C.b true false, C.b true false, C.b true false]))))) := by kernel_rfl
end Go.Proofs.Ytpfdemmoapjjpaa

