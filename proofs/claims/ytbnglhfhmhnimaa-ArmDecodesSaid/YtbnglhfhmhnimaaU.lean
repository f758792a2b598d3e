import Derived.Test.YtbnglhfhmhnimaaT
set_option linter.unusedVariables false
set_option linter.unusedSimpArgs false
namespace Go.Proofs.Ytbnglhfhmhnimaa
open Go Go.Proofs Go.Proofs.Ytbnglhfhmhnimaa.Ev
set_option maxRecDepth 100000
def pt0 : ByteArray := ByteArray.mk #[99, 99, 99, 99, 48, 48, 48, 48, 48, 48, 65, 70, 100, 100, 100, 100, 110, 110, 110, 110, 115, 115, 115, 115, 49, 48, 48, 49, 109, 109, 109, 109]
def pt1 : ByteArray := ByteArray.mk #[99, 99, 99, 99, 48, 48, 48, 48, 49, 83, 65, 70, 100, 100, 100, 100, 110, 110, 110, 110, 115, 115, 115, 115, 49, 48, 48, 49, 109, 109, 109, 109]
def pt2 : ByteArray := ByteArray.mk #[99, 99, 99, 99, 48, 48, 48, 49, 48, 66, 48, 48, 110, 110, 110, 110, 100, 100, 100, 100, 48, 48, 48, 48, 49, 48, 48, 49, 109, 109, 109, 109]
def pt3 : ByteArray := ByteArray.mk #[99, 99, 99, 99, 48, 48, 48, 80, 85, 48, 87, 49, 110, 110, 110, 110, 100, 100, 100, 100, 46, 46, 46, 46, 49, 72, 72, 49, 109, 109, 109, 109]
def pt4 : ByteArray := ByteArray.mk #[99, 99, 99, 99, 48, 48, 48, 80, 85, 48, 87, 48, 110, 110, 110, 110, 100, 100, 100, 100, 46, 46, 46, 46, 49, 48, 49, 49, 109, 109, 109, 109]
def pt5 : ByteArray := ByteArray.mk #[99, 99, 99, 99, 48, 48, 48, 80, 85, 49, 87, 49, 110, 110, 110, 110, 100, 100, 100, 100, 73, 73, 73, 73, 49, 72, 72, 49, 73, 73, 73, 73]
def pt6 : ByteArray := ByteArray.mk #[99, 99, 99, 99, 48, 48, 48, 80, 85, 49, 87, 48, 110, 110, 110, 110, 100, 100, 100, 100, 73, 73, 73, 73, 49, 48, 49, 49, 73, 73, 73, 73]
def pt7 : ByteArray := ByteArray.mk #[99, 99, 99, 99, 48, 48, 48, 49, 48, 48, 49, 48, 49, 49, 49, 49, 49, 49, 49, 49, 49, 49, 49, 49, 48, 48, 48, 49, 109, 109, 109, 109]
def pt8 : ByteArray := ByteArray.mk #[99, 99, 99, 99, 48, 48, 48, 49, 48, 81, 48, 48, 49, 49, 49, 49, 100, 100, 100, 100, 48, 48, 48, 48, 48, 48, 48, 48, 48, 48, 48, 48]
def pt9 : ByteArray := ByteArray.mk #[99, 99, 99, 99, 48, 48, 48, 49, 48, 81, 49, 48, 108, 108, 108, 108, 49, 49, 49, 49, 48, 48, 48, 48, 48, 48, 48, 48, 109, 109, 109, 109]
def pt10 : ByteArray := ByteArray.mk #[99, 99, 99, 99, 48, 48, 49, 49, 48, 81, 49, 48, 108, 108, 108, 108, 49, 49, 49, 49, 97, 97, 97, 97, 73, 73, 73, 73, 73, 73, 73, 73]
def pt11 : ByteArray := ByteArray.mk #[99, 99, 99, 99, 48, 48, 48, 111, 111, 111, 111, 70, 110, 110, 110, 110, 100, 100, 100, 100, 97, 97, 97, 97, 97, 116, 116, 48, 109, 109, 109, 109]
def pt12 : ByteArray := ByteArray.mk #[99, 99, 99, 99, 48, 48, 48, 111, 111, 111, 111, 70, 110, 110, 110, 110, 100, 100, 100, 100, 115, 115, 115, 115, 48, 116, 116, 49, 109, 109, 109, 109]
def pt13 : ByteArray := ByteArray.mk #[99, 99, 99, 99, 48, 48, 49, 111, 111, 111, 111, 70, 110, 110, 110, 110, 100, 100, 100, 100, 97, 97, 97, 97, 73, 73, 73, 73, 73, 73, 73, 73]
def pt14 : ByteArray := ByteArray.mk #[99, 99, 99, 99, 48, 49, 48, 80, 85, 66, 87, 76, 110, 110, 110, 110, 100, 100, 100, 100, 73, 73, 73, 73, 73, 73, 73, 73, 73, 73, 73, 73]
def pt15 : ByteArray := ByteArray.mk #[99, 99, 99, 99, 48, 49, 49, 80, 85, 66, 87, 76, 110, 110, 110, 110, 100, 100, 100, 100, 97, 97, 97, 97, 97, 116, 116, 48, 109, 109, 109, 109]
def pt16 : ByteArray := ByteArray.mk #[99, 99, 99, 99, 49, 48, 48, 80, 85, 81, 87, 76, 110, 110, 110, 110, 108, 108, 108, 108, 108, 108, 108, 108, 108, 108, 108, 108, 108, 108, 108, 108]
def pt17 : ByteArray := ByteArray.mk #[99, 99, 99, 99, 49, 48, 49, 75, 73, 73, 73, 73, 73, 73, 73, 73, 73, 73, 73, 73, 73, 73, 73, 73, 73, 73, 73, 73, 73, 73, 73, 73]
def pt18 : ByteArray := ByteArray.mk #[99, 99, 99, 99, 49, 49, 49, 49, 73, 73, 73, 73, 73, 73, 73, 73, 46, 46, 46, 46, 46, 46, 46, 46, 46, 46, 46, 46, 46, 46, 46, 46]
noncomputable def c9 : Code := Try.f9.body.getD .skip
noncomputable def hd9 (E : World) : List Item := headOf (run (pe E) (orcT E) (tabL fns) 20000 (2^200-1) [.code c9] ⟨Try.f9.ntmps, mkFrGo (Tr.mk 12) 0 [.c (.i true .u32 0)]⟩ [])
def zrB : Bl := ⟨[.i true .i64 0, .i true .i64 0, .i true .i64 0, .b true false, .i true .i64 0, .i true .i64 0, .i true .i64 0, .i true .i64 0, .i true .u32 0, .b true false, .i true .i64 0, .i true .i64 0, .b true false, .b true false, .b true false, .b true false, .b true false, .b true false, .b true false, .b true false, .i true .i64 0, .b true false, .b true false, .b true false], 25⟩
def lv9 (h : Int) (i : Nat) : List (Nat × SV) := [(0, .c (.i false .u32 h)), (2, .c (.p 0 0)), (3, .c (.slc 1 0 19 19)), (4, .c (.i true .i64 (i : Int)))]
def sv9 : SW := [zrB, tabB]
def memS : SW → Bool
  | ⟨a, 25⟩ :: ⟨b, 35⟩ :: _ => litL a zrB.cs && litL b tabL9
  | _ => false
theorem dec_pro (E : World) (h : Int) (R : SV → Prop) (X : Prop) :
    (loopP (pe E) Try.f9 (fun v _ => R v) (fun todo fr s' => cond (memS s') (X ∧ todo = hd9 E ∧ fr.nt = Try.f9.ntmps ∧ refP fr (lv9 h 0)) False) (run (pe E) (orcT E) (tabL fns) 20000 (2^200-1) [.code c9] ⟨Try.f9.ntmps, mkFrGo (Tr.mk 12) 0 [.c (.i false .u32 h)]⟩ [])) =
    (X ∧ hd9 E = hd9 E ∧ (134 : Nat) = (134 : Nat) ∧ (IntKind.u32 = IntKind.u32 ∧ h = h) ∧ C.p (0 : Nat) (0 : Nat) = C.p (0 : Nat) (0 : Nat) ∧ C.slc (1 : Nat) (0 : Nat) (19 :
      Nat) (19 : Nat) = C.slc (1 : Nat) (0 : Nat) (19 : Nat) (19 : Nat) ∧ IntKind.i64 = IntKind.i64 ∧ (0 : Int) = (0 : Int)) := by kernel_rfl
theorem dec0 (E : World) (h : Int) (R : SV → Prop) (X : Prop) :
    (loopP (pe E) Try.f9 (fun v _ => R v) (fun todo fr s' => cond (memS s') (X ∧ todo = hd9 E ∧ fr.nt = Try.f9.ntmps ∧ refP fr (lv9 h 1)) False) (run (pe E) (orcT E) (tabL fns) 20000 (2^200-1) (hd9 E) (mkL Try.f9.ntmps (lv9 h 0)) sv9)) =
    (szOK pt0 = true ∧ ((!fits pt0 h) = true → X ∧ hd9 E = hd9 E ∧ (134 : Nat) = (134 : Nat) ∧ (IntKind.u32 = IntKind.u32 ∧ h = h) ∧ C.p (0 : Nat) (0 : Nat) = C.p (0 : Nat) (0
      : Nat) ∧ C.slc (1 : Nat) (0 : Nat) (19 : Nat) (19 : Nat) = C.slc (1 : Nat) (0 : Nat) (19 : Nat) (19 : Nat) ∧ IntKind.i64 = IntKind.i64 ∧ (1 : Int) = (1 : Int)) ∧ ((!fits
      pt0 h) = false → szOK pt0 = true ∧ szOK pt0 = true ∧ szOK pt0 = true ∧ szOK pt0 = true ∧ szOK pt0 = true ∧ szOK pt0 = true ∧ szOK pt0 = true ∧ szOK pt0 = true ∧ szOK pt0 =
      true ∧ szOK pt0 = true ∧ szOK pt0 = true ∧ szOK pt0 = true ∧ szOK pt0 = true ∧ szOK pt0 = true ∧ szOK pt0 = true ∧ szOK pt0 = true ∧ szOK pt0 = true ∧ szOK pt0 = true ∧
      szOK pt0 = true ∧ R (SV.a [C.i true IntKind.i64 (2 : Int), C.i false IntKind.i64 (fld pt0 h (99 : Int)), C.i true IntKind.i64 (0 : Int), C.b false (fld pt0 h (70 : Int) ==
      (1 : Int)), C.i false IntKind.i64 (fld pt0 h (100 : Int)), C.i false IntKind.i64 (fld pt0 h (110 : Int)), C.i false IntKind.i64 (fld pt0 h (115 : Int)), C.i false
      IntKind.i64 (fld pt0 h (109 : Int)), C.i false IntKind.u32 (IntKind.u32.wrap (fld pt0 h (73 : Int))), C.b true false, C.i false IntKind.i64 (fld pt0 h (116 : Int)), C.i
      false IntKind.i64 (fld pt0 h (97 : Int)), C.b true false, C.b false (fld pt0 h (76 : Int) == (1 : Int)), C.b false (fld pt0 h (66 : Int) == (1 : Int)), C.b false (fld pt0
      h (83 : Int) == (1 : Int)), C.b false (fld pt0 h (80 : Int) == (1 : Int)), C.b false (fld pt0 h (85 : Int) == (1 : Int)), C.b true false, C.b false (fld pt0 h (81 : Int)
      == (1 : Int)), C.i false IntKind.i64 (fld pt0 h (108 : Int)), C.b false (fld pt0 h (75 : Int) == (1 : Int)), C.b false (fld pt0 h (65 : Int) == (1 : Int)), C.b true
      false]))) := by kernel_rfl
theorem dec1 (E : World) (h : Int) (R : SV → Prop) (X : Prop) :
    (loopP (pe E) Try.f9 (fun v _ => R v) (fun todo fr s' => cond (memS s') (X ∧ todo = hd9 E ∧ fr.nt = Try.f9.ntmps ∧ refP fr (lv9 h 2)) False) (run (pe E) (orcT E) (tabL fns) 20000 (2^200-1) (hd9 E) (mkL Try.f9.ntmps (lv9 h 1)) sv9)) =
    (szOK pt1 = true ∧ ((!fits pt1 h) = true → X ∧ hd9 E = hd9 E ∧ (134 : Nat) = (134 : Nat) ∧ (IntKind.u32 = IntKind.u32 ∧ h = h) ∧ C.p (0 : Nat) (0 : Nat) = C.p (0 : Nat) (0
      : Nat) ∧ C.slc (1 : Nat) (0 : Nat) (19 : Nat) (19 : Nat) = C.slc (1 : Nat) (0 : Nat) (19 : Nat) (19 : Nat) ∧ IntKind.i64 = IntKind.i64 ∧ (2 : Int) = (2 : Int)) ∧ ((!fits
      pt1 h) = false → szOK pt1 = true ∧ szOK pt1 = true ∧ szOK pt1 = true ∧ szOK pt1 = true ∧ szOK pt1 = true ∧ szOK pt1 = true ∧ szOK pt1 = true ∧ szOK pt1 = true ∧ szOK pt1 =
      true ∧ szOK pt1 = true ∧ szOK pt1 = true ∧ szOK pt1 = true ∧ szOK pt1 = true ∧ szOK pt1 = true ∧ szOK pt1 = true ∧ szOK pt1 = true ∧ szOK pt1 = true ∧ szOK pt1 = true ∧
      szOK pt1 = true ∧ R (SV.a [C.i true IntKind.i64 (3 : Int), C.i false IntKind.i64 (fld pt1 h (99 : Int)), C.i true IntKind.i64 (0 : Int), C.b false (fld pt1 h (70 : Int) ==
      (1 : Int)), C.i false IntKind.i64 (fld pt1 h (100 : Int)), C.i false IntKind.i64 (fld pt1 h (110 : Int)), C.i false IntKind.i64 (fld pt1 h (115 : Int)), C.i false
      IntKind.i64 (fld pt1 h (109 : Int)), C.i false IntKind.u32 (IntKind.u32.wrap (fld pt1 h (73 : Int))), C.b true false, C.i false IntKind.i64 (fld pt1 h (116 : Int)), C.i
      false IntKind.i64 (fld pt1 h (97 : Int)), C.b true false, C.b false (fld pt1 h (76 : Int) == (1 : Int)), C.b false (fld pt1 h (66 : Int) == (1 : Int)), C.b false (fld pt1
      h (83 : Int) == (1 : Int)), C.b false (fld pt1 h (80 : Int) == (1 : Int)), C.b false (fld pt1 h (85 : Int) == (1 : Int)), C.b true false, C.b false (fld pt1 h (81 : Int)
      == (1 : Int)), C.i false IntKind.i64 (fld pt1 h (108 : Int)), C.b false (fld pt1 h (75 : Int) == (1 : Int)), C.b false (fld pt1 h (65 : Int) == (1 : Int)), C.b true
      false]))) := by kernel_rfl
theorem dec2 (E : World) (h : Int) (R : SV → Prop) (X : Prop) :
    (loopP (pe E) Try.f9 (fun v _ => R v) (fun todo fr s' => cond (memS s') (X ∧ todo = hd9 E ∧ fr.nt = Try.f9.ntmps ∧ refP fr (lv9 h 3)) False) (run (pe E) (orcT E) (tabL fns) 20000 (2^200-1) (hd9 E) (mkL Try.f9.ntmps (lv9 h 2)) sv9)) =
    (szOK pt2 = true ∧ ((!fits pt2 h) = true → X ∧ hd9 E = hd9 E ∧ (134 : Nat) = (134 : Nat) ∧ (IntKind.u32 = IntKind.u32 ∧ h = h) ∧ C.p (0 : Nat) (0 : Nat) = C.p (0 : Nat) (0
      : Nat) ∧ C.slc (1 : Nat) (0 : Nat) (19 : Nat) (19 : Nat) = C.slc (1 : Nat) (0 : Nat) (19 : Nat) (19 : Nat) ∧ IntKind.i64 = IntKind.i64 ∧ (3 : Int) = (3 : Int)) ∧ ((!fits
      pt2 h) = false → szOK pt2 = true ∧ szOK pt2 = true ∧ szOK pt2 = true ∧ szOK pt2 = true ∧ szOK pt2 = true ∧ szOK pt2 = true ∧ szOK pt2 = true ∧ szOK pt2 = true ∧ szOK pt2 =
      true ∧ szOK pt2 = true ∧ szOK pt2 = true ∧ szOK pt2 = true ∧ szOK pt2 = true ∧ szOK pt2 = true ∧ szOK pt2 = true ∧ szOK pt2 = true ∧ szOK pt2 = true ∧ szOK pt2 = true ∧
      szOK pt2 = true ∧ R (SV.a [C.i true IntKind.i64 (4 : Int), C.i false IntKind.i64 (fld pt2 h (99 : Int)), C.i true IntKind.i64 (0 : Int), C.b false (fld pt2 h (70 : Int) ==
      (1 : Int)), C.i false IntKind.i64 (fld pt2 h (100 : Int)), C.i false IntKind.i64 (fld pt2 h (110 : Int)), C.i false IntKind.i64 (fld pt2 h (115 : Int)), C.i false
      IntKind.i64 (fld pt2 h (109 : Int)), C.i false IntKind.u32 (IntKind.u32.wrap (fld pt2 h (73 : Int))), C.b true false, C.i false IntKind.i64 (fld pt2 h (116 : Int)), C.i
      false IntKind.i64 (fld pt2 h (97 : Int)), C.b true false, C.b false (fld pt2 h (76 : Int) == (1 : Int)), C.b false (fld pt2 h (66 : Int) == (1 : Int)), C.b false (fld pt2
      h (83 : Int) == (1 : Int)), C.b false (fld pt2 h (80 : Int) == (1 : Int)), C.b false (fld pt2 h (85 : Int) == (1 : Int)), C.b true false, C.b false (fld pt2 h (81 : Int)
      == (1 : Int)), C.i false IntKind.i64 (fld pt2 h (108 : Int)), C.b false (fld pt2 h (75 : Int) == (1 : Int)), C.b false (fld pt2 h (65 : Int) == (1 : Int)), C.b true
      false]))) := by kernel_rfl
theorem dec3 (E : World) (h : Int) (R : SV → Prop) (X : Prop) :
    (loopP (pe E) Try.f9 (fun v _ => R v) (fun todo fr s' => cond (memS s') (X ∧ todo = hd9 E ∧ fr.nt = Try.f9.ntmps ∧ refP fr (lv9 h 4)) False) (run (pe E) (orcT E) (tabL fns) 20000 (2^200-1) (hd9 E) (mkL Try.f9.ntmps (lv9 h 3)) sv9)) =
    (szOK pt3 = true ∧ ((!fits pt3 h) = true → X ∧ hd9 E = hd9 E ∧ (134 : Nat) = (134 : Nat) ∧ (IntKind.u32 = IntKind.u32 ∧ h = h) ∧ C.p (0 : Nat) (0 : Nat) = C.p (0 : Nat) (0
      : Nat) ∧ C.slc (1 : Nat) (0 : Nat) (19 : Nat) (19 : Nat) = C.slc (1 : Nat) (0 : Nat) (19 : Nat) (19 : Nat) ∧ IntKind.i64 = IntKind.i64 ∧ (4 : Int) = (4 : Int)) ∧ ((!fits
      pt3 h) = false → szOK pt3 = true ∧ szOK pt3 = true ∧ szOK pt3 = true ∧ szOK pt3 = true ∧ szOK pt3 = true ∧ szOK pt3 = true ∧ szOK pt3 = true ∧ szOK pt3 = true ∧ szOK pt3 =
      true ∧ szOK pt3 = true ∧ szOK pt3 = true ∧ szOK pt3 = true ∧ szOK pt3 = true ∧ szOK pt3 = true ∧ szOK pt3 = true ∧ szOK pt3 = true ∧ szOK pt3 = true ∧ szOK pt3 = true ∧
      szOK pt3 = true ∧ szOK pt3 = true ∧ ((fld pt3 h (87 : Int) == (1 : Int)) = true → szOK pt3 = true ∧ ((fld pt3 h (72 : Int) == (0 : Int)) = true → X ∧ hd9 E = hd9 E ∧ (134
      : Nat) = (134 : Nat) ∧ (IntKind.u32 = IntKind.u32 ∧ h = h) ∧ C.p (0 : Nat) (0 : Nat) = C.p (0 : Nat) (0 : Nat) ∧ C.slc (1 : Nat) (0 : Nat) (19 : Nat) (19 : Nat) = C.slc (1
      : Nat) (0 : Nat) (19 : Nat) (19 : Nat) ∧ IntKind.i64 = IntKind.i64 ∧ (4 : Int) = (4 : Int)) ∧ ((fld pt3 h (72 : Int) == (0 : Int)) = false → R (SV.a [C.i true IntKind.i64
      (6 : Int), C.i false IntKind.i64 (fld pt3 h (99 : Int)), C.i false IntKind.i64 (fld pt3 h (72 : Int)), C.b false (fld pt3 h (70 : Int) == (1 : Int)), C.i false IntKind.i64
      (fld pt3 h (100 : Int)), C.i false IntKind.i64 (fld pt3 h (110 : Int)), C.i false IntKind.i64 (fld pt3 h (115 : Int)), C.i false IntKind.i64 (fld pt3 h (109 : Int)), C.i
      false IntKind.u32 (IntKind.u32.wrap (fld pt3 h (73 : Int))), C.b true false, C.i false IntKind.i64 (fld pt3 h (116 : Int)), C.i false IntKind.i64 (fld pt3 h (97 : Int)),
      C.b true false, C.b true true, C.b false (fld pt3 h (66 : Int) == (1 : Int)), C.b false (fld pt3 h (83 : Int) == (1 : Int)), C.b false (fld pt3 h (80 : Int) == (1 : Int)),
      C.b false (fld pt3 h (85 : Int) == (1 : Int)), C.b true true, C.b false (fld pt3 h (81 : Int) == (1 : Int)), C.i false IntKind.i64 (fld pt3 h (108 : Int)), C.b false (fld
      pt3 h (75 : Int) == (1 : Int)), C.b false (fld pt3 h (65 : Int) == (1 : Int)), C.b true false]))) ∧ ((fld pt3 h (87 : Int) == (1 : Int)) = false → szOK pt3 = true ∧ ((fld
      pt3 h (72 : Int) == (0 : Int)) = true → X ∧ hd9 E = hd9 E ∧ (134 : Nat) = (134 : Nat) ∧ (IntKind.u32 = IntKind.u32 ∧ h = h) ∧ C.p (0 : Nat) (0 : Nat) = C.p (0 : Nat) (0 :
      Nat) ∧ C.slc (1 : Nat) (0 : Nat) (19 : Nat) (19 : Nat) = C.slc (1 : Nat) (0 : Nat) (19 : Nat) (19 : Nat) ∧ IntKind.i64 = IntKind.i64 ∧ (4 : Int) = (4 : Int)) ∧ ((fld pt3 h
      (72 : Int) == (0 : Int)) = false → R (SV.a [C.i true IntKind.i64 (6 : Int), C.i false IntKind.i64 (fld pt3 h (99 : Int)), C.i false IntKind.i64 (fld pt3 h (72 : Int)), C.b
      false (fld pt3 h (70 : Int) == (1 : Int)), C.i false IntKind.i64 (fld pt3 h (100 : Int)), C.i false IntKind.i64 (fld pt3 h (110 : Int)), C.i false IntKind.i64 (fld pt3 h
      (115 : Int)), C.i false IntKind.i64 (fld pt3 h (109 : Int)), C.i false IntKind.u32 (IntKind.u32.wrap (fld pt3 h (73 : Int))), C.b true false, C.i false IntKind.i64 (fld
      pt3 h (116 : Int)), C.i false IntKind.i64 (fld pt3 h (97 : Int)), C.b true false, C.b true true, C.b false (fld pt3 h (66 : Int) == (1 : Int)), C.b false (fld pt3 h (83 :
      Int) == (1 : Int)), C.b false (fld pt3 h (80 : Int) == (1 : Int)), C.b false (fld pt3 h (85 : Int) == (1 : Int)), C.b false !fld pt3 h (80 : Int) == (1 : Int), C.b false
      (fld pt3 h (81 : Int) == (1 : Int)), C.i false IntKind.i64 (fld pt3 h (108 : Int)), C.b false (fld pt3 h (75 : Int) == (1 : Int)), C.b false (fld pt3 h (65 : Int) == (1 :
      Int)), C.b true false]))))) := by kernel_rfl
theorem dec4 (E : World) (h : Int) (R : SV → Prop) (X : Prop) :
    (loopP (pe E) Try.f9 (fun v _ => R v) (fun todo fr s' => cond (memS s') (X ∧ todo = hd9 E ∧ fr.nt = Try.f9.ntmps ∧ refP fr (lv9 h 5)) False) (run (pe E) (orcT E) (tabL fns) 20000 (2^200-1) (hd9 E) (mkL Try.f9.ntmps (lv9 h 4)) sv9)) =
    (szOK pt4 = true ∧ ((!fits pt4 h) = true → X ∧ hd9 E = hd9 E ∧ (134 : Nat) = (134 : Nat) ∧ (IntKind.u32 = IntKind.u32 ∧ h = h) ∧ C.p (0 : Nat) (0 : Nat) = C.p (0 : Nat) (0
      : Nat) ∧ C.slc (1 : Nat) (0 : Nat) (19 : Nat) (19 : Nat) = C.slc (1 : Nat) (0 : Nat) (19 : Nat) (19 : Nat) ∧ IntKind.i64 = IntKind.i64 ∧ (5 : Int) = (5 : Int)) ∧ ((!fits
      pt4 h) = false → szOK pt4 = true ∧ szOK pt4 = true ∧ szOK pt4 = true ∧ szOK pt4 = true ∧ szOK pt4 = true ∧ szOK pt4 = true ∧ szOK pt4 = true ∧ szOK pt4 = true ∧ szOK pt4 =
      true ∧ szOK pt4 = true ∧ szOK pt4 = true ∧ szOK pt4 = true ∧ szOK pt4 = true ∧ szOK pt4 = true ∧ szOK pt4 = true ∧ szOK pt4 = true ∧ szOK pt4 = true ∧ szOK pt4 = true ∧
      szOK pt4 = true ∧ szOK pt4 = true ∧ ((fld pt4 h (87 : Int) == (1 : Int)) = true → R (SV.a [C.i true IntKind.i64 (6 : Int), C.i false IntKind.i64 (fld pt4 h (99 : Int)),
      C.i true IntKind.i64 (1 : Int), C.b false (fld pt4 h (70 : Int) == (1 : Int)), C.i false IntKind.i64 (fld pt4 h (100 : Int)), C.i false IntKind.i64 (fld pt4 h (110 :
      Int)), C.i false IntKind.i64 (fld pt4 h (115 : Int)), C.i false IntKind.i64 (fld pt4 h (109 : Int)), C.i false IntKind.u32 (IntKind.u32.wrap (fld pt4 h (73 : Int))), C.b
      true false, C.i false IntKind.i64 (fld pt4 h (116 : Int)), C.i false IntKind.i64 (fld pt4 h (97 : Int)), C.b true false, C.b true false, C.b false (fld pt4 h (66 : Int) ==
      (1 : Int)), C.b false (fld pt4 h (83 : Int) == (1 : Int)), C.b false (fld pt4 h (80 : Int) == (1 : Int)), C.b false (fld pt4 h (85 : Int) == (1 : Int)), C.b true true, C.b
      false (fld pt4 h (81 : Int) == (1 : Int)), C.i false IntKind.i64 (fld pt4 h (108 : Int)), C.b false (fld pt4 h (75 : Int) == (1 : Int)), C.b false (fld pt4 h (65 : Int) ==
      (1 : Int)), C.b true false])) ∧ ((fld pt4 h (87 : Int) == (1 : Int)) = false → R (SV.a [C.i true IntKind.i64 (6 : Int), C.i false IntKind.i64 (fld pt4 h (99 : Int)), C.i
      true IntKind.i64 (1 : Int), C.b false (fld pt4 h (70 : Int) == (1 : Int)), C.i false IntKind.i64 (fld pt4 h (100 : Int)), C.i false IntKind.i64 (fld pt4 h (110 : Int)),
      C.i false IntKind.i64 (fld pt4 h (115 : Int)), C.i false IntKind.i64 (fld pt4 h (109 : Int)), C.i false IntKind.u32 (IntKind.u32.wrap (fld pt4 h (73 : Int))), C.b true
      false, C.i false IntKind.i64 (fld pt4 h (116 : Int)), C.i false IntKind.i64 (fld pt4 h (97 : Int)), C.b true false, C.b true false, C.b false (fld pt4 h (66 : Int) == (1 :
      Int)), C.b false (fld pt4 h (83 : Int) == (1 : Int)), C.b false (fld pt4 h (80 : Int) == (1 : Int)), C.b false (fld pt4 h (85 : Int) == (1 : Int)), C.b false !fld pt4 h
      (80 : Int) == (1 : Int), C.b false (fld pt4 h (81 : Int) == (1 : Int)), C.i false IntKind.i64 (fld pt4 h (108 : Int)), C.b false (fld pt4 h (75 : Int) == (1 : Int)), C.b
      false (fld pt4 h (65 : Int) == (1 : Int)), C.b true false])))) := by kernel_rfl
theorem dec5 (E : World) (h : Int) (R : SV → Prop) (X : Prop) :
    (loopP (pe E) Try.f9 (fun v _ => R v) (fun todo fr s' => cond (memS s') (X ∧ todo = hd9 E ∧ fr.nt = Try.f9.ntmps ∧ refP fr (lv9 h 6)) False) (run (pe E) (orcT E) (tabL fns) 20000 (2^200-1) (hd9 E) (mkL Try.f9.ntmps (lv9 h 5)) sv9)) =
    (szOK pt5 = true ∧ ((!fits pt5 h) = true → X ∧ hd9 E = hd9 E ∧ (134 : Nat) = (134 : Nat) ∧ (IntKind.u32 = IntKind.u32 ∧ h = h) ∧ C.p (0 : Nat) (0 : Nat) = C.p (0 : Nat) (0
      : Nat) ∧ C.slc (1 : Nat) (0 : Nat) (19 : Nat) (19 : Nat) = C.slc (1 : Nat) (0 : Nat) (19 : Nat) (19 : Nat) ∧ IntKind.i64 = IntKind.i64 ∧ (6 : Int) = (6 : Int)) ∧ ((!fits
      pt5 h) = false → szOK pt5 = true ∧ szOK pt5 = true ∧ szOK pt5 = true ∧ szOK pt5 = true ∧ szOK pt5 = true ∧ szOK pt5 = true ∧ szOK pt5 = true ∧ szOK pt5 = true ∧ szOK pt5 =
      true ∧ szOK pt5 = true ∧ szOK pt5 = true ∧ szOK pt5 = true ∧ szOK pt5 = true ∧ szOK pt5 = true ∧ szOK pt5 = true ∧ szOK pt5 = true ∧ szOK pt5 = true ∧ szOK pt5 = true ∧
      szOK pt5 = true ∧ szOK pt5 = true ∧ ((fld pt5 h (87 : Int) == (1 : Int)) = true → szOK pt5 = true ∧ ((fld pt5 h (72 : Int) == (0 : Int)) = true → X ∧ hd9 E = hd9 E ∧ (134
      : Nat) = (134 : Nat) ∧ (IntKind.u32 = IntKind.u32 ∧ h = h) ∧ C.p (0 : Nat) (0 : Nat) = C.p (0 : Nat) (0 : Nat) ∧ C.slc (1 : Nat) (0 : Nat) (19 : Nat) (19 : Nat) = C.slc (1
      : Nat) (0 : Nat) (19 : Nat) (19 : Nat) ∧ IntKind.i64 = IntKind.i64 ∧ (6 : Int) = (6 : Int)) ∧ ((fld pt5 h (72 : Int) == (0 : Int)) = false → R (SV.a [C.i true IntKind.i64
      (6 : Int), C.i false IntKind.i64 (fld pt5 h (99 : Int)), C.i false IntKind.i64 (fld pt5 h (72 : Int)), C.b false (fld pt5 h (70 : Int) == (1 : Int)), C.i false IntKind.i64
      (fld pt5 h (100 : Int)), C.i false IntKind.i64 (fld pt5 h (110 : Int)), C.i false IntKind.i64 (fld pt5 h (115 : Int)), C.i false IntKind.i64 (fld pt5 h (109 : Int)), C.i
      false IntKind.u32 (IntKind.u32.wrap (fld pt5 h (73 : Int))), C.b true true, C.i false IntKind.i64 (fld pt5 h (116 : Int)), C.i false IntKind.i64 (fld pt5 h (97 : Int)),
      C.b true false, C.b true true, C.b false (fld pt5 h (66 : Int) == (1 : Int)), C.b false (fld pt5 h (83 : Int) == (1 : Int)), C.b false (fld pt5 h (80 : Int) == (1 : Int)),
      C.b false (fld pt5 h (85 : Int) == (1 : Int)), C.b true true, C.b false (fld pt5 h (81 : Int) == (1 : Int)), C.i false IntKind.i64 (fld pt5 h (108 : Int)), C.b false (fld
      pt5 h (75 : Int) == (1 : Int)), C.b false (fld pt5 h (65 : Int) == (1 : Int)), C.b true false]))) ∧ ((fld pt5 h (87 : Int) == (1 : Int)) = false → szOK pt5 = true ∧ ((fld
      pt5 h (72 : Int) == (0 : Int)) = true → X ∧ hd9 E = hd9 E ∧ (134 : Nat) = (134 : Nat) ∧ (IntKind.u32 = IntKind.u32 ∧ h = h) ∧ C.p (0 : Nat) (0 : Nat) = C.p (0 : Nat) (0 :
      Nat) ∧ C.slc (1 : Nat) (0 : Nat) (19 : Nat) (19 : Nat) = C.slc (1 : Nat) (0 : Nat) (19 : Nat) (19 : Nat) ∧ IntKind.i64 = IntKind.i64 ∧ (6 : Int) = (6 : Int)) ∧ ((fld pt5 h
      (72 : Int) == (0 : Int)) = false → R (SV.a [C.i true IntKind.i64 (6 : Int), C.i false IntKind.i64 (fld pt5 h (99 : Int)), C.i false IntKind.i64 (fld pt5 h (72 : Int)), C.b
      false (fld pt5 h (70 : Int) == (1 : Int)), C.i false IntKind.i64 (fld pt5 h (100 : Int)), C.i false IntKind.i64 (fld pt5 h (110 : Int)), C.i false IntKind.i64 (fld pt5 h
      (115 : Int)), C.i false IntKind.i64 (fld pt5 h (109 : Int)), C.i false IntKind.u32 (IntKind.u32.wrap (fld pt5 h (73 : Int))), C.b true true, C.i false IntKind.i64 (fld pt5
      h (116 : Int)), C.i false IntKind.i64 (fld pt5 h (97 : Int)), C.b true false, C.b true true, C.b false (fld pt5 h (66 : Int) == (1 : Int)), C.b false (fld pt5 h (83 : Int)
      == (1 : Int)), C.b false (fld pt5 h (80 : Int) == (1 : Int)), C.b false (fld pt5 h (85 : Int) == (1 : Int)), C.b false !fld pt5 h (80 : Int) == (1 : Int), C.b false (fld
      pt5 h (81 : Int) == (1 : Int)), C.i false IntKind.i64 (fld pt5 h (108 : Int)), C.b false (fld pt5 h (75 : Int) == (1 : Int)), C.b false (fld pt5 h (65 : Int) == (1 :
      Int)), C.b true false]))))) := by kernel_rfl
theorem dec6 (E : World) (h : Int) (R : SV → Prop) (X : Prop) :
    (loopP (pe E) Try.f9 (fun v _ => R v) (fun todo fr s' => cond (memS s') (X ∧ todo = hd9 E ∧ fr.nt = Try.f9.ntmps ∧ refP fr (lv9 h 7)) False) (run (pe E) (orcT E) (tabL fns) 20000 (2^200-1) (hd9 E) (mkL Try.f9.ntmps (lv9 h 6)) sv9)) =
    (szOK pt6 = true ∧ ((!fits pt6 h) = true → X ∧ hd9 E = hd9 E ∧ (134 : Nat) = (134 : Nat) ∧ (IntKind.u32 = IntKind.u32 ∧ h = h) ∧ C.p (0 : Nat) (0 : Nat) = C.p (0 : Nat) (0
      : Nat) ∧ C.slc (1 : Nat) (0 : Nat) (19 : Nat) (19 : Nat) = C.slc (1 : Nat) (0 : Nat) (19 : Nat) (19 : Nat) ∧ IntKind.i64 = IntKind.i64 ∧ (7 : Int) = (7 : Int)) ∧ ((!fits
      pt6 h) = false → szOK pt6 = true ∧ szOK pt6 = true ∧ szOK pt6 = true ∧ szOK pt6 = true ∧ szOK pt6 = true ∧ szOK pt6 = true ∧ szOK pt6 = true ∧ szOK pt6 = true ∧ szOK pt6 =
      true ∧ szOK pt6 = true ∧ szOK pt6 = true ∧ szOK pt6 = true ∧ szOK pt6 = true ∧ szOK pt6 = true ∧ szOK pt6 = true ∧ szOK pt6 = true ∧ szOK pt6 = true ∧ szOK pt6 = true ∧
      szOK pt6 = true ∧ szOK pt6 = true ∧ ((fld pt6 h (87 : Int) == (1 : Int)) = true → R (SV.a [C.i true IntKind.i64 (6 : Int), C.i false IntKind.i64 (fld pt6 h (99 : Int)),
      C.i true IntKind.i64 (1 : Int), C.b false (fld pt6 h (70 : Int) == (1 : Int)), C.i false IntKind.i64 (fld pt6 h (100 : Int)), C.i false IntKind.i64 (fld pt6 h (110 :
      Int)), C.i false IntKind.i64 (fld pt6 h (115 : Int)), C.i false IntKind.i64 (fld pt6 h (109 : Int)), C.i false IntKind.u32 (IntKind.u32.wrap (fld pt6 h (73 : Int))), C.b
      true true, C.i false IntKind.i64 (fld pt6 h (116 : Int)), C.i false IntKind.i64 (fld pt6 h (97 : Int)), C.b true false, C.b true false, C.b false (fld pt6 h (66 : Int) ==
      (1 : Int)), C.b false (fld pt6 h (83 : Int) == (1 : Int)), C.b false (fld pt6 h (80 : Int) == (1 : Int)), C.b false (fld pt6 h (85 : Int) == (1 : Int)), C.b true true, C.b
      false (fld pt6 h (81 : Int) == (1 : Int)), C.i false IntKind.i64 (fld pt6 h (108 : Int)), C.b false (fld pt6 h (75 : Int) == (1 : Int)), C.b false (fld pt6 h (65 : Int) ==
      (1 : Int)), C.b true false])) ∧ ((fld pt6 h (87 : Int) == (1 : Int)) = false → R (SV.a [C.i true IntKind.i64 (6 : Int), C.i false IntKind.i64 (fld pt6 h (99 : Int)), C.i
      true IntKind.i64 (1 : Int), C.b false (fld pt6 h (70 : Int) == (1 : Int)), C.i false IntKind.i64 (fld pt6 h (100 : Int)), C.i false IntKind.i64 (fld pt6 h (110 : Int)),
      C.i false IntKind.i64 (fld pt6 h (115 : Int)), C.i false IntKind.i64 (fld pt6 h (109 : Int)), C.i false IntKind.u32 (IntKind.u32.wrap (fld pt6 h (73 : Int))), C.b true
      true, C.i false IntKind.i64 (fld pt6 h (116 : Int)), C.i false IntKind.i64 (fld pt6 h (97 : Int)), C.b true false, C.b true false, C.b false (fld pt6 h (66 : Int) == (1 :
      Int)), C.b false (fld pt6 h (83 : Int) == (1 : Int)), C.b false (fld pt6 h (80 : Int) == (1 : Int)), C.b false (fld pt6 h (85 : Int) == (1 : Int)), C.b false !fld pt6 h
      (80 : Int) == (1 : Int), C.b false (fld pt6 h (81 : Int) == (1 : Int)), C.i false IntKind.i64 (fld pt6 h (108 : Int)), C.b false (fld pt6 h (75 : Int) == (1 : Int)), C.b
      false (fld pt6 h (65 : Int) == (1 : Int)), C.b true false])))) := by kernel_rfl
theorem dec7 (E : World) (h : Int) (R : SV → Prop) (X : Prop) :
    (loopP (pe E) Try.f9 (fun v _ => R v) (fun todo fr s' => cond (memS s') (X ∧ todo = hd9 E ∧ fr.nt = Try.f9.ntmps ∧ refP fr (lv9 h 8)) False) (run (pe E) (orcT E) (tabL fns) 20000 (2^200-1) (hd9 E) (mkL Try.f9.ntmps (lv9 h 7)) sv9)) =
    (szOK pt7 = true ∧ ((!fits pt7 h) = true → X ∧ hd9 E = hd9 E ∧ (134 : Nat) = (134 : Nat) ∧ (IntKind.u32 = IntKind.u32 ∧ h = h) ∧ C.p (0 : Nat) (0 : Nat) = C.p (0 : Nat) (0
      : Nat) ∧ C.slc (1 : Nat) (0 : Nat) (19 : Nat) (19 : Nat) = C.slc (1 : Nat) (0 : Nat) (19 : Nat) (19 : Nat) ∧ IntKind.i64 = IntKind.i64 ∧ (8 : Int) = (8 : Int)) ∧ ((!fits
      pt7 h) = false → szOK pt7 = true ∧ szOK pt7 = true ∧ szOK pt7 = true ∧ szOK pt7 = true ∧ szOK pt7 = true ∧ szOK pt7 = true ∧ szOK pt7 = true ∧ szOK pt7 = true ∧ szOK pt7 =
      true ∧ szOK pt7 = true ∧ szOK pt7 = true ∧ szOK pt7 = true ∧ szOK pt7 = true ∧ szOK pt7 = true ∧ szOK pt7 = true ∧ szOK pt7 = true ∧ szOK pt7 = true ∧ szOK pt7 = true ∧
      szOK pt7 = true ∧ R (SV.a [C.i true IntKind.i64 (5 : Int), C.i false IntKind.i64 (fld pt7 h (99 : Int)), C.i true IntKind.i64 (0 : Int), C.b false (fld pt7 h (70 : Int) ==
      (1 : Int)), C.i false IntKind.i64 (fld pt7 h (100 : Int)), C.i false IntKind.i64 (fld pt7 h (110 : Int)), C.i false IntKind.i64 (fld pt7 h (115 : Int)), C.i false
      IntKind.i64 (fld pt7 h (109 : Int)), C.i false IntKind.u32 (IntKind.u32.wrap (fld pt7 h (73 : Int))), C.b true false, C.i false IntKind.i64 (fld pt7 h (116 : Int)), C.i
      false IntKind.i64 (fld pt7 h (97 : Int)), C.b true false, C.b false (fld pt7 h (76 : Int) == (1 : Int)), C.b false (fld pt7 h (66 : Int) == (1 : Int)), C.b false (fld pt7
      h (83 : Int) == (1 : Int)), C.b false (fld pt7 h (80 : Int) == (1 : Int)), C.b false (fld pt7 h (85 : Int) == (1 : Int)), C.b true false, C.b false (fld pt7 h (81 : Int)
      == (1 : Int)), C.i false IntKind.i64 (fld pt7 h (108 : Int)), C.b false (fld pt7 h (75 : Int) == (1 : Int)), C.b false (fld pt7 h (65 : Int) == (1 : Int)), C.b true
      false]))) := by kernel_rfl
theorem dec8 (E : World) (h : Int) (R : SV → Prop) (X : Prop) :
    (loopP (pe E) Try.f9 (fun v _ => R v) (fun todo fr s' => cond (memS s') (X ∧ todo = hd9 E ∧ fr.nt = Try.f9.ntmps ∧ refP fr (lv9 h 9)) False) (run (pe E) (orcT E) (tabL fns) 20000 (2^200-1) (hd9 E) (mkL Try.f9.ntmps (lv9 h 8)) sv9)) =
    (szOK pt8 = true ∧ ((!fits pt8 h) = true → X ∧ hd9 E = hd9 E ∧ (134 : Nat) = (134 : Nat) ∧ (IntKind.u32 = IntKind.u32 ∧ h = h) ∧ C.p (0 : Nat) (0 : Nat) = C.p (0 : Nat) (0
      : Nat) ∧ C.slc (1 : Nat) (0 : Nat) (19 : Nat) (19 : Nat) = C.slc (1 : Nat) (0 : Nat) (19 : Nat) (19 : Nat) ∧ IntKind.i64 = IntKind.i64 ∧ (9 : Int) = (9 : Int)) ∧ ((!fits
      pt8 h) = false → szOK pt8 = true ∧ szOK pt8 = true ∧ szOK pt8 = true ∧ szOK pt8 = true ∧ szOK pt8 = true ∧ szOK pt8 = true ∧ szOK pt8 = true ∧ szOK pt8 = true ∧ szOK pt8 =
      true ∧ szOK pt8 = true ∧ szOK pt8 = true ∧ szOK pt8 = true ∧ szOK pt8 = true ∧ szOK pt8 = true ∧ szOK pt8 = true ∧ szOK pt8 = true ∧ szOK pt8 = true ∧ szOK pt8 = true ∧
      szOK pt8 = true ∧ R (SV.a [C.i true IntKind.i64 (11 : Int), C.i false IntKind.i64 (fld pt8 h (99 : Int)), C.i true IntKind.i64 (0 : Int), C.b false (fld pt8 h (70 : Int)
      == (1 : Int)), C.i false IntKind.i64 (fld pt8 h (100 : Int)), C.i false IntKind.i64 (fld pt8 h (110 : Int)), C.i false IntKind.i64 (fld pt8 h (115 : Int)), C.i false
      IntKind.i64 (fld pt8 h (109 : Int)), C.i false IntKind.u32 (IntKind.u32.wrap (fld pt8 h (73 : Int))), C.b true false, C.i false IntKind.i64 (fld pt8 h (116 : Int)), C.i
      false IntKind.i64 (fld pt8 h (97 : Int)), C.b true false, C.b false (fld pt8 h (76 : Int) == (1 : Int)), C.b false (fld pt8 h (66 : Int) == (1 : Int)), C.b false (fld pt8
      h (83 : Int) == (1 : Int)), C.b false (fld pt8 h (80 : Int) == (1 : Int)), C.b false (fld pt8 h (85 : Int) == (1 : Int)), C.b true false, C.b false (fld pt8 h (81 : Int)
      == (1 : Int)), C.i false IntKind.i64 (fld pt8 h (108 : Int)), C.b false (fld pt8 h (75 : Int) == (1 : Int)), C.b false (fld pt8 h (65 : Int) == (1 : Int)), C.b true
      false]))) := by kernel_rfl
theorem dec9 (E : World) (h : Int) (R : SV → Prop) (X : Prop) :
    (loopP (pe E) Try.f9 (fun v _ => R v) (fun todo fr s' => cond (memS s') (X ∧ todo = hd9 E ∧ fr.nt = Try.f9.ntmps ∧ refP fr (lv9 h 10)) False) (run (pe E) (orcT E) (tabL fns) 20000 (2^200-1) (hd9 E) (mkL Try.f9.ntmps (lv9 h 9)) sv9)) =
    (szOK pt9 = true ∧ ((!fits pt9 h) = true → X ∧ hd9 E = hd9 E ∧ (134 : Nat) = (134 : Nat) ∧ (IntKind.u32 = IntKind.u32 ∧ h = h) ∧ C.p (0 : Nat) (0 : Nat) = C.p (0 : Nat) (0
      : Nat) ∧ C.slc (1 : Nat) (0 : Nat) (19 : Nat) (19 : Nat) = C.slc (1 : Nat) (0 : Nat) (19 : Nat) (19 : Nat) ∧ IntKind.i64 = IntKind.i64 ∧ (10 : Int) = (10 : Int)) ∧ ((!fits
      pt9 h) = false → szOK pt9 = true ∧ szOK pt9 = true ∧ szOK pt9 = true ∧ szOK pt9 = true ∧ szOK pt9 = true ∧ szOK pt9 = true ∧ szOK pt9 = true ∧ szOK pt9 = true ∧ szOK pt9 =
      true ∧ szOK pt9 = true ∧ szOK pt9 = true ∧ szOK pt9 = true ∧ szOK pt9 = true ∧ szOK pt9 = true ∧ szOK pt9 = true ∧ szOK pt9 = true ∧ szOK pt9 = true ∧ szOK pt9 = true ∧
      szOK pt9 = true ∧ R (SV.a [C.i true IntKind.i64 (12 : Int), C.i false IntKind.i64 (fld pt9 h (99 : Int)), C.i true IntKind.i64 (0 : Int), C.b false (fld pt9 h (70 : Int)
      == (1 : Int)), C.i false IntKind.i64 (fld pt9 h (100 : Int)), C.i false IntKind.i64 (fld pt9 h (110 : Int)), C.i false IntKind.i64 (fld pt9 h (115 : Int)), C.i false
      IntKind.i64 (fld pt9 h (109 : Int)), C.i false IntKind.u32 (IntKind.u32.wrap (fld pt9 h (73 : Int))), C.b true false, C.i false IntKind.i64 (fld pt9 h (116 : Int)), C.i
      false IntKind.i64 (fld pt9 h (97 : Int)), C.b true false, C.b false (fld pt9 h (76 : Int) == (1 : Int)), C.b false (fld pt9 h (66 : Int) == (1 : Int)), C.b false (fld pt9
      h (83 : Int) == (1 : Int)), C.b false (fld pt9 h (80 : Int) == (1 : Int)), C.b false (fld pt9 h (85 : Int) == (1 : Int)), C.b true false, C.b false (fld pt9 h (81 : Int)
      == (1 : Int)), C.i false IntKind.i64 (fld pt9 h (108 : Int)), C.b false (fld pt9 h (75 : Int) == (1 : Int)), C.b false (fld pt9 h (65 : Int) == (1 : Int)), C.b true
      false]))) := by kernel_rfl
theorem dec10 (E : World) (h : Int) (R : SV → Prop) (X : Prop) :
    (loopP (pe E) Try.f9 (fun v _ => R v) (fun todo fr s' => cond (memS s') (X ∧ todo = hd9 E ∧ fr.nt = Try.f9.ntmps ∧ refP fr (lv9 h 11)) False) (run (pe E) (orcT E) (tabL fns) 20000 (2^200-1) (hd9 E) (mkL Try.f9.ntmps (lv9 h 10)) sv9)) =
    (szOK pt10 = true ∧ ((!fits pt10 h) = true → X ∧ hd9 E = hd9 E ∧ (134 : Nat) = (134 : Nat) ∧ (IntKind.u32 = IntKind.u32 ∧ h = h) ∧ C.p (0 : Nat) (0 : Nat) = C.p (0 : Nat)
      (0 : Nat) ∧ C.slc (1 : Nat) (0 : Nat) (19 : Nat) (19 : Nat) = C.slc (1 : Nat) (0 : Nat) (19 : Nat) (19 : Nat) ∧ IntKind.i64 = IntKind.i64 ∧ (11 : Int) = (11 : Int)) ∧
      ((!fits pt10 h) = false → szOK pt10 = true ∧ szOK pt10 = true ∧ szOK pt10 = true ∧ szOK pt10 = true ∧ szOK pt10 = true ∧ szOK pt10 = true ∧ szOK pt10 = true ∧ szOK pt10 =
      true ∧ szOK pt10 = true ∧ szOK pt10 = true ∧ szOK pt10 = true ∧ szOK pt10 = true ∧ szOK pt10 = true ∧ szOK pt10 = true ∧ szOK pt10 = true ∧ szOK pt10 = true ∧ szOK pt10 =
      true ∧ szOK pt10 = true ∧ szOK pt10 = true ∧ R (SV.a [C.i true IntKind.i64 (12 : Int), C.i false IntKind.i64 (fld pt10 h (99 : Int)), C.i true IntKind.i64 (0 : Int), C.b
      false (fld pt10 h (70 : Int) == (1 : Int)), C.i false IntKind.i64 (fld pt10 h (100 : Int)), C.i false IntKind.i64 (fld pt10 h (110 : Int)), C.i false IntKind.i64 (fld pt10
      h (115 : Int)), C.i false IntKind.i64 (fld pt10 h (109 : Int)), C.i false IntKind.u32 (IntKind.u32.wrap (fld pt10 h (73 : Int))), C.b true true, C.i false IntKind.i64 (fld
      pt10 h (116 : Int)), C.i false IntKind.i64 (fld pt10 h (97 : Int)), C.b true false, C.b false (fld pt10 h (76 : Int) == (1 : Int)), C.b false (fld pt10 h (66 : Int) == (1
      : Int)), C.b false (fld pt10 h (83 : Int) == (1 : Int)), C.b false (fld pt10 h (80 : Int) == (1 : Int)), C.b false (fld pt10 h (85 : Int) == (1 : Int)), C.b true false,
      C.b false (fld pt10 h (81 : Int) == (1 : Int)), C.i false IntKind.i64 (fld pt10 h (108 : Int)), C.b false (fld pt10 h (75 : Int) == (1 : Int)), C.b false (fld pt10 h (65 :
      Int) == (1 : Int)), C.b true false]))) := by kernel_rfl
theorem dec11 (E : World) (h : Int) (R : SV → Prop) (X : Prop) :
    (loopP (pe E) Try.f9 (fun v _ => R v) (fun todo fr s' => cond (memS s') (X ∧ todo = hd9 E ∧ fr.nt = Try.f9.ntmps ∧ refP fr (lv9 h 12)) False) (run (pe E) (orcT E) (tabL fns) 20000 (2^200-1) (hd9 E) (mkL Try.f9.ntmps (lv9 h 11)) sv9)) =
    (szOK pt11 = true ∧ ((!fits pt11 h) = true → X ∧ hd9 E = hd9 E ∧ (134 : Nat) = (134 : Nat) ∧ (IntKind.u32 = IntKind.u32 ∧ h = h) ∧ C.p (0 : Nat) (0 : Nat) = C.p (0 : Nat)
      (0 : Nat) ∧ C.slc (1 : Nat) (0 : Nat) (19 : Nat) (19 : Nat) = C.slc (1 : Nat) (0 : Nat) (19 : Nat) (19 : Nat) ∧ IntKind.i64 = IntKind.i64 ∧ (12 : Int) = (12 : Int)) ∧
      ((!fits pt11 h) = false → szOK pt11 = true ∧ szOK pt11 = true ∧ szOK pt11 = true ∧ szOK pt11 = true ∧ szOK pt11 = true ∧ szOK pt11 = true ∧ szOK pt11 = true ∧ szOK pt11 =
      true ∧ szOK pt11 = true ∧ szOK pt11 = true ∧ szOK pt11 = true ∧ szOK pt11 = true ∧ szOK pt11 = true ∧ szOK pt11 = true ∧ szOK pt11 = true ∧ szOK pt11 = true ∧ szOK pt11 =
      true ∧ szOK pt11 = true ∧ szOK pt11 = true ∧ ((bif bif decide (fld pt11 h (111 : Int) ≥ (8 : Int)) then decide (fld pt11 h (111 : Int) ≤ (11 : Int)) else false then !fld
      pt11 h (70 : Int) == (1 : Int) else false) = true → X ∧ hd9 E = hd9 E ∧ (134 : Nat) = (134 : Nat) ∧ (IntKind.u32 = IntKind.u32 ∧ h = h) ∧ C.p (0 : Nat) (0 : Nat) = C.p (0
      : Nat) (0 : Nat) ∧ C.slc (1 : Nat) (0 : Nat) (19 : Nat) (19 : Nat) = C.slc (1 : Nat) (0 : Nat) (19 : Nat) (19 : Nat) ∧ IntKind.i64 = IntKind.i64 ∧ (12 : Int) = (12 : Int))
      ∧ ((bif bif decide (fld pt11 h (111 : Int) ≥ (8 : Int)) then decide (fld pt11 h (111 : Int) ≤ (11 : Int)) else false then !fld pt11 h (70 : Int) == (1 : Int) else false) =
      false → R (SV.a [C.i true IntKind.i64 (1 : Int), C.i false IntKind.i64 (fld pt11 h (99 : Int)), C.i false IntKind.i64 (fld pt11 h (111 : Int)), C.b false (fld pt11 h (70 :
      Int) == (1 : Int)), C.i false IntKind.i64 (fld pt11 h (100 : Int)), C.i false IntKind.i64 (fld pt11 h (110 : Int)), C.i false IntKind.i64 (fld pt11 h (115 : Int)), C.i
      false IntKind.i64 (fld pt11 h (109 : Int)), C.i false IntKind.u32 (IntKind.u32.wrap (fld pt11 h (73 : Int))), C.b true false, C.i false IntKind.i64 (fld pt11 h (116 :
      Int)), C.i false IntKind.i64 (fld pt11 h (97 : Int)), C.b true false, C.b false (fld pt11 h (76 : Int) == (1 : Int)), C.b false (fld pt11 h (66 : Int) == (1 : Int)), C.b
      false (fld pt11 h (83 : Int) == (1 : Int)), C.b false (fld pt11 h (80 : Int) == (1 : Int)), C.b false (fld pt11 h (85 : Int) == (1 : Int)), C.b true false, C.b false (fld
      pt11 h (81 : Int) == (1 : Int)), C.i false IntKind.i64 (fld pt11 h (108 : Int)), C.b false (fld pt11 h (75 : Int) == (1 : Int)), C.b false (fld pt11 h (65 : Int) == (1 :
      Int)), C.b true false])))) := by kernel_rfl
theorem dec12 (E : World) (h : Int) (R : SV → Prop) (X : Prop) :
    (loopP (pe E) Try.f9 (fun v _ => R v) (fun todo fr s' => cond (memS s') (X ∧ todo = hd9 E ∧ fr.nt = Try.f9.ntmps ∧ refP fr (lv9 h 13)) False) (run (pe E) (orcT E) (tabL fns) 20000 (2^200-1) (hd9 E) (mkL Try.f9.ntmps (lv9 h 12)) sv9)) =
    (szOK pt12 = true ∧ ((!fits pt12 h) = true → X ∧ hd9 E = hd9 E ∧ (134 : Nat) = (134 : Nat) ∧ (IntKind.u32 = IntKind.u32 ∧ h = h) ∧ C.p (0 : Nat) (0 : Nat) = C.p (0 : Nat)
      (0 : Nat) ∧ C.slc (1 : Nat) (0 : Nat) (19 : Nat) (19 : Nat) = C.slc (1 : Nat) (0 : Nat) (19 : Nat) (19 : Nat) ∧ IntKind.i64 = IntKind.i64 ∧ (13 : Int) = (13 : Int)) ∧
      ((!fits pt12 h) = false → szOK pt12 = true ∧ szOK pt12 = true ∧ szOK pt12 = true ∧ szOK pt12 = true ∧ szOK pt12 = true ∧ szOK pt12 = true ∧ szOK pt12 = true ∧ szOK pt12 =
      true ∧ szOK pt12 = true ∧ szOK pt12 = true ∧ szOK pt12 = true ∧ szOK pt12 = true ∧ szOK pt12 = true ∧ szOK pt12 = true ∧ szOK pt12 = true ∧ szOK pt12 = true ∧ szOK pt12 =
      true ∧ szOK pt12 = true ∧ szOK pt12 = true ∧ ((bif bif decide (fld pt12 h (111 : Int) ≥ (8 : Int)) then decide (fld pt12 h (111 : Int) ≤ (11 : Int)) else false then !fld
      pt12 h (70 : Int) == (1 : Int) else false) = true → X ∧ hd9 E = hd9 E ∧ (134 : Nat) = (134 : Nat) ∧ (IntKind.u32 = IntKind.u32 ∧ h = h) ∧ C.p (0 : Nat) (0 : Nat) = C.p (0
      : Nat) (0 : Nat) ∧ C.slc (1 : Nat) (0 : Nat) (19 : Nat) (19 : Nat) = C.slc (1 : Nat) (0 : Nat) (19 : Nat) (19 : Nat) ∧ IntKind.i64 = IntKind.i64 ∧ (13 : Int) = (13 : Int))
      ∧ ((bif bif decide (fld pt12 h (111 : Int) ≥ (8 : Int)) then decide (fld pt12 h (111 : Int) ≤ (11 : Int)) else false then !fld pt12 h (70 : Int) == (1 : Int) else false) =
      false → R (SV.a [C.i true IntKind.i64 (1 : Int), C.i false IntKind.i64 (fld pt12 h (99 : Int)), C.i false IntKind.i64 (fld pt12 h (111 : Int)), C.b false (fld pt12 h (70 :
      Int) == (1 : Int)), C.i false IntKind.i64 (fld pt12 h (100 : Int)), C.i false IntKind.i64 (fld pt12 h (110 : Int)), C.i false IntKind.i64 (fld pt12 h (115 : Int)), C.i
      false IntKind.i64 (fld pt12 h (109 : Int)), C.i false IntKind.u32 (IntKind.u32.wrap (fld pt12 h (73 : Int))), C.b true false, C.i false IntKind.i64 (fld pt12 h (116 :
      Int)), C.i false IntKind.i64 (fld pt12 h (97 : Int)), C.b true true, C.b false (fld pt12 h (76 : Int) == (1 : Int)), C.b false (fld pt12 h (66 : Int) == (1 : Int)), C.b
      false (fld pt12 h (83 : Int) == (1 : Int)), C.b false (fld pt12 h (80 : Int) == (1 : Int)), C.b false (fld pt12 h (85 : Int) == (1 : Int)), C.b true false, C.b false (fld
      pt12 h (81 : Int) == (1 : Int)), C.i false IntKind.i64 (fld pt12 h (108 : Int)), C.b false (fld pt12 h (75 : Int) == (1 : Int)), C.b false (fld pt12 h (65 : Int) == (1 :
      Int)), C.b true false])))) := by kernel_rfl
theorem dec13 (E : World) (h : Int) (R : SV → Prop) (X : Prop) :
    (loopP (pe E) Try.f9 (fun v _ => R v) (fun todo fr s' => cond (memS s') (X ∧ todo = hd9 E ∧ fr.nt = Try.f9.ntmps ∧ refP fr (lv9 h 14)) False) (run (pe E) (orcT E) (tabL fns) 20000 (2^200-1) (hd9 E) (mkL Try.f9.ntmps (lv9 h 13)) sv9)) =
    (szOK pt13 = true ∧ ((!fits pt13 h) = true → X ∧ hd9 E = hd9 E ∧ (134 : Nat) = (134 : Nat) ∧ (IntKind.u32 = IntKind.u32 ∧ h = h) ∧ C.p (0 : Nat) (0 : Nat) = C.p (0 : Nat)
      (0 : Nat) ∧ C.slc (1 : Nat) (0 : Nat) (19 : Nat) (19 : Nat) = C.slc (1 : Nat) (0 : Nat) (19 : Nat) (19 : Nat) ∧ IntKind.i64 = IntKind.i64 ∧ (14 : Int) = (14 : Int)) ∧
      ((!fits pt13 h) = false → szOK pt13 = true ∧ szOK pt13 = true ∧ szOK pt13 = true ∧ szOK pt13 = true ∧ szOK pt13 = true ∧ szOK pt13 = true ∧ szOK pt13 = true ∧ szOK pt13 =
      true ∧ szOK pt13 = true ∧ szOK pt13 = true ∧ szOK pt13 = true ∧ szOK pt13 = true ∧ szOK pt13 = true ∧ szOK pt13 = true ∧ szOK pt13 = true ∧ szOK pt13 = true ∧ szOK pt13 =
      true ∧ szOK pt13 = true ∧ szOK pt13 = true ∧ ((bif bif decide (fld pt13 h (111 : Int) ≥ (8 : Int)) then decide (fld pt13 h (111 : Int) ≤ (11 : Int)) else false then !fld
      pt13 h (70 : Int) == (1 : Int) else false) = true → X ∧ hd9 E = hd9 E ∧ (134 : Nat) = (134 : Nat) ∧ (IntKind.u32 = IntKind.u32 ∧ h = h) ∧ C.p (0 : Nat) (0 : Nat) = C.p (0
      : Nat) (0 : Nat) ∧ C.slc (1 : Nat) (0 : Nat) (19 : Nat) (19 : Nat) = C.slc (1 : Nat) (0 : Nat) (19 : Nat) (19 : Nat) ∧ IntKind.i64 = IntKind.i64 ∧ (14 : Int) = (14 : Int))
      ∧ ((bif bif decide (fld pt13 h (111 : Int) ≥ (8 : Int)) then decide (fld pt13 h (111 : Int) ≤ (11 : Int)) else false then !fld pt13 h (70 : Int) == (1 : Int) else false) =
      false → R (SV.a [C.i true IntKind.i64 (1 : Int), C.i false IntKind.i64 (fld pt13 h (99 : Int)), C.i false IntKind.i64 (fld pt13 h (111 : Int)), C.b false (fld pt13 h (70 :
      Int) == (1 : Int)), C.i false IntKind.i64 (fld pt13 h (100 : Int)), C.i false IntKind.i64 (fld pt13 h (110 : Int)), C.i false IntKind.i64 (fld pt13 h (115 : Int)), C.i
      false IntKind.i64 (fld pt13 h (109 : Int)), C.i false IntKind.u32 (IntKind.u32.wrap (fld pt13 h (73 : Int))), C.b true true, C.i false IntKind.i64 (fld pt13 h (116 :
      Int)), C.i false IntKind.i64 (fld pt13 h (97 : Int)), C.b true false, C.b false (fld pt13 h (76 : Int) == (1 : Int)), C.b false (fld pt13 h (66 : Int) == (1 : Int)), C.b
      false (fld pt13 h (83 : Int) == (1 : Int)), C.b false (fld pt13 h (80 : Int) == (1 : Int)), C.b false (fld pt13 h (85 : Int) == (1 : Int)), C.b true false, C.b false (fld
      pt13 h (81 : Int) == (1 : Int)), C.i false IntKind.i64 (fld pt13 h (108 : Int)), C.b false (fld pt13 h (75 : Int) == (1 : Int)), C.b false (fld pt13 h (65 : Int) == (1 :
      Int)), C.b true false])))) := by kernel_rfl
theorem dec14 (E : World) (h : Int) (R : SV → Prop) (X : Prop) :
    (loopP (pe E) Try.f9 (fun v _ => R v) (fun todo fr s' => cond (memS s') (X ∧ todo = hd9 E ∧ fr.nt = Try.f9.ntmps ∧ refP fr (lv9 h 15)) False) (run (pe E) (orcT E) (tabL fns) 20000 (2^200-1) (hd9 E) (mkL Try.f9.ntmps (lv9 h 14)) sv9)) =
    (szOK pt14 = true ∧ ((!fits pt14 h) = true → X ∧ hd9 E = hd9 E ∧ (134 : Nat) = (134 : Nat) ∧ (IntKind.u32 = IntKind.u32 ∧ h = h) ∧ C.p (0 : Nat) (0 : Nat) = C.p (0 : Nat)
      (0 : Nat) ∧ C.slc (1 : Nat) (0 : Nat) (19 : Nat) (19 : Nat) = C.slc (1 : Nat) (0 : Nat) (19 : Nat) (19 : Nat) ∧ IntKind.i64 = IntKind.i64 ∧ (15 : Int) = (15 : Int)) ∧
      ((!fits pt14 h) = false → szOK pt14 = true ∧ szOK pt14 = true ∧ szOK pt14 = true ∧ szOK pt14 = true ∧ szOK pt14 = true ∧ szOK pt14 = true ∧ szOK pt14 = true ∧ szOK pt14 =
      true ∧ szOK pt14 = true ∧ szOK pt14 = true ∧ szOK pt14 = true ∧ szOK pt14 = true ∧ szOK pt14 = true ∧ szOK pt14 = true ∧ szOK pt14 = true ∧ szOK pt14 = true ∧ szOK pt14 =
      true ∧ szOK pt14 = true ∧ szOK pt14 = true ∧ szOK pt14 = true ∧ ((fld pt14 h (87 : Int) == (1 : Int)) = true → R (SV.a [C.i true IntKind.i64 (7 : Int), C.i false
      IntKind.i64 (fld pt14 h (99 : Int)), C.i true IntKind.i64 (0 : Int), C.b false (fld pt14 h (70 : Int) == (1 : Int)), C.i false IntKind.i64 (fld pt14 h (100 : Int)), C.i
      false IntKind.i64 (fld pt14 h (110 : Int)), C.i false IntKind.i64 (fld pt14 h (115 : Int)), C.i false IntKind.i64 (fld pt14 h (109 : Int)), C.i false IntKind.u32
      (IntKind.u32.wrap (fld pt14 h (73 : Int))), C.b true true, C.i false IntKind.i64 (fld pt14 h (116 : Int)), C.i false IntKind.i64 (fld pt14 h (97 : Int)), C.b true false,
      C.b false (fld pt14 h (76 : Int) == (1 : Int)), C.b false (fld pt14 h (66 : Int) == (1 : Int)), C.b false (fld pt14 h (83 : Int) == (1 : Int)), C.b false (fld pt14 h (80 :
      Int) == (1 : Int)), C.b false (fld pt14 h (85 : Int) == (1 : Int)), C.b true true, C.b false (fld pt14 h (81 : Int) == (1 : Int)), C.i false IntKind.i64 (fld pt14 h (108 :
      Int)), C.b false (fld pt14 h (75 : Int) == (1 : Int)), C.b false (fld pt14 h (65 : Int) == (1 : Int)), C.b true false])) ∧ ((fld pt14 h (87 : Int) == (1 : Int)) = false →
      R (SV.a [C.i true IntKind.i64 (7 : Int), C.i false IntKind.i64 (fld pt14 h (99 : Int)), C.i true IntKind.i64 (0 : Int), C.b false (fld pt14 h (70 : Int) == (1 : Int)), C.i
      false IntKind.i64 (fld pt14 h (100 : Int)), C.i false IntKind.i64 (fld pt14 h (110 : Int)), C.i false IntKind.i64 (fld pt14 h (115 : Int)), C.i false IntKind.i64 (fld pt14
      h (109 : Int)), C.i false IntKind.u32 (IntKind.u32.wrap (fld pt14 h (73 : Int))), C.b true true, C.i false IntKind.i64 (fld pt14 h (116 : Int)), C.i false IntKind.i64 (fld
      pt14 h (97 : Int)), C.b true false, C.b false (fld pt14 h (76 : Int) == (1 : Int)), C.b false (fld pt14 h (66 : Int) == (1 : Int)), C.b false (fld pt14 h (83 : Int) == (1
      : Int)), C.b false (fld pt14 h (80 : Int) == (1 : Int)), C.b false (fld pt14 h (85 : Int) == (1 : Int)), C.b false !fld pt14 h (80 : Int) == (1 : Int), C.b false (fld pt14
      h (81 : Int) == (1 : Int)), C.i false IntKind.i64 (fld pt14 h (108 : Int)), C.b false (fld pt14 h (75 : Int) == (1 : Int)), C.b false (fld pt14 h (65 : Int) == (1 : Int)),
      C.b true false])))) := by kernel_rfl
theorem dec15 (E : World) (h : Int) (R : SV → Prop) (X : Prop) :
    (loopP (pe E) Try.f9 (fun v _ => R v) (fun todo fr s' => cond (memS s') (X ∧ todo = hd9 E ∧ fr.nt = Try.f9.ntmps ∧ refP fr (lv9 h 16)) False) (run (pe E) (orcT E) (tabL fns) 20000 (2^200-1) (hd9 E) (mkL Try.f9.ntmps (lv9 h 15)) sv9)) =
    (szOK pt15 = true ∧ ((!fits pt15 h) = true → X ∧ hd9 E = hd9 E ∧ (134 : Nat) = (134 : Nat) ∧ (IntKind.u32 = IntKind.u32 ∧ h = h) ∧ C.p (0 : Nat) (0 : Nat) = C.p (0 : Nat)
      (0 : Nat) ∧ C.slc (1 : Nat) (0 : Nat) (19 : Nat) (19 : Nat) = C.slc (1 : Nat) (0 : Nat) (19 : Nat) (19 : Nat) ∧ IntKind.i64 = IntKind.i64 ∧ (16 : Int) = (16 : Int)) ∧
      ((!fits pt15 h) = false → szOK pt15 = true ∧ szOK pt15 = true ∧ szOK pt15 = true ∧ szOK pt15 = true ∧ szOK pt15 = true ∧ szOK pt15 = true ∧ szOK pt15 = true ∧ szOK pt15 =
      true ∧ szOK pt15 = true ∧ szOK pt15 = true ∧ szOK pt15 = true ∧ szOK pt15 = true ∧ szOK pt15 = true ∧ szOK pt15 = true ∧ szOK pt15 = true ∧ szOK pt15 = true ∧ szOK pt15 =
      true ∧ szOK pt15 = true ∧ szOK pt15 = true ∧ szOK pt15 = true ∧ ((fld pt15 h (87 : Int) == (1 : Int)) = true → R (SV.a [C.i true IntKind.i64 (7 : Int), C.i false
      IntKind.i64 (fld pt15 h (99 : Int)), C.i true IntKind.i64 (0 : Int), C.b false (fld pt15 h (70 : Int) == (1 : Int)), C.i false IntKind.i64 (fld pt15 h (100 : Int)), C.i
      false IntKind.i64 (fld pt15 h (110 : Int)), C.i false IntKind.i64 (fld pt15 h (115 : Int)), C.i false IntKind.i64 (fld pt15 h (109 : Int)), C.i false IntKind.u32
      (IntKind.u32.wrap (fld pt15 h (73 : Int))), C.b true false, C.i false IntKind.i64 (fld pt15 h (116 : Int)), C.i false IntKind.i64 (fld pt15 h (97 : Int)), C.b true false,
      C.b false (fld pt15 h (76 : Int) == (1 : Int)), C.b false (fld pt15 h (66 : Int) == (1 : Int)), C.b false (fld pt15 h (83 : Int) == (1 : Int)), C.b false (fld pt15 h (80 :
      Int) == (1 : Int)), C.b false (fld pt15 h (85 : Int) == (1 : Int)), C.b true true, C.b false (fld pt15 h (81 : Int) == (1 : Int)), C.i false IntKind.i64 (fld pt15 h (108 :
      Int)), C.b false (fld pt15 h (75 : Int) == (1 : Int)), C.b false (fld pt15 h (65 : Int) == (1 : Int)), C.b true false])) ∧ ((fld pt15 h (87 : Int) == (1 : Int)) = false →
      R (SV.a [C.i true IntKind.i64 (7 : Int), C.i false IntKind.i64 (fld pt15 h (99 : Int)), C.i true IntKind.i64 (0 : Int), C.b false (fld pt15 h (70 : Int) == (1 : Int)), C.i
      false IntKind.i64 (fld pt15 h (100 : Int)), C.i false IntKind.i64 (fld pt15 h (110 : Int)), C.i false IntKind.i64 (fld pt15 h (115 : Int)), C.i false IntKind.i64 (fld pt15
      h (109 : Int)), C.i false IntKind.u32 (IntKind.u32.wrap (fld pt15 h (73 : Int))), C.b true false, C.i false IntKind.i64 (fld pt15 h (116 : Int)), C.i false IntKind.i64
      (fld pt15 h (97 : Int)), C.b true false, C.b false (fld pt15 h (76 : Int) == (1 : Int)), C.b false (fld pt15 h (66 : Int) == (1 : Int)), C.b false (fld pt15 h (83 : Int)
      == (1 : Int)), C.b false (fld pt15 h (80 : Int) == (1 : Int)), C.b false (fld pt15 h (85 : Int) == (1 : Int)), C.b false !fld pt15 h (80 : Int) == (1 : Int), C.b false
      (fld pt15 h (81 : Int) == (1 : Int)), C.i false IntKind.i64 (fld pt15 h (108 : Int)), C.b false (fld pt15 h (75 : Int) == (1 : Int)), C.b false (fld pt15 h (65 : Int) ==
      (1 : Int)), C.b true false])))) := by kernel_rfl
theorem dec16 (E : World) (h : Int) (R : SV → Prop) (X : Prop) :
    (loopP (pe E) Try.f9 (fun v _ => R v) (fun todo fr s' => cond (memS s') (X ∧ todo = hd9 E ∧ fr.nt = Try.f9.ntmps ∧ refP fr (lv9 h 17)) False) (run (pe E) (orcT E) (tabL fns) 20000 (2^200-1) (hd9 E) (mkL Try.f9.ntmps (lv9 h 16)) sv9)) =
    (szOK pt16 = true ∧ ((!fits pt16 h) = true → X ∧ hd9 E = hd9 E ∧ (134 : Nat) = (134 : Nat) ∧ (IntKind.u32 = IntKind.u32 ∧ h = h) ∧ C.p (0 : Nat) (0 : Nat) = C.p (0 : Nat)
      (0 : Nat) ∧ C.slc (1 : Nat) (0 : Nat) (19 : Nat) (19 : Nat) = C.slc (1 : Nat) (0 : Nat) (19 : Nat) (19 : Nat) ∧ IntKind.i64 = IntKind.i64 ∧ (17 : Int) = (17 : Int)) ∧
      ((!fits pt16 h) = false → szOK pt16 = true ∧ szOK pt16 = true ∧ szOK pt16 = true ∧ szOK pt16 = true ∧ szOK pt16 = true ∧ szOK pt16 = true ∧ szOK pt16 = true ∧ szOK pt16 =
      true ∧ szOK pt16 = true ∧ szOK pt16 = true ∧ szOK pt16 = true ∧ szOK pt16 = true ∧ szOK pt16 = true ∧ szOK pt16 = true ∧ szOK pt16 = true ∧ szOK pt16 = true ∧ szOK pt16 =
      true ∧ szOK pt16 = true ∧ szOK pt16 = true ∧ szOK pt16 = true ∧ R (SV.a [C.i true IntKind.i64 (8 : Int), C.i false IntKind.i64 (fld pt16 h (99 : Int)), C.i true
      IntKind.i64 (0 : Int), C.b false (fld pt16 h (70 : Int) == (1 : Int)), C.i false IntKind.i64 (fld pt16 h (100 : Int)), C.i false IntKind.i64 (fld pt16 h (110 : Int)), C.i
      false IntKind.i64 (fld pt16 h (115 : Int)), C.i false IntKind.i64 (fld pt16 h (109 : Int)), C.i false IntKind.u32 (IntKind.u32.wrap (fld pt16 h (73 : Int))), C.b true
      false, C.i false IntKind.i64 (fld pt16 h (116 : Int)), C.i false IntKind.i64 (fld pt16 h (97 : Int)), C.b true false, C.b false (fld pt16 h (76 : Int) == (1 : Int)), C.b
      false (fld pt16 h (66 : Int) == (1 : Int)), C.b false (fld pt16 h (83 : Int) == (1 : Int)), C.b false (fld pt16 h (80 : Int) == (1 : Int)), C.b false (fld pt16 h (85 :
      Int) == (1 : Int)), C.b false (fld pt16 h (87 : Int) == (1 : Int)), C.b false (fld pt16 h (81 : Int) == (1 : Int)), C.i false IntKind.i64 (fld pt16 h (108 : Int)), C.b
      false (fld pt16 h (75 : Int) == (1 : Int)), C.b false (fld pt16 h (65 : Int) == (1 : Int)), C.b true false]))) := by kernel_rfl
theorem dec17 (E : World) (h : Int) (R : SV → Prop) (X : Prop) :
    (loopP (pe E) Try.f9 (fun v _ => R v) (fun todo fr s' => cond (memS s') (X ∧ todo = hd9 E ∧ fr.nt = Try.f9.ntmps ∧ refP fr (lv9 h 18)) False) (run (pe E) (orcT E) (tabL fns) 20000 (2^200-1) (hd9 E) (mkL Try.f9.ntmps (lv9 h 17)) sv9)) =
    (szOK pt17 = true ∧ ((!fits pt17 h) = true → X ∧ hd9 E = hd9 E ∧ (134 : Nat) = (134 : Nat) ∧ (IntKind.u32 = IntKind.u32 ∧ h = h) ∧ C.p (0 : Nat) (0 : Nat) = C.p (0 : Nat)
      (0 : Nat) ∧ C.slc (1 : Nat) (0 : Nat) (19 : Nat) (19 : Nat) = C.slc (1 : Nat) (0 : Nat) (19 : Nat) (19 : Nat) ∧ IntKind.i64 = IntKind.i64 ∧ (18 : Int) = (18 : Int)) ∧
      ((!fits pt17 h) = false → szOK pt17 = true ∧ szOK pt17 = true ∧ szOK pt17 = true ∧ szOK pt17 = true ∧ szOK pt17 = true ∧ szOK pt17 = true ∧ szOK pt17 = true ∧ szOK pt17 =
      true ∧ szOK pt17 = true ∧ szOK pt17 = true ∧ szOK pt17 = true ∧ szOK pt17 = true ∧ szOK pt17 = true ∧ szOK pt17 = true ∧ szOK pt17 = true ∧ szOK pt17 = true ∧ szOK pt17 =
      true ∧ szOK pt17 = true ∧ szOK pt17 = true ∧ (decide (IntKind.u32.wrap (fld pt17 h (73 : Int)) ≥ (8388608 : Int)) = true → R (SV.a [C.i true IntKind.i64 (9 : Int), C.i
      false IntKind.i64 (fld pt17 h (99 : Int)), C.i true IntKind.i64 (0 : Int), C.b false (fld pt17 h (70 : Int) == (1 : Int)), C.i false IntKind.i64 (fld pt17 h (100 : Int)),
      C.i false IntKind.i64 (fld pt17 h (110 : Int)), C.i false IntKind.i64 (fld pt17 h (115 : Int)), C.i false IntKind.i64 (fld pt17 h (109 : Int)), C.i false IntKind.u32
      (IntKind.u32.wrap (IntKind.u32.wrap (IntKind.u32.wrap (fld pt17 h (73 : Int)) - (16777216 : Int)) * (4 : Int))), C.b true false, C.i false IntKind.i64 (fld pt17 h (116 :
      Int)), C.i false IntKind.i64 (fld pt17 h (97 : Int)), C.b true false, C.b false (fld pt17 h (76 : Int) == (1 : Int)), C.b false (fld pt17 h (66 : Int) == (1 : Int)), C.b
      false (fld pt17 h (83 : Int) == (1 : Int)), C.b false (fld pt17 h (80 : Int) == (1 : Int)), C.b false (fld pt17 h (85 : Int) == (1 : Int)), C.b true false, C.b false (fld
      pt17 h (81 : Int) == (1 : Int)), C.i false IntKind.i64 (fld pt17 h (108 : Int)), C.b false (fld pt17 h (75 : Int) == (1 : Int)), C.b false (fld pt17 h (65 : Int) == (1 :
      Int)), C.b true false])) ∧ (decide (IntKind.u32.wrap (fld pt17 h (73 : Int)) ≥ (8388608 : Int)) = false → R (SV.a [C.i true IntKind.i64 (9 : Int), C.i false IntKind.i64
      (fld pt17 h (99 : Int)), C.i true IntKind.i64 (0 : Int), C.b false (fld pt17 h (70 : Int) == (1 : Int)), C.i false IntKind.i64 (fld pt17 h (100 : Int)), C.i false
      IntKind.i64 (fld pt17 h (110 : Int)), C.i false IntKind.i64 (fld pt17 h (115 : Int)), C.i false IntKind.i64 (fld pt17 h (109 : Int)), C.i false IntKind.u32
      (IntKind.u32.wrap (IntKind.u32.wrap (fld pt17 h (73 : Int)) * (4 : Int))), C.b true false, C.i false IntKind.i64 (fld pt17 h (116 : Int)), C.i false IntKind.i64 (fld pt17
      h (97 : Int)), C.b true false, C.b false (fld pt17 h (76 : Int) == (1 : Int)), C.b false (fld pt17 h (66 : Int) == (1 : Int)), C.b false (fld pt17 h (83 : Int) == (1 :
      Int)), C.b false (fld pt17 h (80 : Int) == (1 : Int)), C.b false (fld pt17 h (85 : Int) == (1 : Int)), C.b true false, C.b false (fld pt17 h (81 : Int) == (1 : Int)), C.i
      false IntKind.i64 (fld pt17 h (108 : Int)), C.b false (fld pt17 h (75 : Int) == (1 : Int)), C.b false (fld pt17 h (65 : Int) == (1 : Int)), C.b true false])))) := by kernel_rfl
theorem dec18 (E : World) (h : Int) (R : SV → Prop) (X : Prop) :
    (loopP (pe E) Try.f9 (fun v _ => R v) (fun todo fr s' => cond (memS s') (X ∧ todo = hd9 E ∧ fr.nt = Try.f9.ntmps ∧ refP fr (lv9 h 19)) False) (run (pe E) (orcT E) (tabL fns) 20000 (2^200-1) (hd9 E) (mkL Try.f9.ntmps (lv9 h 18)) sv9)) =
    (szOK pt18 = true ∧ ((!fits pt18 h) = true → X ∧ hd9 E = hd9 E ∧ (134 : Nat) = (134 : Nat) ∧ (IntKind.u32 = IntKind.u32 ∧ h = h) ∧ C.p (0 : Nat) (0 : Nat) = C.p (0 : Nat)
      (0 : Nat) ∧ C.slc (1 : Nat) (0 : Nat) (19 : Nat) (19 : Nat) = C.slc (1 : Nat) (0 : Nat) (19 : Nat) (19 : Nat) ∧ IntKind.i64 = IntKind.i64 ∧ (19 : Int) = (19 : Int)) ∧
      ((!fits pt18 h) = false → szOK pt18 = true ∧ szOK pt18 = true ∧ szOK pt18 = true ∧ szOK pt18 = true ∧ szOK pt18 = true ∧ szOK pt18 = true ∧ szOK pt18 = true ∧ szOK pt18 =
      true ∧ szOK pt18 = true ∧ szOK pt18 = true ∧ szOK pt18 = true ∧ szOK pt18 = true ∧ szOK pt18 = true ∧ szOK pt18 = true ∧ szOK pt18 = true ∧ szOK pt18 = true ∧ szOK pt18 =
      true ∧ szOK pt18 = true ∧ szOK pt18 = true ∧ R (SV.a [C.i true IntKind.i64 (10 : Int), C.i false IntKind.i64 (fld pt18 h (99 : Int)), C.i true IntKind.i64 (0 : Int), C.b
      false (fld pt18 h (70 : Int) == (1 : Int)), C.i false IntKind.i64 (fld pt18 h (100 : Int)), C.i false IntKind.i64 (fld pt18 h (110 : Int)), C.i false IntKind.i64 (fld pt18
      h (115 : Int)), C.i false IntKind.i64 (fld pt18 h (109 : Int)), C.i false IntKind.u32 (IntKind.u32.wrap (fld pt18 h (73 : Int))), C.b true false, C.i false IntKind.i64
      (fld pt18 h (116 : Int)), C.i false IntKind.i64 (fld pt18 h (97 : Int)), C.b true false, C.b false (fld pt18 h (76 : Int) == (1 : Int)), C.b false (fld pt18 h (66 : Int)
      == (1 : Int)), C.b false (fld pt18 h (83 : Int) == (1 : Int)), C.b false (fld pt18 h (80 : Int) == (1 : Int)), C.b false (fld pt18 h (85 : Int) == (1 : Int)), C.b true
      false, C.b false (fld pt18 h (81 : Int) == (1 : Int)), C.i false IntKind.i64 (fld pt18 h (108 : Int)), C.b false (fld pt18 h (75 : Int) == (1 : Int)), C.b false (fld pt18
      h (65 : Int) == (1 : Int)), C.b true false]))) := by kernel_rfl
theorem dec19 (E : World) (h : Int) (R : SV → Prop) (X : Prop) :
    (loopP (pe E) Try.f9 (fun v _ => R v) (fun todo fr s' => cond (memS s') (X ∧ todo = hd9 E ∧ fr.nt = Try.f9.ntmps ∧ refP fr (lv9 h 20)) False) (run (pe E) (orcT E) (tabL fns) 20000 (2^200-1) (hd9 E) (mkL Try.f9.ntmps (lv9 h 19)) sv9)) =
    (R (SV.a [C.i true IntKind.i64 (0 : Int), C.i false IntKind.i64 (IntKind.i64.wrap (h.fdiv (268435456 : Int))), C.i true IntKind.i64 (0 : Int), C.b true false, C.i true
      IntKind.i64 (0 : Int), C.i true IntKind.i64 (0 : Int), C.i true IntKind.i64 (0 : Int), C.i true IntKind.i64 (0 : Int), C.i true IntKind.u32 (0 : Int), C.b true false, C.i
      true IntKind.i64 (0 : Int), C.i true IntKind.i64 (0 : Int), C.b true false, C.b true false, C.b true false, C.b true false, C.b true false, C.b true false, C.b true false,
      C.b true false, C.i true IntKind.i64 (0 : Int), C.b true false, C.b true false, C.b true false])) := by kernel_rfl
end Go.Proofs.Ytbnglhfhmhnimaa

