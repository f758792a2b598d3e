import Derived.Test.YtkeinfmfkcgkhaaA
set_option linter.unusedVariables false
set_option linter.unusedSimpArgs false
namespace Go.Proofs.Ytkeinfmfkcgkhaa
open Go Go.Proofs Go.Proofs.Ytkeinfmfkcgkhaa.Ev Go.Proofs.Ytkeinfmfkcgkhaa.Ev.Ho
set_option maxRecDepth 100000
noncomputable def by32 : List Sp := [.i .u8, .i .u8, .i .u8, .i .u8, .i .u8, .i .u8, .i .u8, .i .u8, .i .u8, .i .u8, .i .u8, .i .u8, .i .u8, .i .u8, .i .u8, .i .u8, .i .u8, .i .u8, .i .u8, .i .u8, .i .u8, .i .u8, .i .u8, .i .u8, .i .u8, .i .u8, .i .u8, .i .u8, .i .u8, .i .u8, .i .u8, .i .u8]
noncomputable def mU (p n : Nat) : MB := .o ([.c (.p p 0)] ++ by32 ++ [.r .i64 0 32, .i .i8] ++ by32 ++ [.r .i64 0 32, .i .i8, .i .u16, .i .u16, .c (.b true false), .r .i64 0 1022, .r .i64 0 10000000, .v n 2]) 68
noncomputable def mV (p n : Nat) : MB := .o ([.c (.p p 0)] ++ by32 ++ [.r .i64 0 32, .i .i8] ++ by32 ++ [.r .i64 0 32, .i .i8, .c (.i true .u16 0), .c (.i true .u16 0), .c (.b true true), .r .i64 0 1022, .r .i64 0 10000000, .v n 2]) 68
noncomputable def mP (m : Nat) : MB := .o ([.r .i64 0 10000000, .c (.b true false), .c (.i true .i64 0), .c (.b true false), .c (.i true .i64 0), .c (.i true .i64 0), .c (.i true .i64 0), .c (.i true .i64 0), .c (.i true .i64 0), .c (.b true false), .c (.i true .i64 0), .c (.i true .i64 0), .c (.i true .i64 0), .c (.b true false), .c (.i true .i64 0), .c (.b true false), .c (.i true .i64 0), .c (.i true .i64 0), .c (.i true .i64 0), .c (.i true .i64 0), .c (.i true .i64 0), .c (.b true false), .c (.i true .i64 0), .c (.i true .i64 0), .c (.i true .i64 0), .c (.b true false), .c (.i true .i64 0), .c (.b true false), .c (.i true .i64 0), .c (.i true .i64 0), .c (.i true .i64 0), .c (.i true .i64 0), .c (.i true .i64 0), .c (.b true false), .c (.i true .i64 0), .c (.i true .i64 0), .c (.i true .i64 0), .c (.b true false), .c (.i true .i64 0), .c (.b true false), .c (.i true .i64 0), .c (.i true .i64 0), .c (.i true .i64 0), .c (.i true .i64 0), .c (.i true .i64 0), .c (.b true false), .c (.i true .i64 0), .c (.i true .i64 0), .c (.i true .i64 0), .c (.mp m), .c (.i true .i64 0), .c (.i true .i64 0), .c (.b true false), .c (.i true .i64 0), .c (.i true .u8 0), .c (.i true .u8 0), .c (.i true .u8 0), .c (.i true .u8 0), .c (.i true .u8 0), .c (.i true .u8 0), .c (.i true .u8 0), .c (.i true .u8 0), .c (.i true .u8 0), .c (.i true .u8 0), .c (.i true .u8 0), .c (.i true .u8 0), .c (.i true .u8 0), .c (.i true .u8 0), .c (.i true .u8 0), .c (.i true .u8 0), .c (.i true .u8 0), .c (.i true .u8 0), .c (.i true .u8 0), .c (.i true .u8 0), .c (.i true .u8 0), .c (.i true .u8 0), .c (.i true .u8 0), .c (.i true .u8 0), .c (.i true .u8 0), .c (.i true .u8 0), .c (.i true .u8 0), .c (.i true .u8 0), .c (.i true .u8 0), .c (.i true .u8 0), .c (.i true .u8 0), .c (.i true .u8 0), .c (.i true .i64 0), .c (.b true false), .c (.i true .i64 0), .c (.b true false), .c (.i true .u16 0), .c (.b true false), .c (.i true .i64 0), .c (.i true .i64 0)]) 84
noncomputable def rowS : MB := .row [.r .i16 0 0, .r .i16 0 0] 60
noncomputable def mO : MB := .g 741991204937588471353107210173517385893522847741378461052633880361214601735917472982278721692919759636892846595991201096475255940853038949688016010326287086087990634635853824
def isU (s : SW) : Bool := match s with | [] => false | b :: _ => (match b.cs[71]? with | some (C.b true false) => true | _ => false)
def isV (s : SW) : Bool := match s with | [] => false | b :: _ => (match b.cs[71]? with | some (C.b true true) => (match b.cs[69]? with | some (C.i true .u16 0) => true | _ => false) | _ => false)
structure Len2 (l : List C) (n : Int) : Prop where
  e : l.length = n.toNat * 2
theorem bias0 (b : Int) (h : 0 ≤ b ∧ b ≤ 1022) : IntKind.i16.wrap (IntKind.i64.wrap (IntKind.i64.wrap ((if 1023 < (if 0 > IntKind.i64.wrap (0 + b) then 0 else IntKind.i64.wrap (0 + b)) then 1023 else (if 0 > IntKind.i64.wrap (0 + b) then 0 else IntKind.i64.wrap (0 + b))) - b) * 32)) = 0 := by
  have e : IntKind.i64.wrap (0 + b) = b := by rw [wi64]; omega
  rw [e]
  have e2 : (if 1023 < (if 0 > b then 0 else b) then 1023 else (if 0 > b then 0 else b)) = b := by repeat' split <;> omega
  rw [e2, Int.sub_self]; rfl
theorem zrow2 : Row [.r .i16 0 0, .r .i16 0 0] [C.i false .i16 0, C.i false .i16 0] := by
  refine ⟨rfl, fun p c h => ?_⟩
  match p with
  | 0 => cases h; exact ⟨.r .i16 0 0, rfl, ⟨⟨Int.le_refl 0, Int.le_refl 0⟩, trivial⟩⟩
  | 1 => cases h; exact ⟨.r .i16 0 0, rfl, ⟨⟨Int.le_refl 0, Int.le_refl 0⟩, trivial⟩⟩
  | n + 2 => simp at h
theorem zrow : Row [.r .i16 0 0, .r .i16 0 0] [C.i true .i16 0, C.i true .i16 0] := by
  refine ⟨rfl, fun p c h => ?_⟩
  match p with
  | 0 => cases h; exact ⟨.r .i16 0 0, rfl, ⟨⟨Int.le_refl 0, Int.le_refl 0⟩, trivial⟩⟩
  | 1 => cases h; exact ⟨.r .i16 0 0, rfl, ⟨⟨Int.le_refl 0, Int.le_refl 0⟩, trivial⟩⟩
  | n + 2 => simp at h
noncomputable def ru_td (E : World) : List Item := headOf (run (pe E) (orcA E) (tabL fns) 20000 (2 ^ 200 - 1) [.code (Try.f12.body.getD .skip)] ⟨Try.f12.ntmps, mkFrGo (Tr.mk 12) 0 [.c (.p 0 0), .c (.i true .i64 600)]⟩ (mkM default [] [mU 1 2, mP 3, rowS, mO] 0))
noncomputable def rv_td (E : World) : List Item := headOf (run (pe E) (orcA E) (tabL fns) 20000 (2 ^ 200 - 1) [.code (Try.f12.body.getD .skip)] ⟨Try.f12.ntmps, mkFrGo (Tr.mk 12) 0 [.c (.p 0 0), .c (.i true .i64 600)]⟩ (mkM default [] [mV 1 2, mP 3, rowS, mO] 0))
theorem lnu (E : World) :
    ((ru_td E).length = 0) =
    ((4 : Nat) = (0 : Nat)) := by kernel_rfl
theorem lnv (E : World) :
    ((rv_td E).length = 0) =
    ((4 : Nat) = (0 : Nat)) := by kernel_rfl
end Go.Proofs.Ytkeinfmfkcgkhaa

