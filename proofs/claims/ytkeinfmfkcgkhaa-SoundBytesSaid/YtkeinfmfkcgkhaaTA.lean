import Derived.Test.YtkeinfmfkcgkhaaA
set_option linter.unusedVariables false
set_option linter.unusedSimpArgs false
namespace Go.Proofs.Ytkeinfmfkcgkhaa
open Go Go.Proofs Go.Proofs.Ytkeinfmfkcgkhaa.Ev Go.Proofs.Ytkeinfmfkcgkhaa.Ev.Ho
set_option maxRecDepth 100000
noncomputable def by32 : List Sp := [.i .u8, .i .u8, .i .u8, .i .u8, .i .u8, .i .u8, .i .u8, .i .u8, .i .u8, .i .u8, .i .u8, .i .u8, .i .u8, .i .u8, .i .u8, .i .u8, .i .u8, .i .u8, .i .u8, .i .u8, .i .u8, .i .u8, .i .u8, .i .u8, .i .u8, .i .u8, .i .u8, .i .u8, .i .u8, .i .u8, .i .u8, .i .u8]
noncomputable def mT (p n : Nat) : MB := .o ([.c (.p p 0)] ++ by32 ++ [.r .i64 0 32, .r .i8 (-128) 127] ++ [.c (.i true .u8 0), .c (.i true .u8 0), .c (.i true .u8 0), .c (.i true .u8 0), .c (.i true .u8 0), .c (.i true .u8 0), .c (.i true .u8 0), .c (.i true .u8 0), .c (.i true .u8 0), .c (.i true .u8 0), .c (.i true .u8 0), .c (.i true .u8 0), .c (.i true .u8 0), .c (.i true .u8 0), .c (.i true .u8 0), .c (.i true .u8 0), .c (.i true .u8 0), .c (.i true .u8 0), .c (.i true .u8 0), .c (.i true .u8 0), .c (.i true .u8 0), .c (.i true .u8 0), .c (.i true .u8 0), .c (.i true .u8 0), .c (.i true .u8 0), .c (.i true .u8 0), .c (.i true .u8 0), .c (.i true .u8 0), .c (.i true .u8 0), .c (.i true .u8 0), .c (.i true .u8 0), .c (.i true .u8 0)] ++ [.c (.i true .i64 0), .c (.i true .i8 0), .c (.i true .u16 0), .c (.i true .u16 772), .c (.b true true), .c (.i true .i64 512), .r .i64 0 10000000, .v n 2]) 68
noncomputable def mP (m : Nat) : MB := .o ([.r .i64 0 10000000, .c (.b true false), .c (.i true .i64 0), .c (.b true false), .c (.i true .i64 0), .c (.i true .i64 0), .c (.i true .i64 0), .c (.i true .i64 0), .c (.i true .i64 0), .c (.b true false), .c (.i true .i64 0), .c (.i true .i64 0), .c (.i true .i64 0), .c (.b true false), .c (.i true .i64 0), .c (.b true false), .c (.i true .i64 0), .c (.i true .i64 0), .c (.i true .i64 0), .c (.i true .i64 0), .c (.i true .i64 0), .c (.b true false), .c (.i true .i64 0), .c (.i true .i64 0), .c (.i true .i64 0), .c (.b true false), .c (.i true .i64 0), .c (.b true false), .c (.i true .i64 0), .c (.i true .i64 0), .c (.i true .i64 0), .c (.i true .i64 0), .c (.i true .i64 0), .c (.b true false), .c (.i true .i64 0), .c (.i true .i64 0), .c (.i true .i64 0), .c (.b true false), .c (.i true .i64 0), .c (.b true false), .c (.i true .i64 0), .c (.i true .i64 0), .c (.i true .i64 0), .c (.i true .i64 0), .c (.i true .i64 0), .c (.b true false), .c (.i true .i64 0), .c (.i true .i64 0), .c (.i true .i64 0), .c (.mp m), .c (.i true .i64 0), .c (.i true .i64 0), .c (.b true false), .c (.i true .i64 0), .c (.i true .u8 0), .c (.i true .u8 0), .c (.i true .u8 0), .c (.i true .u8 0), .c (.i true .u8 0), .c (.i true .u8 0), .c (.i true .u8 0), .c (.i true .u8 0), .c (.i true .u8 0), .c (.i true .u8 0), .c (.i true .u8 0), .c (.i true .u8 0), .c (.i true .u8 0), .c (.i true .u8 0), .c (.i true .u8 0), .c (.i true .u8 0), .c (.i true .u8 0), .c (.i true .u8 0), .c (.i true .u8 0), .c (.i true .u8 0), .c (.i true .u8 0), .c (.i true .u8 0), .c (.i true .u8 0), .c (.i true .u8 0), .c (.i true .u8 0), .c (.i true .u8 0), .c (.i true .u8 0), .c (.i true .u8 0), .c (.i true .u8 0), .c (.i true .u8 0), .c (.i true .u8 0), .c (.i true .u8 0), .c (.i true .i64 0), .c (.b true false), .c (.i true .i64 0), .c (.b true false), .c (.i true .u16 0), .c (.b true false), .c (.i true .i64 0), .c (.i true .i64 0)]) 84
noncomputable def rowT : MB := .row [.i .i16, .i .i16] 60
noncomputable def rowW : MB := .row [.i .i8] 57
noncomputable def mO : MB := .g 741991204937588471353107210173517385893522847741378461052633880361214601735917472982278721692919759636892846595991201096475255940853038949688016010326287086087990634635853824
def All2 (P : Nat → Int → Int → Prop) : Nat → List Int → List Int → Prop
  | k, a :: l, b :: m => P k a b ∧ All2 P (k + 1) l m
  | _, _, _ => True
def All3 (P : Nat → Int → Int → Int → Prop) : Nat → List Int → List Int → List Int → Prop
  | k, a :: l, b :: m, c :: n => P k a b c ∧ All3 P (k + 1) l m n
  | _, _, _, _ => True
def fB (w k x : Int) (j : Nat) (b : Int) : Int := if w ≤ j ∧ j < w + k then x / (2 : Int) ^ (8 * (j - w)).toNat % 256 else b
def FD (w k x : Int) : List Int → List Int → Prop := All2 (fun j a b => b = fB w k x j a) 0
def SH (w : Int) (l : List Int) (m : List Int) : Prop := All3 (fun j a c b => b = if (j : Int) + 1 < w then c else a) 0 l (l.tail ++ [0]) m
def EQ (l m : List Int) : Prop := All2 (fun _ a b => b = a) 0 l m
theorem i8r (x : Int) : -128 ≤ IntKind.i8.wrap x ∧ IntKind.i8.wrap x ≤ 127 := by rw [wi8]; omega
theorem fB_s {w k x : Int} {j : Nat} {b b' w' xc : Int} (h : b' = fB w k x j b) (hw : w' = w + k) (hk : 0 ≤ k) (hx : xc = x / (2 : Int) ^ (8 * k).toNat) : (bif w' == (j : Int) then IntKind.u8.wrap xc else b') = fB w (k + 1) x j b := by
  subst h; subst hw; subst hx
  unfold fB
  by_cases e : w + k = j
  · have e1 : ((w + k == (j : Int)) : Bool) = true := by simp [e]
    have e2 : (j : Int) - w = k := by omega
    rw [e1, cond_true, if_pos (by omega), e2, wu8]
  · have e1 : ((w + k == (j : Int)) : Bool) = false := by simp [e]
    rw [e1, cond_false]
    by_cases c : w ≤ j ∧ (j : Int) < w + k
    · rw [if_pos c, if_pos (by omega)]
    · rw [if_neg c, if_neg (by omega)]
theorem fB_f {w k x : Int} {j : Nat} {b b' : Int} (h : b' = fB w k x j b) (hj : (j : Int) < w + k) (hk : k ≤ 4) : b' = fB w 4 x j b := by
  subst h; unfold fB
  by_cases c : w ≤ j ∧ (j : Int) < w + k
  · rw [if_pos c, if_pos (by omega)]
  · rw [if_neg c, if_neg (by omega)]
theorem fB_0 {w x : Int} {j : Nat} {b : Int} : b = fB w 0 x j b := by
  unfold fB; rw [if_neg (by omega)]
theorem sh8 {x k : Int} (hk : 0 ≤ k) : (x / (2 : Int) ^ (8 * k).toNat) / 256 = x / (2 : Int) ^ (8 * (k + 1)).toNat := by
  have e : (8 * (k + 1)).toNat = (8 * k).toNat + 8 := by omega
  have h : (0 : Int) < 2 ^ (8 * k).toNat := Int.pow_pos (by decide)
  rw [e, Int.pow_add, Int.ediv_ediv_of_nonneg (Int.le_of_lt h)]; rfl
noncomputable def fd_td (E : World) : List Item := headOf (run (pe E) (orcA E) (tabL fns) 20000 (2 ^ 200 - 1) [.code (Try.f17.body.getD .skip)] ⟨Try.f17.ntmps, mkFrGo (Tr.mk 12) 0 [.c (.p 0 0), .c (.i true .i64 0), .c (.i false .u32 0)]⟩ (mkM default [] [mT 1 2, mP 3, rowT, mO] 0))
noncomputable def rt_td (E : World) : List Item := headOf (run (pe E) (orcA E) (tabL fns) 20000 (2 ^ 200 - 1) [.code (Try.f12.body.getD .skip)] ⟨Try.f12.ntmps, mkFrGo (Tr.mk 12) 0 [.c (.p 0 0), .c (.i true .i64 600)]⟩ (mkM default [] [mT 1 2, mP 3, rowT, mO] 0))
end Go.Proofs.Ytkeinfmfkcgkhaa

