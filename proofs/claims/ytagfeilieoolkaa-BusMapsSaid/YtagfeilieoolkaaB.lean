import Derived.Test.YtagfeilieoolkaaA
set_option linter.unusedVariables false
set_option linter.unusedSimpArgs false
namespace Go.Proofs.Ytagfeilieoolkaa
open Go Go.Proofs Go.Proofs.Ytagfeilieoolkaa.Ev
set_option maxRecDepth 100000 in
theorem map_c (l1 : Bool) (a : Int) (s : SW) (ha : (u32 a) = true) : CallTree Try.prog 8 [.c (.i l1 .u32 a)] s (.leaf (mapS a, s)) := by
  refine CallTree.args (vs' := [.c (.i false .u32 a)]) ⟨rfl, rfl⟩ ?_
  exact pure_contract (fnTree_sound orcNone_ok tab_ok tab_sz mixed 1000 Try.func8 (by decide) [.c (.i false .u32 a)] []) (by simp [SV.ok, C.ok, okL]) (v := mapS a) rfl (conP_OK _ (map_ok a ha)) s
set_option maxRecDepth 100000 in
theorem rmap_c (l1 : Bool) (a : Int) (s : SW) (ha : (u32 a) = true) : CallTree Try.prog 9 [.c (.i l1 .u32 a)] s (.leaf (mapS a, s)) := by
  refine CallTree.args (vs' := [.c (.i false .u32 a)]) ⟨rfl, rfl⟩ ?_
  exact pure_contract (fnTree_sound orcNone_ok tab_ok tab_sz mixed 1000 Try.func9 (by decide) [.c (.i false .u32 a)] []) (by simp [SV.ok, C.ok, okL]) (v := mapS a) rfl (conP_OK _ (rmap_ok a ha)) s
set_option maxRecDepth 100000 in
theorem ctl_c (l1 : Bool) (w : Int) (s : SW) (hw : (u16 w) = true) : CallTree Try.prog 10 [.c (.i l1 .u16 w)] s (.leaf (ctlS w, s)) := by
  refine CallTree.args (vs' := [.c (.i false .u16 w)]) ⟨rfl, rfl⟩ ?_
  exact pure_contract (fnTree_sound orcNone_ok tab_ok tab_sz mixed 1000 Try.func10 (by decide) [.c (.i false .u16 w)] []) (by simp [SV.ok, C.ok, okL]) (v := ctlS w) rfl (conP_OK _ (ctl_ok w hw)) s
set_option maxRecDepth 100000 in
theorem rctl_c (l1 : Bool) (w : Int) (s : SW) (hw : (u16 w) = true) : CallTree Try.prog 11 [.c (.i l1 .u16 w)] s (.leaf (ctlS w, s)) := by
  refine CallTree.args (vs' := [.c (.i false .u16 w)]) ⟨rfl, rfl⟩ ?_
  exact pure_contract (fnTree_sound orcNone_ok tab_ok tab_sz mixed 1000 Try.func11 (by decide) [.c (.i false .u16 w)] []) (by simp [SV.ok, C.ok, okL]) (v := ctlS w) rfl (conP_OK _ (rctl_ok w hw)) s
def orc1 : Orc := fun g vs s => match g, vs with
  | 8, [.c (.i _ .u32 a)] => some (.need (u32 a) (.leaf (mapS a, s)))
  | 9, [.c (.i _ .u32 a)] => some (.need (u32 a) (.leaf (mapS a, s)))
  | 10, [.c (.i _ .u16 w)] => some (.need (u16 w) (.leaf (ctlS w, s)))
  | 11, [.c (.i _ .u16 w)] => some (.need (u16 w) (.leaf (ctlS w, s)))
  | g, vs => none
theorem orc1_ok : OrcOK Try.prog orc1 := by
  intro g vs s t h
  unfold orc1 at h
  split at h
  · cases h
    exact CallTree.need fun ha => map_c _ _ s ha
  · cases h
    exact CallTree.need fun ha => rmap_c _ _ s ha
  · cases h
    exact CallTree.need fun hw => ctl_c _ _ s hw
  · cases h
    exact CallTree.need fun hw => rctl_c _ _ s hw
  · cases h

def sm (x : Int) : Bool := decide (0 ≤ x ∧ x ≤ 100)
theorem sm_iff (x : Int) : sm x = true ↔ 0 ≤ x ∧ x ≤ 100 := by simp [sm]
def costV (f0 f1 f2 s0 s1 s2 sv a w c : Int) : Int :=
  if mR a = 1 then (if w = 4 then 6 else 3) else if mR a = 4 ∨ mR a = 5 then (if w = 4 then 2 else 1) else if mR a = 8 then 1 + sv else
  if mR a = 7 then (if c = 1 ∧ ¬ a % 131072 = 0 then 1 + selI [s0, s1, s2] ((a / 16777216 - 8) / 2) else 1 + selI [f0, f1, f2] ((a / 16777216 - 8) / 2)) + (if w = 4 then 1 + selI [s0, s1, s2] ((a / 16777216 - 8) / 2) else 0) else 1
theorem mR_7 (a : Int) (h : mR a = 7) : 8 ≤ a / 16777216 ∧ a / 16777216 ≤ 13 := by
  unfold mR at h; (repeat' split at h) <;> omega
theorem sel3_bd (x y z i : Int) (hx : 0 ≤ x ∧ x ≤ 100) (hy : 0 ≤ y ∧ y ≤ 100) (hz : 0 ≤ z ∧ z ≤ 100) : 0 ≤ selI [x, y, z] i ∧ selI [x, y, z] i ≤ 100 := by
  show 0 ≤ cond (i == 0) x (cond (i - 1 == 0) y z) ∧ cond (i == 0) x (cond (i - 1 == 0) y z) ≤ 100
  cases (i == 0) <;> cases (i - 1 == 0) <;> simp <;> omega
theorem cost_p (f0 f1 f2 s0 s1 s2 sv : Int) (ah : Bool) (a w c : Int) :
    (conP (.c (.i false .i64 (costV f0 f1 f2 s0 s1 s2 sv a w c))) (fnTree Try.prog orc1 (tabL fns) 1000 Try.f12 [.a [.i false .i64 f0, .i false .i64 f1, .i false .i64 f2, .i false .i64 s0, .i false .i64 s1, .i false .i64 s2, .i false .i64 sv, .b false ah], .c (.i false .u32 a), .c (.i false .i64 w), .c (.i false .i64 c)] [])) =
    (u32 a = true ∧ ((mR a == (1 : Int)) = true → ((w == (4 : Int)) = true → IntKind.i64 = IntKind.i64 ∧ (6 : Int) = costV f0 f1 f2 s0 s1 s2 sv a w c) ∧ ((w == (4 : Int)) =
      false → IntKind.i64 = IntKind.i64 ∧ (3 : Int) = costV f0 f1 f2 s0 s1 s2 sv a w c)) ∧ ((mR a == (1 : Int)) = false → ((mR a == (4 : Int)) = true → ((w == (4 : Int)) = true
      → IntKind.i64 = IntKind.i64 ∧ (2 : Int) = costV f0 f1 f2 s0 s1 s2 sv a w c) ∧ ((w == (4 : Int)) = false → IntKind.i64 = IntKind.i64 ∧ (1 : Int) = costV f0 f1 f2 s0 s1 s2
      sv a w c)) ∧ ((mR a == (4 : Int)) = false → ((mR a == (5 : Int)) = true → ((w == (4 : Int)) = true → IntKind.i64 = IntKind.i64 ∧ (2 : Int) = costV f0 f1 f2 s0 s1 s2 sv a w
      c) ∧ ((w == (4 : Int)) = false → IntKind.i64 = IntKind.i64 ∧ (1 : Int) = costV f0 f1 f2 s0 s1 s2 sv a w c)) ∧ ((mR a == (5 : Int)) = false → ((mR a == (8 : Int)) = true →
      IntKind.i64 = IntKind.i64 ∧ IntKind.i64.wrap ((1 : Int) + sv) = costV f0 f1 f2 s0 s1 s2 sv a w c) ∧ ((mR a == (8 : Int)) = false → ((mR a == (7 : Int)) = true → inB
      (IntKind.u32.wrap ((IntKind.u32.wrap (a.fdiv (16777216 : Int) - (8 : Int))).tdiv (2 : Int))) (3 : Nat) = true ∧ ((c == (1 : Int)) = true → ((a.tmod (131072 : Int) != (0 :
      Int)) = true → inB (IntKind.u32.wrap ((IntKind.u32.wrap (a.fdiv (16777216 : Int) - (8 : Int))).tdiv (2 : Int))) (3 : Nat) = true ∧ ((w == (4 : Int)) = true → inB
      (IntKind.u32.wrap ((IntKind.u32.wrap (a.fdiv (16777216 : Int) - (8 : Int))).tdiv (2 : Int))) (3 : Nat) = true ∧ IntKind.i64 = IntKind.i64 ∧ IntKind.i64.wrap
      (IntKind.i64.wrap ((1 : Int) + selI [s0, s1, s2] (IntKind.u32.wrap ((IntKind.u32.wrap (a.fdiv (16777216 : Int) - (8 : Int))).tdiv (2 : Int)))) + IntKind.i64.wrap ((1 :
      Int) + selI [s0, s1, s2] (IntKind.u32.wrap ((IntKind.u32.wrap (a.fdiv (16777216 : Int) - (8 : Int))).tdiv (2 : Int))))) = costV f0 f1 f2 s0 s1 s2 sv a w c) ∧ ((w == (4 :
      Int)) = false → IntKind.i64 = IntKind.i64 ∧ IntKind.i64.wrap ((1 : Int) + selI [s0, s1, s2] (IntKind.u32.wrap ((IntKind.u32.wrap (a.fdiv (16777216 : Int) - (8 :
      Int))).tdiv (2 : Int)))) = costV f0 f1 f2 s0 s1 s2 sv a w c)) ∧ ((a.tmod (131072 : Int) != (0 : Int)) = false → ((w == (4 : Int)) = true → inB (IntKind.u32.wrap
      ((IntKind.u32.wrap (a.fdiv (16777216 : Int) - (8 : Int))).tdiv (2 : Int))) (3 : Nat) = true ∧ IntKind.i64 = IntKind.i64 ∧ IntKind.i64.wrap (IntKind.i64.wrap ((1 : Int) +
      selI [f0, f1, f2] (IntKind.u32.wrap ((IntKind.u32.wrap (a.fdiv (16777216 : Int) - (8 : Int))).tdiv (2 : Int)))) + IntKind.i64.wrap ((1 : Int) + selI [s0, s1, s2]
      (IntKind.u32.wrap ((IntKind.u32.wrap (a.fdiv (16777216 : Int) - (8 : Int))).tdiv (2 : Int))))) = costV f0 f1 f2 s0 s1 s2 sv a w c) ∧ ((w == (4 : Int)) = false →
      IntKind.i64 = IntKind.i64 ∧ IntKind.i64.wrap ((1 : Int) + selI [f0, f1, f2] (IntKind.u32.wrap ((IntKind.u32.wrap (a.fdiv (16777216 : Int) - (8 : Int))).tdiv (2 : Int)))) =
      costV f0 f1 f2 s0 s1 s2 sv a w c))) ∧ ((c == (1 : Int)) = false → ((w == (4 : Int)) = true → inB (IntKind.u32.wrap ((IntKind.u32.wrap (a.fdiv (16777216 : Int) - (8 :
      Int))).tdiv (2 : Int))) (3 : Nat) = true ∧ IntKind.i64 = IntKind.i64 ∧ IntKind.i64.wrap (IntKind.i64.wrap ((1 : Int) + selI [f0, f1, f2] (IntKind.u32.wrap
      ((IntKind.u32.wrap (a.fdiv (16777216 : Int) - (8 : Int))).tdiv (2 : Int)))) + IntKind.i64.wrap ((1 : Int) + selI [s0, s1, s2] (IntKind.u32.wrap ((IntKind.u32.wrap (a.fdiv
      (16777216 : Int) - (8 : Int))).tdiv (2 : Int))))) = costV f0 f1 f2 s0 s1 s2 sv a w c) ∧ ((w == (4 : Int)) = false → IntKind.i64 = IntKind.i64 ∧ IntKind.i64.wrap ((1 : Int)
      + selI [f0, f1, f2] (IntKind.u32.wrap ((IntKind.u32.wrap (a.fdiv (16777216 : Int) - (8 : Int))).tdiv (2 : Int)))) = costV f0 f1 f2 s0 s1 s2 sv a w c))) ∧ ((mR a == (7 :
      Int)) = false → IntKind.i64 = IntKind.i64 ∧ (1 : Int) = costV f0 f1 f2 s0 s1 s2 sv a w c)))))) := by kernel_rfl
theorem rcost_p (f0 f1 f2 s0 s1 s2 sv : Int) (ah : Bool) (a w c : Int) :
    (conP (.c (.i false .i64 (costV f0 f1 f2 s0 s1 s2 sv a w c))) (fnTree Try.prog orc1 (tabL fns) 1000 Try.f13 [.a [.i false .i64 f0, .i false .i64 f1, .i false .i64 f2, .i false .i64 s0, .i false .i64 s1, .i false .i64 s2, .i false .i64 sv, .b false ah], .c (.i false .u32 a), .c (.i false .i64 w), .c (.i false .i64 c)] [])) =
    (u32 a = true ∧ ((mR a == (1 : Int)) = true → ((w == (4 : Int)) = true → IntKind.i64 = IntKind.i64 ∧ (6 : Int) = costV f0 f1 f2 s0 s1 s2 sv a w c) ∧ ((w == (4 : Int)) =
      false → IntKind.i64 = IntKind.i64 ∧ (3 : Int) = costV f0 f1 f2 s0 s1 s2 sv a w c)) ∧ ((mR a == (1 : Int)) = false → ((mR a == (4 : Int)) = true → ((w == (4 : Int)) = true
      → IntKind.i64 = IntKind.i64 ∧ (2 : Int) = costV f0 f1 f2 s0 s1 s2 sv a w c) ∧ ((w == (4 : Int)) = false → IntKind.i64 = IntKind.i64 ∧ (1 : Int) = costV f0 f1 f2 s0 s1 s2
      sv a w c)) ∧ ((mR a == (4 : Int)) = false → ((mR a == (5 : Int)) = true → ((w == (4 : Int)) = true → IntKind.i64 = IntKind.i64 ∧ (2 : Int) = costV f0 f1 f2 s0 s1 s2 sv a w
      c) ∧ ((w == (4 : Int)) = false → IntKind.i64 = IntKind.i64 ∧ (1 : Int) = costV f0 f1 f2 s0 s1 s2 sv a w c)) ∧ ((mR a == (5 : Int)) = false → ((mR a == (8 : Int)) = true →
      IntKind.i64 = IntKind.i64 ∧ IntKind.i64.wrap ((1 : Int) + sv) = costV f0 f1 f2 s0 s1 s2 sv a w c) ∧ ((mR a == (8 : Int)) = false → ((mR a == (7 : Int)) = true → inB
      (IntKind.i64.wrap ((IntKind.i64.wrap (IntKind.i64.wrap (IntKind.u32.wrap (a.tdiv (16777216 : Int))) - (8 : Int))).tdiv (2 : Int))) (3 : Nat) = true ∧ ((c == (1 : Int)) =
      true → ((a.tmod (131072 : Int) != (0 : Int)) = true → inB (IntKind.i64.wrap ((IntKind.i64.wrap (IntKind.i64.wrap (IntKind.u32.wrap (a.tdiv (16777216 : Int))) - (8 :
      Int))).tdiv (2 : Int))) (3 : Nat) = true ∧ ((w == (4 : Int)) = true → inB (IntKind.i64.wrap ((IntKind.i64.wrap (IntKind.i64.wrap (IntKind.u32.wrap (a.tdiv (16777216 :
      Int))) - (8 : Int))).tdiv (2 : Int))) (3 : Nat) = true ∧ IntKind.i64 = IntKind.i64 ∧ IntKind.i64.wrap (IntKind.i64.wrap ((1 : Int) + selI [s0, s1, s2] (IntKind.i64.wrap
      ((IntKind.i64.wrap (IntKind.i64.wrap (IntKind.u32.wrap (a.tdiv (16777216 : Int))) - (8 : Int))).tdiv (2 : Int)))) + IntKind.i64.wrap ((1 : Int) + selI [s0, s1, s2]
      (IntKind.i64.wrap ((IntKind.i64.wrap (IntKind.i64.wrap (IntKind.u32.wrap (a.tdiv (16777216 : Int))) - (8 : Int))).tdiv (2 : Int))))) = costV f0 f1 f2 s0 s1 s2 sv a w c) ∧
      ((w == (4 : Int)) = false → IntKind.i64 = IntKind.i64 ∧ IntKind.i64.wrap ((1 : Int) + selI [s0, s1, s2] (IntKind.i64.wrap ((IntKind.i64.wrap (IntKind.i64.wrap
      (IntKind.u32.wrap (a.tdiv (16777216 : Int))) - (8 : Int))).tdiv (2 : Int)))) = costV f0 f1 f2 s0 s1 s2 sv a w c)) ∧ ((a.tmod (131072 : Int) != (0 : Int)) = false → ((w ==
      (4 : Int)) = true → inB (IntKind.i64.wrap ((IntKind.i64.wrap (IntKind.i64.wrap (IntKind.u32.wrap (a.tdiv (16777216 : Int))) - (8 : Int))).tdiv (2 : Int))) (3 : Nat) = true
      ∧ IntKind.i64 = IntKind.i64 ∧ IntKind.i64.wrap (IntKind.i64.wrap ((1 : Int) + selI [f0, f1, f2] (IntKind.i64.wrap ((IntKind.i64.wrap (IntKind.i64.wrap (IntKind.u32.wrap
      (a.tdiv (16777216 : Int))) - (8 : Int))).tdiv (2 : Int)))) + IntKind.i64.wrap ((1 : Int) + selI [s0, s1, s2] (IntKind.i64.wrap ((IntKind.i64.wrap (IntKind.i64.wrap
      (IntKind.u32.wrap (a.tdiv (16777216 : Int))) - (8 : Int))).tdiv (2 : Int))))) = costV f0 f1 f2 s0 s1 s2 sv a w c) ∧ ((w == (4 : Int)) = false → IntKind.i64 = IntKind.i64 ∧
      IntKind.i64.wrap ((1 : Int) + selI [f0, f1, f2] (IntKind.i64.wrap ((IntKind.i64.wrap (IntKind.i64.wrap (IntKind.u32.wrap (a.tdiv (16777216 : Int))) - (8 : Int))).tdiv (2 :
      Int)))) = costV f0 f1 f2 s0 s1 s2 sv a w c))) ∧ ((c == (1 : Int)) = false → ((w == (4 : Int)) = true → inB (IntKind.i64.wrap ((IntKind.i64.wrap (IntKind.i64.wrap
      (IntKind.u32.wrap (a.tdiv (16777216 : Int))) - (8 : Int))).tdiv (2 : Int))) (3 : Nat) = true ∧ IntKind.i64 = IntKind.i64 ∧ IntKind.i64.wrap (IntKind.i64.wrap ((1 : Int) +
      selI [f0, f1, f2] (IntKind.i64.wrap ((IntKind.i64.wrap (IntKind.i64.wrap (IntKind.u32.wrap (a.tdiv (16777216 : Int))) - (8 : Int))).tdiv (2 : Int)))) + IntKind.i64.wrap
      ((1 : Int) + selI [s0, s1, s2] (IntKind.i64.wrap ((IntKind.i64.wrap (IntKind.i64.wrap (IntKind.u32.wrap (a.tdiv (16777216 : Int))) - (8 : Int))).tdiv (2 : Int))))) = costV
      f0 f1 f2 s0 s1 s2 sv a w c) ∧ ((w == (4 : Int)) = false → IntKind.i64 = IntKind.i64 ∧ IntKind.i64.wrap ((1 : Int) + selI [f0, f1, f2] (IntKind.i64.wrap ((IntKind.i64.wrap
      (IntKind.i64.wrap (IntKind.u32.wrap (a.tdiv (16777216 : Int))) - (8 : Int))).tdiv (2 : Int)))) = costV f0 f1 f2 s0 s1 s2 sv a w c))) ∧ ((mR a == (7 : Int)) = false →
      IntKind.i64 = IntKind.i64 ∧ (1 : Int) = costV f0 f1 f2 s0 s1 s2 sv a w c)))))) := by kernel_rfl
end Go.Proofs.Ytagfeilieoolkaa

