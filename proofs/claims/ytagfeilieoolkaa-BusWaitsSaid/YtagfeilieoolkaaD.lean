import Derived.Test.YtagfeilieoolkaaC
set_option linter.unusedVariables false
set_option linter.unusedSimpArgs false
namespace Go.Proofs.Ytagfeilieoolkaa
open Go Go.Proofs Go.Proofs.Ytagfeilieoolkaa.Ev
set_option maxRecDepth 100000 in
theorem awake_c (s : SW) : CallTree Try.prog 7 [] s (.leaf (.c (.b true true), s)) := by
  exact pure_contract (fnTree_sound orcNone_ok tab_ok tab_sz mixed 1000 Try.func7 (by decide) [] []) (by simp [SV.ok, C.ok, okL]) (v := .c (.b true true)) rfl (conP_OK _ (by rw [awake_p])) s
set_option maxRecDepth 100000 in
theorem cost_c (l1 l2 l3 l4 l5 l6 l7 l8 l9 l10 l11 : Bool) (f0 : Int) (f1 : Int) (f2 : Int) (s0 : Int) (s1 : Int) (s2 : Int) (sv : Int) (ah : Bool) (a : Int) (w : Int) (c : Int) (s : SW) (ha : (u32 a) = true) (h0 : (sm f0) = true) (h1 : (sm f1) = true) (h2 : (sm f2) = true) (h3 : (sm s0) = true) (h4 : (sm s1) = true) (h5 : (sm s2) = true) (h6 : (sm sv) = true) : CallTree Try.prog 12 [.a [.i l1 .i64 f0, .i l2 .i64 f1, .i l3 .i64 f2, .i l4 .i64 s0, .i l5 .i64 s1, .i l6 .i64 s2, .i l7 .i64 sv, .b l8 ah], .c (.i l9 .u32 a), .c (.i l10 .i64 w), .c (.i l11 .i64 c)] s (.leaf (.c (.i false .i64 (costV f0 f1 f2 s0 s1 s2 sv a w c)), s)) := by
  refine CallTree.args (vs' := [.a [.i false .i64 f0, .i false .i64 f1, .i false .i64 f2, .i false .i64 s0, .i false .i64 s1, .i false .i64 s2, .i false .i64 sv, .b false ah], .c (.i false .u32 a), .c (.i false .i64 w), .c (.i false .i64 c)]) ⟨⟨⟨rfl, rfl⟩, ⟨rfl, rfl⟩, ⟨rfl, rfl⟩, ⟨rfl, rfl⟩, ⟨rfl, rfl⟩, ⟨rfl, rfl⟩, ⟨rfl, rfl⟩, rfl⟩, ⟨rfl, rfl⟩, ⟨rfl, rfl⟩, ⟨rfl, rfl⟩⟩ ?_
  exact pure_contract (fnTree_sound orc1_ok tab_ok tab_sz mixed 1000 Try.func12 (by decide) [.a [.i false .i64 f0, .i false .i64 f1, .i false .i64 f2, .i false .i64 s0, .i false .i64 s1, .i false .i64 s2, .i false .i64 sv, .b false ah], .c (.i false .u32 a), .c (.i false .i64 w), .c (.i false .i64 c)] []) (by simp [SV.ok, C.ok, okL]) (v := .c (.i false .i64 (costV f0 f1 f2 s0 s1 s2 sv a w c))) rfl (conP_OK _ (cost_ok f0 f1 f2 s0 s1 s2 sv ah a w c ha h0 h1 h2 h3 h4 h5 h6)) s
set_option maxRecDepth 100000 in
theorem rcost_c (l1 l2 l3 l4 l5 l6 l7 l8 l9 l10 l11 : Bool) (f0 : Int) (f1 : Int) (f2 : Int) (s0 : Int) (s1 : Int) (s2 : Int) (sv : Int) (ah : Bool) (a : Int) (w : Int) (c : Int) (s : SW) (ha : (u32 a) = true) (h0 : (sm f0) = true) (h1 : (sm f1) = true) (h2 : (sm f2) = true) (h3 : (sm s0) = true) (h4 : (sm s1) = true) (h5 : (sm s2) = true) (h6 : (sm sv) = true) : CallTree Try.prog 13 [.a [.i l1 .i64 f0, .i l2 .i64 f1, .i l3 .i64 f2, .i l4 .i64 s0, .i l5 .i64 s1, .i l6 .i64 s2, .i l7 .i64 sv, .b l8 ah], .c (.i l9 .u32 a), .c (.i l10 .i64 w), .c (.i l11 .i64 c)] s (.leaf (.c (.i false .i64 (costV f0 f1 f2 s0 s1 s2 sv a w c)), s)) := by
  refine CallTree.args (vs' := [.a [.i false .i64 f0, .i false .i64 f1, .i false .i64 f2, .i false .i64 s0, .i false .i64 s1, .i false .i64 s2, .i false .i64 sv, .b false ah], .c (.i false .u32 a), .c (.i false .i64 w), .c (.i false .i64 c)]) ⟨⟨⟨rfl, rfl⟩, ⟨rfl, rfl⟩, ⟨rfl, rfl⟩, ⟨rfl, rfl⟩, ⟨rfl, rfl⟩, ⟨rfl, rfl⟩, ⟨rfl, rfl⟩, rfl⟩, ⟨rfl, rfl⟩, ⟨rfl, rfl⟩, ⟨rfl, rfl⟩⟩ ?_
  exact pure_contract (fnTree_sound orc1_ok tab_ok tab_sz mixed 1000 Try.func13 (by decide) [.a [.i false .i64 f0, .i false .i64 f1, .i false .i64 f2, .i false .i64 s0, .i false .i64 s1, .i false .i64 s2, .i false .i64 sv, .b false ah], .c (.i false .u32 a), .c (.i false .i64 w), .c (.i false .i64 c)] []) (by simp [SV.ok, C.ok, okL]) (v := .c (.i false .i64 (costV f0 f1 f2 s0 s1 s2 sv a w c))) rfl (conP_OK _ (rcost_ok f0 f1 f2 s0 s1 s2 sv ah a w c ha h0 h1 h2 h3 h4 h5 h6)) s
def orc2 : Orc := fun g vs s => match g, vs with
  | 7, [] => some (.leaf (.c (.b true true), s))
  | 12, [.a [.i _ .i64 f0, .i _ .i64 f1, .i _ .i64 f2, .i _ .i64 s0, .i _ .i64 s1, .i _ .i64 s2, .i _ .i64 sv, .b _ ah], .c (.i _ .u32 a), .c (.i _ .i64 w), .c (.i _ .i64 c)] => some (.need (u32 a) (.need (sm f0) (.need (sm f1) (.need (sm f2) (.need (sm s0) (.need (sm s1) (.need (sm s2) (.need (sm sv) (.leaf (.c (.i false .i64 (costV f0 f1 f2 s0 s1 s2 sv a w c)), s))))))))))
  | 13, [.a [.i _ .i64 f0, .i _ .i64 f1, .i _ .i64 f2, .i _ .i64 s0, .i _ .i64 s1, .i _ .i64 s2, .i _ .i64 sv, .b _ ah], .c (.i _ .u32 a), .c (.i _ .i64 w), .c (.i _ .i64 c)] => some (.need (u32 a) (.need (sm f0) (.need (sm f1) (.need (sm f2) (.need (sm s0) (.need (sm s1) (.need (sm s2) (.need (sm sv) (.leaf (.c (.i false .i64 (costV f0 f1 f2 s0 s1 s2 sv a w c)), s))))))))))
  | g, vs => orc1 g vs s
theorem orc2_ok : OrcOK Try.prog orc2 := by
  intro g vs s t h
  unfold orc2 at h
  split at h
  · cases h
    exact awake_c s
  · cases h
    exact CallTree.need fun ha => CallTree.need fun h0 => CallTree.need fun h1 => CallTree.need fun h2 => CallTree.need fun h3 => CallTree.need fun h4 => CallTree.need fun h5 => CallTree.need fun h6 => cost_c _ _ _ _ _ _ _ _ _ _ _ _ _ _ _ _ _ _ _ _ _ _ s ha h0 h1 h2 h3 h4 h5 h6
  · cases h
    exact CallTree.need fun ha => CallTree.need fun h0 => CallTree.need fun h1 => CallTree.need fun h2 => CallTree.need fun h3 => CallTree.need fun h4 => CallTree.need fun h5 => CallTree.need fun h6 => rcost_c _ _ _ _ _ _ _ _ _ _ _ _ _ _ _ _ _ _ _ _ _ _ s ha h0 h1 h2 h3 h4 h5 h6
  · exact orc1_ok _ _ _ _ h

theorem maps_p (a w d c : Int) :
    (lawP (fnTree Try.prog orc2 (tabL fns) 1000 Try.f3 [.a [.i false .u32 a, .i false .u16 w, .i false .i64 d, .i false .i64 c]] [])) =
    (u32 a = true ∧ u32 a = true ∧ u16 w = true ∧ u16 w = true ∧ (mR a == mR a) = true ∧ (mA a == mA a) = true ∧ (false ^^ fst (w / (4 : Int) % (4 : Int)) == fst (w / (4 : Int)
      % (4 : Int)) && (fst (w / (32 : Int) % (4 : Int)) == fst (w / (32 : Int) % (4 : Int)) && (fst (w / (256 : Int) % (4 : Int)) == fst (w / (256 : Int) % (4 : Int)) && true))
      && (((if w / (16 : Int) % (2 : Int) = (1 : Int) then (1 : Int) else (2 : Int)) == if w / (16 : Int) % (2 : Int) = (1 : Int) then (1 : Int) else (2 : Int)) && (((if w /
      (128 : Int) % (2 : Int) = (1 : Int) then (1 : Int) else (4 : Int)) == if w / (128 : Int) % (2 : Int) = (1 : Int) then (1 : Int) else (4 : Int)) && (((if w / (1024 : Int) %
      (2 : Int) = (1 : Int) then (1 : Int) else (8 : Int)) == if w / (1024 : Int) % (2 : Int) = (1 : Int) then (1 : Int) else (8 : Int)) && true)) && (fst (w % (4 : Int)) == fst
      (w % (4 : Int)) && (decide (w / (16384 : Int) % (2 : Int) = (1 : Int)) == decide (w / (16384 : Int) % (2 : Int) = (1 : Int)) && true)))) = true ∧ u32 a = true ∧ sm (fst (w
      / (4 : Int) % (4 : Int))) = true ∧ sm (fst (w / (32 : Int) % (4 : Int))) = true ∧ sm (fst (w / (256 : Int) % (4 : Int))) = true ∧ sm (if w / (16 : Int) % (2 : Int) = (1 :
      Int) then (1 : Int) else (2 : Int)) = true ∧ sm (if w / (128 : Int) % (2 : Int) = (1 : Int) then (1 : Int) else (4 : Int)) = true ∧ sm (if w / (1024 : Int) % (2 : Int) =
      (1 : Int) then (1 : Int) else (8 : Int)) = true ∧ sm (fst (w % (4 : Int))) = true ∧ u32 a = true ∧ sm (fst (w / (4 : Int) % (4 : Int))) = true ∧ sm (fst (w / (32 : Int) %
      (4 : Int))) = true ∧ sm (fst (w / (256 : Int) % (4 : Int))) = true ∧ sm (if w / (16 : Int) % (2 : Int) = (1 : Int) then (1 : Int) else (2 : Int)) = true ∧ sm (if w / (128
      : Int) % (2 : Int) = (1 : Int) then (1 : Int) else (4 : Int)) = true ∧ sm (if w / (1024 : Int) % (2 : Int) = (1 : Int) then (1 : Int) else (8 : Int)) = true ∧ sm (fst (w %
      (4 : Int))) = true ∧ (costV (fst (w / (4 : Int) % (4 : Int))) (fst (w / (32 : Int) % (4 : Int))) (fst (w / (256 : Int) % (4 : Int))) (if w / (16 : Int) % (2 : Int) = (1 :
      Int) then (1 : Int) else (2 : Int)) (if w / (128 : Int) % (2 : Int) = (1 : Int) then (1 : Int) else (4 : Int)) (if w / (1024 : Int) % (2 : Int) = (1 : Int) then (1 : Int)
      else (8 : Int)) (fst (w % (4 : Int))) a d c == costV (fst (w / (4 : Int) % (4 : Int))) (fst (w / (32 : Int) % (4 : Int))) (fst (w / (256 : Int) % (4 : Int))) (if w / (16 :
      Int) % (2 : Int) = (1 : Int) then (1 : Int) else (2 : Int)) (if w / (128 : Int) % (2 : Int) = (1 : Int) then (1 : Int) else (4 : Int)) (if w / (1024 : Int) % (2 : Int) =
      (1 : Int) then (1 : Int) else (8 : Int)) (fst (w % (4 : Int))) a d c) = true) := by kernel_rfl

theorem fst_sm (x : Int) : sm (fst x) = true := by
  rw [sm_iff]; unfold fst; (repeat' split) <;> omega
theorem ite_sm (c : Prop) [Decidable c] (n : Int) (h : 1 ≤ n ∧ n ≤ 8) : sm (if c then 1 else n) = true := by
  rw [sm_iff]; split <;> omega
theorem maps_l (a w d c : Int) (ha : u32 a = true) (hw : u16 w = true) : lawP (fnTree Try.prog orc2 (tabL fns) 1000 Try.f3 [.a [.i false .u32 a, .i false .u16 w, .i false .i64 d, .i false .i64 c]] []) := by
  rw [maps_p]
  simp [ha, hw, fst_sm, ite_sm]
end Go.Proofs.Ytagfeilieoolkaa

