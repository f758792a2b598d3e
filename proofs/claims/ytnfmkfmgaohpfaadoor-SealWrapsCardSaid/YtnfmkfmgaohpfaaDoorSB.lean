import Derived.Test.YtnfmkfmgaohpfaaDoorSA
set_option linter.unusedVariables false
set_option linter.unusedSimpArgs false
namespace Go.Proofs.YtnfmkfmgaohpfaaDoor
open Go Go.Proofs Go.Proofs.YtnfmkfmgaohpfaaDoor.Ev Go.Proofs.YtnfmkfmgaohpfaaDoor.Ev.Ho
set_option maxRecDepth 100000
theorem wdT_ex (x : Int) : ∃ b : ByteArray, b = bytesN [IntKind.u8.wrap x, IntKind.u8.wrap (x.fdiv 256), IntKind.u8.wrap (x.fdiv 65536), IntKind.u8.wrap (x.fdiv 16777216)] := ⟨_, rfl⟩
noncomputable def wdT (x : Int) : ByteArray := Classical.choose (wdT_ex x)
theorem wdT_eq (x : Int) : wdT x = bytesN [IntKind.u8.wrap x, IntKind.u8.wrap (x.fdiv 256), IntKind.u8.wrap (x.fdiv 65536), IntKind.u8.wrap (x.fdiv 16777216)] := Classical.choose_spec (wdT_ex x)
theorem nmF_ex (s : ByteArray) : ∃ b : Int, b = bits .or .u32 (bits .or .u32 (bits .or .u32 (IntKind.u32.wrap (strB s 0)) (IntKind.u32.wrap (IntKind.u32.wrap (strB s 1) * 256))) (IntKind.u32.wrap (IntKind.u32.wrap (strB s 2) * 65536))) (IntKind.u32.wrap (IntKind.u32.wrap (strB s 3) * 16777216)) := ⟨_, rfl⟩
noncomputable def nmF (s : ByteArray) : Int := Classical.choose (nmF_ex s)
theorem nmF_eq (s : ByteArray) : nmF s = bits .or .u32 (bits .or .u32 (bits .or .u32 (IntKind.u32.wrap (strB s 0)) (IntKind.u32.wrap (IntKind.u32.wrap (strB s 1) * 256))) (IntKind.u32.wrap (IntKind.u32.wrap (strB s 2) * 65536))) (IntKind.u32.wrap (IntKind.u32.wrap (strB s 3) * 16777216)) := Classical.choose_spec (nmF_ex s)
noncomputable def vlF (k a : Int) (d : ByteArray) : Bool := (decide (0 ≤ a) && decide (a ≤ 131071)) && ((decide (k = 1) && (decide (1 ≤ d.size) && decide (d.size ≤ 8))) || (decide (k = 2) && (decide (a % 4096 = 0) && decide (d.size = 0))) || (decide (k = 3) && (decide (a = 0) && decide (d.size = 0))))
theorem wd_p (E : World) (x : Int) :
    (conP (.c (.strn 4 (wdT x))) (fnTree (pe E) (orcL E) (tabL fns) 1000 Tryd.f27 [.c (.i false .u32 x)] [])) =
    (bytesN [IntKind.u8.wrap x, IntKind.u8.wrap (x.fdiv (256 : Int)), IntKind.u8.wrap (x.fdiv (65536 : Int)), IntKind.u8.wrap (x.fdiv (16777216 : Int))] = wdT x) := by kernel_rfl
theorem nm_p (E : World) (s : ByteArray) :
    (conP (.c (.i false .u32 (nmF s))) (fnTree (pe E) (orcL E) (tabL fns) 1000 Tryd.f29 [.c (.str false s)] [])) =
    (inB (0 : Int) s.size = true ∧ inB (1 : Int) s.size = true ∧ inB (2 : Int) s.size = true ∧ inB (3 : Int) s.size = true ∧ IntKind.u32 = IntKind.u32 ∧ bits BinOp.or
      IntKind.u32 (bits BinOp.or IntKind.u32 (bits BinOp.or IntKind.u32 (IntKind.u32.wrap (strB s (0 : Int))) (IntKind.u32.wrap (IntKind.u32.wrap (strB s (1 : Int)) * (256 :
      Int)))) (IntKind.u32.wrap (IntKind.u32.wrap (strB s (2 : Int)) * (65536 : Int)))) (IntKind.u32.wrap (IntKind.u32.wrap (strB s (3 : Int)) * (16777216 : Int))) = nmF s) := by kernel_rfl
theorem vl_p (E : World) (k a : Int) (d : ByteArray) :
    (conP (.c (.b false (vlF k a d))) (fnTree (pe E) (orcL E) (tabL fns) 1000 Tryd.f32 [.a [.i false .i64 k, .i false .i64 a, .str false d]] [])) =
    ((decide (a < (0 : Int)) = true → false = vlF k a d) ∧ (decide (a < (0 : Int)) = false → (decide (a > (131071 : Int)) = true → false = vlF k a d) ∧ (decide (a > (131071 :
      Int)) = false → ((k == (1 : Int)) = true → (decide ((↑d.size : Int) ≥ (1 : Int)) = true → decide ((↑d.size : Int) ≤ (8 : Int)) = vlF k a d) ∧ (decide ((↑d.size : Int) ≥ (1
      : Int)) = false → false = vlF k a d)) ∧ ((k == (1 : Int)) = false → ((k == (2 : Int)) = true → ((a.tmod (4096 : Int) == (0 : Int)) = true → (false ^^ d == ByteArray.mk
      #[]) = vlF k a d) ∧ ((a.tmod (4096 : Int) == (0 : Int)) = false → false = vlF k a d)) ∧ ((k == (2 : Int)) = false → ((k == (3 : Int)) = true → ((a == (0 : Int)) = true →
      (false ^^ d == ByteArray.mk #[]) = vlF k a d) ∧ ((a == (0 : Int)) = false → false = vlF k a d)) ∧ ((k == (3 : Int)) = false → false = vlF k a d)))))) := by kernel_rfl
theorem nm_h (E : World) (s : ByteArray) (h : Nat.ble 4 s.size = true) : conP (.c (.i false .u32 (nmF s))) (fnTree (pe E) (orcL E) (tabL fns) 1000 Tryd.f29 [.c (.str false s)] []) := by
  have h := Nat.le_of_ble_eq_true h
  rw [nm_p]
  have hin : ∀ i : Int, 0 ≤ i → i < 4 → inB i s.size = true := fun i h0 h1 => by simp only [inB, Bool.and_eq_true, decide_eq_true_eq]; omega
  (repeat' (first | exact trivial | with_reducible rfl | exact hin _ (by decide) (by decide) | exact (nmF_eq s).symm | apply And.intro))
theorem empty_iff (d : ByteArray) : (d == ByteArray.mk #[]) = decide (d.size = 0) := by
  by_cases h : d.size = 0
  · have : d = ByteArray.mk #[] := txt_ext (by rw [size_txt] at h; exact List.eq_nil_of_length_eq_zero h)
    subst this; rfl
  · rw [decide_eq_false h]
    cases hq : (d == ByteArray.mk #[])
    · rfl
    · exfalso; apply h
      have : d = ByteArray.mk #[] := by
        cases d
        have := @eq_of_beq (Array UInt8) _ _ _ _ hq
        exact congrArg ByteArray.mk this
      rw [this]; rfl
theorem vl_h (E : World) (k a : Int) (d : ByteArray) : conP (.c (.b false (vlF k a d))) (fnTree (pe E) (orcL E) (tabL fns) 1000 Tryd.f32 [.a [.i false .i64 k, .i false .i64 a, .str false d]] []) := by
  rw [vl_p]
  have h4 : ¬ a < 0 → a.tmod 4096 = a % 4096 := fun h => Int.tmod_eq_emod_of_nonneg (by omega)
  simp only [empty_iff, Bool.false_xor, decide_eq_true_eq, decide_eq_false_iff_not, beq_iff_eq, beq_eq_false_iff_ne, ne_eq]
  refine ⟨fun h => ?_, fun h => ?_⟩
  · rw [Bool.eq_iff_iff]; simp only [vlF, Bool.and_eq_true, Bool.or_eq_true, decide_eq_true_eq, Bool.false_eq_true, false_iff, iff_false]; omega
  have h4 := h4 h
  simp only [h4]
  (repeat' (first | intro h | apply And.intro)) <;> (rw [Bool.eq_iff_iff]; simp only [vlF, Bool.and_eq_true, Bool.or_eq_true, decide_eq_true_eq, Bool.false_eq_true, false_iff, iff_false]; omega)
set_option maxRecDepth 100000 in
theorem wd_c (E : World) (l1 : Bool) (x : Int) (s : SW) : CallTree (pe E) 27 [.c (.i l1 .u32 x)] s (.leaf (.c (.strn 4 (wdT x)), s)) := by
  refine CallTree.args (vs' := [.c (.i false .u32 x)]) ⟨rfl, rfl⟩ ?_
  exact pure_contractH (fnTree_sound (P := pe E) orcL_ok tab_ok tab_sz mixed 1000 Tryd.func27 (by decide) [.c (.i false .u32 x)] []) (by simp [SV.ok, C.ok, okL]) (v := .c (.strn 4 (wdT x))) rfl ⟨by rw [wd_p]; exact (wdT_eq x).symm⟩ s
set_option maxRecDepth 100000 in
theorem nm_c (E : World) (q : ByteArray) (s : SW) (h : (Nat.ble 4 q.size) = true) : CallTree (pe E) 29 [.c (.str false q)] s (.leaf (.c (.i false .u32 (nmF q)), s)) := by
  refine CallTree.args (vs' := [.c (.str false q)]) rfl ?_
  exact pure_contractH (fnTree_sound (P := pe E) orcL_ok tab_ok tab_sz mixed 1000 Tryd.func29 (by decide) [.c (.str false q)] []) (by simp [SV.ok, C.ok, okL]) (v := .c (.i false .u32 (nmF q))) rfl ⟨nm_h E q h⟩ s
set_option maxRecDepth 100000 in
theorem vl_c (E : World) (l1 l2 : Bool) (k : Int) (a : Int) (d : ByteArray) (s : SW) : CallTree (pe E) 32 [.a [.i l1 .i64 k, .i l2 .i64 a, .str false d]] s (.leaf (.c (.b false (vlF k a d)), s)) := by
  refine CallTree.args (vs' := [.a [.i false .i64 k, .i false .i64 a, .str false d]]) ⟨⟨rfl, rfl⟩, ⟨rfl, rfl⟩, rfl⟩ ?_
  exact pure_contractH (fnTree_sound (P := pe E) orcL_ok tab_ok tab_sz mixed 1000 Tryd.func32 (by decide) [.a [.i false .i64 k, .i false .i64 a, .str false d]] []) (by simp [SV.ok, C.ok, okL]) (v := .c (.b false (vlF k a d))) rfl ⟨vl_h E k a d⟩ s
noncomputable def orcS (E : World) : Orc := fun g vs s => match g, vs with
  | 27, [.c (.i _ .u32 x)] => some (.leaf (.c (.strn 4 (wdT x)), s))
  | 29, [.c (.str false q)] => some (.need (Nat.ble 4 q.size) (.leaf (.c (.i false .u32 (nmF q)), s)))
  | 32, [.a [.i _ .i64 k, .i _ .i64 a, .str false d]] => some (.leaf (.c (.b false (vlF k a d)), s))
  | g, vs => (orcL E) g vs s
theorem orcS_ok {E : World} : OrcOK (pe E) (orcS E) := by
  intro g vs s t h
  unfold orcS at h
  split at h
  · cases h
    exact wd_c E _ _ s
  · cases h
    exact CallTree.need fun h => nm_c E _ s h
  · cases h
    exact vl_c E _ _ _ _ _ s
  · exact orcL_ok _ _ _ _ h
end Go.Proofs.YtnfmkfmgaohpfaaDoor

