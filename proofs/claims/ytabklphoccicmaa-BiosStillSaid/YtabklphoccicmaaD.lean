import Derived.Test.YtabklphoccicmaaC
set_option linter.unusedVariables false
set_option linter.unusedSimpArgs false
namespace Go.Proofs.Ytabklphoccicmaa
open Go Go.Proofs Go.Proofs.Ytabklphoccicmaa.Ev
theorem div_h (E : World) (a b : Int) : conP (.t [.c (.i false .i32 (dq a b)), .c (.i false .i32 (dr a b)), .c (.i false .i32 (dx a b))]) (fnTree (pe E) (orcB E) (tabL fns) 20000 Try.f11 [.c (.i false .i32 a), .c (.i false .i32 b)] []) := by
  rw [div_p]
  refine ⟨fun h => ?_, fun h => ?_⟩
  · have h : b = 0 := by simpa using h
    refine ⟨fun h2 => ?_, fun h2 => ?_⟩
    · have h2 := of_decide_eq_true h2
      exact ⟨⟨rfl, by rw [dq, if_pos h, if_pos h2]⟩, ⟨rfl, by rw [dr, if_pos h]⟩, rfl, by rw [dx, if_pos h]⟩
    · have h2 := of_decide_eq_false h2
      exact ⟨⟨rfl, by rw [dq, if_pos h, if_neg h2]⟩, ⟨rfl, by rw [dr, if_pos h]⟩, rfl, by rw [dx, if_pos h]⟩
  · have h : ¬ b = 0 := by simpa using h
    exact ⟨by simpa using h, by simpa using h, ⟨rfl, by rw [dq, if_neg h]⟩, ⟨rfl, by rw [dr, if_neg h]⟩, rfl, by rw [dx, if_neg h]⟩
theorem quo_bd (a b : Int) (ha : -2147483648 ≤ a ∧ a < 2147483648) : -2147483648 ≤ a.tdiv b ∧ a.tdiv b ≤ 2147483648 := by
  have h := Int.natAbs_tdiv a b
  have h2 : (a.tdiv b).natAbs ≤ a.natAbs := by rw [h]; exact Nat.div_le_self _ _
  omega
theorem rem_bd (a b : Int) (hb : -2147483648 ≤ b ∧ b < 2147483648) (h : ¬ b = 0) : -2147483648 < a.tmod b ∧ a.tmod b < 2147483648 := by
  have h1 := Int.natAbs_tmod a b
  have h2 : (a.tmod b).natAbs < b.natAbs := by rw [h1]; exact Nat.mod_lt _ (by omega)
  omega
theorem rdiv_h (E : World) (a b : Int) (ha : i32b a = true) (hb : i32b b = true) : conP (.t [.c (.i false .i32 (dq a b)), .c (.i false .i32 (dr a b)), .c (.i false .i32 (dx a b))]) (fnTree (pe E) (orcB E) (tabL fns) 20000 Try.f12 [.c (.i false .i32 a), .c (.i false .i32 b)] []) := by
  rw [i32b_iff] at ha hb
  rw [rdiv_p]
  refine ⟨fun h => ?_, fun h => ?_⟩
  · have h : b = 0 := by simpa using h
    refine ⟨fun h2 => ?_, fun h2 => ?_⟩
    · have h2 := of_decide_eq_true h2
      exact ⟨⟨rfl, by rw [dq, if_pos h, if_pos h2]⟩, ⟨rfl, by rw [dr, if_pos h]⟩, rfl, by rw [dx, if_pos h]⟩
    · have h2 := of_decide_eq_false h2
      exact ⟨⟨rfl, by rw [dq, if_pos h, if_neg h2]⟩, ⟨rfl, by rw [dr, if_pos h]⟩, rfl, by rw [dx, if_pos h]⟩
  · have h : ¬ b = 0 := by simpa using h
    have hq := quo_bd a b ha
    have hr := rem_bd a b hb h
    have hd := Int.mul_tdiv_add_tmod a b
    rw [wi64_in a (by omega) (by omega), wi64_in b (by omega) (by omega), wi64_in (a.tdiv b) (by omega) (by omega), wi64_in (b * a.tdiv b) (by omega) (by omega),
      wi64_in (a - b * a.tdiv b) (by omega) (by omega), show a - b * a.tdiv b = a.tmod b by omega, wi32_in (a.tmod b) (by omega) (by omega)]
    refine ⟨by simpa using h, by simpa using h, ⟨rfl, by rw [dq, if_neg h]⟩, ⟨rfl, by rw [dr, if_neg h]⟩, rfl, ?_⟩
    rw [dx, if_neg h]
    have hw : -2147483648 ≤ IntKind.i32.wrap (a.tdiv b) ∧ IntKind.i32.wrap (a.tdiv b) < 2147483648 := by rw [wi32]; omega
    generalize IntKind.i32.wrap (a.tdiv b) = q at *
    unfold am
    rw [wi32]
    split <;> split <;> omega
set_option maxRecDepth 100000 in
theorem sine_c (E : World) (l1 : Bool) (n : Int) (s : SW) : CallTree (pe E) 19 [.c (.i l1 .i64 n)] s (.leaf (.c (.i false .i64 (sn n)), s)) := by
  refine CallTree.args (vs' := [.c (.i false .i64 n)]) ⟨rfl, rfl⟩ ?_
  exact pure_contractH (fnTree_sound (P := pe E) orcB_ok tab_ok tab_sz mixed 20000 Try.func19 (by decide) [.c (.i false .i64 n)] []) (by simp [SV.ok, C.ok, okL]) (v := .c (.i false .i64 (sn n))) rfl ⟨sine_h E n⟩ s
set_option maxRecDepth 100000 in
theorem div_c (E : World) (l1 l2 : Bool) (a : Int) (b : Int) (s : SW) : CallTree (pe E) 11 [.c (.i l1 .i32 a), .c (.i l2 .i32 b)] s (.leaf (.t [.c (.i false .i32 (dq a b)), .c (.i false .i32 (dr a b)), .c (.i false .i32 (dx a b))], s)) := by
  refine CallTree.args (vs' := [.c (.i false .i32 a), .c (.i false .i32 b)]) ⟨⟨rfl, rfl⟩, ⟨rfl, rfl⟩⟩ ?_
  exact pure_contractH (fnTree_sound (P := pe E) orcB_ok tab_ok tab_sz mixed 20000 Try.func11 (by decide) [.c (.i false .i32 a), .c (.i false .i32 b)] []) (by simp [SV.ok, C.ok, okL]) (v := .t [.c (.i false .i32 (dq a b)), .c (.i false .i32 (dr a b)), .c (.i false .i32 (dx a b))]) rfl ⟨div_h E a b⟩ s
set_option maxRecDepth 100000 in
theorem rdiv_c (E : World) (l1 l2 : Bool) (a : Int) (b : Int) (s : SW) (ha : (i32b a) = true) (hb : (i32b b) = true) : CallTree (pe E) 12 [.c (.i l1 .i32 a), .c (.i l2 .i32 b)] s (.leaf (.t [.c (.i false .i32 (dq a b)), .c (.i false .i32 (dr a b)), .c (.i false .i32 (dx a b))], s)) := by
  refine CallTree.args (vs' := [.c (.i false .i32 a), .c (.i false .i32 b)]) ⟨⟨rfl, rfl⟩, ⟨rfl, rfl⟩⟩ ?_
  exact pure_contractH (fnTree_sound (P := pe E) orcB_ok tab_ok tab_sz mixed 20000 Try.func12 (by decide) [.c (.i false .i32 a), .c (.i false .i32 b)] []) (by simp [SV.ok, C.ok, okL]) (v := .t [.c (.i false .i32 (dq a b)), .c (.i false .i32 (dr a b)), .c (.i false .i32 (dx a b))]) rfl ⟨rdiv_h E a b ha hb⟩ s
set_option maxRecDepth 100000 in
theorem a2_c (E : World) (l1 l2 : Bool) (x : Int) (y : Int) (s : SW) (hx : (i32b x) = true) (hy : (i32b y) = true) : CallTree (pe E) 17 [.c (.i l1 .i32 x), .c (.i l2 .i32 y)] s (.leaf (.c (.i false .u16 (at2 x y)), s)) := by
  refine CallTree.args (vs' := [.c (.i false .i32 x), .c (.i false .i32 y)]) ⟨⟨rfl, rfl⟩, ⟨rfl, rfl⟩⟩ ?_
  exact pure_contractH (fnTree_sound (P := pe E) orcB_ok tab_ok tab_sz mixed 20000 Try.func17 (by decide) [.c (.i false .i32 x), .c (.i false .i32 y)] []) (by simp [SV.ok, C.ok, okL]) (v := .c (.i false .u16 (at2 x y))) rfl ⟨a2_h E x y hx hy⟩ s
set_option maxRecDepth 100000 in
theorem ra2_c (E : World) (l1 l2 : Bool) (x : Int) (y : Int) (s : SW) (hx : (i32b x) = true) (hy : (i32b y) = true) : CallTree (pe E) 18 [.c (.i l1 .i32 x), .c (.i l2 .i32 y)] s (.leaf (.c (.i false .u16 (at2 x y)), s)) := by
  refine CallTree.args (vs' := [.c (.i false .i32 x), .c (.i false .i32 y)]) ⟨⟨rfl, rfl⟩, ⟨rfl, rfl⟩⟩ ?_
  exact pure_contractH (fnTree_sound (P := pe E) orcB_ok tab_ok tab_sz mixed 20000 Try.func18 (by decide) [.c (.i false .i32 x), .c (.i false .i32 y)] []) (by simp [SV.ok, C.ok, okL]) (v := .c (.i false .u16 (at2 x y))) rfl ⟨ra2_h E x y hx hy⟩ s
def orcF (E : World) : Orc := fun g vs s => match g, vs with
  | 19, [.c (.i _ .i64 n)] => some (.leaf (.c (.i false .i64 (sn n)), s))
  | 11, [.c (.i _ .i32 a), .c (.i _ .i32 b)] => some (.leaf (.t [.c (.i false .i32 (dq a b)), .c (.i false .i32 (dr a b)), .c (.i false .i32 (dx a b))], s))
  | 12, [.c (.i _ .i32 a), .c (.i _ .i32 b)] => some (.need (i32b a) (.need (i32b b) (.leaf (.t [.c (.i false .i32 (dq a b)), .c (.i false .i32 (dr a b)), .c (.i false .i32 (dx a b))], s))))
  | 17, [.c (.i _ .i32 x), .c (.i _ .i32 y)] => some (.need (i32b x) (.need (i32b y) (.leaf (.c (.i false .u16 (at2 x y)), s))))
  | 18, [.c (.i _ .i32 x), .c (.i _ .i32 y)] => some (.need (i32b x) (.need (i32b y) (.leaf (.c (.i false .u16 (at2 x y)), s))))
  | 13, [.c (.i _ .u32 y)] => some (.need (u32b y) (.leaf (.c (.i false .u32 (rt y)), s)))
  | 14, [.c (.i _ .u32 y)] => some (.need (u32b y) (.leaf (.c (.i false .u32 (rt y)), s)))
  | g, vs => (orcB E) g vs s
theorem orcF_ok {E : World} : OrcOK (pe E) (orcF E) := by
  intro g vs s t h
  unfold orcF at h
  split at h
  · cases h
    exact sine_c E _ _ s
  · cases h
    exact div_c E _ _ _ _ s
  · cases h
    exact CallTree.need fun ha => CallTree.need fun hb => rdiv_c E _ _ _ _ s ha hb
  · cases h
    exact CallTree.need fun hx => CallTree.need fun hy => a2_c E _ _ _ _ s hx hy
  · cases h
    exact CallTree.need fun hx => CallTree.need fun hy => ra2_c E _ _ _ _ s hx hy
  · cases h
    exact CallTree.need fun h => sq_c E _ _ s h
  · cases h
    exact CallTree.need fun h => rsq_c E _ _ s h
  · exact orcB_ok _ _ _ _ h
theorem numbers_p (E : World) (a b n : Int) :
    (lawP (fnTree (pe E) (orcF E) (tabL fns) 20000 Try.f3 [.c (.i false .i32 a), .c (.i false .i32 b), .c (.i false .i64 n)] [])) =
    (i32b a = true ∧ i32b b = true ∧ (dq a b == dq a b) = true ∧ (dr a b == dr a b) = true ∧ (dx a b == dx a b) = true ∧ u32b (IntKind.u32.wrap a) = true ∧ u32b
      (IntKind.u32.wrap a) = true ∧ (rt (IntKind.u32.wrap a) == rt (IntKind.u32.wrap a)) = true ∧ (arc a == arc a) = true ∧ i32b a = true ∧ i32b b = true ∧ i32b a = true ∧ i32b
      b = true ∧ (at2 a b == at2 a b) = true ∧ (sn n == sn n) = true) := by kernel_rfl
theorem right_p (E : World) (a b n : Int) :
    (lawP (fnTree (pe E) (orcF E) (tabL fns) 20000 Try.f4 [.c (.i false .i32 a), .c (.i false .i32 b), .c (.i false .i64 n)] [])) =
    (u32b (IntKind.u32.wrap a) = true ∧ decide (IntKind.u64.wrap (IntKind.u64.wrap (rt (IntKind.u32.wrap a)) * IntKind.u64.wrap (rt (IntKind.u32.wrap a))) > IntKind.u64.wrap
      (IntKind.u32.wrap a)) = false ∧ decide (IntKind.u64.wrap (IntKind.u64.wrap (IntKind.u64.wrap (rt (IntKind.u32.wrap a)) + (1 : Int)) * IntKind.u64.wrap (IntKind.u64.wrap
      (rt (IntKind.u32.wrap a)) + (1 : Int))) ≤ IntKind.u64.wrap (IntKind.u32.wrap a)) = false ∧ (sn (bits BinOp.and IntKind.i64 n (255 : Int)) != IntKind.i64.wrap ((0 : Int) -
      sn (IntKind.i64.wrap (bits BinOp.and IntKind.i64 n (255 : Int) + (128 : Int))))) = false ∧ (decide (bits BinOp.and IntKind.i64 n (255 : Int) ≤ (128 : Int)) = true → (sn
      (bits BinOp.and IntKind.i64 n (255 : Int)) != sn (IntKind.i64.wrap ((128 : Int) - bits BinOp.and IntKind.i64 n (255 : Int)))) = false ∧ decide (sn (bits BinOp.and
      IntKind.i64 n (255 : Int)) > (16384 : Int)) = false ∧ ((b == (0 : Int)) = true → true = true) ∧ ((b == (0 : Int)) = false → ((IntKind.i32.wrap (IntKind.i32.wrap (dq a b *
      b) + dr a b) == a) = true → ((dr a b == (0 : Int)) = true → (decide ((if IntKind.i32.wrap ((0 : Int) - dr a b) > dr a b then IntKind.i32.wrap ((0 : Int) - dr a b) else dr
      a b) < if IntKind.i32.wrap ((0 : Int) - b) > b then IntKind.i32.wrap ((0 : Int) - b) else b) = true → true = true) ∧ (decide ((if IntKind.i32.wrap ((0 : Int) - dr a b) >
      dr a b then IntKind.i32.wrap ((0 : Int) - dr a b) else dr a b) < if IntKind.i32.wrap ((0 : Int) - b) > b then IntKind.i32.wrap ((0 : Int) - b) else b) = false → (b ==
      (-2147483648 : Int)) = true)) ∧ ((dr a b == (0 : Int)) = false → ((false ^^ decide (dr a b < (0 : Int)) == decide (a < (0 : Int))) = true → (decide ((if IntKind.i32.wrap
      ((0 : Int) - dr a b) > dr a b then IntKind.i32.wrap ((0 : Int) - dr a b) else dr a b) < if IntKind.i32.wrap ((0 : Int) - b) > b then IntKind.i32.wrap ((0 : Int) - b) else
      b) = true → true = true) ∧ (decide ((if IntKind.i32.wrap ((0 : Int) - dr a b) > dr a b then IntKind.i32.wrap ((0 : Int) - dr a b) else dr a b) < if IntKind.i32.wrap ((0 :
      Int) - b) > b then IntKind.i32.wrap ((0 : Int) - b) else b) = false → (b == (-2147483648 : Int)) = true)) ∧ ((false ^^ decide (dr a b < (0 : Int)) == decide (a < (0 :
      Int))) = false → (b == (-2147483648 : Int)) = true))) ∧ ((IntKind.i32.wrap (IntKind.i32.wrap (dq a b * b) + dr a b) == a) = false → (b == (-2147483648 : Int)) = true))) ∧
      (decide (bits BinOp.and IntKind.i64 n (255 : Int) ≤ (128 : Int)) = false → decide (sn (bits BinOp.and IntKind.i64 n (255 : Int)) > (16384 : Int)) = false ∧ ((b == (0 :
      Int)) = true → true = true) ∧ ((b == (0 : Int)) = false → ((IntKind.i32.wrap (IntKind.i32.wrap (dq a b * b) + dr a b) == a) = true → ((dr a b == (0 : Int)) = true →
      (decide ((if IntKind.i32.wrap ((0 : Int) - dr a b) > dr a b then IntKind.i32.wrap ((0 : Int) - dr a b) else dr a b) < if IntKind.i32.wrap ((0 : Int) - b) > b then
      IntKind.i32.wrap ((0 : Int) - b) else b) = true → true = true) ∧ (decide ((if IntKind.i32.wrap ((0 : Int) - dr a b) > dr a b then IntKind.i32.wrap ((0 : Int) - dr a b)
      else dr a b) < if IntKind.i32.wrap ((0 : Int) - b) > b then IntKind.i32.wrap ((0 : Int) - b) else b) = false → (b == (-2147483648 : Int)) = true)) ∧ ((dr a b == (0 : Int))
      = false → ((false ^^ decide (dr a b < (0 : Int)) == decide (a < (0 : Int))) = true → (decide ((if IntKind.i32.wrap ((0 : Int) - dr a b) > dr a b then IntKind.i32.wrap ((0
      : Int) - dr a b) else dr a b) < if IntKind.i32.wrap ((0 : Int) - b) > b then IntKind.i32.wrap ((0 : Int) - b) else b) = true → true = true) ∧ (decide ((if IntKind.i32.wrap
      ((0 : Int) - dr a b) > dr a b then IntKind.i32.wrap ((0 : Int) - dr a b) else dr a b) < if IntKind.i32.wrap ((0 : Int) - b) > b then IntKind.i32.wrap ((0 : Int) - b) else
      b) = false → (b == (-2147483648 : Int)) = true)) ∧ ((false ^^ decide (dr a b < (0 : Int)) == decide (a < (0 : Int))) = false → (b == (-2147483648 : Int)) = true))) ∧
      ((IntKind.i32.wrap (IntKind.i32.wrap (dq a b * b) + dr a b) == a) = false → (b == (-2147483648 : Int)) = true)))) := by kernel_rfl
end Go.Proofs.Ytabklphoccicmaa

