import Derived.Test.YtabklphoccicmaaF
set_option linter.unusedVariables false
set_option linter.unusedSimpArgs false
namespace Go.Proofs.Ytabklphoccicmaa
open Go Go.Proofs Go.Proofs.Ytabklphoccicmaa.Ev Go.Proofs.Ytabklphoccicmaa.Ev.Ho Go.IntKind
set_option maxRecDepth 100000
noncomputable def cpW (E : World) (w t f : Int) (m : Mm) : Mm := if w = 2 then wrm2 E t (rdv2 E f m) m else wrm4 E t (rdv4 E f m) m
noncomputable def cpF (E : World) (w : Int) (inc : Bool) : Nat → Int → Int → Mm → Mm
  | 0, _, _, m => m
  | n + 1, f, t, m => cpF E w inc n (bif inc then IntKind.u32.wrap (f + w) else f) (IntKind.u32.wrap (t + w)) (cpW E w t f m)
def cnt (c : Int) (fast : Bool) : Int := if fast = true then (c % 65536 + 7) / 8 * 8 else c % 65536
def wdt (c : Int) (fast : Bool) : Int := if fast = true ∨ c / 67108864 % 2 = 1 then 4 else 2
def incB (c : Int) : Bool := decide (c / 16777216 % 2 = 0)
def alF (w f : Int) : Int := f - f % w
noncomputable def cpR (E : World) (c : Int) (fast : Bool) (f t : Int) (m : Mm) : Mm := cpF E (wdt c fast) (incB c) (cnt c fast).toNat (alF (wdt c fast) f) (alF (wdt c fast) t) m
theorem cnt_bd (c : Int) (fast : Bool) : 0 ≤ cnt c fast ∧ cnt c fast ≤ 65536 := by unfold cnt; split <;> omega
theorem al4 (x : Int) (h0 : 0 ≤ x) (h1 : x < 4294967296) : bits .andNot .u32 x 3 = alF 4 x := by
  rw [andNot_u32 _ _ (by decide) (by decide)]
  have := and_sh .u32 rfl x h0 h1 2 30 (by decide)
  have e : ((2 ^ 30 - 1) * 2 ^ 2 : Int) = 4294967295 - 3 := by decide
  rw [e] at this
  rw [this]; unfold alF; omega
theorem al2 (x : Int) (h0 : 0 ≤ x) (h1 : x < 4294967296) : bits .andNot .u32 x 1 = alF 2 x := by
  rw [andNot_u32 _ _ (by decide) (by decide)]
  have := and_sh .u32 rfl x h0 h1 1 31 (by decide)
  have e : ((2 ^ 31 - 1) * 2 ^ 1 : Int) = 4294967295 - 1 := by decide
  rw [e] at this
  rw [this]; unfold alF; omega
theorem okM.gr {m m' : Mm} (h : okM m) (g : grM m m') (hn : m.nn < 1000000) : okM m' := by
  obtain ⟨h1, h2, h3, h4, h5⟩ := h
  obtain ⟨g1, g2, g3, g4⟩ := g
  exact ⟨by omega, by omega, by omega, by rw [g3, g2, h4], by rw [g4, g1, h5]; omega⟩
theorem inc_eq (c : Int) (h0 : 0 ≤ c) (h1 : c ≤ 4294967295) : (bits .and .u32 (c.fdiv 16777216) 1 == 0) = incB c := by
  have e1 : bits .and .u32 (c.fdiv 16777216) 1 = (c.fdiv 16777216) % 2 := and_mask .u32 _ 1 (.inl (by decide))
  have e2 : c.fdiv 16777216 = c / 16777216 := by rw [Int.fdiv_eq_ediv]; simp
  rw [e1, e2]; unfold incB
  by_cases h : c / 16777216 % 2 = 0 <;> simp [h]
theorem m16 (x : Int) (h0 : 0 ≤ x) (h1 : x ≤ 65535) : bits .and .u32 x 65535 = x := by
  have e1 : bits .and .u32 x 65535 = x % 65536 := and_mask .u32 _ 16 (.inl (by decide))
  rw [e1]; omega
theorem w64 (v : Int) : IntKind.i64.wrap v = IntKind.i64.wrap (IntKind.u64.wrap v) := by rw [wi64, wi64, wu64]; omega
theorem bits_64 (op : BinOp) (x y : Int) : bits op .i64 x y = IntKind.i64.wrap (bits op .u64 x y) := by
  unfold bits
  exact w64 _
theorem an7 (x : Int) (h0 : 0 ≤ x) (h1 : x ≤ 100000) : bits .andNot .i64 x 7 = x / 8 * 8 := by
  have e1 := bits_andNot_n .u64 x 7 (by decide)
  have e2 := and_sh .u64 rfl x h0 (by show x < 2 ^ 64; omega) 3 61 (by decide)
  have e3 : ((2 ^ 61 - 1) * 2 ^ 3 : Int) = ((2 ^ IntKind.u64.bits - 1 - 7 : Nat) : Int) := by decide
  rw [e3] at e2
  rw [bits_64, show bits .andNot .u64 x 7 = bits .andNot .u64 x ((7 : Nat) : Int) from rfl, e1, e2, wi64]
  omega
theorem b26 (c : Int) (h0 : 0 ≤ c) : (bits .and .u32 (c.fdiv 67108864) 1 != 0) = decide (c / 67108864 % 2 = 1) := by
  have e1 : bits .and .u32 (c.fdiv 67108864) 1 = (c.fdiv 67108864) % 2 := and_mask .u32 _ 1 (.inl (by decide))
  rw [e1, fdiv_lit _ _ (by decide)]
  by_cases h : c / 67108864 % 2 = 1
  · simp [h]
  · have : c / 67108864 % 2 = 0 := by omega
    simp [this]
theorem c16 (c : Int) : IntKind.i64.wrap (bits .and .u32 c 65535) = c % 65536 := by
  have e1 : bits .and .u32 c 65535 = c % 65536 := and_mask .u32 _ 16 (.inl (by decide))
  rw [e1, wi64]; omega
theorem n8 (c : Int) : bits .andNot .i64 (IntKind.i64.wrap (c % 65536 + 7)) 7 = (c % 65536 + 7) / 8 * 8 := by
  have e : IntKind.i64.wrap (c % 65536 + 7) = c % 65536 + 7 := by rw [wi64]; omega
  rw [e, an7 _ (by omega) (by omega)]
theorem cpR_i {E : World} {c w n f t : Int} {fast : Bool} {m : Mm} (hw : wdt c fast = w) (hn : cnt c fast = n) : cpF E w (incB c) (n - 0).toNat (alF w f) (alF w t) m = cpR E c fast f t m := by unfold cpR; rw [hw, hn, Int.sub_zero]
theorem alF_bd {w f : Int} (hw : w = 2 ∨ w = 4) (h : 0 ≤ f ∧ f ≤ 4294967295) : 0 ≤ alF w f ∧ alF w f ≤ 4294967295 := by unfold alF; rcases hw with rfl | rfl <;> omega
theorem ur (x : Int) : 0 ≤ IntKind.u32.wrap x ∧ IntKind.u32.wrap x ≤ 4294967295 := by rw [wu32]; omega
theorem cpF_s {E : World} {w : Int} {inc : Bool} {n i f t : Int} {m R : Mm} (h : cpF E w inc (n - i).toNat f t m = R) (hi : i < n) : cpF E w inc (n - (i + 1)).toNat (bif inc then IntKind.u32.wrap (f + w) else f) (IntKind.u32.wrap (t + w)) (cpW E w t f m) = R := by
  have e : (n - i).toNat = (n - (i + 1)).toNat + 1 := by omega
  rw [e] at h; exact h
noncomputable def c22_td (E : World) : List Item := headOf (run (pe E) (orcM E) (tabL fns) 20000 (2 ^ 200 - 1) [.code (Try.f22.body.getD .skip)] ⟨Try.f22.ntmps, mkFrGo (Tr.mk 12) 0 [.c (.ifc 36 0 0), .c (.i false .u32 0), .c (.i false .u32 0), .c (.i false .u32 0), .c (.b false true)]⟩ (mkM default [] [mB 2, rowB, rowN] 0))
end Go.Proofs.Ytabklphoccicmaa

