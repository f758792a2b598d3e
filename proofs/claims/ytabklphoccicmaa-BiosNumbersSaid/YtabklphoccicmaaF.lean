import Derived.Test.YtabklphoccicmaaD
set_option linter.unusedVariables false
set_option linter.unusedSimpArgs false
namespace Go.Proofs.Ytabklphoccicmaa
open Go Go.Proofs Go.Proofs.Ytabklphoccicmaa.Ev
theorem dpart (a b : Int) (ha : -2147483648 ≤ a ∧ a < 2147483648) (hb : -2147483648 ≤ b ∧ b < 2147483648) : ((b == (0 : Int)) = true → true = true) ∧ ((b == (0 : Int)) = false → ((IntKind.i32.wrap (IntKind.i32.wrap (dq a b * b) + dr a b) == a) = true → ((dr a b == (0 : Int)) = true → (decide ((if IntKind.i32.wrap ((0 : Int) - dr a b) > dr a b then IntKind.i32.wrap ((0 : Int) - dr a b) else dr a b) < if IntKind.i32.wrap ((0 : Int) - b) > b then IntKind.i32.wrap ((0 : Int) - b) else b) = true → true = true) ∧ (decide ((if IntKind.i32.wrap ((0 : Int) - dr a b) > dr a b then IntKind.i32.wrap ((0 : Int) - dr a b) else dr a b) < if IntKind.i32.wrap ((0 : Int) - b) > b then IntKind.i32.wrap ((0 : Int) - b) else b) = false → (b == (-2147483648 : Int)) = true)) ∧ ((dr a b == (0 : Int)) = false → ((false ^^ decide (dr a b < (0 : Int)) == decide (a < (0 : Int))) = true → (decide ((if IntKind.i32.wrap ((0 : Int) - dr a b) > dr a b then IntKind.i32.wrap ((0 : Int) - dr a b) else dr a b) < if IntKind.i32.wrap ((0 : Int) - b) > b then IntKind.i32.wrap ((0 : Int) - b) else b) = true → true = true) ∧ (decide ((if IntKind.i32.wrap ((0 : Int) - dr a b) > dr a b then IntKind.i32.wrap ((0 : Int) - dr a b) else dr a b) < if IntKind.i32.wrap ((0 : Int) - b) > b then IntKind.i32.wrap ((0 : Int) - b) else b) = false → (b == (-2147483648 : Int)) = true)) ∧ ((false ^^ decide (dr a b < (0 : Int)) == decide (a < (0 : Int))) = false → (b == (-2147483648 : Int)) = true))) ∧ ((IntKind.i32.wrap (IntKind.i32.wrap (dq a b * b) + dr a b) == a) = false → (b == (-2147483648 : Int)) = true)) := by
  refine ⟨fun _ => rfl, fun h => ?_⟩
  have h : ¬ b = 0 := by simpa using h
  have hq := quo_bd a b ha
  have hr := rem_bd a b hb h
  have hd := Int.mul_tdiv_add_tmod a b
  have er : dr a b = a.tmod b := by rw [dr, if_neg h]
  have eq : dq a b = IntKind.i32.wrap (a.tdiv b) := by rw [dq, if_neg h]
  have nr : (a.tmod b).natAbs < b.natAbs := by rw [Int.natAbs_tmod]; exact Nat.mod_lt _ (by omega)
  have sg : (0 ≤ a → 0 ≤ a.tmod b) ∧ (a ≤ 0 → a.tmod b ≤ 0) := by
    refine ⟨fun h => Int.tmod_nonneg b h, fun h => ?_⟩
    have := Int.tmod_nonneg b (a := -a) (by omega)
    rw [Int.neg_tmod] at this
    omega
  rw [er, eq]
  have e0 : (IntKind.i32.wrap (IntKind.i32.wrap (IntKind.i32.wrap (a.tdiv b) * b) + a.tmod b) == a) = true := by
    rw [beq_iff_eq]
    by_cases hx : a.tdiv b = 2147483648
    · rw [hx] at hd ⊢
      rw [show IntKind.i32.wrap 2147483648 = -2147483648 by decide, wi32, wi32]
      omega
    · rw [wi32_in (a.tdiv b) (by omega) (by omega), Int.mul_comm, wi32, wi32]
      omega
  generalize a.tdiv b = q at *
  generalize a.tmod b = r at *
  by_cases hm : b = -2147483648
  · have hm' : (b == (-2147483648 : Int)) = true := by simpa using hm
    refine ⟨fun _ => ⟨fun _ => ⟨fun _ => rfl, fun _ => hm'⟩, fun _ => ⟨fun _ => ⟨fun _ => rfl, fun _ => hm'⟩, fun _ => hm'⟩⟩, fun _ => hm'⟩
  · have hl : decide ((if IntKind.i32.wrap ((0 : Int) - r) > r then IntKind.i32.wrap ((0 : Int) - r) else r) < if IntKind.i32.wrap ((0 : Int) - b) > b then IntKind.i32.wrap ((0 : Int) - b) else b) = true := by
      rw [decide_eq_true_eq, wi32_in (0 - r) (by omega) (by omega), wi32_in (0 - b) (by omega) (by omega)]
      split <;> split <;> omega
    refine ⟨fun _ => ⟨fun _ => ⟨fun _ => rfl, fun hf => ?_⟩, fun h0 => ⟨fun _ => ⟨fun _ => rfl, fun hf => ?_⟩, fun hf => ?_⟩⟩, fun hf => ?_⟩
    · rw [hl] at hf; cases hf
    · rw [hl] at hf; cases hf
    · exfalso
      have h0 : ¬ r = 0 := by simpa using h0
      have : decide (r < 0) = decide (a < 0) := by
        rw [decide_eq_decide]; omega
      rw [this] at hf
      simp at hf
    · rw [e0] at hf; cases hf
def chk (m : Int) : Bool := !(sn m != IntKind.i64.wrap ((0 : Int) - sn (IntKind.i64.wrap (m + (128 : Int))))) && (!decide (m ≤ (128 : Int)) || !(sn m != sn (IntKind.i64.wrap ((128 : Int) - m)))) && !decide (sn m > (16384 : Int))
theorem chk_all : ∀ k : Nat, k < 256 → chk (k : Int) = true := by decide +kernel
theorem chk_of (n : Int) : chk (n % 256) = true := by
  obtain ⟨k, hk⟩ := Int.eq_ofNat_of_zero_le (show 0 ≤ n % 256 by omega)
  rw [hk]; exact chk_all k (by omega)
theorem numbers_l (E : World) (a b n : Int) (ha : -2147483648 ≤ a ∧ a < 2147483648) (hb : -2147483648 ≤ b ∧ b < 2147483648) : Holds (lawP (fnTree (pe E) (orcF E) (tabL fns) 20000 Try.f3 [.c (.i false .i32 a), .c (.i false .i32 b), .c (.i false .i64 n)] [])) := ⟨by
  have h1 := (i32b_iff a).2 ha
  have h2 := (i32b_iff b).2 hb
  have h3 : u32b (IntKind.u32.wrap a) = true := by rw [u32b_iff, wu32]; omega
  rw [numbers_p]
  exact ⟨h1, h2, beq_self_eq_true _, beq_self_eq_true _, beq_self_eq_true _, h3, h3, beq_self_eq_true _, beq_self_eq_true _, h1, h2, h1, h2, beq_self_eq_true _, beq_self_eq_true _⟩⟩
theorem right_l (E : World) (a b n : Int) (ha : -2147483648 ≤ a ∧ a < 2147483648) (hb : -2147483648 ≤ b ∧ b < 2147483648) : Holds (lawP (fnTree (pe E) (orcF E) (tabL fns) 20000 Try.f4 [.c (.i false .i32 a), .c (.i false .i32 b), .c (.i false .i64 n)] [])) := ⟨by
  have hx : 0 ≤ IntKind.u32.wrap a ∧ IntKind.u32.wrap a < 4294967296 := by rw [wu32]; omega
  have hs := rt_spec _ hx.1 hx.2
  have hd := dpart a b ha hb
  have hc := chk_of n
  rw [right_p, and8]
  generalize IntKind.u32.wrap a = x at *
  generalize rt x = r at *
  have r1 : r < 65536 := by
    rcases Int.lt_or_le r 65536 with h | h
    · exact h
    · have : (65536 : Int) * 65536 ≤ r * r := Int.mul_le_mul h h (by decide) hs.1
      omega
  have m0 : 0 ≤ r * r := Int.mul_nonneg hs.1 hs.1
  have m1 : (r + 1) * (r + 1) ≤ 65536 * 65536 := Int.mul_le_mul (by omega) (by omega) (by omega) (by omega)
  have m2 : 0 ≤ (r + 1) * (r + 1) := Int.mul_nonneg (by omega) (by omega)
  rw [wu64_in r hs.1 (by omega), wu64_in x hx.1 (by omega), wu64_in (r * r) m0 (by omega), wu64_in (r + 1) (by omega) (by omega), wu64_in ((r + 1) * (r + 1)) m2 (by omega)]
  generalize n % 256 = m at *
  simp only [chk, Bool.and_eq_true, Bool.or_eq_true, Bool.not_eq_true'] at hc
  obtain ⟨⟨c1, c2⟩, c3⟩ := hc
  refine ⟨(u32b_iff x).2 hx, decide_eq_false (by omega), decide_eq_false (by omega), c1, fun h => ⟨?_, c3, hd⟩, fun _ => ⟨c3, hd⟩⟩
  rcases c2 with c2 | c2
  · rw [h] at c2; cases c2
  · exact c2⟩
theorem b32 {n : Int} (h : (Lit.int .i32 n).wf = true) : -2147483648 ≤ n ∧ n < 2147483648 := by
  have h := h
  simp [Lit.wf, IntKind.min, IntKind.max, IntKind.bits, IntKind.signed] at h
  omega
end Go.Proofs.Ytabklphoccicmaa

