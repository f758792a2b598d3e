import Derived.Test.YtbnglhfhmhnimaaE
set_option linter.unusedVariables false
set_option linter.unusedSimpArgs false
namespace Go.Proofs.Ytbnglhfhmhnimaa
open Go Go.Proofs Go.Proofs.Ytbnglhfhmhnimaa.Ev
theorem orK (k A r b : Nat) (hr : r < 2 ^ k) (hb : b < 2 ^ k) : (2 ^ k * A + r) ||| b = 2 ^ k * A + (r ||| b) := by
  rw [Nat.two_pow_add_eq_or_of_lt hr, Nat.two_pow_add_eq_or_of_lt (Nat.or_lt_two_pow hr hb), Nat.or_assoc]
theorem fin_l (W C v : Int) (l : Bool) (hC : 0 ≤ C ∧ C < 16) (hv : -8388608 ≤ v ∧ v < 8388608) (hW : W = C * 268435456 + 167772160 + v % 16777216 + (if l then 16777216 else 0)) :
    u32b W = true ∧ five W = true ∧ IntKind.i64.wrap (W.fdiv 268435456) = C ∧ imm W = IntKind.u32.wrap (IntKind.i32.wrap (v * 4)) ∧ lnk W = l := by
  obtain ⟨u, hu⟩ : ∃ u, v % 16777216 = u := ⟨_, rfl⟩
  have hu' : 0 ≤ u ∧ u < 16777216 := by omega
  rw [hu] at hW
  obtain ⟨t, ht⟩ : ∃ t : Int, (if l then (16777216 : Int) else 0) = t := ⟨_, rfl⟩
  rw [ht] at hW
  have ht' : t = 0 ∨ t = 16777216 := by rw [← ht]; split <;> simp
  refine ⟨?_, ?_, ?_, ?_, ?_⟩
  · rw [u32b, decide_eq_true_eq]; omega
  · rw [five, decide_eq_true_eq]; omega
  · rw [fdiv_lit _ _ (by decide), wi64_in _ (by omega) (by omega)]; omega
  · unfold imm
    have e1 : IntKind.u32.wrap (W * 256) = u * 256 := by rw [wu32]; omega
    have e2 : IntKind.i32.wrap (u * 256) = v * 256 := by rw [wi32]; omega
    rw [e1, e2, fdiv_lit _ _ (by decide), wi32_in (v * 4) (by omega) (by omega)]
    congr 1; omega
  · cases l
    · simp only [Bool.false_eq_true, if_false] at ht
      rw [lnk, decide_eq_false_iff_not]; omega
    · simp only [if_true] at ht
      rw [lnk, decide_eq_true_eq]; omega
theorem word_l (C v : Int) (hC : 0 ≤ C ∧ C < 16) (hv : -8388608 ≤ v ∧ v < 8388608) :
    bits .or .u32 (bits .or .u32 (C * 268435456) 167772160) (v % 16777216) = C * 268435456 + 167772160 + v % 16777216 ∧
    bits .or .u32 (C * 268435456 + 167772160 + v % 16777216) 16777216 = C * 268435456 + 167772160 + v % 16777216 + 16777216 := by
  obtain ⟨n, rfl⟩ := Int.eq_ofNat_of_zero_le hC.1
  obtain ⟨u, hu⟩ := Int.eq_ofNat_of_zero_le (show 0 ≤ v % 16777216 by omega)
  rw [hu]
  have hu' : u < 16777216 := by omega
  have hn : n < 16 := by omega
  have k1 := orK 28 n 0 167772160 (by decide) (by decide)
  have k2 := orK 25 (8 * n + 5) 0 u (by decide) (by omega)
  have k3 := orK 25 (8 * n + 5) u 16777216 (by omega) (by decide)
  have k4 : u ||| 16777216 = 16777216 + u := by
    have := Nat.two_pow_add_eq_or_of_lt (i := 24) (show u < 2 ^ 24 by omega) 1
    have e : (2 ^ 24 * 1 : Nat) = 16777216 := by decide
    rw [e] at this
    rw [Nat.or_comm]; exact this.symm
  rw [Nat.zero_or] at k1 k2
  rw [k4] at k3
  have c1 : ((n : Int) * 268435456) = ((2 ^ 28 * n + 0 : Nat) : Int) := by omega
  have c2 : (167772160 : Int) = ((167772160 : Nat) : Int) := rfl
  have c3 : (16777216 : Int) = ((16777216 : Nat) : Int) := rfl
  have b1 : 2 ^ 28 * n + 0 < 2 ^ IntKind.u32.bits := by simp only [IntKind.bits]; omega
  have b2 : 2 ^ 25 * (8 * n + 5) + 0 < 2 ^ IntKind.u32.bits := by simp only [IntKind.bits]; omega
  have b3 : 2 ^ 25 * (8 * n + 5) + u < 2 ^ IntKind.u32.bits := by simp only [IntKind.bits]; omega
  have b4 : u < 2 ^ IntKind.u32.bits := by simp only [IntKind.bits]; omega
  have r1 : bits .or .u32 ((n : Int) * 268435456) 167772160 = ((2 ^ 25 * (8 * n + 5) + 0 : Nat) : Int) := by
    rw [c1, c2, bits_or_n .u32 rfl _ _ b1 (by simp only [IntKind.bits]; omega), k1]; omega
  constructor
  · rw [r1, bits_or_n .u32 rfl _ _ b2 b4, k2]; omega
  · have c4 : ((n : Int) * 268435456 + 167772160 + (u : Int)) = ((2 ^ 25 * (8 * n + 5) + u : Nat) : Int) := by omega
    rw [c4, c3, bits_or_n .u32 rfl _ _ b3 (by simp only [IntKind.bits]; omega), k3]; omega
theorem branches_l (y : Int) (l : Bool) (c : Int) : lawP (fnTree Try.prog orc2 (tabL fns) 20000 Try.f6 [.c (.i false .i32 y), .c (.b false l), .c (.i false .i64 c)] []) := by
  rw [branches_p]
  obtain ⟨v, hv⟩ : ∃ v, (IntKind.i32.wrap (y * 256)).fdiv 256 = v := ⟨_, rfl⟩
  have hv' : -8388608 ≤ v ∧ v < 8388608 := by
    rw [fdiv_lit _ _ (by decide), wi32] at hv; omega
  obtain ⟨C, hC⟩ : ∃ C, bits .and .i64 c 15 = C := ⟨_, rfl⟩
  have hC' : 0 ≤ C ∧ C < 16 := by
    rw [and_m4 .i64 c (by decide)] at hC; omega
  rw [hv, hC]
  have e1 : IntKind.u32.wrap C = C := wu32_in _ (by omega) (by omega)
  have e2 : IntKind.u32.wrap (C * 268435456) = C * 268435456 := wu32_in _ (by omega) (by omega)
  have e3 : bits .and .u32 (IntKind.u32.wrap v) 16777215 = v % 16777216 := by
    rw [and_m24 .u32 _ (by decide), wu32]; omega
  obtain ⟨w1, w2⟩ := word_l C v hC' hv'
  rw [e1, e2, e3, w1, w2]
  have ft := fin_l _ C v true hC' hv' rfl
  have ff := fin_l _ C v false hC' hv' rfl
  simp only [if_true, Bool.false_eq_true, if_false, Int.add_zero] at ft ff
  refine ⟨fun h => ?_, fun h => ?_⟩ <;> subst h
  · obtain ⟨f1, f2, f3, f4, f5⟩ := ft
    rw [f1, f2, f3, f4, f5]; simp
  · obtain ⟨f1, f2, f3, f4, f5⟩ := ff
    rw [f1, f2, f3, f4, f5]; simp
end Go.Proofs.Ytbnglhfhmhnimaa

