import Derived.Test.YtfjenbfklpiopaaA
set_option linter.unusedVariables false
set_option linter.unusedSimpArgs false
namespace Go.Proofs.Ytfjenbfklpiopaa
open Go Go.Proofs Go.Proofs.Ytfjenbfklpiopaa.Ev
theorem or8 (B r b : Nat) (h8 : B % 8 = 0) (hr : r < 8) (hb : b < 8) : (B + r) ||| b = B + (r ||| b) := by
  have e : B = 2 ^ 3 * (B / 8) := by omega
  have h1 : B + r = B ||| r := by rw [e]; exact Nat.two_pow_add_eq_or_of_lt hr _
  have h2 : B + (r ||| b) = B ||| (r ||| b) := by rw [e]; exact Nat.two_pow_add_eq_or_of_lt (Nat.or_lt_two_pow (n := 3) hr hb) _
  rw [h1, h2, Nat.or_assoc]
theorem orI (B : Int) (h0 : 0 ≤ B) (h1 : B < 65536) (h8 : B % 8 = 0) (r b : Nat) (hr : r < 8) (hb : b < 8) : bits .or .u16 (B + r) b = B + (r ||| b : Nat) := by
  obtain ⟨n, rfl⟩ := Int.eq_ofNat_of_zero_le h0
  have : ((n : Int) + (r : Int)) = ((n + r : Nat) : Int) := by omega
  rw [this, bits_or_n .u16 rfl _ _ (by simp only [IntKind.bits]; omega) (by simp only [IntKind.bits]; omega), or8 n r b (by omega) hr hb]
  omega
theorem mask16 (w : Int) (h0 : 0 ≤ w) (h1 : w < 65536) : bits .and .u16 w 65336 = w / 256 * 256 + w / 8 % 8 * 8 := by
  obtain ⟨n, rfl⟩ := Int.eq_ofNat_of_zero_le h0
  have e : (65336 : Int) = ((65280 ||| 56 : Nat) : Int) := by decide
  rw [e, bits_and_n .u16 rfl _ _ (by simp only [IntKind.bits]; omega) (by decide), Nat.and_or_distrib_left]
  have a1 := and_sh .u16 rfl n h0 (by simp only [IntKind.bits]; omega) 8 8 (by decide)
  have a2 := and_sh .u16 rfl n h0 (by simp only [IntKind.bits]; omega) 3 3 (by decide)
  have c1 : (((2 : Int) ^ 8 - 1) * 2 ^ 8) = ((65280 : Nat) : Int) := by decide
  have c2 : (((2 : Int) ^ 3 - 1) * 2 ^ 3) = ((56 : Nat) : Int) := by decide
  rw [c1, bits_and_n .u16 rfl _ _ (by simp only [IntKind.bits]; omega) (by decide)] at a1
  rw [c2, bits_and_n .u16 rfl _ _ (by simp only [IntKind.bits]; omega) (by decide)] at a2
  have b1 : n &&& 65280 = n / 256 % 256 * 256 := by omega
  have b2 : n &&& 56 = n / 8 % 8 * 8 := by omega
  rw [b1, b2]
  have hlt : n / 8 % 8 * 8 < 2 ^ 8 := by omega
  have := Nat.two_pow_add_eq_or_of_lt hlt (n / 256 % 256)
  have e3 : n / 256 % 256 * 256 = 2 ^ 8 * (n / 256 % 256) := by omega
  rw [e3, ← this]
  omega
theorem nx_ok (n : Int) (hn : low n = true) : conP (.c (.i false .i64 (nx n))) (fnTree Try.prog orc1 (tabL fns) 1000 Try.f10 [.c (.i false .i64 n)] []) := by
  rw [nx_p]
  have e : (if (0 : Int) > n then 0 else n) = mx n := by unfold mx; split <;> rfl
  have h := mx_bd n
  have h' := mx_lo n hn
  have em : mx (mx n) = mx n := by show (if mx n < 0 then 0 else mx n) = mx n; rw [if_neg (by omega)]
  have ep : pl (mx n) = pl n := by unfold pl; rw [em]
  have hb := pl_bd n
  simp only [e, ep]
  simp (disch := first | decide | omega) only [wi64_in, true_and, decide_eq_true_eq, decide_eq_false_iff_not]
  unfold nx
  refine ⟨by rw [low_iff]; omega, fun h => ?_, fun h => ?_⟩ <;> simp [h]
theorem st_ok (n w : Int) (hn : low n = true) (hw : u16 w = true) : conP (.c (.i false .u16 (stV n w))) (fnTree Try.prog orc1 (tabL fns) 1000 Try.f12 [.c (.i false .i64 n), .c (.i false .u16 w)] []) := by
  rw [st_p]
  rw [u16_iff] at hw
  have hl := ln_bd n
  have hp := pl_bd n
  rw [mask16 w hw.1 hw.2]
  have B0 : 0 ≤ w / 256 * 256 + w / 8 % 8 * 8 := by omega
  have B1 : w / 256 * 256 + w / 8 % 8 * 8 < 65536 := by omega
  have B8 : (w / 256 * 256 + w / 8 % 8 * 8) % 8 = 0 := by omega
  have k := fun (r b : Nat) (hr : r < 8) (hb : b < 8) => orI _ B0 B1 B8 r b hr hb
  unfold stV
  generalize w / 256 * 256 + w / 8 % 8 * 8 = B at *
  have o01 : bits .or .u16 B 1 = B + 1 := by simpa using k 0 1 (by decide) (by decide)
  have o02 : bits .or .u16 B 2 = B + 2 := by simpa using k 0 2 (by decide) (by decide)
  have o04 : bits .or .u16 B 4 = B + 4 := by simpa using k 0 4 (by decide) (by decide)
  have o12 : bits .or .u16 (B + 1) 2 = B + 3 := k 1 2 (by decide) (by decide)
  have o14 : bits .or .u16 (B + 1) 4 = B + 5 := k 1 4 (by decide) (by decide)
  have o24 : bits .or .u16 (B + 2) 4 = B + 6 := k 2 4 (by decide) (by decide)
  have o34 : bits .or .u16 (B + 3) 4 = B + 7 := k 3 4 (by decide) (by decide)
  simp only [o01, o02, o04, o12, o14, o24, o34]
  simp (disch := first | decide | omega) only [fdiv_lit, wi64_in, true_and, beqd, decide_eq_true_eq, decide_eq_false_iff_not]
  generalize w / 256 = W at *
  generalize ln n = l at *
  generalize pl n = p at *
  clear o01 o02 o04 o12 o14 o24 o34 k
  refine ⟨hn, ?_⟩
  (repeat' first | apply And.intro | intro _) <;> (repeat' split) <;> omega
set_option maxHeartbeats 4000000 in
theorem rst_ok (n w : Int) (hn : low n = true) (hw : u16 w = true) : conP (.c (.i false .u16 (stV n w))) (fnTree Try.prog orc1 (tabL fns) 1000 Try.f13 [.c (.i false .i64 n), .c (.i false .u16 w)] []) := by
  rw [rst_p]
  rw [u16_iff] at hw
  have hl := ln_bd n
  have hp := pl_bd n
  simp (disch := first | decide | omega) only [fdiv_lit, tdiv_n, tmod_n, wu16_in, wi64_in, true_and, beqd, decide_eq_true_eq, decide_eq_false_iff_not]
  refine ⟨hn, ?_⟩
  unfold stV
  generalize ln n = l at *
  generalize pl n = p at *
  (repeat' first | apply And.intro | intro _) <;> (simp only [*, if_true, if_false, true_and, and_true, and_self, ge_iff_le, false_and, and_false]; try omega) <;> (repeat' split) <;> omega
set_option maxHeartbeats 4000000 in
theorem as_ok (n w : Int) (hn : low n = true) (hw : u16 w = true) : conP (.c (.i false .u16 (asV n w))) (fnTree Try.prog orc1 (tabL fns) 1000 Try.f14 [.c (.i false .i64 n), .c (.i false .u16 w)] []) := by
  rw [as_p]
  rw [u16_iff] at hw
  have a8 : bits .and .u16 w 8 = w / 8 % 2 * 8 := and_sh .u16 rfl w hw.1 (by simp only [IntKind.bits]; omega) 3 1 (by decide)
  have a16 : bits .and .u16 w 16 = w / 16 % 2 * 16 := and_sh .u16 rfl w hw.1 (by simp only [IntKind.bits]; omega) 4 1 (by decide)
  have a32 : bits .and .u16 w 32 = w / 32 % 2 * 32 := and_sh .u16 rfl w hw.1 (by simp only [IntKind.bits]; omega) 5 1 (by decide)
  simp only [a8, a16, a32]
  simp (disch := first | decide | omega) only [fdiv_lit, tdiv_n, tmod_n, wu16_in, wi64_in, true_and, beqd, bne0, ne_eq, decide_eq_true_eq, decide_eq_false_iff_not]
  refine ⟨hn, ?_⟩
  unfold asV
  generalize ln n = l at *
  generalize pl n = p at *
  (repeat' first | apply And.intro | intro _) <;> (simp only [*, if_true, if_false, true_and, and_true, and_self, ge_iff_le, false_and, and_false]; try omega) <;> (repeat' split) <;> omega
set_option maxHeartbeats 4000000 in
theorem ras_ok (n w : Int) (hn : low n = true) (hw : u16 w = true) : conP (.c (.i false .u16 (asV n w))) (fnTree Try.prog orc1 (tabL fns) 1000 Try.f15 [.c (.i false .i64 n), .c (.i false .u16 w)] []) := by
  rw [ras_p]
  rw [u16_iff] at hw
  simp (disch := first | decide | omega) only [fdiv_lit, tdiv_n, tmod_n, wu16_in, wi64_in, true_and, beqd, bne0, ne_eq, decide_eq_true_eq, decide_eq_false_iff_not]
  refine ⟨hn, ?_⟩
  unfold asV
  generalize ln n = l at *
  generalize pl n = p at *
  (repeat' first | apply And.intro | intro _) <;> (simp only [*, if_true, if_false, true_and, and_true, and_self, ge_iff_le, false_and, and_false]; try omega) <;> (repeat' split) <;> omega
end Go.Proofs.Ytfjenbfklpiopaa

