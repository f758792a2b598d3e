import Derived.Test.YtnpngigighkegaaK
set_option linter.unusedVariables false
set_option linter.unusedSimpArgs false
namespace Go.Proofs.Ytnpngigighkegaa
open Go Go.Proofs Go.Proofs.Ytnpngigighkegaa.Ev
theorem sub_iff (A B : Nat) (hA : A < 65536) (hB : B < 65536) : A &&& (65535 - B) = 0 ↔ B &&& A = A := by
  have e : 65535 - B = 65535 ^^^ B := (not_xor 16 B hB).symm
  have hb : ∀ i, (65535 : Nat).testBit i = decide (i < 16) := fun i => Nat.testBit_two_pow_sub_one 16 i
  have ha : ∀ i, 16 ≤ i → A.testBit i = false := fun i hi => Nat.testBit_lt_two_pow (Nat.lt_of_lt_of_le hA (Nat.pow_le_pow_right (n := 2) (by decide) hi))
  rw [e]
  constructor
  · intro h
    apply Nat.eq_of_testBit_eq
    intro i
    have hi := congrArg (fun z => z.testBit i) h
    simp only [Nat.testBit_and, Nat.testBit_xor, hb, Nat.zero_testBit] at hi ⊢
    by_cases h16 : i < 16
    · simp only [h16, decide_true] at hi
      cases hA' : A.testBit i <;> cases hB' : B.testBit i <;> simp_all
    · rw [ha i (by omega)]; simp
  · intro h
    apply Nat.eq_of_testBit_eq
    intro i
    have hi := congrArg (fun z => z.testBit i) h
    simp only [Nat.testBit_and, Nat.testBit_xor, hb, Nat.zero_testBit] at hi ⊢
    by_cases h16 : i < 16
    · simp only [h16, decide_true]
      cases hA' : A.testBit i <;> cases hB' : B.testBit i <;> simp_all
    · rw [ha i (by omega)]; simp
def u16 (x : Int) : Bool := decide (0 ≤ x ∧ x < 65536)
theorem u16_iff (x : Int) : u16 x = true ↔ 0 ≤ x ∧ x < 65536 := by simp [u16]
set_option maxRecDepth 100000 in
theorem key_l (w k : Int) (hw : u16 w = true) (hk : u16 k = true) : lawP (fnTree Try.prog orc2 (tabL fns) 20000 Try.f6 [.c (.i false .u16 w), .c (.i false .u16 k)] []) := by
  rw [key_p]
  rw [u16_iff] at hw hk
  obtain ⟨n, rfl⟩ := Int.eq_ofNat_of_zero_le hw.1
  obtain ⟨m, rfl⟩ := Int.eq_ofNat_of_zero_le hk.1
  have hn : n < 2 ^ IntKind.u16.bits := by simp only [IntKind.bits]; omega
  have hm : m < 2 ^ IntKind.u16.bits := by simp only [IntKind.bits]; omega
  have A := fun (x y : Nat) (hx : x < 2 ^ IntKind.u16.bits) (hy : y < 2 ^ IntKind.u16.bits) => bits_and_n .u16 rfl x y hx hy
  have lt := fun (x y : Nat) (hx : x < 2 ^ IntKind.u16.bits) => (Nat.lt_of_le_of_lt (Nat.and_le_left (n := x) (m := y)) hx : x &&& y < 2 ^ IntKind.u16.bits)
  have c (z : Nat) (h : z < 65536) : z < 2 ^ IntKind.u16.bits := by simp only [IntKind.bits]; omega
  -- what is asked of
  have a1 : bits .and .u16 (bits .andNot .u16 n 16384) 50175 = ((n &&& 49151 &&& 50175 : Nat) : Int) := by
    have e := bits_andNot_n .u16 n 16384 (by decide)
    have e1 : ((2 ^ IntKind.u16.bits - 1 - 16384 : Nat) : Int) = ((49151 : Nat) : Int) := by decide
    rw [e1, A n 49151 hn (by decide)] at e
    have e2 : ((16384 : Nat) : Int) = 16384 := rfl
    rw [e2] at e
    rw [e]; exact A _ 50175 (lt _ _ hn) (by decide)
  have b1 : bits .and .u16 (bits .or .u16 n 16384) 50175 = (((n ||| 16384) &&& 50175 : Nat) : Int) := by
    have e := bits_or_n .u16 rfl n 16384 hn (by decide)
    have e2 : ((16384 : Nat) : Int) = 16384 := rfl
    rw [e2] at e
    rw [e]; exact A _ 50175 (Nat.or_lt_two_pow hn (by decide)) (by decide)
  have k1 : bits .and .u16 m 1023 = ((m &&& 1023 : Nat) : Int) := A m 1023 hm (by decide)
  have w1 : bits .and .u16 n 1023 = ((n &&& 1023 : Nat) : Int) := A n 1023 hn (by decide)
  have n1 : (n &&& 49151 &&& 50175) &&& 16384 = 0 := by
    rw [Nat.and_assoc, Nat.and_assoc]; exact Nat.and_zero _
  have off : ∀ r j : Int, wr r ((n &&& 49151 &&& 50175 : Nat) : Int) j = r := by
    intro r j
    unfold wr
    rw [if_pos]
    have := A (n &&& 49151 &&& 50175) 16384 (lt _ _ (lt _ _ hn)) (by decide)
    rw [n1] at this; exact this
  have m1 : ((n ||| 16384) &&& 50175) &&& 16384 ≠ 0 := by
    rw [Nat.and_assoc, Nat.and_or_distrib_right]
    intro h
    have := (Nat.or_eq_zero_iff.1 h).2
    revert this; decide
  have m2 : ((n ||| 16384) &&& 50175) &&& 32768 = n &&& 32768 := by
    rw [Nat.and_assoc, Nat.and_or_distrib_right]
    have e1 : (50175 &&& 32768 : Nat) = 32768 := by decide
    have e2 : (16384 &&& 32768 : Nat) = 0 := by decide
    rw [e1, e2, Nat.or_zero]
  have m3 : ((n ||| 16384) &&& 50175) &&& 1023 = n &&& 1023 := by
    rw [Nat.and_assoc, Nat.and_or_distrib_right]
    have e1 : (50175 &&& 1023 : Nat) = 1023 := by decide
    have e2 : (16384 &&& 1023 : Nat) = 0 := by decide
    rw [e1, e2, Nat.or_zero]
  have lb : (n ||| 16384) &&& 50175 < 2 ^ IntKind.u16.bits := lt _ _ (Nat.or_lt_two_pow hn (by decide))
  have q1 := A ((n ||| 16384) &&& 50175) 16384 lb (by decide)
  have q2 := A ((n ||| 16384) &&& 50175) 32768 lb (by decide)
  have q3 := A ((n ||| 16384) &&& 50175) 1023 lb (by decide)
  rw [m2] at q2
  rw [m3] at q3
  have t1 : ((16384 : Nat) : Int) = 16384 := rfl
  have t2 : ((32768 : Nat) : Int) = 32768 := rfl
  have t3 : ((1023 : Nat) : Int) = 1023 := rfl
  rw [t1] at q1
  rw [t2] at q2
  rw [t3] at q3
  have lB : m &&& 1023 < 2 ^ IntKind.u16.bits := lt _ _ hm
  have lA : n &&& 1023 < 2 ^ IntKind.u16.bits := lt _ _ hn
  have q4 := A (m &&& 1023) (n &&& 1023) lB lA
  have q5 := A (n &&& 1023) (m &&& 1023) lA lB
  have q6 : bits .andNot .u16 ((n &&& 1023 : Nat) : Int) ((m &&& 1023 : Nat) : Int) = (((n &&& 1023) &&& (65535 - (m &&& 1023)) : Nat) : Int) := by
    rw [bits_andNot_n .u16 _ _ lB]
    have e1 : 2 ^ IntKind.u16.bits - 1 - (m &&& 1023) = 65535 - (m &&& 1023) := rfl
    rw [e1]; exact A _ _ lA (by simp only [IntKind.bits]; omega)
  have on : wr 0 (((n ||| 16384) &&& 50175 : Nat) : Int) ((m &&& 1023 : Nat) : Int) = if n &&& 32768 = 0 then (if (m &&& 1023) &&& (n &&& 1023) = 0 then 0 else 4096) else (if (m &&& 1023) &&& (n &&& 1023) = n &&& 1023 then 4096 else 0) := by
    unfold wr gv
    have o : bits .or .u16 0 4096 = 4096 := by decide
    have m1' : ¬ ((((n ||| 16384) &&& 50175) &&& 16384 : Nat) : Int) = 0 := by omega
    rw [q1, if_neg m1', q2, q3, q4, o]
    have z1 : (((n &&& 32768 : Nat) : Int) = 0) = (n &&& 32768 = 0) := propext (by omega)
    have z2 : ((((m &&& 1023) &&& (n &&& 1023) : Nat) : Int) = 0) = ((m &&& 1023) &&& (n &&& 1023) = 0) := propext (by omega)
    have z3 : ((((m &&& 1023) &&& (n &&& 1023) : Nat) : Int) = ((n &&& 1023 : Nat) : Int)) = ((m &&& 1023) &&& (n &&& 1023) = n &&& 1023) := propext (by omega)
    simp only [z1, z2, z3]
  have hs := sub_iff (n &&& 1023) (m &&& 1023) (by simpa [IntKind.bits] using lA) (by simpa [IntKind.bits] using lB)
  have top : (n : Int).fdiv 32768 = ((n / 32768 : Nat) : Int) := by rw [fdiv_lit _ _ (by decide)]; omega
  have t15 : n &&& 32768 = n / 32768 % 2 * 32768 := by
    have := and_sh .u16 rfl n hw.1 (by simp only [IntKind.bits]; omega) 15 1 (by decide)
    have c1 : (((2 : Int) ^ 1 - 1) * 2 ^ 15) = ((32768 : Nat) : Int) := by decide
    rw [c1, A n 32768 hn (by decide)] at this
    omega
  have xk : ∀ z : Nat, z < 65536 → bits .and .u16 (bits .xor .u16 65535 z) 1023 = (((65535 ^^^ z) % 1024 : Nat) : Int) := by
    intro z hz
    have e2 : ((65535 : Nat) : Int) = 65535 := rfl
    have e := bits_xor_n .u16 rfl 65535 z (by decide) (c z hz)
    rw [e2] at e
    rw [e, and_m10 .u16 _ (by decide)]; omega
  have xx : (65535 ^^^ (m &&& 1023)) % 1024 = (65535 ^^^ m) % 1024 := by
    have e : ∀ z : Nat, (65535 ^^^ z) % 2 ^ 10 = 65535 % 2 ^ 10 ^^^ z % 2 ^ 10 := fun z => Nat.xor_mod_two_pow
    have e1 := e (m &&& 1023)
    have e2 := e m
    have e3 : (m &&& 1023) % 2 ^ 10 = m % 2 ^ 10 := by
      have : m &&& 1023 = m % 2 ^ 10 := Nat.and_two_pow_sub_one_eq_mod m 10
      rw [this]; omega
    rw [e3] at e1
    exact e1.trans e2.symm
  have z0 : (0 : Int) = ((0 : Nat) : Int) := rfl
  rw [a1, b1, k1, w1, off, off, on, xk _ (by simpa [IntKind.bits] using lB), xk m (by omega), xx, q6, q5, top, t15]
  have hcomm : (n &&& 1023) &&& (m &&& 1023) = (m &&& 1023) &&& (n &&& 1023) := Nat.and_comm _ _
  rw [hcomm]
  generalize (n &&& 1023) &&& (65535 - (m &&& 1023)) = X at *
  generalize (m &&& 1023) &&& (n &&& 1023) = Y at *
  generalize n &&& 1023 = Z at *
  have hN : n / 32768 = 0 ∨ n / 32768 = 1 := by omega
  refine ⟨by simp, by simp, fun h => ?_, fun h => ?_⟩
  · have h1 : n / 32768 = 1 := by rw [beq_iff_eq] at h; omega
    rw [h1]
    by_cases hY : Y = Z
    · have hX := hs.2 hY
      simp [hY, hX]
    · have hX : ¬ X = 0 := fun e => hY (hs.1 e)
      simp [hY, hX]
  · have h1 : n / 32768 = 0 := by
      have : ¬ ((n / 32768 : Nat) : Int) = 1 := by simpa using h
      omega
    rw [h1]
    by_cases hY : Y = 0
    · simp [hY]
    · simp [hY]
end Go.Proofs.Ytnpngigighkegaa

