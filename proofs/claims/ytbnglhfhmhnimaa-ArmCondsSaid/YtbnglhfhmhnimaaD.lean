import Derived.Test.YtbnglhfhmhnimaaC
set_option linter.unusedVariables false
set_option linter.unusedSimpArgs false
namespace Go.Proofs.Ytbnglhfhmhnimaa
open Go Go.Proofs Go.Proofs.Ytbnglhfhmhnimaa.Ev
theorem and_low (a b M n : Nat) (h : a % 2 ^ n = b % 2 ^ n) (hM : M < 2 ^ n) : a &&& M = b &&& M := by
  apply Nat.eq_of_testBit_eq
  intro i
  rw [Nat.testBit_and, Nat.testBit_and]
  by_cases hi : i < n
  · have := congrArg (fun z => Nat.testBit z i) h
    simp only [Nat.testBit_mod_two_pow, hi, decide_true, Bool.true_and] at this
    rw [this]
  · have : Nat.testBit M i = false := Nat.testBit_lt_two_pow (Nat.lt_of_lt_of_le hM (Nat.pow_le_pow_right (by decide) (by omega)))
    rw [this, Bool.and_false, Bool.and_false]
theorem toNat_low (x y : Int) (n : Nat) (h : x % ((2 ^ n : Nat) : Int) = y % ((2 ^ n : Nat) : Int)) (hn : n ≤ 32) :
    (BitVec.ofInt 32 x).toNat % 2 ^ n = (BitVec.ofInt 32 y).toNat % 2 ^ n := by
  have hd : ((2 ^ n : Nat) : Int) ∣ ((2 ^ 32 : Nat) : Int) := by exact_mod_cast Nat.pow_dvd_pow 2 hn
  have e : ∀ z : Int, (((BitVec.ofInt 32 z).toNat % 2 ^ n : Nat) : Int) = z % ((2 ^ n : Nat) : Int) := by
    intro z
    rw [Int.natCast_emod, BitVec.toNat_ofInt, Int.toNat_of_nonneg (Int.emod_nonneg _ (by decide)), Int.emod_emod_of_dvd _ hd]
  have := (e x).trans (h.trans (e y).symm)
  exact_mod_cast this
theorem low (n : Nat) (x y : Int) (M : Nat) (h : x % ((2 ^ n : Nat) : Int) = y % ((2 ^ n : Nat) : Int)) (hn : n ≤ 32) (hM : M < 2 ^ n) :
    bits .and .u32 x M = bits .and .u32 y M := by
  unfold bits
  simp only []
  rw [BitVec.toNat_and, BitVec.toNat_and]
  exact congrArg (fun z : Nat => IntKind.u32.wrap (z : Int)) (and_low _ _ (BitVec.ofInt 32 (M : Int)).toNat n (toNat_low x y n h hn) (by
    rw [ofInt_nat 32 M (Nat.lt_of_lt_of_le hM (Nat.pow_le_pow_right (by decide) hn))]
    exact hM))
set_option maxHeartbeats 4000000 in
set_option maxRecDepth 100000 in
theorem par_ok (E : World) (w : Int) : Par (TT E w) (TT E (w % 268435456)) := by
  rw [par_p]
  have h0 : bits .and .u32 (w % (268435456 : Int)) (1048720 : Int) = bits .and .u32 w (1048720 : Int) := low 28 _ _ 1048720 (by show (w % (268435456 : Int)) % 268435456 = w % 268435456; omega) (by decide) (by decide)
  have h1 : bits .and .u32 (w % (268435456 : Int)) (1048816 : Int) = bits .and .u32 w (1048816 : Int) := low 28 _ _ 1048816 (by show (w % (268435456 : Int)) % 268435456 = w % 268435456; omega) (by decide) (by decide)
  have h2 : bits .and .u32 (w % (268435456 : Int)) (15 : Int) = bits .and .u32 w (15 : Int) := low 28 _ _ 15 (by show (w % (268435456 : Int)) % 268435456 = w % 268435456; omega) (by decide) (by decide)
  have h3 : bits .and .u32 (w % (268435456 : Int)) (255 : Int) = bits .and .u32 w (255 : Int) := low 28 _ _ 255 (by show (w % (268435456 : Int)) % 268435456 = w % 268435456; omega) (by decide) (by decide)
  have h4 : bits .and .u32 (w % (268435456 : Int)) (260047088 : Int) = bits .and .u32 w (260047088 : Int) := low 28 _ _ 260047088 (by show (w % (268435456 : Int)) % 268435456 = w % 268435456; omega) (by decide) (by decide)
  have h5 : bits .and .u32 (w % (268435456 : Int)) (263196656 : Int) = bits .and .u32 w (263196656 : Int) := low 28 _ _ 263196656 (by show (w % (268435456 : Int)) % 268435456 = w % 268435456; omega) (by decide) (by decide)
  have h6 : bits .and .u32 (w % (268435456 : Int)) (263254016 : Int) = bits .and .u32 w (263254016 : Int) := low 28 _ _ 263254016 (by show (w % (268435456 : Int)) % 268435456 = w % 268435456; omega) (by decide) (by decide)
  have h7 : bits .and .u32 (w % (268435456 : Int)) (263258096 : Int) = bits .and .u32 w (263258096 : Int) := low 28 _ _ 263258096 (by show (w % (268435456 : Int)) % 268435456 = w % 268435456; omega) (by decide) (by decide)
  have h8 : bits .and .u32 (w % (268435456 : Int)) (264179711 : Int) = bits .and .u32 w (264179711 : Int) := low 28 _ _ 264179711 (by show (w % (268435456 : Int)) % 268435456 = w % 268435456; omega) (by decide) (by decide)
  have h9 : bits .and .u32 (w % (268435456 : Int)) (264241392 : Int) = bits .and .u32 w (264241392 : Int) := low 28 _ _ 264241392 (by show (w % (268435456 : Int)) % 268435456 = w % 268435456; omega) (by decide) (by decide)
  have h10 : bits .and .u32 (w % (268435456 : Int)) (268435440 : Int) = bits .and .u32 w (268435440 : Int) := low 28 _ _ 268435440 (by show (w % (268435456 : Int)) % 268435456 = w % 268435456; omega) (by decide) (by decide)
  have h11 : bits .and .u32 (w % (268435456 : Int)) (4095 : Int) = bits .and .u32 w (4095 : Int) := low 28 _ _ 4095 (by show (w % (268435456 : Int)) % 268435456 = w % 268435456; omega) (by decide) (by decide)
  have h12 : bits .and .u32 ((w % (268435456 : Int)).fdiv (1 : Int)) (15 : Int) = bits .and .u32 (w.fdiv (1 : Int)) (15 : Int) := low 28 _ _ 15 (by rw [fdiv_lit _ _ (by decide), fdiv_lit _ _ (by decide)]; show (w % (268435456 : Int)) / 1 % 268435456 = w / 1 % 268435456; omega) (by decide) (by decide)
  have h13 : bits .and .u32 ((w % (268435456 : Int)).fdiv (1 : Int)) (65535 : Int) = bits .and .u32 (w.fdiv (1 : Int)) (65535 : Int) := low 28 _ _ 65535 (by rw [fdiv_lit _ _ (by decide), fdiv_lit _ _ (by decide)]; show (w % (268435456 : Int)) / 1 % 268435456 = w / 1 % 268435456; omega) (by decide) (by decide)
  have h14 : bits .and .u32 ((w % (268435456 : Int)).fdiv (1048576 : Int)) (1 : Int) = bits .and .u32 (w.fdiv (1048576 : Int)) (1 : Int) := low 8 _ _ 1 (by rw [fdiv_lit _ _ (by decide), fdiv_lit _ _ (by decide)]; show (w % (268435456 : Int)) / 1048576 % 256 = w / 1048576 % 256; omega) (by decide) (by decide)
  have h15 : bits .and .u32 ((w % (268435456 : Int)).fdiv (128 : Int)) (1 : Int) = bits .and .u32 (w.fdiv (128 : Int)) (1 : Int) := low 21 _ _ 1 (by rw [fdiv_lit _ _ (by decide), fdiv_lit _ _ (by decide)]; show (w % (268435456 : Int)) / 128 % 2097152 = w / 128 % 2097152; omega) (by decide) (by decide)
  have h16 : bits .and .u32 ((w % (268435456 : Int)).fdiv (128 : Int)) (31 : Int) = bits .and .u32 (w.fdiv (128 : Int)) (31 : Int) := low 21 _ _ 31 (by rw [fdiv_lit _ _ (by decide), fdiv_lit _ _ (by decide)]; show (w % (268435456 : Int)) / 128 % 2097152 = w / 128 % 2097152; omega) (by decide) (by decide)
  have h17 : bits .and .u32 ((w % (268435456 : Int)).fdiv (16 : Int)) (1 : Int) = bits .and .u32 (w.fdiv (16 : Int)) (1 : Int) := low 24 _ _ 1 (by rw [fdiv_lit _ _ (by decide), fdiv_lit _ _ (by decide)]; show (w % (268435456 : Int)) / 16 % 16777216 = w / 16 % 16777216; omega) (by decide) (by decide)
  have h18 : bits .and .u32 ((w % (268435456 : Int)).fdiv (16 : Int)) (240 : Int) = bits .and .u32 (w.fdiv (16 : Int)) (240 : Int) := low 24 _ _ 240 (by rw [fdiv_lit _ _ (by decide), fdiv_lit _ _ (by decide)]; show (w % (268435456 : Int)) / 16 % 16777216 = w / 16 % 16777216; omega) (by decide) (by decide)
  have h19 : bits .and .u32 ((w % (268435456 : Int)).fdiv (16777216 : Int)) (1 : Int) = bits .and .u32 (w.fdiv (16777216 : Int)) (1 : Int) := low 4 _ _ 1 (by rw [fdiv_lit _ _ (by decide), fdiv_lit _ _ (by decide)]; show (w % (268435456 : Int)) / 16777216 % 16 = w / 16777216 % 16; omega) (by decide) (by decide)
  have h20 : bits .and .u32 ((w % (268435456 : Int)).fdiv (16777216 : Int)) (15 : Int) = bits .and .u32 (w.fdiv (16777216 : Int)) (15 : Int) := low 4 _ _ 15 (by rw [fdiv_lit _ _ (by decide), fdiv_lit _ _ (by decide)]; show (w % (268435456 : Int)) / 16777216 % 16 = w / 16777216 % 16; omega) (by decide) (by decide)
  have h21 : bits .and .u32 ((w % (268435456 : Int)).fdiv (2097152 : Int)) (1 : Int) = bits .and .u32 (w.fdiv (2097152 : Int)) (1 : Int) := low 7 _ _ 1 (by rw [fdiv_lit _ _ (by decide), fdiv_lit _ _ (by decide)]; show (w % (268435456 : Int)) / 2097152 % 128 = w / 2097152 % 128; omega) (by decide) (by decide)
  have h22 : bits .and .u32 ((w % (268435456 : Int)).fdiv (2097152 : Int)) (15 : Int) = bits .and .u32 (w.fdiv (2097152 : Int)) (15 : Int) := low 7 _ _ 15 (by rw [fdiv_lit _ _ (by decide), fdiv_lit _ _ (by decide)]; show (w % (268435456 : Int)) / 2097152 % 128 = w / 2097152 % 128; omega) (by decide) (by decide)
  have h23 : bits .and .u32 ((w % (268435456 : Int)).fdiv (256 : Int)) (15 : Int) = bits .and .u32 (w.fdiv (256 : Int)) (15 : Int) := low 20 _ _ 15 (by rw [fdiv_lit _ _ (by decide), fdiv_lit _ _ (by decide)]; show (w % (268435456 : Int)) / 256 % 1048576 = w / 256 % 1048576; omega) (by decide) (by decide)
  have h24 : bits .and .u32 ((w % (268435456 : Int)).fdiv (32 : Int)) (3 : Int) = bits .and .u32 (w.fdiv (32 : Int)) (3 : Int) := low 23 _ _ 3 (by rw [fdiv_lit _ _ (by decide), fdiv_lit _ _ (by decide)]; show (w % (268435456 : Int)) / 32 % 8388608 = w / 32 % 8388608; omega) (by decide) (by decide)
  have h25 : bits .and .u32 ((w % (268435456 : Int)).fdiv (33554432 : Int)) (1 : Int) = bits .and .u32 (w.fdiv (33554432 : Int)) (1 : Int) := low 3 _ _ 1 (by rw [fdiv_lit _ _ (by decide), fdiv_lit _ _ (by decide)]; show (w % (268435456 : Int)) / 33554432 % 8 = w / 33554432 % 8; omega) (by decide) (by decide)
  have h26 : bits .and .u32 ((w % (268435456 : Int)).fdiv (33554432 : Int)) (7 : Int) = bits .and .u32 (w.fdiv (33554432 : Int)) (7 : Int) := low 3 _ _ 7 (by rw [fdiv_lit _ _ (by decide), fdiv_lit _ _ (by decide)]; show (w % (268435456 : Int)) / 33554432 % 8 = w / 33554432 % 8; omega) (by decide) (by decide)
  have h27 : bits .and .u32 ((w % (268435456 : Int)).fdiv (4096 : Int)) (15 : Int) = bits .and .u32 (w.fdiv (4096 : Int)) (15 : Int) := low 16 _ _ 15 (by rw [fdiv_lit _ _ (by decide), fdiv_lit _ _ (by decide)]; show (w % (268435456 : Int)) / 4096 % 65536 = w / 4096 % 65536; omega) (by decide) (by decide)
  have h28 : bits .and .u32 ((w % (268435456 : Int)).fdiv (4194304 : Int)) (1 : Int) = bits .and .u32 (w.fdiv (4194304 : Int)) (1 : Int) := low 6 _ _ 1 (by rw [fdiv_lit _ _ (by decide), fdiv_lit _ _ (by decide)]; show (w % (268435456 : Int)) / 4194304 % 64 = w / 4194304 % 64; omega) (by decide) (by decide)
  have h29 : bits .and .u32 ((w % (268435456 : Int)).fdiv (65536 : Int)) (15 : Int) = bits .and .u32 (w.fdiv (65536 : Int)) (15 : Int) := low 12 _ _ 15 (by rw [fdiv_lit _ _ (by decide), fdiv_lit _ _ (by decide)]; show (w % (268435456 : Int)) / 65536 % 4096 = w / 65536 % 4096; omega) (by decide) (by decide)
  have h30 : bits .and .u32 ((w % (268435456 : Int)).fdiv (65536 : Int)) (255 : Int) = bits .and .u32 (w.fdiv (65536 : Int)) (255 : Int) := low 12 _ _ 255 (by rw [fdiv_lit _ _ (by decide), fdiv_lit _ _ (by decide)]; show (w % (268435456 : Int)) / 65536 % 4096 = w / 65536 % 4096; omega) (by decide) (by decide)
  have h31 : bits .and .u32 ((w % (268435456 : Int)).fdiv (8388608 : Int)) (1 : Int) = bits .and .u32 (w.fdiv (8388608 : Int)) (1 : Int) := low 5 _ _ 1 (by rw [fdiv_lit _ _ (by decide), fdiv_lit _ _ (by decide)]; show (w % (268435456 : Int)) / 8388608 % 32 = w / 8388608 % 32; omega) (by decide) (by decide)
  have hw : IntKind.u32.wrap (w % 268435456 * 256) = IntKind.u32.wrap (w * 256) := by rw [wu32, wu32]; omega
  simp only [h0, h1, h2, h3, h4, h5, h6, h7, h8, h9, h10, h11, h12, h13, h14, h15, h16, h17, h18, h19, h20, h21, h22, h23, h24, h25, h26, h27, h28, h29, h30, h31, hw, and_self]
end Go.Proofs.Ytbnglhfhmhnimaa

