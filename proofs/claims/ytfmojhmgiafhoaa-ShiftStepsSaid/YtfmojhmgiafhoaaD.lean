import Derived.Test.YtfmojhmgiafhoaaC
set_option linter.unusedVariables false
set_option linter.unusedSimpArgs false
namespace Go.Proofs.Ytfmojhmgiafhoaa
open Go Go.Proofs Go.Proofs.Ytfmojhmgiafhoaa.Ev Go.Proofs.Ytfmojhmgiafhoaa.Sh

theorem top_or (X : Nat) (hX : X < 4294967296) : bits .or .u32 ((X : Int).fdiv 2) 2147483648 = (X : Int) / 2 + 2147483648 := by
  rw [fdiv_lit _ _ (by decide), show (X : Int) / 2 = ((X / 2 : Nat) : Int) by simp only [Int.natCast_ediv, Int.cast_ofNat_Int], show (2147483648 : Int) = ((2147483648 : Nat) : Int) from rfl, bits_or_u32 _ _ (by omega) (by omega), Nat.or_comm]
  have := Nat.two_pow_add_eq_or_of_lt (i := 31) (b := X / 2) (by omega) 1
  simp only [Nat.reducePow, Nat.mul_one] at this
  rw [← this]; omega
theorem top_or0 (X : Nat) (hX : X < 4294967296) : bits .or .u32 ((X : Int).fdiv 2) 0 = (X : Int) / 2 := by
  rw [fdiv_lit _ _ (by decide), show (X : Int) / 2 = ((X / 2 : Nat) : Int) by simp only [Int.natCast_ediv, Int.cast_ofNat_Int], show (0 : Int) = ((0 : Nat) : Int) from rfl, bits_or_u32 _ _ (by omega) (by omega), Nat.or_zero]
theorem m1u (k : Int) : bits .and .u32 k 1 = k % 2 := and_mask .u32 k 1 (.inl (by decide))

theorem imm_c (l l' l'' l3 : Bool) (k x n : Int) (c : Bool) (s : SW) (hx : u32 x = true) :
    CallTree Try.prog 11 [.c (.i l .i64 k), .c (.i l' .u32 x), .c (.i l'' .i64 n), .c (.b l3 c)] s (.leaf (.t [.c (.i false .u32 (immV k x n c)), .c (.b false (immC k x n c))], s)) := by
  refine CallTree.args (vs' := [.c (.i false .i64 k), .c (.i false .u32 x), .c (.i false .i64 n), .c (.b false c)]) ⟨⟨rfl, rfl⟩, ⟨rfl, rfl⟩, ⟨rfl, rfl⟩, rfl⟩ ?_
  refine pure_contract (fnTree_sound orc2_ok tab_ok tab_sz mixed 1000 Try.func11 (by decide) _ []) (by simp [SV.ok, C.ok]) (v := .t [.c (.i false .u32 (immV k x n c)), .c (.b false (immC k x n c))]) rfl ?_ s
  refine conP_OK _ ?_
  rw [imm_p]
  have hx' : 0 ≤ x ∧ x < 4294967296 := by simpa [u32] using hx
  obtain ⟨X, rfl⟩ := Int.eq_ofNat_of_zero_le hx'.1
  have hX : X < 4294967296 := by omega
  have e : IntKind.u32.wrap (n % 32) = n % 32 := by rw [wu32]; omega
  have e1 : ((X : Int) % 2 != 0) = ((X : Int) % 2 == 1) := by rw [Bool.eq_iff_iff]; simp; omega
  simp only [m31i, m3, e, top_or X hX, top_or0 X hX, m1u, e1, hx]
  by_cases h0 : n % 32 = 0
  · have hk : k % 4 = 0 ∨ k % 4 = 1 ∨ k % 4 = 2 ∨ k % 4 = 3 := by omega
    rcases hk with hk | hk | hk | hk <;> cases c <;> simp [h0, hk, immV, immC]
  · simp [h0, immV, immC]

theorem rimm_c (l l' l'' l3 : Bool) (k x n : Int) (c : Bool) (s : SW) (hx : u32 x = true) :
    CallTree Try.prog 12 [.c (.i l .i64 k), .c (.i l' .u32 x), .c (.i l'' .i64 n), .c (.b l3 c)] s (.leaf (.t [.c (.i false .u32 (immV k x n c)), .c (.b false (immC k x n c))], s)) := by
  refine CallTree.args (vs' := [.c (.i false .i64 k), .c (.i false .u32 x), .c (.i false .i64 n), .c (.b false c)]) ⟨⟨rfl, rfl⟩, ⟨rfl, rfl⟩, ⟨rfl, rfl⟩, rfl⟩ ?_
  refine pure_contract (fnTree_sound orc2_ok tab_ok tab_sz mixed 1000 Try.func12 (by decide) _ []) (by simp [SV.ok, C.ok]) (v := .t [.c (.i false .u32 (immV k x n c)), .c (.b false (immC k x n c))]) rfl ?_ s
  refine conP_OK _ ?_
  rw [rimm_p]
  have hx' : 0 ≤ x ∧ x < 4294967296 := by simpa [u32] using hx
  obtain ⟨X, rfl⟩ := Int.eq_ofNat_of_zero_le hx'.1
  have hX : X < 4294967296 := by omega
  have e : IntKind.u32.wrap (n % 32) = n % 32 := by rw [wu32]; omega
  have e3 : u32 (n % 32) = true := by rw [u32, decide_eq_true_eq]; omega
  have e4 : u32 32 = true := by decide
  have e5 : IntKind.u32.wrap ((X : Int) / 2) = (X : Int) / 2 := by rw [wu32]; omega
  have e6 : IntKind.u32.wrap ((X : Int) / 2 + 2147483648) = (X : Int) / 2 + 2147483648 := by rw [wu32]; omega
  simp only [m31i, m3, e, hx, e3, e4, regV_k, regC_k, tdiv_n _ _ hx'.1, tmod_n _ _ hx'.1, e5, e6]
  by_cases h0 : n % 32 = 0
  · have hk : k % 4 = 0 ∨ k % 4 = 1 ∨ k % 4 = 2 ∨ k % 4 = 3 := by omega
    rcases hk with hk | hk | hk | hk <;> cases c <;> simp [h0, hk, immV, immC, regV, regC, it]
  · have hp : 0 < n % 32 := by omega
    simp [h0, hp, immV, immC]

def orc3 : Orc := fun g vs s => match g, vs with
  | 8, [] => some (.leaf (.c (.b true true), s))
  | 9, [.c (.i _ .i64 k), .c (.i _ .u32 x), .c (.i _ .u32 y), .c (.b _ c)] => some (.need (u32 x) (.leaf (.t [.c (.i false .u32 (regV k x y c)), .c (.b false (regC k x y c))], s)))
  | 10, [.c (.i _ .i64 k), .c (.i _ .u32 x), .c (.i _ .u32 y), .c (.b _ c)] => some (.need (u32 x) (.need (u32 y) (.leaf (.t [.c (.i false .u32 (regV k x y c)), .c (.b false (regC k x y c))], s))))
  | 11, [.c (.i _ .i64 k), .c (.i _ .u32 x), .c (.i _ .i64 y), .c (.b _ c)] => some (.need (u32 x) (.leaf (.t [.c (.i false .u32 (immV k x y c)), .c (.b false (immC k x y c))], s)))
  | 12, [.c (.i _ .i64 k), .c (.i _ .u32 x), .c (.i _ .i64 y), .c (.b _ c)] => some (.need (u32 x) (.leaf (.t [.c (.i false .u32 (immV k x y c)), .c (.b false (immC k x y c))], s)))
  | _, _ => none
theorem orc3_ok : OrcOK Try.prog orc3 := by
  intro g vs s t h
  unfold orc3 at h
  split at h
  · simp only [Option.some.injEq] at h; subst h; exact awake_c s
  · simp only [Option.some.injEq] at h; subst h; exact CallTree.need fun h1 => reg_c _ _ _ _ _ _ _ _ s h1
  · simp only [Option.some.injEq] at h; subst h; exact CallTree.need fun h1 => CallTree.need fun h2 => ref_c _ _ _ _ _ _ _ _ s h1 h2
  · simp only [Option.some.injEq] at h; subst h; exact CallTree.need fun h1 => imm_c _ _ _ _ _ _ _ _ s h1
  · simp only [Option.some.injEq] at h; subst h; exact CallTree.need fun h1 => rimm_c _ _ _ _ _ _ _ _ s h1
  · cases h
theorem regs_p (k x y n : Int) (c : Bool) :
    (lawP (fnTree Try.prog orc3 (tabL fns) 1000 Try.f3 [.a [.i false .i64 k, .i false .u32 x, .i false .u32 y, .i false .i64 n, .b false c]] [])) =
    (u32 x = true ∧
        u32 x = true ∧ u32 y = true ∧ (regV k x y c == regV k x y c) = true ∧ (false ^^ regC k x y c == regC k x y c) = true) := by kernel_rfl
theorem imms_p (k x y n : Int) (c : Bool) :
    (lawP (fnTree Try.prog orc3 (tabL fns) 1000 Try.f4 [.a [.i false .i64 k, .i false .u32 x, .i false .u32 y, .i false .i64 n, .b false c]] [])) =
    (u32 x = true ∧
        u32 x = true ∧
          u32 (bits BinOp.and IntKind.u32 x (255 : Int)) = true ∧
            u32 (x.tmod (256 : Int)) = true ∧
              u32 (IntKind.u32.wrap (IntKind.i64.wrap ((2 : Int) * bits BinOp.and IntKind.i64 n (15 : Int)))) = true ∧
                (immV k x n c == immV k x n c) = true ∧
                  (false ^^ immC k x n c == immC k x n c) = true ∧
                    (regV (3 : Int) (bits BinOp.and IntKind.u32 x (255 : Int))
                            (IntKind.u32.wrap (IntKind.i64.wrap ((2 : Int) * bits BinOp.and IntKind.i64 n (15 : Int)))) c ==
                          regV (3 : Int) (x.tmod (256 : Int))
                            (IntKind.u32.wrap (IntKind.i64.wrap ((2 : Int) * bits BinOp.and IntKind.i64 n (15 : Int)))) c) =
                        true ∧
                      (false ^^
                          regC (3 : Int) (bits BinOp.and IntKind.u32 x (255 : Int))
                              (IntKind.u32.wrap (IntKind.i64.wrap ((2 : Int) * bits BinOp.and IntKind.i64 n (15 : Int)))) c ==
                            regC (3 : Int) (x.tmod (256 : Int))
                              (IntKind.u32.wrap (IntKind.i64.wrap ((2 : Int) * bits BinOp.and IntKind.i64 n (15 : Int)))) c) =
                        true) := by kernel_rfl
theorem steps_p (k x y n : Int) (c : Bool) :
    (lawP (fnTree Try.prog orc3 (tabL fns) 1000 Try.f5 [.a [.i false .i64 k, .i false .u32 x, .i false .u32 y, .i false .i64 n, .b false c]] [])) =
    (u32 x = true ∧
        u32 (regV k x (IntKind.u32.wrap (y.tmod (254 : Int) + (1 : Int))) c) = true ∧
          u32 x = true ∧
            (regV k (regV k x (IntKind.u32.wrap (y.tmod (254 : Int) + (1 : Int))) c) (1 : Int)
                    (regC k x (IntKind.u32.wrap (y.tmod (254 : Int) + (1 : Int))) c) ==
                  regV k x (IntKind.u32.wrap (IntKind.u32.wrap (y.tmod (254 : Int) + (1 : Int)) + (1 : Int))) c) =
                true ∧
              (false ^^
                  regC k (regV k x (IntKind.u32.wrap (y.tmod (254 : Int) + (1 : Int))) c) (1 : Int)
                      (regC k x (IntKind.u32.wrap (y.tmod (254 : Int) + (1 : Int))) c) ==
                    regC k x (IntKind.u32.wrap (IntKind.u32.wrap (y.tmod (254 : Int) + (1 : Int)) + (1 : Int))) c) =
                true) := by kernel_rfl
theorem round_p (x n : Int) :
    (lawP (fnTree Try.prog orc3 (tabL fns) 1000 Try.f6 [.c (.i false .u32 x), .c (.i false .u32 n)] [])) =
    (u32 x = true ∧
        u32 (regV (3 : Int) x (n.tmod (32 : Int)) false) = true ∧
          u32 x = true ∧
            u32 x = true ∧
              u32 (regV (0 : Int) x (n.tmod (32 : Int)) false) = true ∧
                (regV (3 : Int) (regV (3 : Int) x (n.tmod (32 : Int)) false)
                        ((IntKind.u32.wrap ((32 : Int) - n.tmod (32 : Int))).tmod (32 : Int)) false ==
                      x) =
                    true ∧
                  (regV (3 : Int) x (IntKind.u32.wrap (n.tmod (32 : Int) + (32 : Int))) false ==
                        regV (3 : Int) x (n.tmod (32 : Int)) false) =
                      true ∧
                    decide ((0 : Int) ≤ IntKind.u32.wrap ((32 : Int) - n.tmod (32 : Int))) = true ∧
                      (regV (1 : Int) (regV (0 : Int) x (n.tmod (32 : Int)) false) (n.tmod (32 : Int)) false ==
                          bits BinOp.and IntKind.u32 x
                            (IntKind.u32.wrap
                              (IntKind.u32.wrap
                                  ((1 : Int) *
                                    (2 : Int) ^ min (IntKind.u32.wrap ((32 : Int) - n.tmod (32 : Int))).toNat (32 : Nat)) -
                                (1 : Int)))) =
                        true) := by kernel_rfl
theorem times_p (x n : Int) :
    (lawP (fnTree Try.prog orc3 (tabL fns) 1000 Try.f7 [.c (.i false .u32 x), .c (.i false .u32 n)] [])) =
    (u32 x = true ∧
        u32 x = true ∧
          u32 x = true ∧
            decide ((0 : Int) ≤ IntKind.u32.wrap (n.tmod (31 : Int) + (1 : Int))) = true ∧
              (regV (0 : Int) x (IntKind.u32.wrap (n.tmod (31 : Int) + (1 : Int))) false ==
                    IntKind.u32.wrap
                      (IntKind.u64.wrap
                        (IntKind.u64.wrap x *
                          (2 : Int) ^ min (IntKind.u32.wrap (n.tmod (31 : Int) + (1 : Int))).toNat (64 : Nat)))) =
                  true ∧
                decide ((0 : Int) ≤ IntKind.u32.wrap (n.tmod (31 : Int) + (1 : Int))) = true ∧
                  (regV (1 : Int) x (IntKind.u32.wrap (n.tmod (31 : Int) + (1 : Int))) false ==
                        IntKind.u32.wrap
                          ((IntKind.u64.wrap x).fdiv
                            ((2 : Int) ^ min (IntKind.u32.wrap (n.tmod (31 : Int) + (1 : Int))).toNat (64 : Nat)))) =
                      true ∧
                    decide ((0 : Int) ≤ IntKind.u32.wrap (IntKind.u32.wrap (n.tmod (31 : Int) + (1 : Int)) - (1 : Int))) =
                        true ∧
                      (false ^^
                            regC (1 : Int) x (IntKind.u32.wrap (n.tmod (31 : Int) + (1 : Int))) false ==
                              (bits BinOp.and IntKind.u32
                                  (x.fdiv
                                    ((2 : Int) ^
                                      min
                                        (IntKind.u32.wrap
                                            (IntKind.u32.wrap (n.tmod (31 : Int) + (1 : Int)) - (1 : Int))).toNat
                                        (32 : Nat)))
                                  (1 : Int) ==
                                (1 : Int))) =
                          true ∧
                        decide ((0 : Int) ≤ IntKind.u32.wrap (n.tmod (31 : Int) + (1 : Int))) = true ∧
                          (IntKind.i64.wrap
                                (IntKind.i32.wrap
                                  (regV (2 : Int) x (IntKind.u32.wrap (n.tmod (31 : Int) + (1 : Int))) false)) ==
                              (IntKind.i64.wrap (IntKind.i32.wrap x)).fdiv
                                ((2 : Int) ^ min (IntKind.u32.wrap (n.tmod (31 : Int) + (1 : Int))).toNat (64 : Nat))) =
                            true) := by kernel_rfl

theorem it_add (k : Nat) (x : Nat) (c c' : Bool) (a : Nat) : ∀ b, (it k b (it k a x c).1 c').1 = (it k (a + b) x c).1
  | 0 => rfl
  | b + 1 => by
    show (one k (it k b (it k a x c).1 c').1).1 = (one k (it k (a + b) x c).1).1
    rw [it_add k x c c' a b]

theorem regs_l (k x y n : Int) (c : Bool) (hx : u32 x = true) (hy : u32 y = true) : lawP (fnTree Try.prog orc3 (tabL fns) 1000 Try.f3 [.a [.i false .i64 k, .i false .u32 x, .i false .u32 y, .i false .i64 n, .b false c]] []) := by
  rw [regs_p]; exact ⟨hx, hx, hy, by simp, by simp⟩

theorem imms_l (k x y n : Int) (c : Bool) (hx : u32 x = true) : lawP (fnTree Try.prog orc3 (tabL fns) 1000 Try.f4 [.a [.i false .i64 k, .i false .u32 x, .i false .u32 y, .i false .i64 n, .b false c]] []) := by
  rw [imms_p]
  have hx' : 0 ≤ x ∧ x < 4294967296 := by simpa [u32] using hx
  have h1 : u32 (x % 256) = true := by rw [u32, decide_eq_true_eq]; omega
  have h2 : ∀ e, u32 (IntKind.u32.wrap e) = true := fun e => by rw [wu32, u32, decide_eq_true_eq]; omega
  rw [m255, tmod_n _ _ hx'.1]
  exact ⟨hx, hx, h1, h1, h2 _, by simp, by simp, by simp, by simp⟩

theorem steps_l (k x y n : Int) (c : Bool) (hx : u32 x = true) (hy : u32 y = true) : lawP (fnTree Try.prog orc3 (tabL fns) 1000 Try.f5 [.a [.i false .i64 k, .i false .u32 x, .i false .u32 y, .i false .i64 n, .b false c]] []) := by
  rw [steps_p]
  have hx' : 0 ≤ x ∧ x < 4294967296 := by simpa [u32] using hx
  have hy' : 0 ≤ y ∧ y < 4294967296 := by simpa [u32] using hy
  obtain ⟨m, hm⟩ : ∃ m : Nat, y % 254 + 1 = m := ⟨(y % 254 + 1).toNat, by omega⟩
  have hm' : 1 ≤ m ∧ m ≤ 254 := by omega
  have e1 : IntKind.u32.wrap (y.tmod 254 + 1) = (m : Int) := by rw [tmod_n _ _ hy'.1, wu32]; omega
  have e2 : IntKind.u32.wrap ((m : Int) + 1) = ((m + 1 : Nat) : Int) := by rw [wu32]; omega
  rw [e1, e2]
  have e3 : ((m : Int) % 256).toNat = m := by omega
  have e4 : (((m + 1 : Nat) : Int) % 256).toNat = m + 1 := by omega
  have e5 : ((1 : Int) % 256).toNat = 1 := by decide
  refine ⟨hx, regV_u32 _ _ _ _ hx, hx, ?_, ?_⟩
  · simp only [regV, e3, e4, e5, Int.toNat_natCast, it, beq_self_eq_true]
  · simp only [regV, regC, e3, e4, e5, Int.toNat_natCast, it, beq_self_eq_true, Bool.false_xor]

theorem round_l (x n : Int) (hx : u32 x = true) (hn : u32 n = true) : lawP (fnTree Try.prog orc3 (tabL fns) 1000 Try.f6 [.c (.i false .u32 x), .c (.i false .u32 n)] []) := by
  rw [round_p]
  have hx' : 0 ≤ x ∧ x < 4294967296 := by simpa [u32] using hx
  have hn' : 0 ≤ n ∧ n < 4294967296 := by simpa [u32] using hn
  obtain ⟨X, rfl⟩ := Int.eq_ofNat_of_zero_le hx'.1
  have hX : X < 4294967296 := by omega
  obtain ⟨m, hm⟩ : ∃ m : Nat, n % 32 = m := ⟨(n % 32).toNat, by omega⟩
  have hm' : m < 32 := by omega
  rw [tmod_n _ _ hn'.1, hm]
  have e1 : (IntKind.u32.wrap (32 - (m : Int))).tmod 32 = (((32 - m) % 32 : Nat) : Int) := by
    rw [wu32, tmod_n _ _ (by omega)]; omega
  have e2 : IntKind.u32.wrap ((m : Int) + 32) = ((m + 32 : Nat) : Int) := by rw [wu32]; omega
  have e3 : IntKind.u32.wrap (32 - (m : Int)) = ((32 - m : Nat) : Int) := by rw [wu32]; omega
  have k3 : ((3 : Int) % 4).toNat = 3 := by decide
  have k0 : ((0 : Int) % 4).toNat = 0 := by decide
  have k1 : ((1 : Int) % 4).toNat = 1 := by decide
  have t1 : ((m : Int) % 256).toNat = m := by omega
  have t2 : ((((32 - m) % 32 : Nat) : Int) % 256).toNat = (32 - m) % 32 := by omega
  have t3 : (((m + 32 : Nat) : Int) % 256).toNat = m + 32 := by omega
  rw [e1, e2, e3]
  refine ⟨hx, regV_u32 _ _ _ _ hx, hx, hx, regV_u32 _ _ _ _ hx, ?_, ?_, by rw [decide_eq_true_eq]; omega, ?_⟩
  · simp only [regV, k3, t1, t2, Int.toNat_natCast]
    rw [it_add, it_turn _ _ hX, show (m + (32 - m) % 32) % 32 = 0 by omega, rot_0]; simp
  · simp only [regV, k3, t1, t3, Int.toNat_natCast]
    rw [it_turn _ _ hX, it_turn _ _ hX, show (m + 32) % 32 = m % 32 by omega]; simp
  · simp only [regV, k0, k1, t1, Int.toNat_natCast]
    have hmask : IntKind.u32.wrap (IntKind.u32.wrap (1 * 2 ^ min (32 - m) 32) - 1) = (2 : Int) ^ (32 - m) - 1 := by
      rw [Nat.min_eq_left (by omega), Int.one_mul]
      by_cases h0 : m = 0
      · subst h0; rw [wu32, wu32]; decide
      · have hp : (2 : Nat) ^ (32 - m) ≤ 2 ^ 31 := Nat.pow_le_pow_right (by decide) (by omega)
        have hp1 : 1 ≤ (2 : Nat) ^ (32 - m) := Nat.one_le_two_pow
        have hc : ((2 : Int) ^ (32 - m)) = ((2 ^ (32 - m) : Nat) : Int) := by simp only [Int.natCast_pow, Int.cast_ofNat_Int]
        rw [wu32, wu32, hc]
        omega
    rw [hmask, and_mask .u32 X (32 - m) (if h : m = 0 then .inr ⟨rfl, by subst h; rfl⟩ else .inl (by show 32 - m < 32; omega))]
    have hc : (X : Int) % 2 ^ (32 - m) = ((X % 2 ^ (32 - m) : Nat) : Int) := by simp only [Int.natCast_emod, Int.natCast_pow, Int.cast_ofNat_Int]
    rw [hc]
    cases m with
    | zero => simp [it]; omega
    | succ j =>
      rw [it_left X _ hX j, it_right _ _ j]
      have e3 : X * 2 ^ (j + 1) % 4294967296 = 2 ^ (j + 1) * (X % 2 ^ (32 - (j + 1))) := by
        rw [show (4294967296 : Nat) = 2 ^ (j + 1) * 2 ^ (32 - (j + 1)) by rw [← Nat.pow_add, show j + 1 + (32 - (j + 1)) = 32 by omega], Nat.mul_comm X, Nat.mul_mod_mul_left]
      simp only [e3, Nat.mul_div_cancel_left _ (Nat.two_pow_pos (j + 1)), beq_self_eq_true]

theorem times_l (x n : Int) (hx : u32 x = true) (hn : u32 n = true) : lawP (fnTree Try.prog orc3 (tabL fns) 1000 Try.f7 [.c (.i false .u32 x), .c (.i false .u32 n)] []) := by
  rw [times_p]
  have hx' : 0 ≤ x ∧ x < 4294967296 := by simpa [u32] using hx
  have hn' : 0 ≤ n ∧ n < 4294967296 := by simpa [u32] using hn
  obtain ⟨X, rfl⟩ := Int.eq_ofNat_of_zero_le hx'.1
  have hX : X < 4294967296 := by omega
  obtain ⟨j, hj⟩ : ∃ j : Nat, n % 31 = j := ⟨(n % 31).toNat, by omega⟩
  have hj' : j < 31 := by omega
  have e1 : IntKind.u32.wrap (n.tmod 31 + 1) = ((j + 1 : Nat) : Int) := by rw [tmod_n _ _ hn'.1, wu32]; omega
  have e2 : IntKind.u32.wrap (((j + 1 : Nat) : Int) - 1) = (j : Int) := by rw [wu32]; omega
  rw [e1, e2]
  have k0 : ((0 : Int) % 4).toNat = 0 := by decide
  have k1 : ((1 : Int) % 4).toNat = 1 := by decide
  have k2 : ((2 : Int) % 4).toNat = 2 := by decide
  have t1 : (((j + 1 : Nat) : Int) % 256).toNat = j + 1 := by omega
  have u1 : IntKind.u64.wrap (X : Int) = X := by rw [wu64]; omega
  have hs := sg_bd X hX
  have hb := ediv_bd (sg X) (j + 1) hs
  simp only [u1, sg_wi X hX, fdiv_pow, Int.toNat_natCast]
  rw [Nat.min_eq_left (show j ≤ 32 by omega), Nat.min_eq_left (show j + 1 ≤ 64 by omega)]
  refine ⟨hx, hx, hx, by rw [decide_eq_true_eq]; omega, ?_, by rw [decide_eq_true_eq]; omega, ?_, by rw [decide_eq_true_eq]; omega, ?_, by rw [decide_eq_true_eq]; omega, ?_⟩
  · simp only [regV, k0, t1, Int.toNat_natCast, it_left X _ hX j]
    rw [wu32, wu64]
    have := left_val X (j + 1)
    rw [Nat.min_eq_left (show j + 1 ≤ 64 by omega)] at this
    have h2 : ((X : Int) * 2 ^ (j + 1) % 18446744073709551616 % 4294967296) = ((X * 2 ^ (j + 1) % 4294967296 : Nat) : Int) := by rw [← this]; simp only [Int.natCast_emod, Int.natCast_mul, Int.natCast_pow, Int.cast_ofNat_Int]
    rw [h2, beq_self_eq_true]
  · simp only [regV, k1, t1, Int.toNat_natCast, it_right X _ j]
    have h2 : ((X : Int) / 2 ^ (j + 1)) = ((X / 2 ^ (j + 1) : Nat) : Int) := by simp only [Int.natCast_ediv, Int.natCast_pow, Int.cast_ofNat_Int]
    have : X / 2 ^ (j + 1) ≤ X := Nat.div_le_self _ _
    rw [h2, wu32]
    generalize X / 2 ^ (j + 1) = q at this ⊢
    rw [beq_iff_eq]; omega
  · simp only [regC, k1, t1, Int.toNat_natCast, it_right X _ j, m1u]
    have h2 : ((X : Int) / 2 ^ j) = ((X / 2 ^ j : Nat) : Int) := by simp only [Int.natCast_ediv, Int.natCast_pow, Int.cast_ofNat_Int]
    rw [h2]
    generalize X / 2 ^ j = q
    rw [Bool.false_xor, beq_iff_eq, Bool.eq_iff_iff]; simp; omega
  · simp only [regV, k2, t1, Int.toNat_natCast, it_copies X _ hX j]
    have h3 : IntKind.i64.wrap (sg X) = sg X := IntWalk.i64_in _ (by omega)
    rw [h3]
    generalize sg X / 2 ^ (j + 1) = q at hb ⊢
    have h1 : IntKind.i32.wrap (((q % 4294967296).toNat : Nat) : Int) = q := by rw [wi32]; omega
    have h2 : IntKind.i64.wrap q = q := IntWalk.i64_in _ (by omega)
    rw [h1, h2, beq_self_eq_true]
end Go.Proofs.Ytfmojhmgiafhoaa

