import Derived.Test.YtfmojhmgiafhoaaRows
import Derived.Test.YtfmojhmgiafhoaaEv
import Derived.Test.YtfmojhmgiafhoaaM
set_option linter.unusedVariables false
set_option linter.unusedSimpArgs false
namespace Go.Proofs.Ytfmojhmgiafhoaa
open Go Go.Proofs Go.Proofs.Ytfmojhmgiafhoaa.Ev Go.Proofs.Ytfmojhmgiafhoaa.Sh

noncomputable def fns : List (FuncId × Func) := [(8, Try.f8), (9, Try.f9), (10, Try.f10), (11, Try.f11), (12, Try.f12), (13, Try.f13), (14, Try.f14), (15, Try.f15), (16, Try.f16), (17, Try.f17), (18, Try.f18), (19, Try.f19)]
theorem fns_ok : ∀ p, p ∈ fns → FnOK Try.prog p :=
  fn_cons ⟨Try.func8, by decide, rfl, by decide⟩ <| fn_cons ⟨Try.func9, by decide, rfl, by decide⟩ <| fn_cons ⟨Try.func10, by decide, rfl, by decide⟩ <|
  fn_cons ⟨Try.func11, by decide, rfl, by decide⟩ <| fn_cons ⟨Try.func12, by decide, rfl, by decide⟩ <| fn_cons ⟨Try.func13, by decide, rfl, by decide⟩ <|
  fn_cons ⟨Try.func14, by decide, rfl, by decide⟩ <| fn_cons ⟨Try.func15, by decide, rfl, by decide⟩ <| fn_cons ⟨Try.func16, by decide, rfl, by decide⟩ <|
  fn_cons ⟨Try.func17, by decide, rfl, by decide⟩ <| fn_cons ⟨Try.func18, by decide, rfl, by decide⟩ <| fn_cons ⟨Try.func19, by decide, rfl, by decide⟩ fn_nil
theorem tab_ok : TabOK Try.prog (tabL fns) := tabL_ok fns_ok
theorem tab_sz : ∀ g fn, tabL fns g = some fn → fn.ntmps < 4095 := tabL_sz fns_ok
theorem mixed : Try.prog.follows .mixedOrders = true := by kernel_rfl

/-! ### one place -/
def oneV (k x : Int) : Int := ((one k.toNat x.toNat).1 : Int)
def oneC (k x : Int) : Bool := (one k.toNat x.toNat).2
theorem one_p (k x : Int) :
    (conP (SV.t [.c (.i false .u32 (oneV k x)), .c (.b false (oneC k x))]) (fnTree Try.prog orcNone (tabL fns) 1000 Try.f18 [.c (.i false .i64 k), .c (.i false .u32 x)] [])) =
    (((k == (0 : Int)) = true →
          (IntKind.u32 = IntKind.u32 ∧ IntKind.u32.wrap (x * (2 : Int)) = oneV k x) ∧
            decide (x ≥ (2147483648 : Int)) = oneC k x) ∧
        ((k == (0 : Int)) = false →
          ((k == (1 : Int)) = true →
              (IntKind.u32 = IntKind.u32 ∧ IntKind.u32.wrap (x.tdiv (2 : Int)) = oneV k x) ∧
                (x.tmod (2 : Int) == (1 : Int)) = oneC k x) ∧
            ((k == (1 : Int)) = false →
              ((k == (2 : Int)) = true →
                  (decide (x ≥ (2147483648 : Int)) = true →
                      (IntKind.u32 = IntKind.u32 ∧
                          IntKind.u32.wrap (IntKind.u32.wrap (x.tdiv (2 : Int)) + (2147483648 : Int)) = oneV k x) ∧
                        (x.tmod (2 : Int) == (1 : Int)) = oneC k x) ∧
                    (decide (x ≥ (2147483648 : Int)) = false →
                      (IntKind.u32 = IntKind.u32 ∧ IntKind.u32.wrap (x.tdiv (2 : Int)) = oneV k x) ∧
                        (x.tmod (2 : Int) == (1 : Int)) = oneC k x)) ∧
                ((k == (2 : Int)) = false →
                  (IntKind.u32 = IntKind.u32 ∧
                      IntKind.u32.wrap
                          (IntKind.u32.wrap (x.tdiv (2 : Int)) + IntKind.u32.wrap (x.tmod (2 : Int) * (2147483648 : Int))) =
                        oneV k x) ∧
                    (x.tmod (2 : Int) == (1 : Int)) = oneC k x)))) := by kernel_rfl
theorem one_c (l l' : Bool) (k x : Int) (s : SW) (hk : 0 ≤ k) (hx : u32 x = true) : CallTree Try.prog 18 [.c (.i l .i64 k), .c (.i l' .u32 x)] s (.leaf (.t [.c (.i false .u32 (oneV k x)), .c (.b false (oneC k x))], s)) := by
  refine CallTree.args (vs' := [.c (.i false .i64 k), .c (.i false .u32 x)]) ⟨⟨rfl, rfl⟩, ⟨rfl, rfl⟩⟩ ?_
  refine pure_contract (fnTree_sound orcNone_ok tab_ok tab_sz mixed 1000 Try.func18 (by decide) [.c (.i false .i64 k), .c (.i false .u32 x)] []) (by simp [SV.ok, C.ok]) (v := .t [.c (.i false .u32 (oneV k x)), .c (.b false (oneC k x))]) rfl ?_ s
  refine conP_OK _ ?_
  rw [one_p]
  obtain ⟨K, rfl⟩ := Int.eq_ofNat_of_zero_le hk
  have hx' : 0 ≤ x ∧ x < 4294967296 := by simpa [u32] using hx
  obtain ⟨X, rfl⟩ := Int.eq_ofNat_of_zero_le hx'.1
  have hX : X < 4294967296 := by omega
  simp only [oneV, oneC, one, wu32, tmod_n _ _ hx'.1, tdiv_n _ _ hx'.1, Int.toNat_natCast, true_and]
  have h2 : ((X : Int) % 2 == 1) = (X % 2 == 1) := by rw [Bool.eq_iff_iff]; simp; omega
  by_cases h0 : K = 0
  · subst h0; simp; omega
  by_cases h1 : K = 1
  · subst h1; simp [h2]; omega
  by_cases h3 : K = 2
  · subst h3
    by_cases h4 : 2147483648 ≤ X
    · simp [h4, h2]; omega
    · simp [h4, h2]; omega
  · have e0 : ((K : Int) == 0) = false := by simp; omega
    have e1 : ((K : Int) == 1) = false := by simp; omega
    have e2 : ((K : Int) == 2) = false := by simp; omega
    simp [e0, e1, e2, h0, h1, h3, h2]; omega

/-! ### a shift by a register -/
theorem reg_p (k x y : Int) (c : Bool) :
    (conP (SV.t [.c (.i false .u32 (regV k x y c)), .c (.b false (regC k x y c))]) (fnTree Try.prog orcNone (tabL fns) 1000 Try.f9 [.c (.i false .i64 k), .c (.i false .u32 x), .c (.i false .u32 y), .c (.b false c)] [])) =
    (((IntKind.i64.wrap (bits BinOp.and IntKind.u32 y (255 : Int)) == (0 : Int)) = true →
          (IntKind.u32 = IntKind.u32 ∧ x = regV k x y c) ∧ c = regC k x y c) ∧
        ((IntKind.i64.wrap (bits BinOp.and IntKind.u32 y (255 : Int)) == (0 : Int)) = false →
          ((bits BinOp.and IntKind.i64 k (3 : Int) == (0 : Int)) = true →
              decide ((0 : Int) ≤ IntKind.i64.wrap (bits BinOp.and IntKind.u32 y (255 : Int))) = true ∧
                (IntKind.u32 = IntKind.u32 ∧
                    IntKind.u32.wrap
                        (IntKind.u64.wrap
                          (IntKind.u64.wrap x *
                            (2 : Int) ^ min (IntKind.i64.wrap (bits BinOp.and IntKind.u32 y (255 : Int))).toNat (64 : Nat))) =
                      regV k x y c) ∧
                  (bits BinOp.and IntKind.u64
                        ((IntKind.u64.wrap
                              (IntKind.u64.wrap x *
                                (2 : Int) ^
                                  min (IntKind.i64.wrap (bits BinOp.and IntKind.u32 y (255 : Int))).toNat (64 : Nat))).fdiv
                          (4294967296 : Int))
                        (1 : Int) !=
                      (0 : Int)) =
                    regC k x y c) ∧
            ((bits BinOp.and IntKind.i64 k (3 : Int) == (0 : Int)) = false →
              ((bits BinOp.and IntKind.i64 k (3 : Int) == (1 : Int)) = true →
                  decide ((0 : Int) ≤ IntKind.i64.wrap (bits BinOp.and IntKind.u32 y (255 : Int))) = true ∧
                    (IntKind.u32 = IntKind.u32 ∧
                        IntKind.u32.wrap
                            (((IntKind.u64.wrap (IntKind.u64.wrap x * (4294967296 : Int))).fdiv
                                  ((2 : Int) ^
                                    min (IntKind.i64.wrap (bits BinOp.and IntKind.u32 y (255 : Int))).toNat (64 : Nat))).fdiv
                              (4294967296 : Int)) =
                          regV k x y c) ∧
                      (bits BinOp.and IntKind.u64
                            (((IntKind.u64.wrap (IntKind.u64.wrap x * (4294967296 : Int))).fdiv
                                  ((2 : Int) ^
                                    min (IntKind.i64.wrap (bits BinOp.and IntKind.u32 y (255 : Int))).toNat (64 : Nat))).fdiv
                              (2147483648 : Int))
                            (1 : Int) !=
                          (0 : Int)) =
                        regC k x y c) ∧
                ((bits BinOp.and IntKind.i64 k (3 : Int) == (1 : Int)) = false →
                  ((bits BinOp.and IntKind.i64 k (3 : Int) == (2 : Int)) = true →
                      decide
                            ((0 : Int) ≤
                              if (32 : Int) < IntKind.i64.wrap (bits BinOp.and IntKind.u32 y (255 : Int)) then (32 : Int)
                              else IntKind.i64.wrap (bits BinOp.and IntKind.u32 y (255 : Int))) =
                          true ∧
                        decide
                              ((0 : Int) ≤
                                IntKind.i64.wrap
                                  ((if (32 : Int) < IntKind.i64.wrap (bits BinOp.and IntKind.u32 y (255 : Int)) then
                                      (32 : Int)
                                    else IntKind.i64.wrap (bits BinOp.and IntKind.u32 y (255 : Int))) -
                                    (1 : Int))) =
                            true ∧
                          (IntKind.u32 = IntKind.u32 ∧
                              IntKind.u32.wrap
                                  ((IntKind.i32.wrap x).fdiv
                                    ((2 : Int) ^
                                      min
                                        (if (32 : Int) < IntKind.i64.wrap (bits BinOp.and IntKind.u32 y (255 : Int)) then
                                            (32 : Int)
                                          else IntKind.i64.wrap (bits BinOp.and IntKind.u32 y (255 : Int))).toNat
                                        (32 : Nat))) =
                                regV k x y c) ∧
                            (bits BinOp.and IntKind.i32
                                  ((IntKind.i32.wrap x).fdiv
                                    ((2 : Int) ^
                                      min
                                        (IntKind.i64.wrap
                                            ((if (32 : Int) < IntKind.i64.wrap (bits BinOp.and IntKind.u32 y (255 : Int)) then
                                                (32 : Int)
                                              else IntKind.i64.wrap (bits BinOp.and IntKind.u32 y (255 : Int))) -
                                              (1 : Int))).toNat
                                        (32 : Nat)))
                                  (1 : Int) !=
                                (0 : Int)) =
                              regC k x y c) ∧
                    ((bits BinOp.and IntKind.i64 k (3 : Int) == (2 : Int)) = false →
                      decide
                            ((0 : Int) ≤
                              bits BinOp.and IntKind.u64
                                (IntKind.u64.wrap
                                  (IntKind.i64.wrap
                                    ((0 : Int) - IntKind.i64.wrap (bits BinOp.and IntKind.u32 y (255 : Int)))))
                                (31 : Int)) =
                          true ∧
                        decide
                              ((0 : Int) ≤
                                IntKind.u64.wrap
                                  ((32 : Int) -
                                    bits BinOp.and IntKind.u64
                                      (IntKind.u64.wrap
                                        (IntKind.i64.wrap
                                          ((0 : Int) - IntKind.i64.wrap (bits BinOp.and IntKind.u32 y (255 : Int)))))
                                      (31 : Int))) =
                            true ∧
                          (IntKind.u32 = IntKind.u32 ∧
                              bits BinOp.or IntKind.u32
                                  (IntKind.u32.wrap
                                    (x *
                                      (2 : Int) ^
                                        min
                                          (bits BinOp.and IntKind.u64
                                              (IntKind.u64.wrap
                                                (IntKind.i64.wrap
                                                  ((0 : Int) - IntKind.i64.wrap (bits BinOp.and IntKind.u32 y (255 : Int)))))
                                              (31 : Int)).toNat
                                          (32 : Nat)))
                                  (x.fdiv
                                    ((2 : Int) ^
                                      min
                                        (IntKind.u64.wrap
                                            ((32 : Int) -
                                              bits BinOp.and IntKind.u64
                                                (IntKind.u64.wrap
                                                  (IntKind.i64.wrap
                                                    ((0 : Int) -
                                                      IntKind.i64.wrap (bits BinOp.and IntKind.u32 y (255 : Int)))))
                                                (31 : Int))).toNat
                                        (32 : Nat))) =
                                regV k x y c) ∧
                            ((bits BinOp.or IntKind.u32
                                      (IntKind.u32.wrap
                                        (x *
                                          (2 : Int) ^
                                            min
                                              (bits BinOp.and IntKind.u64
                                                  (IntKind.u64.wrap
                                                    (IntKind.i64.wrap
                                                      ((0 : Int) -
                                                        IntKind.i64.wrap (bits BinOp.and IntKind.u32 y (255 : Int)))))
                                                  (31 : Int)).toNat
                                              (32 : Nat)))
                                      (x.fdiv
                                        ((2 : Int) ^
                                          min
                                            (IntKind.u64.wrap
                                                ((32 : Int) -
                                                  bits BinOp.and IntKind.u64
                                                    (IntKind.u64.wrap
                                                      (IntKind.i64.wrap
                                                        ((0 : Int) -
                                                          IntKind.i64.wrap (bits BinOp.and IntKind.u32 y (255 : Int)))))
                                                    (31 : Int))).toNat
                                            (32 : Nat)))).fdiv
                                  (2147483648 : Int) !=
                                (0 : Int)) =
                              regC k x y c))))) := by kernel_rfl
theorem m255 (y : Int) : bits .and .u32 y 255 = y % 256 := and_mask .u32 y 8 (.inl (by decide))
theorem m3 (k : Int) : bits .and .i64 k 3 = k % 4 := and_mask .i64 k 2 (.inl (by decide))
theorem m1 (k : Int) : bits .and .u64 k 1 = k % 2 := and_mask .u64 k 1 (.inl (by decide))
theorem m1i (k : Int) : bits .and .i32 k 1 = k % 2 := and_mask .i32 k 1 (.inl (by decide))
theorem m31 (k : Int) : bits .and .u64 k 31 = k % 32 := and_mask .u64 k 5 (.inl (by decide))

theorem reg_c (l l' l'' l3 : Bool) (k x y : Int) (c : Bool) (s : SW) (hx : u32 x = true) :
    CallTree Try.prog 9 [.c (.i l .i64 k), .c (.i l' .u32 x), .c (.i l'' .u32 y), .c (.b l3 c)] s (.leaf (.t [.c (.i false .u32 (regV k x y c)), .c (.b false (regC k x y c))], s)) := by
  refine CallTree.args (vs' := [.c (.i false .i64 k), .c (.i false .u32 x), .c (.i false .u32 y), .c (.b false c)]) ⟨⟨rfl, rfl⟩, ⟨rfl, rfl⟩, ⟨rfl, rfl⟩, rfl⟩ ?_
  refine pure_contract (fnTree_sound orcNone_ok tab_ok tab_sz mixed 1000 Try.func9 (by decide) _ []) (by simp [SV.ok, C.ok]) (v := .t [.c (.i false .u32 (regV k x y c)), .c (.b false (regC k x y c))]) rfl ?_ s
  refine conP_OK _ ?_
  rw [reg_p]
  have hx' : 0 ≤ x ∧ x < 4294967296 := by simpa [u32] using hx
  obtain ⟨X, rfl⟩ := Int.eq_ofNat_of_zero_le hx'.1
  have hX : X < 4294967296 := by omega
  obtain ⟨N, hN⟩ : ∃ N : Nat, y % 256 = N := ⟨(y % 256).toNat, by omega⟩
  have hN' : N < 256 := by omega
  have e1 : IntKind.i64.wrap (bits BinOp.and IntKind.u32 y 255) = (N : Int) := by rw [m255, hN, wi64]; omega
  have e2 : bits BinOp.and IntKind.i64 k 3 = k % 4 := m3 k
  have e3 : IntKind.u64.wrap (X : Int) = X := by rw [wu64]; omega
  have e4 : IntKind.u64.wrap ((X : Int) * 4294967296) = ((X * 4294967296 : Nat) : Int) := by rw [wu64]; omega
  simp only [e1, e2, e3, e4, regV, regC, hN, Int.toNat_natCast, true_and, sg_wi X hX]
  have hs := sg_bd X hX
  rcases Nat.eq_zero_or_pos N with h0 | h0
  · subst h0
    simp [it]
  obtain ⟨n, rfl⟩ : ∃ n, N = n + 1 := ⟨N - 1, by omega⟩
  have e5 : (((n + 1 : Nat) : Int) == 0) = false := by simp; omega
  simp only [e5, Bool.false_eq_true, false_implies, true_and, forall_const]
  refine ⟨fun hk => ?_, fun hk0 => ⟨fun hk => ?_, fun hk1 => ⟨fun hk => ?_, fun hk2 => ?_⟩⟩⟩
  · have hk : (k % 4).toNat = 0 := by simp at hk; omega
    rw [hk, it_left X c hX n]
    refine ⟨by simp; omega, ?_, ?_⟩
    · rw [wu32, wu64]
      have := left_val X (n + 1)
      rw [← this]; simp only [Int.natCast_emod, Int.natCast_ediv, Int.natCast_mul, Int.natCast_pow, Int.cast_ofNat_Int]
    · rw [m1, wu64, fdiv_lit _ _ (by decide)]
      have := left_car X (n + 1)
      have h2 : ((X : Int) * 2 ^ min (n + 1) 64 % 18446744073709551616 / 4294967296 % 2) = ((X * 2 ^ (n + 1) / 4294967296 % 2 : Nat) : Int) := by rw [← this]; simp only [Int.natCast_emod, Int.natCast_ediv, Int.natCast_mul, Int.natCast_pow, Int.cast_ofNat_Int]
      rw [h2]
      generalize X * 2 ^ (n + 1) / 4294967296 = q
      rw [Bool.eq_iff_iff]; simp; omega
  · have hk : (k % 4).toNat = 1 := by simp at hk; omega
    rw [hk, it_right X c n]
    refine ⟨by simp; omega, ?_, ?_⟩
    · rw [wu32, fdiv_pow, fdiv_lit _ _ (by decide)]
      have := right_val X (n + 1) hX
      have h2 : ((X * 4294967296 : Nat) : Int) / 2 ^ min (n + 1) 64 / 4294967296 = ((X / 2 ^ (n + 1) : Nat) : Int) := by rw [← this]; simp only [Int.natCast_emod, Int.natCast_ediv, Int.natCast_mul, Int.natCast_pow, Int.cast_ofNat_Int]
      rw [h2]
      have : X / 2 ^ (n + 1) ≤ X := Nat.div_le_self _ _
      generalize X / 2 ^ (n + 1) = q at this ⊢
      omega
    · rw [m1, fdiv_pow, fdiv_lit _ _ (by decide)]
      have := right_car X n hX
      have h2 : ((X * 4294967296 : Nat) : Int) / 2 ^ min (n + 1) 64 / 2147483648 % 2 = ((X / 2 ^ n % 2 : Nat) : Int) := by rw [← this]; simp only [Int.natCast_emod, Int.natCast_ediv, Int.natCast_mul, Int.natCast_pow, Int.cast_ofNat_Int]
      rw [h2]
      generalize X / 2 ^ n = q
      rw [Bool.eq_iff_iff]; simp; omega
  · have hk : (k % 4).toNat = 2 := by simp at hk; omega
    rw [hk, it_copies X c hX n]
    by_cases hb : 32 < n + 1
    · have hb' : (32 : Int) < ((n + 1 : Nat) : Int) := by omega
      simp only [hb', if_true]
      refine ⟨by decide, by rw [wi64]; rfl, ?_, ?_⟩
      · rw [wu32, fdiv_pow, show min (Int.toNat 32) 32 = 32 from rfl, sg_big _ hs 32 (by decide), sg_big _ hs (n + 1) (by omega)]
        split <;> simp
      · rw [m1i, fdiv_pow, show min (IntKind.i64.wrap (32 - 1)).toNat 32 = 31 by rw [wi64]; rfl, sg_big _ hs 31 (by decide), sg_big _ hs n (by omega)]
        split <;> simp
    · have hb' : ¬ (32 : Int) < ((n + 1 : Nat) : Int) := by omega
      simp only [hb', if_false]
      have e6 : IntKind.i64.wrap (((n + 1 : Nat) : Int) - 1) = (n : Int) := by rw [wi64]; omega
      rw [e6]
      refine ⟨by simp; omega, by simp, ?_, ?_⟩
      · rw [wu32, fdiv_pow, Int.toNat_natCast, Nat.min_eq_left (by omega)]
        omega
      · rw [m1i, fdiv_pow, Int.toNat_natCast, Nat.min_eq_left (by omega), Bool.eq_iff_iff]
        simp; omega
  · have hk : (k % 4).toNat = 3 := by simp at hk0 hk1 hk2; omega
    rw [hk, it_turn_c X c hX n, it_turn X c hX]
    have hm : (n + 1) % 32 < 32 := Nat.mod_lt _ (by decide)
    have e6 : bits BinOp.and IntKind.u64 (IntKind.u64.wrap (IntKind.i64.wrap (0 - ((n + 1 : Nat) : Int)))) 31 = (((32 - (n + 1) % 32) % 32 : Nat) : Int) := by
      rw [m31, wu64, IntWalk.i64_in _ (by omega), Int.emod_emod_of_dvd _ (by decide : (32 : Int) ∣ 18446744073709551616)]; omega
    have e7 : IntKind.u64.wrap (32 - (((32 - (n + 1) % 32) % 32 : Nat) : Int)) = ((32 - (32 - (n + 1) % 32) % 32 : Nat) : Int) := by rw [wu64]; omega
    simp only [e6, e7, Int.toNat_natCast]
    generalize (n + 1) % 32 = m at hm
    have hle1 : (32 - m) % 32 ≤ 32 := by omega
    have hle2 : 32 - (32 - m) % 32 ≤ 32 := by omega
    rw [Nat.min_eq_left hle1, Nat.min_eq_left hle2, fdiv_pow]
    have e8 : IntKind.u32.wrap ((X : Int) * 2 ^ ((32 - m) % 32)) = ((X * 2 ^ ((32 - m) % 32) % 4294967296 : Nat) : Int) := by rw [wu32]; simp only [Int.natCast_emod, Int.natCast_ediv, Int.natCast_mul, Int.natCast_pow, Int.cast_ofNat_Int]
    have e9 : (X : Int) / 2 ^ (32 - (32 - m) % 32) = ((X / 2 ^ (32 - (32 - m) % 32) : Nat) : Int) := by simp only [Int.natCast_emod, Int.natCast_ediv, Int.natCast_mul, Int.natCast_pow, Int.cast_ofNat_Int]
    rw [e8, e9, bits_or_u32 _ _ (Nat.mod_lt _ (by decide)) (by have := Nat.div_le_self X (2 ^ (32 - (32 - m) % 32)); omega), rot_code X m hX hm, fdiv_lit _ _ (by decide)]
    refine ⟨by rw [decide_eq_true_eq]; omega, by rw [decide_eq_true_eq]; omega, rfl, ?_⟩
    rw [Bool.eq_iff_iff]; simp; omega

/-! ### the document's shift, place by place -/
def orc1 : Orc := fun g vs s => match g, vs with
  | 18, [.c (.i _ .i64 k), .c (.i _ .u32 x)] => some (.need (decide (0 ≤ k)) (.need (u32 x) (.leaf (.t [.c (.i false .u32 (oneV k x)), .c (.b false (oneC k x))], s))))
  | _, _ => none
theorem orc1_ok : OrcOK Try.prog orc1 := by
  intro g vs s t h
  unfold orc1 at h
  split at h
  · simp only [Option.some.injEq] at h; subst h
    exact CallTree.need fun h1 => CallTree.need fun h2 => one_c _ _ _ _ s (by simpa using h1) h2
  · cases h
noncomputable def c10 : Code := Try.f10.body.getD .skip
noncomputable def hd10 : List Item := stopAt (run Try.prog orcNone (tabL fns) 1000 100 [.code c10] ⟨Try.f10.ntmps, mkFrGo (Tr.mk 12) 0 [.c (.i true .i64 0), .c (.i true .u32 0), .c (.i true .u32 0), .c (.b true true)]⟩ [])
def lv10 (k x y : Int) (c : Bool) (i : Nat) : List (Nat × SV) := [(0, .c (.i false .i64 k)), (1, .c (.i false .u32 ((it (k % 4).toNat i x.toNat c).1 : Int))), (2, .c (.i false .u32 y)), (3, .c (.b false (it (k % 4).toNat i x.toNat c).2)), (10, .c (.i false .u32 (i : Int)))]
theorem ref_pro (k x y : Int) (c : Bool) :
    (loopP Try.prog Try.f10 (fun v _ => SV.sim v (.t [.c (.i false .u32 (regV k x y c)), .c (.b false (regC k x y c))])) (fun todo fr s' => ∃ i : Nat, (i ≤ (y % 256).toNat) ∧ todo = hd10 ∧ fr.nt = Try.f10.ntmps ∧ refP fr (lv10 k x y c i) ∧ refS s' []) (run Try.prog orc1 (tabL fns) 1000 100 [.code c10] ⟨Try.f10.ntmps, mkFrGo (Tr.mk 12) 0 [.c (.i false .i64 k), .c (.i false .u32 x), .c (.i false .u32 y), .c (.b false c)]⟩ [])) =
    (∃ i,
        i ≤ (y % (256 : Int)).toNat ∧
          hd10 = hd10 ∧
            (26 : Nat) = (26 : Nat) ∧
              ((IntKind.i64 = IntKind.i64 ∧ k = k) ∧
                  (IntKind.u32 = IntKind.u32 ∧ x = (↑(it (k % (4 : Int)).toNat i x.toNat c).fst : Int)) ∧
                    (IntKind.u32 = IntKind.u32 ∧ y = y) ∧
                      c = (it (k % (4 : Int)).toNat i x.toNat c).snd ∧ IntKind.u32 = IntKind.u32 ∧ (0 : Int) = (↑i : Int)) ∧
                True) := by kernel_rfl
theorem ref_round (k x y : Int) (c : Bool) (j : Nat) :
    (loopP Try.prog Try.f10 (fun v _ => SV.sim v (.t [.c (.i false .u32 (regV k x y c)), .c (.b false (regC k x y c))])) (fun todo fr s' => ∃ i : Nat, (i ≤ (y % 256).toNat) ∧ (y % 256).toNat - i < (y % 256).toNat - j ∧ todo = hd10 ∧ fr.nt = Try.f10.ntmps ∧ refP fr (lv10 k x y c i) ∧ refS s' []) (run Try.prog orc1 (tabL fns) 1000 100 hd10 (mkL Try.f10.ntmps (lv10 k x y c j)) [])) =
    ((decide ((↑j : Int) < y.tmod (256 : Int)) = true →
          decide ((0 : Int) ≤ bits BinOp.and IntKind.i64 k (3 : Int)) = true ∧
            u32 (↑(it (k % (4 : Int)).toNat j x.toNat c).fst : Int) = true ∧
              ∃ i,
                i ≤ (y % (256 : Int)).toNat ∧
                  (y % (256 : Int)).toNat - i < (y % (256 : Int)).toNat - j ∧
                    hd10 = hd10 ∧
                      (26 : Nat) = (26 : Nat) ∧
                        ((IntKind.i64 = IntKind.i64 ∧ k = k) ∧
                            (IntKind.u32 = IntKind.u32 ∧
                                oneV (bits BinOp.and IntKind.i64 k (3 : Int))
                                    (↑(it (k % (4 : Int)).toNat j x.toNat c).fst : Int) =
                                  (↑(it (k % (4 : Int)).toNat i x.toNat c).fst : Int)) ∧
                              (IntKind.u32 = IntKind.u32 ∧ y = y) ∧
                                oneC (bits BinOp.and IntKind.i64 k (3 : Int))
                                      (↑(it (k % (4 : Int)).toNat j x.toNat c).fst : Int) =
                                    (it (k % (4 : Int)).toNat i x.toNat c).snd ∧
                                  IntKind.u32 = IntKind.u32 ∧ IntKind.u32.wrap ((↑j : Int) + (1 : Int)) = (↑i : Int)) ∧
                          True) ∧
        (decide ((↑j : Int) < y.tmod (256 : Int)) = false →
          (IntKind.u32 = IntKind.u32 ∧ (↑(it (k % (4 : Int)).toNat j x.toNat c).fst : Int) = regV k x y c) ∧
            (it (k % (4 : Int)).toNat j x.toNat c).snd = regC k x y c)) := by kernel_rfl
theorem ref_c (l l' l'' l3 : Bool) (k x y : Int) (c : Bool) (s : SW) (hx : u32 x = true) (hy : u32 y = true) :
    CallTree Try.prog 10 [.c (.i l .i64 k), .c (.i l' .u32 x), .c (.i l'' .u32 y), .c (.b l3 c)] s (.leaf (.t [.c (.i false .u32 (regV k x y c)), .c (.b false (regC k x y c))], s)) := by
  refine CallTree.args (vs' := [.c (.i false .i64 k), .c (.i false .u32 x), .c (.i false .u32 y), .c (.b false c)]) ⟨⟨rfl, rfl⟩, ⟨rfl, rfl⟩, ⟨rfl, rfl⟩, rfl⟩ ?_
  refine pure_contract_loop (by simp [SV.ok, C.ok]) rfl (fun W => ?_) s
  have hx' : 0 ≤ x ∧ x < 4294967296 := by simpa [u32] using hx
  have hy' : 0 ≤ y ∧ y < 4294967296 := by simpa [u32] using hy
  refine calls_loop (c := c10) orc1_ok tab_ok tab_sz mixed Try.func10 rfl (by decide) (by show 4 ≤ 26; decide) 1000 100 (fun i : Nat => i ≤ (y % 256).toNat) (fun i => (y % 256).toNat - i) (fun _ => hd10) (lv10 k x y c) (fun _ => []) (fun _ => rfl)
    (fun v _ => SV.sim v (.t [.c (.i false .u32 (regV k x y c)), .c (.b false (regC k x y c))])) ?_ ?_ W 0 _ W (Inv.start W) (by simp [SV.ok, C.ok])
  · rw [ref_pro]
    refine ⟨0, Nat.zero_le _, rfl, rfl, ⟨⟨rfl, rfl⟩, ⟨rfl, ?_⟩, ⟨rfl, rfl⟩, rfl, rfl, rfl⟩, trivial⟩
    simp only [it]; omega
  · intro j hj
    rw [ref_round]
    have hl := it_lt (k % 4).toNat x.toNat c (by omega) j
    have e2 : bits BinOp.and IntKind.i64 k 3 = k % 4 := m3 k
    rw [tmod_n _ _ hy'.1, e2]
    refine ⟨fun h => ?_, fun h => ?_⟩
    · have h : (j : Int) < y % 256 := by simpa using h
      refine ⟨by rw [decide_eq_true_eq]; omega, by simp only [u32, decide_eq_true_eq]; omega, j + 1, by omega, by omega, rfl, rfl, ⟨⟨rfl, rfl⟩, ⟨rfl, ?_⟩, ⟨rfl, rfl⟩, ?_, rfl, ?_⟩, trivial⟩
      · simp only [oneV, it, Int.toNat_natCast]
      · simp only [oneC, it, Int.toNat_natCast]
      · rw [wu32]; omega
    · have h : ¬ (j : Int) < y % 256 := by simpa using h
      have : j = (y % 256).toNat := by omega
      subst this
      exact ⟨⟨rfl, rfl⟩, rfl⟩

/-! ### the laws -/
theorem awake_c (s : SW) : CallTree Try.prog 8 [] s (.leaf (.c (.b true true), s)) := by
  have h : fnTree Try.prog orcNone (tabL fns) 1000 Try.f8 [] [] = .leaf (.c (.b true true), []) := by kernel_rfl
  refine pure_contract (fnTree_sound orcNone_ok tab_ok tab_sz mixed 1000 Try.func8 (by decide) [] []) (by simp) (v := .c (.b true true)) rfl ?_ s
  rw [h]; exact rfl

def orc2 : Orc := fun g vs s => match g, vs with
  | 8, [] => some (.leaf (.c (.b true true), s))
  | 9, [.c (.i _ .i64 k), .c (.i _ .u32 x), .c (.i _ .u32 y), .c (.b _ c)] => some (.need (u32 x) (.leaf (.t [.c (.i false .u32 (regV k x y c)), .c (.b false (regC k x y c))], s)))
  | 10, [.c (.i _ .i64 k), .c (.i _ .u32 x), .c (.i _ .u32 y), .c (.b _ c)] => some (.need (u32 x) (.need (u32 y) (.leaf (.t [.c (.i false .u32 (regV k x y c)), .c (.b false (regC k x y c))], s))))
  | _, _ => none
theorem orc2_ok : OrcOK Try.prog orc2 := by
  intro g vs s t h
  unfold orc2 at h
  split at h
  · simp only [Option.some.injEq] at h; subst h; exact awake_c s
  · simp only [Option.some.injEq] at h; subst h; exact CallTree.need fun h1 => reg_c _ _ _ _ _ _ _ _ s h1
  · simp only [Option.some.injEq] at h; subst h; exact CallTree.need fun h1 => CallTree.need fun h2 => ref_c _ _ _ _ _ _ _ _ s h1 h2
  · cases h

theorem regV_u32 (k x y : Int) (c : Bool) (hx : u32 x = true) : u32 (regV k x y c) = true := by
  have hx' : 0 ≤ x ∧ x < 4294967296 := by simpa [u32] using hx
  have := it_lt (k % 4).toNat x.toNat c (by omega) (y % 256).toNat
  unfold u32 regV
  rw [decide_eq_true_eq]
  exact ⟨by omega, by omega⟩


/-! ### by an amount of the instruction -/
def immV (k x n : Int) (c : Bool) : Int := if n % 32 = 0 then (if k % 4 = 0 then x else if k % 4 = 3 then x / 2 + (if c then 2147483648 else 0) else regV k x 32 c) else regV k x (n % 32) c
def immC (k x n : Int) (c : Bool) : Bool := if n % 32 = 0 then (if k % 4 = 0 then c else if k % 4 = 3 then (x % 2 == 1) else regC k x 32 c) else regC k x (n % 32) c
theorem m31i (k : Int) : bits .and .i64 k 31 = k % 32 := and_mask .i64 k 5 (.inl (by decide))
theorem regV_k (k x y : Int) (c : Bool) : regV (k % 4) x y c = regV k x y c := by unfold regV; rw [Int.emod_emod_of_dvd k (by decide : (4 : Int) ∣ 4)]
theorem regC_k (k x y : Int) (c : Bool) : regC (k % 4) x y c = regC k x y c := by unfold regC; rw [Int.emod_emod_of_dvd k (by decide : (4 : Int) ∣ 4)]
theorem imm_p (k x n : Int) (c : Bool) :
    (conP (SV.t [.c (.i false .u32 (immV k x n c)), .c (.b false (immC k x n c))]) (fnTree Try.prog orc2 (tabL fns) 1000 Try.f11 [.c (.i false .i64 k), .c (.i false .u32 x), .c (.i false .i64 n), .c (.b false c)] [])) =
    (((bits BinOp.and IntKind.i64 n (31 : Int) != (0 : Int)) = true →
          u32 x = true ∧
            (IntKind.u32 = IntKind.u32 ∧
                regV k x (IntKind.u32.wrap (bits BinOp.and IntKind.i64 n (31 : Int))) c = immV k x n c) ∧
              regC k x (IntKind.u32.wrap (bits BinOp.and IntKind.i64 n (31 : Int))) c = immC k x n c) ∧
        ((bits BinOp.and IntKind.i64 n (31 : Int) != (0 : Int)) = false →
          ((bits BinOp.and IntKind.i64 k (3 : Int) == (1 : Int)) = true →
              ((bits BinOp.and IntKind.i64 k (3 : Int) == (1 : Int)) = true →
                  u32 x = true ∧
                    (IntKind.u32 = IntKind.u32 ∧ regV k x (32 : Int) c = immV k x n c) ∧
                      regC k x (32 : Int) c = immC k x n c) ∧
                ((bits BinOp.and IntKind.i64 k (3 : Int) == (1 : Int)) = false →
                  ((bits BinOp.and IntKind.i64 k (3 : Int) == (3 : Int)) = true →
                      (c = true →
                          (IntKind.u32 = IntKind.u32 ∧
                              bits BinOp.or IntKind.u32 (x.fdiv (2 : Int)) (2147483648 : Int) = immV k x n c) ∧
                            (bits BinOp.and IntKind.u32 x (1 : Int) != (0 : Int)) = immC k x n c) ∧
                        (c = false →
                          (IntKind.u32 = IntKind.u32 ∧
                              bits BinOp.or IntKind.u32 (x.fdiv (2 : Int)) (0 : Int) = immV k x n c) ∧
                            (bits BinOp.and IntKind.u32 x (1 : Int) != (0 : Int)) = immC k x n c)) ∧
                    ((bits BinOp.and IntKind.i64 k (3 : Int) == (3 : Int)) = false →
                      (IntKind.u32 = IntKind.u32 ∧ x = immV k x n c) ∧ c = immC k x n c))) ∧
            ((bits BinOp.and IntKind.i64 k (3 : Int) == (1 : Int)) = false →
              ((bits BinOp.and IntKind.i64 k (3 : Int) == (2 : Int)) = true →
                  u32 x = true ∧
                    (IntKind.u32 = IntKind.u32 ∧ regV k x (32 : Int) c = immV k x n c) ∧
                      regC k x (32 : Int) c = immC k x n c) ∧
                ((bits BinOp.and IntKind.i64 k (3 : Int) == (2 : Int)) = false →
                  ((bits BinOp.and IntKind.i64 k (3 : Int) == (3 : Int)) = true →
                      (c = true →
                          (IntKind.u32 = IntKind.u32 ∧
                              bits BinOp.or IntKind.u32 (x.fdiv (2 : Int)) (2147483648 : Int) = immV k x n c) ∧
                            (bits BinOp.and IntKind.u32 x (1 : Int) != (0 : Int)) = immC k x n c) ∧
                        (c = false →
                          (IntKind.u32 = IntKind.u32 ∧
                              bits BinOp.or IntKind.u32 (x.fdiv (2 : Int)) (0 : Int) = immV k x n c) ∧
                            (bits BinOp.and IntKind.u32 x (1 : Int) != (0 : Int)) = immC k x n c)) ∧
                    ((bits BinOp.and IntKind.i64 k (3 : Int) == (3 : Int)) = false →
                      (IntKind.u32 = IntKind.u32 ∧ x = immV k x n c) ∧ c = immC k x n c))))) := by kernel_rfl
theorem rimm_p (k x n : Int) (c : Bool) :
    (conP (SV.t [.c (.i false .u32 (immV k x n c)), .c (.b false (immC k x n c))]) (fnTree Try.prog orc2 (tabL fns) 1000 Try.f12 [.c (.i false .i64 k), .c (.i false .u32 x), .c (.i false .i64 n), .c (.b false c)] [])) =
    ((decide (bits BinOp.and IntKind.i64 n (31 : Int) > (0 : Int)) = true →
          u32 x = true ∧
            u32 (IntKind.u32.wrap (bits BinOp.and IntKind.i64 n (31 : Int))) = true ∧
              (IntKind.u32 = IntKind.u32 ∧
                  regV (bits BinOp.and IntKind.i64 k (3 : Int)) x (IntKind.u32.wrap (bits BinOp.and IntKind.i64 n (31 : Int)))
                      c =
                    immV k x n c) ∧
                regC (bits BinOp.and IntKind.i64 k (3 : Int)) x (IntKind.u32.wrap (bits BinOp.and IntKind.i64 n (31 : Int)))
                    c =
                  immC k x n c) ∧
        (decide (bits BinOp.and IntKind.i64 n (31 : Int) > (0 : Int)) = false →
          ((bits BinOp.and IntKind.i64 k (3 : Int) == (0 : Int)) = true →
              u32 x = true ∧
                u32 (IntKind.u32.wrap (bits BinOp.and IntKind.i64 n (31 : Int))) = true ∧
                  (IntKind.u32 = IntKind.u32 ∧
                      regV (bits BinOp.and IntKind.i64 k (3 : Int)) x
                          (IntKind.u32.wrap (bits BinOp.and IntKind.i64 n (31 : Int))) c =
                        immV k x n c) ∧
                    regC (bits BinOp.and IntKind.i64 k (3 : Int)) x
                        (IntKind.u32.wrap (bits BinOp.and IntKind.i64 n (31 : Int))) c =
                      immC k x n c) ∧
            ((bits BinOp.and IntKind.i64 k (3 : Int) == (0 : Int)) = false →
              (decide (bits BinOp.and IntKind.i64 k (3 : Int) < (3 : Int)) = true →
                  u32 x = true ∧
                    u32 (32 : Int) = true ∧
                      (IntKind.u32 = IntKind.u32 ∧
                          regV (bits BinOp.and IntKind.i64 k (3 : Int)) x (32 : Int) c = immV k x n c) ∧
                        regC (bits BinOp.and IntKind.i64 k (3 : Int)) x (32 : Int) c = immC k x n c) ∧
                (decide (bits BinOp.and IntKind.i64 k (3 : Int) < (3 : Int)) = false →
                  (c = true →
                      (IntKind.u32 = IntKind.u32 ∧
                          IntKind.u32.wrap (IntKind.u32.wrap (x.tdiv (2 : Int)) + (2147483648 : Int)) = immV k x n c) ∧
                        (x.tmod (2 : Int) == (1 : Int)) = immC k x n c) ∧
                    (c = false →
                      (IntKind.u32 = IntKind.u32 ∧ IntKind.u32.wrap (x.tdiv (2 : Int)) = immV k x n c) ∧
                        (x.tmod (2 : Int) == (1 : Int)) = immC k x n c))))) := by kernel_rfl
end Go.Proofs.Ytfmojhmgiafhoaa

