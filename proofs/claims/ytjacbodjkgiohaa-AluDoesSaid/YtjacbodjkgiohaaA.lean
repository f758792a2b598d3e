import Derived.Test.YtjacbodjkgiohaaRows
import Derived.Test.YtjacbodjkgiohaaEv
set_option linter.unusedVariables false
set_option linter.unusedSimpArgs false
namespace Go.Proofs.Ytjacbodjkgiohaa
open Go Go.Proofs Go.Proofs.Ytjacbodjkgiohaa.Ev

noncomputable def fns : List (FuncId × Func) := [(3, Try.f3), (4, Try.f4), (5, Try.f5), (6, Try.f6), (7, Try.f7), (8, Try.f8), (9, Try.f9), (10, Try.f10), (11, Try.f11), (12, Try.f12), (13, Try.f13), (14, Try.f14), (15, Try.f15), (16, Try.f16), (17, Try.f17), (18, Try.f18), (19, Try.f19), (20, Try.f20), (21, Try.f21), (22, Try.f22), (23, Try.f23), (24, Try.f24), (25, Try.f25), (26, Try.f26), (27, Try.f27), (28, Try.f28), (29, Try.f29), (30, Try.f30), (31, Try.f31), (32, Try.f32), (33, Try.f33)]
theorem fns_ok : ∀ p, p ∈ fns → FnOK Try.prog p :=
  fn_cons ⟨Try.func3, by decide, rfl, by decide⟩ <|
  fn_cons ⟨Try.func4, by decide, rfl, by decide⟩ <|
  fn_cons ⟨Try.func5, by decide, rfl, by decide⟩ <|
  fn_cons ⟨Try.func6, by decide, rfl, by decide⟩ <|
  fn_cons ⟨Try.func7, by decide, rfl, by decide⟩ <|
  fn_cons ⟨Try.func8, by decide, rfl, by decide⟩ <|
  fn_cons ⟨Try.func9, by decide, rfl, by decide⟩ <|
  fn_cons ⟨Try.func10, by decide, rfl, by decide⟩ <|
  fn_cons ⟨Try.func11, by decide, rfl, by decide⟩ <|
  fn_cons ⟨Try.func12, by decide, rfl, by decide⟩ <|
  fn_cons ⟨Try.func13, by decide, rfl, by decide⟩ <|
  fn_cons ⟨Try.func14, by decide, rfl, by decide⟩ <|
  fn_cons ⟨Try.func15, by decide, rfl, by decide⟩ <|
  fn_cons ⟨Try.func16, by decide, rfl, by decide⟩ <|
  fn_cons ⟨Try.func17, by decide, rfl, by decide⟩ <|
  fn_cons ⟨Try.func18, by decide, rfl, by decide⟩ <|
  fn_cons ⟨Try.func19, by decide, rfl, by decide⟩ <|
  fn_cons ⟨Try.func20, by decide, rfl, by decide⟩ <|
  fn_cons ⟨Try.func21, by decide, rfl, by decide⟩ <|
  fn_cons ⟨Try.func22, by decide, rfl, by decide⟩ <|
  fn_cons ⟨Try.func23, by decide, rfl, by decide⟩ <|
  fn_cons ⟨Try.func24, by decide, rfl, by decide⟩ <|
  fn_cons ⟨Try.func25, by decide, rfl, by decide⟩ <|
  fn_cons ⟨Try.func26, by decide, rfl, by decide⟩ <|
  fn_cons ⟨Try.func27, by decide, rfl, by decide⟩ <|
  fn_cons ⟨Try.func28, by decide, rfl, by decide⟩ <|
  fn_cons ⟨Try.func29, by decide, rfl, by decide⟩ <|
  fn_cons ⟨Try.func30, by decide, rfl, by decide⟩ <|
  fn_cons ⟨Try.func31, by decide, rfl, by decide⟩ <|
  fn_cons ⟨Try.func32, by decide, rfl, by decide⟩ <|
  fn_cons ⟨Try.func33, by decide, rfl, by decide⟩ <| fn_nil
theorem tab_ok : TabOK Try.prog (tabL fns) := tabL_ok fns_ok
theorem tab_sz : ∀ g fn, tabL fns g = some fn → fn.ntmps < 4095 := tabL_sz fns_ok
theorem mixed : Try.prog.follows .mixedOrders = true := by kernel_rfl


def u32 (x : Int) : Bool := decide (0 ≤ x ∧ x < 4294967296)
def sg (x : Int) : Int := if 2147483648 ≤ x then x - 4294967296 else x
def yv (n : Int) : Int := n % 4294967296
def flN (n : Int) : Bool := decide (2147483648 ≤ n % 4294967296)
def flZ (n : Int) : Bool := decide (n % 4294967296 = 0)
def flC (plus : Bool) (n : Int) : Bool := if plus then decide (4294967296 ≤ n) else decide (0 ≤ n)
def flV (s : Int) : Bool := decide (s < -2147483648 ∨ 2147483648 ≤ s)
def sumS (plus : Bool) (n s : Int) : SV := .t [.c (.i false .u32 (yv n)), .a [.b false (flN n), .b false (flZ n), .b false (flC plus n), .b false (flV s)]]
theorem sum_p (a b c : Int) :
    (conP (sumS true (a + b + c) (sg a + sg b + c)) (fnTree Try.prog orcNone (tabL fns) 1000 Try.f22 [.c (.i false .u32 a), .c (.i false .u32 b), .c (.i false .u32 c)] [])) =
    ((IntKind.u32 = IntKind.u32 ∧
          IntKind.u32.wrap
              (IntKind.u64.wrap (IntKind.u64.wrap (IntKind.u64.wrap a + IntKind.u64.wrap b) + IntKind.u64.wrap c)) =
            yv (a + b + c)) ∧
        ((IntKind.u32.wrap
                    (IntKind.u64.wrap (IntKind.u64.wrap (IntKind.u64.wrap a + IntKind.u64.wrap b) + IntKind.u64.wrap c))).fdiv
                (2147483648 : Int) !=
              (0 : Int)) =
            flN (a + b + c) ∧
          (IntKind.u32.wrap
                  (IntKind.u64.wrap (IntKind.u64.wrap (IntKind.u64.wrap a + IntKind.u64.wrap b) + IntKind.u64.wrap c)) ==
                (0 : Int)) =
              flZ (a + b + c) ∧
            (IntKind.u32.wrap
                    ((IntKind.u64.wrap (IntKind.u64.wrap (IntKind.u64.wrap a + IntKind.u64.wrap b) + IntKind.u64.wrap c)).fdiv
                      (4294967296 : Int)) !=
                  (0 : Int)) =
                flC true (a + b + c) ∧
              ((bits BinOp.and IntKind.u32
                        (bits BinOp.xor IntKind.u32 a
                          (IntKind.u32.wrap
                            (IntKind.u64.wrap
                              (IntKind.u64.wrap (IntKind.u64.wrap a + IntKind.u64.wrap b) + IntKind.u64.wrap c))))
                        (bits BinOp.xor IntKind.u32 b
                          (IntKind.u32.wrap
                            (IntKind.u64.wrap
                              (IntKind.u64.wrap (IntKind.u64.wrap a + IntKind.u64.wrap b) + IntKind.u64.wrap c))))).fdiv
                    (2147483648 : Int) !=
                  (0 : Int)) =
                flV (sg a + sg b + c)) := by kernel_rfl
theorem sgn_p (a : Int) :
    (conP (.c (.i false .i64 (sg a))) (fnTree Try.prog orcNone (tabL fns) 1000 Try.f24 [.c (.i false .u32 a)] [])) =
    ((decide (a ≥ (2147483648 : Int)) = true →
          IntKind.i64 = IntKind.i64 ∧ IntKind.i64.wrap (IntKind.i64.wrap a - (4294967296 : Int)) = sg a) ∧
        (decide (a ≥ (2147483648 : Int)) = false → IntKind.i64 = IntKind.i64 ∧ IntKind.i64.wrap a = sg a)) := by kernel_rfl
theorem rsum_p (n s : Int) (p : Bool) :
    (conP (sumS p n s) (fnTree Try.prog orcNone (tabL fns) 1000 Try.f25 [.c (.i false .i64 n), .c (.i false .i64 s), .c (.b false p)] [])) =
    ((decide (n < (0 : Int)) = true →
          ((!p) = true →
              (decide (s < (-2147483648 : Int)) = true →
                  (IntKind.u32 = IntKind.u32 ∧ IntKind.u32.wrap (IntKind.i64.wrap (n + (4294967296 : Int))) = yv n) ∧
                    decide (IntKind.u32.wrap (IntKind.i64.wrap (n + (4294967296 : Int))) ≥ (2147483648 : Int)) = flN n ∧
                      (IntKind.u32.wrap (IntKind.i64.wrap (n + (4294967296 : Int))) == (0 : Int)) = flZ n ∧
                        decide (n ≥ (0 : Int)) = flC p n ∧ true = flV s) ∧
                (decide (s < (-2147483648 : Int)) = false →
                  (IntKind.u32 = IntKind.u32 ∧ IntKind.u32.wrap (IntKind.i64.wrap (n + (4294967296 : Int))) = yv n) ∧
                    decide (IntKind.u32.wrap (IntKind.i64.wrap (n + (4294967296 : Int))) ≥ (2147483648 : Int)) = flN n ∧
                      (IntKind.u32.wrap (IntKind.i64.wrap (n + (4294967296 : Int))) == (0 : Int)) = flZ n ∧
                        decide (n ≥ (0 : Int)) = flC p n ∧ decide (s ≥ (2147483648 : Int)) = flV s)) ∧
            ((!p) = false →
              (decide (s < (-2147483648 : Int)) = true →
                  (IntKind.u32 = IntKind.u32 ∧ IntKind.u32.wrap (IntKind.i64.wrap (n + (4294967296 : Int))) = yv n) ∧
                    decide (IntKind.u32.wrap (IntKind.i64.wrap (n + (4294967296 : Int))) ≥ (2147483648 : Int)) = flN n ∧
                      (IntKind.u32.wrap (IntKind.i64.wrap (n + (4294967296 : Int))) == (0 : Int)) = flZ n ∧
                        decide (n ≥ (4294967296 : Int)) = flC p n ∧ true = flV s) ∧
                (decide (s < (-2147483648 : Int)) = false →
                  (IntKind.u32 = IntKind.u32 ∧ IntKind.u32.wrap (IntKind.i64.wrap (n + (4294967296 : Int))) = yv n) ∧
                    decide (IntKind.u32.wrap (IntKind.i64.wrap (n + (4294967296 : Int))) ≥ (2147483648 : Int)) = flN n ∧
                      (IntKind.u32.wrap (IntKind.i64.wrap (n + (4294967296 : Int))) == (0 : Int)) = flZ n ∧
                        decide (n ≥ (4294967296 : Int)) = flC p n ∧ decide (s ≥ (2147483648 : Int)) = flV s))) ∧
        (decide (n < (0 : Int)) = false →
          ((!p) = true →
              (decide (s < (-2147483648 : Int)) = true →
                  (IntKind.u32 = IntKind.u32 ∧ IntKind.u32.wrap (n.tmod (4294967296 : Int)) = yv n) ∧
                    decide (IntKind.u32.wrap (n.tmod (4294967296 : Int)) ≥ (2147483648 : Int)) = flN n ∧
                      (IntKind.u32.wrap (n.tmod (4294967296 : Int)) == (0 : Int)) = flZ n ∧
                        decide (n ≥ (0 : Int)) = flC p n ∧ true = flV s) ∧
                (decide (s < (-2147483648 : Int)) = false →
                  (IntKind.u32 = IntKind.u32 ∧ IntKind.u32.wrap (n.tmod (4294967296 : Int)) = yv n) ∧
                    decide (IntKind.u32.wrap (n.tmod (4294967296 : Int)) ≥ (2147483648 : Int)) = flN n ∧
                      (IntKind.u32.wrap (n.tmod (4294967296 : Int)) == (0 : Int)) = flZ n ∧
                        decide (n ≥ (0 : Int)) = flC p n ∧ decide (s ≥ (2147483648 : Int)) = flV s)) ∧
            ((!p) = false →
              (decide (s < (-2147483648 : Int)) = true →
                  (IntKind.u32 = IntKind.u32 ∧ IntKind.u32.wrap (n.tmod (4294967296 : Int)) = yv n) ∧
                    decide (IntKind.u32.wrap (n.tmod (4294967296 : Int)) ≥ (2147483648 : Int)) = flN n ∧
                      (IntKind.u32.wrap (n.tmod (4294967296 : Int)) == (0 : Int)) = flZ n ∧
                        decide (n ≥ (4294967296 : Int)) = flC p n ∧ true = flV s) ∧
                (decide (s < (-2147483648 : Int)) = false →
                  (IntKind.u32 = IntKind.u32 ∧ IntKind.u32.wrap (n.tmod (4294967296 : Int)) = yv n) ∧
                    decide (IntKind.u32.wrap (n.tmod (4294967296 : Int)) ≥ (2147483648 : Int)) = flN n ∧
                      (IntKind.u32.wrap (n.tmod (4294967296 : Int)) == (0 : Int)) = flZ n ∧
                        decide (n ≥ (4294967296 : Int)) = flC p n ∧ decide (s ≥ (2147483648 : Int)) = flV s)))) := by kernel_rfl
theorem u32_iff (x : Int) : u32 x = true ↔ 0 ≤ x ∧ x < 4294967296 := by simp [u32]
theorem w64u (x : Int) (h0 : 0 ≤ x) (h1 : x < 18446744073709551616) : IntKind.u64.wrap x = x := by
  rw [wu64]; exact Int.emod_eq_of_lt h0 h1
theorem w64i (x : Int) (h0 : -9223372036854775808 ≤ x) (h1 : x < 9223372036854775808) : IntKind.i64.wrap x = x := by
  rw [wi64, Int.emod_eq_of_lt (by omega) (by omega)]; omega
theorem vflag (a b x : Int) (ha : u32 a = true) (hb : u32 b = true) (hx : u32 x = true) :
    ((bits .and .u32 (bits .xor .u32 a x) (bits .xor .u32 b x)).fdiv 2147483648 != 0) =
    ((decide (2147483648 ≤ a) != decide (2147483648 ≤ x)) && (decide (2147483648 ≤ b) != decide (2147483648 ≤ x))) := by
  rw [u32_iff] at ha hb hx
  obtain ⟨a, rfl⟩ := Int.eq_ofNat_of_zero_le ha.1
  obtain ⟨b, rfl⟩ := Int.eq_ofNat_of_zero_le hb.1
  obtain ⟨x, rfl⟩ := Int.eq_ofNat_of_zero_le hx.1
  have ha : a < 2 ^ 32 := by omega
  have hb : b < 2 ^ 32 := by omega
  have hx : x < 2 ^ 32 := by omega
  have h1 : a ^^^ x < 2 ^ 32 := Nat.xor_lt_two_pow ha hx
  have h2 : b ^^^ x < 2 ^ 32 := Nat.xor_lt_two_pow hb hx
  have h3 : (a ^^^ x) &&& (b ^^^ x) < 2 ^ 32 := Nat.lt_of_le_of_lt Nat.and_le_left h1
  rw [bits_xor_n .u32 rfl a x ha hx, bits_xor_n .u32 rfl b x hb hx, bits_and_n .u32 rfl _ _ h1 h2, fdiv_lit _ _ (by decide)]
  have t := top_bit 31 _ h3
  have ta := top_bit 31 _ ha
  have tb := top_bit 31 _ hb
  have tx := top_bit 31 _ hx
  rw [Nat.testBit_and, Nat.testBit_xor, Nat.testBit_xor, ta, tb, tx] at t
  have e : ∀ y : Nat, decide ((2147483648 : Int) ≤ (y : Int)) = decide (2 ^ 31 ≤ y) := by intro y; congr 1; apply propext; omega
  rw [e, e, e]
  have f : ((((a ^^^ x) &&& (b ^^^ x) : Nat) : Int) / 2147483648 != 0) = decide (2 ^ 31 ≤ (a ^^^ x) &&& (b ^^^ x)) := by
    generalize (a ^^^ x) &&& (b ^^^ x) = z at h3 ⊢
    rw [Bool.eq_iff_iff]; simp only [bne_iff_ne, ne_eq, decide_eq_true_eq]
    constructor <;> intro h <;> omega
  rw [f, ← t]
theorem sum_ok (a b c : Int) (ha : u32 a = true) (hb : u32 b = true) (hc : 0 ≤ c ∧ c ≤ 1) :
    conP (sumS true (a + b + c) (sg a + sg b + c)) (fnTree Try.prog orcNone (tabL fns) 1000 Try.f22 [.c (.i false .u32 a), .c (.i false .u32 b), .c (.i false .u32 c)] []) := by
  rw [sum_p]
  have ha' := (u32_iff _).1 ha
  have hb' := (u32_iff _).1 hb
  rw [w64u a (by omega) (by omega), w64u b (by omega) (by omega), w64u c (by omega) (by omega), w64u (a + b) (by omega) (by omega), w64u (a + b + c) (by omega) (by omega)]
  have hx : u32 (IntKind.u32.wrap (a + b + c)) = true := by
    rw [u32_iff, wu32]; exact ⟨Int.emod_nonneg _ (by decide), Int.emod_lt_of_pos _ (by decide)⟩
  rw [vflag a b _ ha hb hx]
  rw [wu32] at hx ⊢
  rw [wu32, fdiv_lit _ _ (by decide), fdiv_lit _ _ (by decide)]
  have hx' := (u32_iff _).1 hx
  refine ⟨⟨rfl, rfl⟩, ?_, ?_, ?_, ?_⟩
  · unfold flN
    rw [Bool.eq_iff_iff]; simp only [bne_iff_ne, ne_eq, decide_eq_true_eq]; omega
  · unfold flZ
    rw [Bool.eq_iff_iff]; simp only [beq_iff_eq, decide_eq_true_eq]
  · unfold flC
    rw [Bool.eq_iff_iff]; simp only [bne_iff_ne, ne_eq, if_true, decide_eq_true_eq]; omega
  · unfold flV sg
    rw [Bool.eq_iff_iff]; simp only [Bool.and_eq_true, bne_iff_ne, ne_eq, decide_eq_decide, decide_eq_true_eq]
    split <;> split <;> omega
theorem sgn_ok (a : Int) (ha : u32 a = true) : conP (.c (.i false .i64 (sg a))) (fnTree Try.prog orcNone (tabL fns) 1000 Try.f24 [.c (.i false .u32 a)] []) := by
  rw [sgn_p]
  have ha' := (u32_iff _).1 ha
  rw [w64i a (by omega) (by omega), w64i (a - 4294967296) (by omega) (by omega)]
  refine ⟨fun h => ⟨rfl, ?_⟩, fun h => ⟨rfl, ?_⟩⟩ <;> simp at h <;> unfold sg
  · rw [if_pos h]
  · rw [if_neg (by omega)]
theorem rsum_ok (n s : Int) (p : Bool) (hn : -4294967296 ≤ n ∧ n ≤ 8589934592) :
    conP (sumS p n s) (fnTree Try.prog orcNone (tabL fns) 1000 Try.f25 [.c (.i false .i64 n), .c (.i false .i64 s), .c (.b false p)] []) := by
  rw [rsum_p]
  rw [w64i (n + 4294967296) (by omega) (by omega), wu32, wu32]
  have e1 : (n + 4294967296) % 4294967296 = n % 4294967296 := by omega
  rw [e1]
  have e2 : decide (n < (0 : Int)) = false → n.tmod 4294967296 % 4294967296 = n % 4294967296 := by
    intro h; rw [tmod_n _ _ (by simpa using h)]; exact Int.emod_emod_of_dvd _ (Int.dvd_refl _)
  refine ⟨fun h => ?_, fun h => ?_⟩
  · refine ⟨fun hp => ⟨fun hs => ⟨⟨rfl, rfl⟩, rfl, ?_, ?_, ?_⟩, fun hs => ⟨⟨rfl, rfl⟩, rfl, ?_, ?_, ?_⟩⟩, fun hp => ⟨fun hs => ⟨⟨rfl, rfl⟩, rfl, ?_, ?_, ?_⟩, fun hs => ⟨⟨rfl, rfl⟩, rfl, ?_, ?_, ?_⟩⟩⟩ <;> simp at h hp hs <;> subst hp <;> simp only [flZ, flC, flV, if_true, Bool.false_eq_true, if_false] <;> rw [Bool.eq_iff_iff] <;> simp <;> omega
  · rw [e2 h]
    refine ⟨fun hp => ⟨fun hs => ⟨⟨rfl, rfl⟩, rfl, ?_, ?_, ?_⟩, fun hs => ⟨⟨rfl, rfl⟩, rfl, ?_, ?_, ?_⟩⟩, fun hp => ⟨fun hs => ⟨⟨rfl, rfl⟩, rfl, ?_, ?_, ?_⟩, fun hs => ⟨⟨rfl, rfl⟩, rfl, ?_, ?_, ?_⟩⟩⟩ <;> simp at h hp hs <;> subst hp <;> simp only [flZ, flC, flV, if_true, Bool.false_eq_true, if_false] <;> rw [Bool.eq_iff_iff] <;> simp <;> omega
end Go.Proofs.Ytjacbodjkgiohaa

