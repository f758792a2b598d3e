import Derived.Test.YtjacbodjkgiohaaE
set_option linter.unusedVariables false
set_option linter.unusedSimpArgs false
namespace Go.Proofs.Ytjacbodjkgiohaa
open Go Go.Proofs Go.Proofs.Ytjacbodjkgiohaa.Ev
def mX (a b c : Int) : Int := (a * b + c) % 4294967296
def mulS (a b c : Int) (fc fv : Bool) : SV := .t [.c (.i false .u32 (mX a b c)), .a [.b false (decide (2147483648 ≤ mX a b c)), .b false (decide (mX a b c = 0)), .b false fc, .b false fv]]
def lP (a b : Int) (s : Bool) : Int := if s then sg a * sg b else a * b
def lX (a b c : Int) (s : Bool) : Int := (lP a b s + c) % 18446744073709551616
def longS (a b c : Int) (s fc fv : Bool) : SV := .t [.c (.i false .u64 (lX a b c s)), .a [.b false (decide (9223372036854775808 ≤ lX a b c s)), .b false (decide (lX a b c s = 0)), .b false fc, .b false fv]]
def cyV (b : Int) (s : Bool) : Int := if s && decide (2147483648 ≤ b) then 4294967295 - b else b
def cyN (x : Int) : Int := if x < 256 then 1 else if x < 65536 then 2 else if x < 16777216 then 3 else 4
theorem mul_p (a b c : Int) (n z fc v : Bool) :
    (conP (mulS a b c fc v) (fnTree Try.prog orc1 (tabL fns) 1000 Try.f16 [.c (.i false .u32 a), .c (.i false .u32 b), .c (.i false .u32 c), .a [.b false n, .b false z, .b false fc, .b false v]] [])) =
    ((IntKind.u32 = IntKind.u32 ∧ IntKind.u32.wrap (IntKind.u32.wrap (a * b) + c) = mX a b c) ∧
        ((IntKind.u32.wrap (IntKind.u32.wrap (a * b) + c)).fdiv (2147483648 : Int) != (0 : Int)) =
            decide ((2147483648 : Int) ≤ mX a b c) ∧
          (IntKind.u32.wrap (IntKind.u32.wrap (a * b) + c) == (0 : Int)) = decide (mX a b c = (0 : Int)) ∧ fc = fc ∧ v = v) := by kernel_rfl
theorem rmul_p (a b c : Int) (n z fc v : Bool) :
    (conP (mulS a b c fc v) (fnTree Try.prog orc1 (tabL fns) 1000 Try.f17 [.c (.i false .u32 a), .c (.i false .u32 b), .c (.i false .u32 c), .a [.b false n, .b false z, .b false fc, .b false v]] [])) =
    ((IntKind.u32 = IntKind.u32 ∧
          IntKind.u32.wrap
              (IntKind.u64.wrap (IntKind.u64.wrap (IntKind.u64.wrap a * IntKind.u64.wrap b) + IntKind.u64.wrap c)) =
            mX a b c) ∧
        decide
              (IntKind.u32.wrap
                  (IntKind.u64.wrap (IntKind.u64.wrap (IntKind.u64.wrap a * IntKind.u64.wrap b) + IntKind.u64.wrap c)) ≥
                (2147483648 : Int)) =
            decide ((2147483648 : Int) ≤ mX a b c) ∧
          (IntKind.u32.wrap
                  (IntKind.u64.wrap (IntKind.u64.wrap (IntKind.u64.wrap a * IntKind.u64.wrap b) + IntKind.u64.wrap c)) ==
                (0 : Int)) =
              decide (mX a b c = (0 : Int)) ∧
            fc = fc ∧ v = v) := by kernel_rfl
theorem long_p (a b c : Int) (s n z fc v : Bool) :
    (conP (longS a b c s fc v) (fnTree Try.prog orc1 (tabL fns) 1000 Try.f18 [.c (.i false .u32 a), .c (.i false .u32 b), .c (.b false s), .c (.i false .u64 c), .a [.b false n, .b false z, .b false fc, .b false v]] [])) =
    ((s = true →
          (IntKind.u64 = IntKind.u64 ∧
              IntKind.u64.wrap
                  (IntKind.u64.wrap
                      (IntKind.i64.wrap (IntKind.i64.wrap (IntKind.i32.wrap a) * IntKind.i64.wrap (IntKind.i32.wrap b))) +
                    c) =
                lX a b c s) ∧
            ((IntKind.u64.wrap
                        (IntKind.u64.wrap
                            (IntKind.i64.wrap
                              (IntKind.i64.wrap (IntKind.i32.wrap a) * IntKind.i64.wrap (IntKind.i32.wrap b))) +
                          c)).fdiv
                    (9223372036854775808 : Int) !=
                  (0 : Int)) =
                decide ((9223372036854775808 : Int) ≤ lX a b c s) ∧
              (IntKind.u64.wrap
                      (IntKind.u64.wrap
                          (IntKind.i64.wrap (IntKind.i64.wrap (IntKind.i32.wrap a) * IntKind.i64.wrap (IntKind.i32.wrap b))) +
                        c) ==
                    (0 : Int)) =
                  decide (lX a b c s = (0 : Int)) ∧
                fc = fc ∧ v = v) ∧
        (s = false →
          (IntKind.u64 = IntKind.u64 ∧
              IntKind.u64.wrap (IntKind.u64.wrap (IntKind.u64.wrap a * IntKind.u64.wrap b) + c) = lX a b c s) ∧
            ((IntKind.u64.wrap (IntKind.u64.wrap (IntKind.u64.wrap a * IntKind.u64.wrap b) + c)).fdiv
                    (9223372036854775808 : Int) !=
                  (0 : Int)) =
                decide ((9223372036854775808 : Int) ≤ lX a b c s) ∧
              (IntKind.u64.wrap (IntKind.u64.wrap (IntKind.u64.wrap a * IntKind.u64.wrap b) + c) == (0 : Int)) =
                  decide (lX a b c s = (0 : Int)) ∧
                fc = fc ∧ v = v)) := by kernel_rfl
theorem rlong_p (a b c : Int) (s n z fc v : Bool) :
    (conP (longS a b c s fc v) (fnTree Try.prog orc1 (tabL fns) 1000 Try.f19 [.c (.i false .u32 a), .c (.i false .u32 b), .c (.b false s), .c (.i false .u64 c), .a [.b false n, .b false z, .b false fc, .b false v]] [])) =
    ((s = true →
          u32 a = true ∧
            u32 b = true ∧
              (IntKind.u64 = IntKind.u64 ∧
                  IntKind.u64.wrap (IntKind.u64.wrap (IntKind.i64.wrap (sg a * sg b)) + c) = lX a b c s) ∧
                decide
                      (IntKind.u64.wrap (IntKind.u64.wrap (IntKind.i64.wrap (sg a * sg b)) + c) ≥
                        (9223372036854775808 : Int)) =
                    decide ((9223372036854775808 : Int) ≤ lX a b c s) ∧
                  (IntKind.u64.wrap (IntKind.u64.wrap (IntKind.i64.wrap (sg a * sg b)) + c) == (0 : Int)) =
                      decide (lX a b c s = (0 : Int)) ∧
                    fc = fc ∧ v = v) ∧
        (s = false →
          (IntKind.u64 = IntKind.u64 ∧
              IntKind.u64.wrap (IntKind.u64.wrap (IntKind.u64.wrap a * IntKind.u64.wrap b) + c) = lX a b c s) ∧
            decide
                  (IntKind.u64.wrap (IntKind.u64.wrap (IntKind.u64.wrap a * IntKind.u64.wrap b) + c) ≥
                    (9223372036854775808 : Int)) =
                decide ((9223372036854775808 : Int) ≤ lX a b c s) ∧
              (IntKind.u64.wrap (IntKind.u64.wrap (IntKind.u64.wrap a * IntKind.u64.wrap b) + c) == (0 : Int)) =
                  decide (lX a b c s = (0 : Int)) ∧
                fc = fc ∧ v = v)) := by kernel_rfl
theorem cyc_p (b : Int) (s : Bool) :
    (conP (.c (.i false .i64 (cyN (cyV b s)))) (fnTree Try.prog orc1 (tabL fns) 1000 Try.f20 [.c (.i false .u32 b), .c (.b false s)] [])) =
    ((s = true →
          ((b.fdiv (2147483648 : Int) != (0 : Int)) = true →
              (decide (bits BinOp.xor IntKind.u32 (4294967295 : Int) b < (256 : Int)) = true →
                  IntKind.i64 = IntKind.i64 ∧ (1 : Int) = cyN (cyV b s)) ∧
                (decide (bits BinOp.xor IntKind.u32 (4294967295 : Int) b < (256 : Int)) = false →
                  (decide (bits BinOp.xor IntKind.u32 (4294967295 : Int) b < (65536 : Int)) = true →
                      IntKind.i64 = IntKind.i64 ∧ (2 : Int) = cyN (cyV b s)) ∧
                    (decide (bits BinOp.xor IntKind.u32 (4294967295 : Int) b < (65536 : Int)) = false →
                      (decide (bits BinOp.xor IntKind.u32 (4294967295 : Int) b < (16777216 : Int)) = true →
                          IntKind.i64 = IntKind.i64 ∧ (3 : Int) = cyN (cyV b s)) ∧
                        (decide (bits BinOp.xor IntKind.u32 (4294967295 : Int) b < (16777216 : Int)) = false →
                          IntKind.i64 = IntKind.i64 ∧ (4 : Int) = cyN (cyV b s))))) ∧
            ((b.fdiv (2147483648 : Int) != (0 : Int)) = false →
              (decide (b < (256 : Int)) = true → IntKind.i64 = IntKind.i64 ∧ (1 : Int) = cyN (cyV b s)) ∧
                (decide (b < (256 : Int)) = false →
                  (decide (b < (65536 : Int)) = true → IntKind.i64 = IntKind.i64 ∧ (2 : Int) = cyN (cyV b s)) ∧
                    (decide (b < (65536 : Int)) = false →
                      (decide (b < (16777216 : Int)) = true → IntKind.i64 = IntKind.i64 ∧ (3 : Int) = cyN (cyV b s)) ∧
                        (decide (b < (16777216 : Int)) = false → IntKind.i64 = IntKind.i64 ∧ (4 : Int) = cyN (cyV b s)))))) ∧
        (s = false →
          (decide (b < (256 : Int)) = true → IntKind.i64 = IntKind.i64 ∧ (1 : Int) = cyN (cyV b s)) ∧
            (decide (b < (256 : Int)) = false →
              (decide (b < (65536 : Int)) = true → IntKind.i64 = IntKind.i64 ∧ (2 : Int) = cyN (cyV b s)) ∧
                (decide (b < (65536 : Int)) = false →
                  (decide (b < (16777216 : Int)) = true → IntKind.i64 = IntKind.i64 ∧ (3 : Int) = cyN (cyV b s)) ∧
                    (decide (b < (16777216 : Int)) = false → IntKind.i64 = IntKind.i64 ∧ (4 : Int) = cyN (cyV b s)))))) := by kernel_rfl
theorem rcyc_p (b : Int) (s : Bool) :
    (conP (.c (.i false .i64 (cyN (cyV b s)))) (fnTree Try.prog orc1 (tabL fns) 60 Try.f21 [.c (.i false .u32 b), .c (.b false s)] [])) =
    ((s = true →
          (decide (b ≥ (2147483648 : Int)) = true →
              (decide (IntKind.u32.wrap ((4294967295 : Int) - b) ≥ (256 : Int)) = true →
                  (decide (IntKind.u32.wrap ((IntKind.u32.wrap ((4294967295 : Int) - b)).tdiv (256 : Int)) ≥ (256 : Int)) =
                        true →
                      (decide
                              (IntKind.u32.wrap
                                  ((IntKind.u32.wrap ((IntKind.u32.wrap ((4294967295 : Int) - b)).tdiv (256 : Int))).tdiv
                                    (256 : Int)) ≥
                                (256 : Int)) =
                            true →
                          (decide
                                  (IntKind.u32.wrap
                                      ((IntKind.u32.wrap
                                            ((IntKind.u32.wrap
                                                  ((IntKind.u32.wrap ((4294967295 : Int) - b)).tdiv (256 : Int))).tdiv
                                              (256 : Int))).tdiv
                                        (256 : Int)) ≥
                                    (256 : Int)) =
                                true →
                              (decide
                                      (IntKind.u32.wrap
                                          ((IntKind.u32.wrap
                                                ((IntKind.u32.wrap
                                                      ((IntKind.u32.wrap
                                                            ((IntKind.u32.wrap ((4294967295 : Int) - b)).tdiv
                                                              (256 : Int))).tdiv
                                                        (256 : Int))).tdiv
                                                  (256 : Int))).tdiv
                                            (256 : Int)) ≥
                                        (256 : Int)) =
                                    true →
                                  False) ∧
                                (decide
                                      (IntKind.u32.wrap
                                          ((IntKind.u32.wrap
                                                ((IntKind.u32.wrap
                                                      ((IntKind.u32.wrap
                                                            ((IntKind.u32.wrap ((4294967295 : Int) - b)).tdiv
                                                              (256 : Int))).tdiv
                                                        (256 : Int))).tdiv
                                                  (256 : Int))).tdiv
                                            (256 : Int)) ≥
                                        (256 : Int)) =
                                    false →
                                  False)) ∧
                            (decide
                                  (IntKind.u32.wrap
                                      ((IntKind.u32.wrap
                                            ((IntKind.u32.wrap
                                                  ((IntKind.u32.wrap ((4294967295 : Int) - b)).tdiv (256 : Int))).tdiv
                                              (256 : Int))).tdiv
                                        (256 : Int)) ≥
                                    (256 : Int)) =
                                false →
                              IntKind.i64 = IntKind.i64 ∧ (4 : Int) = cyN (cyV b s))) ∧
                        (decide
                              (IntKind.u32.wrap
                                  ((IntKind.u32.wrap ((IntKind.u32.wrap ((4294967295 : Int) - b)).tdiv (256 : Int))).tdiv
                                    (256 : Int)) ≥
                                (256 : Int)) =
                            false →
                          IntKind.i64 = IntKind.i64 ∧ (3 : Int) = cyN (cyV b s))) ∧
                    (decide (IntKind.u32.wrap ((IntKind.u32.wrap ((4294967295 : Int) - b)).tdiv (256 : Int)) ≥ (256 : Int)) =
                        false →
                      IntKind.i64 = IntKind.i64 ∧ (2 : Int) = cyN (cyV b s))) ∧
                (decide (IntKind.u32.wrap ((4294967295 : Int) - b) ≥ (256 : Int)) = false →
                  IntKind.i64 = IntKind.i64 ∧ (1 : Int) = cyN (cyV b s))) ∧
            (decide (b ≥ (2147483648 : Int)) = false →
              (decide (b ≥ (256 : Int)) = true →
                  (decide (IntKind.u32.wrap (b.tdiv (256 : Int)) ≥ (256 : Int)) = true →
                      (decide (IntKind.u32.wrap ((IntKind.u32.wrap (b.tdiv (256 : Int))).tdiv (256 : Int)) ≥ (256 : Int)) =
                            true →
                          (decide
                                  (IntKind.u32.wrap
                                      ((IntKind.u32.wrap ((IntKind.u32.wrap (b.tdiv (256 : Int))).tdiv (256 : Int))).tdiv
                                        (256 : Int)) ≥
                                    (256 : Int)) =
                                true →
                              (decide
                                      (IntKind.u32.wrap
                                          ((IntKind.u32.wrap
                                                ((IntKind.u32.wrap
                                                      ((IntKind.u32.wrap (b.tdiv (256 : Int))).tdiv (256 : Int))).tdiv
                                                  (256 : Int))).tdiv
                                            (256 : Int)) ≥
                                        (256 : Int)) =
                                    true →
                                  False) ∧
                                (decide
                                      (IntKind.u32.wrap
                                          ((IntKind.u32.wrap
                                                ((IntKind.u32.wrap
                                                      ((IntKind.u32.wrap (b.tdiv (256 : Int))).tdiv (256 : Int))).tdiv
                                                  (256 : Int))).tdiv
                                            (256 : Int)) ≥
                                        (256 : Int)) =
                                    false →
                                  False)) ∧
                            (decide
                                  (IntKind.u32.wrap
                                      ((IntKind.u32.wrap ((IntKind.u32.wrap (b.tdiv (256 : Int))).tdiv (256 : Int))).tdiv
                                        (256 : Int)) ≥
                                    (256 : Int)) =
                                false →
                              IntKind.i64 = IntKind.i64 ∧ (4 : Int) = cyN (cyV b s))) ∧
                        (decide (IntKind.u32.wrap ((IntKind.u32.wrap (b.tdiv (256 : Int))).tdiv (256 : Int)) ≥ (256 : Int)) =
                            false →
                          IntKind.i64 = IntKind.i64 ∧ (3 : Int) = cyN (cyV b s))) ∧
                    (decide (IntKind.u32.wrap (b.tdiv (256 : Int)) ≥ (256 : Int)) = false →
                      IntKind.i64 = IntKind.i64 ∧ (2 : Int) = cyN (cyV b s))) ∧
                (decide (b ≥ (256 : Int)) = false → IntKind.i64 = IntKind.i64 ∧ (1 : Int) = cyN (cyV b s)))) ∧
        (s = false →
          (decide (b ≥ (256 : Int)) = true →
              (decide (IntKind.u32.wrap (b.tdiv (256 : Int)) ≥ (256 : Int)) = true →
                  (decide (IntKind.u32.wrap ((IntKind.u32.wrap (b.tdiv (256 : Int))).tdiv (256 : Int)) ≥ (256 : Int)) = true →
                      (decide
                              (IntKind.u32.wrap
                                  ((IntKind.u32.wrap ((IntKind.u32.wrap (b.tdiv (256 : Int))).tdiv (256 : Int))).tdiv
                                    (256 : Int)) ≥
                                (256 : Int)) =
                            true →
                          (decide
                                  (IntKind.u32.wrap
                                      ((IntKind.u32.wrap
                                            ((IntKind.u32.wrap
                                                  ((IntKind.u32.wrap (b.tdiv (256 : Int))).tdiv (256 : Int))).tdiv
                                              (256 : Int))).tdiv
                                        (256 : Int)) ≥
                                    (256 : Int)) =
                                true →
                              False) ∧
                            (decide
                                  (IntKind.u32.wrap
                                      ((IntKind.u32.wrap
                                            ((IntKind.u32.wrap
                                                  ((IntKind.u32.wrap (b.tdiv (256 : Int))).tdiv (256 : Int))).tdiv
                                              (256 : Int))).tdiv
                                        (256 : Int)) ≥
                                    (256 : Int)) =
                                false →
                              False)) ∧
                        (decide
                              (IntKind.u32.wrap
                                  ((IntKind.u32.wrap ((IntKind.u32.wrap (b.tdiv (256 : Int))).tdiv (256 : Int))).tdiv
                                    (256 : Int)) ≥
                                (256 : Int)) =
                            false →
                          IntKind.i64 = IntKind.i64 ∧ (4 : Int) = cyN (cyV b s))) ∧
                    (decide (IntKind.u32.wrap ((IntKind.u32.wrap (b.tdiv (256 : Int))).tdiv (256 : Int)) ≥ (256 : Int)) =
                        false →
                      IntKind.i64 = IntKind.i64 ∧ (3 : Int) = cyN (cyV b s))) ∧
                (decide (IntKind.u32.wrap (b.tdiv (256 : Int)) ≥ (256 : Int)) = false →
                  IntKind.i64 = IntKind.i64 ∧ (2 : Int) = cyN (cyV b s))) ∧
            (decide (b ≥ (256 : Int)) = false → IntKind.i64 = IntKind.i64 ∧ (1 : Int) = cyN (cyV b s)))) := by kernel_rfl
theorem mul_bd (a b : Int) (ha : 0 ≤ a ∧ a < 4294967296) (hb : 0 ≤ b ∧ b < 4294967296) : 0 ≤ a * b ∧ a * b ≤ 18446744065119617025 := by
  have h1 : 0 ≤ a * b := Int.mul_nonneg ha.1 hb.1
  have h2 : a * b ≤ 4294967295 * 4294967295 := Int.mul_le_mul (by omega) (by omega) hb.1 (by decide)
  exact ⟨h1, h2⟩
theorem sg_bd (a : Int) (ha : 0 ≤ a ∧ a < 4294967296) : -2147483648 ≤ sg a ∧ sg a < 2147483648 := by
  unfold sg; split <;> omega
theorem smul_bd (a b : Int) (ha : -2147483648 ≤ a ∧ a < 2147483648) (hb : -2147483648 ≤ b ∧ b < 2147483648) : -4611686018427387904 ≤ a * b ∧ a * b ≤ 4611686018427387904 := by
  have k1 : (a.natAbs : Nat) ≤ 2147483648 := by omega
  have k2 : (b.natAbs : Nat) ≤ 2147483648 := by omega
  have k3 : (a * b).natAbs ≤ 2147483648 * 2147483648 := by rw [Int.natAbs_mul]; exact Nat.mul_le_mul k1 k2
  omega
theorem i32_sg (a : Int) (ha : 0 ≤ a ∧ a < 4294967296) : IntKind.i32.wrap a = sg a := by rw [wi32]; unfold sg; split <;> omega
theorem topL (x : Int) (hx : 0 ≤ x ∧ x < 18446744073709551616) : (x.fdiv 9223372036854775808 != 0) = decide (9223372036854775808 ≤ x) := by
  rw [fdiv_lit _ _ (by decide)]
  by_cases h : 9223372036854775808 ≤ x
  · have : x / 9223372036854775808 = 1 := by omega
    simp [this, h]
  · have : x / 9223372036854775808 = 0 := by omega
    simp [this, h]
theorem w64_in (x : Int) (h : 0 ≤ x ∧ x < 18446744073709551616) : IntKind.u64.wrap x = x := by rw [wu64]; omega
theorem i64_in (x : Int) (h : -9223372036854775808 ≤ x ∧ x < 9223372036854775808) : IntKind.i64.wrap x = x := by rw [wi64]; omega
theorem mul_ok (a b c : Int) (n z fc v : Bool) (ha : u32 a = true) (hb : u32 b = true) (hc : u32 c = true) : conP (mulS a b c fc v) (fnTree Try.prog orc1 (tabL fns) 1000 Try.f16 [.c (.i false .u32 a), .c (.i false .u32 b), .c (.i false .u32 c), .a [.b false n, .b false z, .b false fc, .b false v]] []) := by
  rw [mul_p]
  have e : IntKind.u32.wrap (IntKind.u32.wrap (a * b) + c) = mX a b c := by
    unfold mX; generalize a * b = p; rw [wu32, wu32]; omega
  have hm : u32 (mX a b c) = true := by rw [u32_iff]; exact ⟨Int.emod_nonneg _ (by decide), Int.emod_lt_of_pos _ (by decide)⟩
  rw [e]
  exact ⟨⟨rfl, rfl⟩, topN _ hm, beq0 _, rfl, rfl⟩
theorem rmul_ok (a b c : Int) (n z fc v : Bool) (ha : u32 a = true) (hb : u32 b = true) (hc : u32 c = true) : conP (mulS a b c fc v) (fnTree Try.prog orc1 (tabL fns) 1000 Try.f17 [.c (.i false .u32 a), .c (.i false .u32 b), .c (.i false .u32 c), .a [.b false n, .b false z, .b false fc, .b false v]] []) := by
  rw [rmul_p]
  rw [u32_iff] at ha hb hc
  have hp := mul_bd a b ha hb
  have e : IntKind.u32.wrap (IntKind.u64.wrap (IntKind.u64.wrap (IntKind.u64.wrap a * IntKind.u64.wrap b) + IntKind.u64.wrap c)) = mX a b c := by
    rw [w64_in a (by omega), w64_in b (by omega), w64_in c (by omega), w64_in (a * b) (by omega), w64_in _ (by omega), wu32]; rfl
  rw [e]
  exact ⟨⟨rfl, rfl⟩, rfl, beq0 _, rfl, rfl⟩
theorem lX_bd (a b c : Int) (s : Bool) : 0 ≤ lX a b c s ∧ lX a b c s < 18446744073709551616 := ⟨Int.emod_nonneg _ (by decide), Int.emod_lt_of_pos _ (by decide)⟩
theorem lXt (a b c : Int) (ha : 0 ≤ a ∧ a < 4294967296) (hb : 0 ≤ b ∧ b < 4294967296) : IntKind.u64.wrap (IntKind.u64.wrap (IntKind.i64.wrap (sg a * sg b)) + c) = lX a b c true := by
  have hp := smul_bd _ _ (sg_bd a ha) (sg_bd b hb)
  unfold lX lP
  simp only [if_true]
  generalize sg a * sg b = p at *
  rw [i64_in p (by omega), wu64, wu64]; omega
theorem lXf (a b c : Int) (ha : 0 ≤ a ∧ a < 4294967296) (hb : 0 ≤ b ∧ b < 4294967296) : IntKind.u64.wrap (IntKind.u64.wrap (IntKind.u64.wrap a * IntKind.u64.wrap b) + c) = lX a b c false := by
  have hp := mul_bd a b ha hb
  rw [w64_in a (by omega), w64_in b (by omega)]
  unfold lX lP
  simp only [Bool.false_eq_true, if_false]
  generalize a * b = p at *
  rw [wu64, wu64]; omega
theorem long_ok (a b c : Int) (s n z fc v : Bool) (ha : u32 a = true) (hb : u32 b = true) : conP (longS a b c s fc v) (fnTree Try.prog orc1 (tabL fns) 1000 Try.f18 [.c (.i false .u32 a), .c (.i false .u32 b), .c (.b false s), .c (.i false .u64 c), .a [.b false n, .b false z, .b false fc, .b false v]] []) := by
  rw [long_p]
  rw [u32_iff] at ha hb
  have h1 := sg_bd a ha
  have h2 := sg_bd b hb
  rw [i32_sg a ha, i32_sg b hb, i64_in (sg a) (by omega), i64_in (sg b) (by omega), lXt a b c ha hb, lXf a b c ha hb]
  refine ⟨?_, ?_⟩ <;> intro h <;> subst h
  · exact ⟨⟨rfl, rfl⟩, topL _ (lX_bd ..), beq0 _, rfl, rfl⟩
  · exact ⟨⟨rfl, rfl⟩, topL _ (lX_bd ..), beq0 _, rfl, rfl⟩
theorem rlong_ok (a b c : Int) (s n z fc v : Bool) (ha : u32 a = true) (hb : u32 b = true) : conP (longS a b c s fc v) (fnTree Try.prog orc1 (tabL fns) 1000 Try.f19 [.c (.i false .u32 a), .c (.i false .u32 b), .c (.b false s), .c (.i false .u64 c), .a [.b false n, .b false z, .b false fc, .b false v]] []) := by
  rw [rlong_p]
  have ha' := ha; have hb' := hb
  rw [u32_iff] at ha hb
  rw [lXt a b c ha hb, lXf a b c ha hb]
  refine ⟨?_, ?_⟩ <;> intro h <;> subst h
  · exact ⟨ha', hb', ⟨rfl, rfl⟩, rfl, beq0 _, rfl, rfl⟩
  · exact ⟨⟨rfl, rfl⟩, rfl, beq0 _, rfl, rfl⟩
theorem cyc_ok (b : Int) (s : Bool) (hb : u32 b = true) : conP (.c (.i false .i64 (cyN (cyV b s)))) (fnTree Try.prog orc1 (tabL fns) 1000 Try.f20 [.c (.i false .u32 b), .c (.b false s)] []) := by
  rw [cyc_p]
  have ht := topN b hb
  rw [u32_iff] at hb
  rw [ht, not_u32 b hb.1 hb.2]
  unfold cyV cyN
  cases s <;> simp only [decide_eq_true_eq, decide_eq_false_iff_not, Bool.false_eq_true, Bool.true_eq_false, false_implies, true_implies, true_and, and_true, Bool.true_and, Bool.false_and, if_false]
  · refine ⟨fun h => ?_, fun h => ⟨fun h => ?_, fun h => ⟨fun h => ?_, fun h => ?_⟩⟩⟩ <;> (repeat' split) <;> first | rfl | omega
  · refine ⟨fun h0 => ?_, fun h0 => ?_⟩ <;> simp only [h0, if_true, if_false] <;> refine ⟨fun h => ?_, fun h => ⟨fun h => ?_, fun h => ⟨fun h => ?_, fun h => ?_⟩⟩⟩ <;> (repeat' split) <;> first | rfl | omega
theorem d256 (x : Int) (h : 0 ≤ x ∧ x < 4294967296) : IntKind.u32.wrap (x.tdiv 256) = x / 256 := by
  rw [tdiv_n _ _ h.1, wu32]; omega
theorem rcyc_ok (b : Int) (s : Bool) (hb : u32 b = true) : conP (.c (.i false .i64 (cyN (cyV b s)))) (fnTree Try.prog orc1 (tabL fns) 60 Try.f21 [.c (.i false .u32 b), .c (.b false s)] []) := by
  rw [rcyc_p]
  rw [u32_iff] at hb
  have k : ∀ x : Int, 0 ≤ x ∧ x < 4294967296 → IntKind.u32.wrap (x.tdiv 256) = x / 256 := d256
  have e1 : ∀ x : Int, 0 ≤ x ∧ x < 4294967296 → 0 ≤ x / 256 ∧ x / 256 < 4294967296 := fun x h => by omega
  have hn : ∀ h : 2147483648 ≤ b, IntKind.u32.wrap (4294967295 - b) = 4294967295 - b := fun _ => by rw [wu32]; omega
  have hr : 0 ≤ 4294967295 - b ∧ 4294967295 - b < 4294967296 := by omega
  have hw : IntKind.u32.wrap (4294967295 - b) = 4294967295 - b := by rw [wu32]; omega
  rw [hw]
  rw [k _ hr, k _ (e1 _ hr), k _ (e1 _ (e1 _ hr)), k _ (e1 _ (e1 _ (e1 _ hr)))]
  rw [k _ hb, k _ (e1 _ hb), k _ (e1 _ (e1 _ hb)), k _ (e1 _ (e1 _ (e1 _ hb)))]
  unfold cyV cyN
  cases s <;> simp only [decide_eq_true_eq, decide_eq_false_iff_not, Bool.false_eq_true, Bool.true_eq_false, false_implies, true_implies, true_and, and_true, Bool.true_and, Bool.false_and, if_false, ge_iff_le, imp_false]
  · (repeat' first | apply And.intro | intro _) <;> (repeat' split) <;> first | rfl | omega
  · (repeat' first | apply And.intro | intro _) <;> (repeat' split) <;> first | rfl | omega
end Go.Proofs.Ytjacbodjkgiohaa

