import Derived.Test.YtdkegheacceecaaC
import Derived.Test.YtdkegheacceecaaG
set_option linter.unusedVariables false
set_option linter.unusedSimpArgs false
namespace Go.Proofs.Ytdkegheacceecaa
open Go Go.Proofs Go.Proofs.Ytdkegheacceecaa.Ev Go.Proofs.Ytdkegheacceecaa.Ev.Ho
set_option maxRecDepth 100000
def wF (w n : Int) : Bool := bif decide (w / 256 > w % 256) then (bif decide (n ≥ w / 256) then true else decide (n < w % 256)) else (bif decide (n ≥ w / 256) then decide (n < w % 256) else false)
def n16 (x : Int) : Int := if 16 < x % 32 then 16 else x % 32
def mx (p q n m : Int) : Int := if 31 < (p * n + q * m) / 16 then 31 else (p * n + q * m) / 16
def alF (a b o : Int) : Int := mx (a % 32) (b % 32) (n16 o) (n16 (o / 256)) + 32 * mx (a / 32 % 32) (b / 32 % 32) (n16 o) (n16 (o / 256)) + 1024 * mx (a / 1024 % 32) (b / 1024 % 32) (n16 o) (n16 (o / 256))
def br (d : Bool) (p n : Int) : Int := bif d then p - p * n / 16 else p + (31 - p) * n / 16
def brF (a b : Int) (d : Bool) : Int := br d (a % 32) (n16 b) + 32 * br d (a / 32 % 32) (n16 b) + 1024 * br d (a / 1024 % 32) (n16 b)
def u16b (x : Int) : Bool := decide (0 ≤ x) && decide (x < 65536)
theorem u16b_iff (n : Int) : u16b n = true ↔ 0 ≤ n ∧ n < 65536 := by simp [u16b]
theorem g256 (x : Int) : x.fdiv 256 = x / 256 := fdiv_lit _ _ (by decide)
theorem g1 (x : Int) : x.fdiv 1 = x := by rw [fdiv_lit _ _ (by decide)]; simp
theorem b8' (x : Int) : bits .and .u16 x 255 = x % 256 := and_mask .u16 x 8 (.inl (by decide))
theorem b6' (x : Int) : bits .and .u16 x 63 = x % 64 := and_mask .u16 x 6 (.inl (by decide))
theorem b1' (x : Int) : bits .and .u16 x 1 = x % 2 := and_mask .u16 x 1 (.inl (by decide))
theorem td (x k : Int) (h : 0 ≤ x) : x.tdiv k = x / k := Int.tdiv_eq_ediv_of_nonneg h
theorem tm (x k : Int) (h : 0 ≤ x) : x.tmod k = x % k := Int.tmod_eq_emod_of_nonneg h
theorem n16_b (x : Int) : 0 ≤ n16 x ∧ n16 x ≤ 16 := by unfold n16; split <;> omega
theorem mul_b (p n P M : Int) (p0 : 0 ≤ p) (p1 : p ≤ P) (n0 : 0 ≤ n) (n1 : n ≤ M) : 0 ≤ p * n ∧ p * n ≤ P * M :=
  ⟨Int.mul_nonneg p0 n0, Int.mul_le_mul p1 n1 n0 (by omega)⟩
theorem mx_b (p q n m : Int) (p0 : 0 ≤ p) (p1 : p ≤ 31) (q0 : 0 ≤ q) (q1 : q ≤ 31) (n0 : 0 ≤ n) (n1 : n ≤ 16) (m0 : 0 ≤ m) (m1 : m ≤ 16) : 0 ≤ mx p q n m ∧ mx p q n m ≤ 31 := by
  have h1 := mul_b p n 31 16 p0 p1 n0 n1
  have h2 := mul_b q m 31 16 q0 q1 m0 m1
  unfold mx
  generalize p * n = X at *
  generalize q * m = Y at *
  split <;> omega
theorem br_b (d : Bool) (p n : Int) (p0 : 0 ≤ p) (p1 : p ≤ 31) (n0 : 0 ≤ n) (n1 : n ≤ 16) : 0 ≤ br d p n ∧ br d p n ≤ 31 := by
  have h1 : 0 ≤ p * n ∧ p * n ≤ p * 16 := ⟨Int.mul_nonneg p0 n0, Int.mul_le_mul_of_nonneg_left n1 p0⟩
  have h2 : 0 ≤ (31 - p) * n ∧ (31 - p) * n ≤ (31 - p) * 16 := ⟨Int.mul_nonneg (by omega) n0, Int.mul_le_mul_of_nonneg_left n1 (by omega)⟩
  unfold br
  generalize p * n = X at *
  generalize (31 - p) * n = Y at *
  cases d <;> simp only [cond_true, cond_false] <;> omega
theorem mxp (p q n m : Int) (p0 : 0 ≤ p) (p1 : p ≤ 31) (q0 : 0 ≤ q) (q1 : q ≤ 31) (n0 : 0 ≤ n) (n1 : n ≤ 16) (m0 : 0 ≤ m) (m1 : m ≤ 16) :
    IntKind.i64.wrap ((IntKind.i64.wrap (IntKind.i64.wrap (p * n) + IntKind.i64.wrap (q * m))).tdiv 16) = (p * n + q * m) / 16 := by
  have h1 := mul_b p n 31 16 p0 p1 n0 n1
  have h2 := mul_b q m 31 16 q0 q1 m0 m1
  generalize p * n = X at *
  generalize q * m = Y at *
  rw [w_id X (by omega) (by omega), w_id Y (by omega) (by omega), w_id (X + Y) (by omega) (by omega), td16 (X + Y) (by omega), w_id ((X + Y) / 16) (by omega) (by omega)]
theorem brd (p n : Int) (p0 : 0 ≤ p) (p1 : p ≤ 31) (n0 : 0 ≤ n) (n1 : n ≤ 16) : IntKind.i64.wrap (p - IntKind.i64.wrap ((IntKind.i64.wrap (p * n)).tdiv 16)) = br true p n := by
  have h1 : 0 ≤ p * n ∧ p * n ≤ p * 16 := ⟨Int.mul_nonneg p0 n0, Int.mul_le_mul_of_nonneg_left n1 p0⟩
  simp only [br, cond_true]
  generalize p * n = X at *
  rw [w_id X (by omega) (by omega), td16 _ (by omega), w_id (X / 16) (by omega) (by omega), w_id _ (by omega) (by omega)]
theorem brl (p n : Int) (p0 : 0 ≤ p) (p1 : p ≤ 31) (n0 : 0 ≤ n) (n1 : n ≤ 16) : IntKind.i64.wrap (p + IntKind.i64.wrap ((IntKind.i64.wrap (IntKind.i64.wrap (31 - p) * n)).tdiv 16)) = br false p n := by
  have h2 : 0 ≤ (31 - p) * n ∧ (31 - p) * n ≤ (31 - p) * 16 := ⟨Int.mul_nonneg (by omega) n0, Int.mul_le_mul_of_nonneg_left n1 (by omega)⟩
  simp only [br, cond_false]
  rw [w_id (31 - p) (by omega) (by omega)]
  generalize (31 - p) * n = Y at *
  rw [w_id Y (by omega) (by omega), td16 _ (by omega), w_id (Y / 16) (by omega) (by omega), w_id _ (by omega) (by omega)]
theorem n16r (o : Int) (h : 0 ≤ o) : (if IntKind.i64.wrap (o.tmod 32) < 16 then IntKind.i64.wrap (o.tmod 32) else (16 : Int)) = n16 o := by
  rw [tm _ _ h, w_id _ (by omega) (by omega)]; unfold n16; split <;> split <;> omega
theorem n16s (o : Int) (h : 0 ≤ o) (h' : o < 65536) : (if IntKind.i64.wrap ((IntKind.u16.wrap (o.tdiv 256)).tmod 32) < 16 then IntKind.i64.wrap ((IntKind.u16.wrap (o.tdiv 256)).tmod 32) else (16 : Int)) = n16 (o / 256) := by
  have e : IntKind.u16.wrap (o.tdiv 256) = o / 256 := by rw [td _ _ h, wu16]; omega
  rw [e]; exact n16r _ (by omega)
theorem pr (a k : Int) (h : 0 ≤ a) (h' : a < 65536) : ((IntKind.i64.wrap a).fdiv 1024).tmod 32 = a / 1024 % 32 ∧ ((IntKind.i64.wrap a).fdiv 32).tmod 32 = a / 32 % 32 ∧ ((IntKind.i64.wrap a).fdiv 1).tmod 32 = a % 32 := by
  rw [w_id a (by omega) (by omega), g1024, g32, g1]
  exact ⟨tm _ _ (by omega), tm _ _ (by omega), tm _ _ (by omega)⟩
theorem mxr (X : Int) : (if X < 31 then X else 31) = (if 31 < X then 31 else X) := by split <;> split <;> omega
theorem jr (x y z : Int) (p0 : 0 ≤ x) (p1 : x ≤ 31) (q0 : 0 ≤ y) (q1 : y ≤ 31) (r0 : 0 ≤ z) (r1 : z ≤ 31) :
    IntKind.u16.wrap (IntKind.i64.wrap (IntKind.i64.wrap (32 * IntKind.i64.wrap (IntKind.i64.wrap (32 * IntKind.i64.wrap (0 + z)) + y)) + x)) = x + 32 * y + 1024 * z := by
  rw [w_id (0 + z) (by omega) (by omega), w_id (32 * (0 + z)) (by omega) (by omega), w_id (32 * (0 + z) + y) (by omega) (by omega), w_id (32 * (32 * (0 + z) + y)) (by omega) (by omega), w_id _ (by omega) (by omega), wu16]
  omega
theorem wi_p (E : World) (a : Int) (b : Int) :
    (conP (.c (.b false (wF a b))) (fnTree (pe E) orcNone (tabL fns) 20000 Try.f28 [.c (.i false .u16 a), .c (.i false .i64 b)] [])) =
    ((decide (IntKind.i64.wrap (a.fdiv (256 : Int)) > IntKind.i64.wrap (bits BinOp.and IntKind.u16 a (255 : Int))) = true → (bif decide (b ≥ IntKind.i64.wrap (a.fdiv (256 :
      Int))) then true else decide (b < IntKind.i64.wrap (bits BinOp.and IntKind.u16 a (255 : Int)))) = wF a b) ∧ (decide (IntKind.i64.wrap (a.fdiv (256 : Int)) >
      IntKind.i64.wrap (bits BinOp.and IntKind.u16 a (255 : Int))) = false → (bif decide (b ≥ IntKind.i64.wrap (a.fdiv (256 : Int))) then decide (b < IntKind.i64.wrap (bits
      BinOp.and IntKind.u16 a (255 : Int))) else false) = wF a b)) := by kernel_rfl
set_option maxRecDepth 100000 in
theorem wi_c (E : World) (l1 l2 : Bool) (a : Int) (b : Int) (s : SW) (h : (u16b a) = true) : CallTree (pe E) 28 [.c (.i l1 .u16 a), .c (.i l2 .i64 b)] s (.leaf (.c (.b false (wF a b)), s)) := by
  refine CallTree.args (vs' := [.c (.i false .u16 a), .c (.i false .i64 b)]) ⟨⟨rfl, rfl⟩, ⟨rfl, rfl⟩⟩ ?_
  exact pure_contractH (fnTree_sound (P := pe E) orcNone_ok tab_ok tab_sz mixed 20000 Try.func28 (by decide) [.c (.i false .u16 a), .c (.i false .i64 b)] []) (by simp [SV.ok, C.ok, okL]) (v := .c (.b false (wF a b))) rfl ⟨by
    rw [wi_p]; rw [u16b_iff] at h
    rw [g256, w_id _ (by omega) (by omega), b8', w_id _ (by omega) (by omega)]
    refine ⟨fun h1 => ?_, fun h1 => ?_⟩ <;> simp only [wF, h1, cond_true, cond_false]⟩ s
theorem rwi_p (E : World) (b : Int) (a : Int) :
    (conP (.c (.b false (wF a b))) (fnTree (pe E) orcNone (tabL fns) 20000 Try.f29 [.c (.i false .i64 b), .c (.i false .u16 a)] [])) =
    ((decide (IntKind.i64.wrap (IntKind.u16.wrap (a.tdiv (256 : Int))) > IntKind.i64.wrap (a.tmod (256 : Int))) = true → (bif decide (b ≥ IntKind.i64.wrap (IntKind.u16.wrap
      (a.tdiv (256 : Int)))) then true else decide (b < IntKind.i64.wrap (a.tmod (256 : Int)))) = wF a b) ∧ (decide (IntKind.i64.wrap (IntKind.u16.wrap (a.tdiv (256 : Int))) >
      IntKind.i64.wrap (a.tmod (256 : Int))) = false → (bif decide (b ≥ IntKind.i64.wrap (IntKind.u16.wrap (a.tdiv (256 : Int)))) then decide (b < IntKind.i64.wrap (a.tmod (256
      : Int))) else false) = wF a b)) := by kernel_rfl
set_option maxRecDepth 100000 in
theorem rwi_c (E : World) (l1 l2 : Bool) (b : Int) (a : Int) (s : SW) (h : (u16b a) = true) : CallTree (pe E) 29 [.c (.i l1 .i64 b), .c (.i l2 .u16 a)] s (.leaf (.c (.b false (wF a b)), s)) := by
  refine CallTree.args (vs' := [.c (.i false .i64 b), .c (.i false .u16 a)]) ⟨⟨rfl, rfl⟩, ⟨rfl, rfl⟩⟩ ?_
  exact pure_contractH (fnTree_sound (P := pe E) orcNone_ok tab_ok tab_sz mixed 20000 Try.func29 (by decide) [.c (.i false .i64 b), .c (.i false .u16 a)] []) (by simp [SV.ok, C.ok, okL]) (v := .c (.b false (wF a b))) rfl ⟨by
    rw [rwi_p]; rw [u16b_iff] at h
    rw [td _ _ h.1, tm _ _ h.1, wu16, Int.emod_eq_of_lt (by omega) (by omega), w_id _ (by omega) (by omega), w_id _ (by omega) (by omega)]
    refine ⟨fun h1 => ?_, fun h1 => ?_⟩ <;> simp only [wF, h1, cond_true, cond_false]⟩ s
theorem al_p (E : World) (a : Int) (b : Int) (o : Int) :
    (conP (.c (.i false .u16 (alF a b o))) (fnTree (pe E) orcNone (tabL fns) 20000 Try.f15 [.c (.i false .u16 a), .c (.i false .u16 b), .c (.i false .u16 o)] [])) =
    (IntKind.u16 = IntKind.u16 ∧ IntKind.u16.wrap (bits BinOp.or IntKind.i64 (bits BinOp.or IntKind.i64 (if (31 : Int) < IntKind.i64.wrap ((IntKind.i64.wrap (IntKind.i64.wrap
      (IntKind.i64.wrap (bits BinOp.and IntKind.u16 a (31 : Int)) * if (16 : Int) < IntKind.i64.wrap (bits BinOp.and IntKind.u16 o (31 : Int)) then (16 : Int) else
      IntKind.i64.wrap (bits BinOp.and IntKind.u16 o (31 : Int))) + IntKind.i64.wrap (IntKind.i64.wrap (bits BinOp.and IntKind.u16 b (31 : Int)) * if (16 : Int) <
      IntKind.i64.wrap (bits BinOp.and IntKind.u16 (o.fdiv (256 : Int)) (31 : Int)) then (16 : Int) else IntKind.i64.wrap (bits BinOp.and IntKind.u16 (o.fdiv (256 : Int)) (31 :
      Int))))).tdiv (16 : Int)) then (31 : Int) else IntKind.i64.wrap ((IntKind.i64.wrap (IntKind.i64.wrap (IntKind.i64.wrap (bits BinOp.and IntKind.u16 a (31 : Int)) * if (16 :
      Int) < IntKind.i64.wrap (bits BinOp.and IntKind.u16 o (31 : Int)) then (16 : Int) else IntKind.i64.wrap (bits BinOp.and IntKind.u16 o (31 : Int))) + IntKind.i64.wrap
      (IntKind.i64.wrap (bits BinOp.and IntKind.u16 b (31 : Int)) * if (16 : Int) < IntKind.i64.wrap (bits BinOp.and IntKind.u16 (o.fdiv (256 : Int)) (31 : Int)) then (16 : Int)
      else IntKind.i64.wrap (bits BinOp.and IntKind.u16 (o.fdiv (256 : Int)) (31 : Int))))).tdiv (16 : Int))) (IntKind.i64.wrap ((if (31 : Int) < IntKind.i64.wrap
      ((IntKind.i64.wrap (IntKind.i64.wrap (IntKind.i64.wrap (bits BinOp.and IntKind.u16 (a.fdiv (32 : Int)) (31 : Int)) * if (16 : Int) < IntKind.i64.wrap (bits BinOp.and
      IntKind.u16 o (31 : Int)) then (16 : Int) else IntKind.i64.wrap (bits BinOp.and IntKind.u16 o (31 : Int))) + IntKind.i64.wrap (IntKind.i64.wrap (bits BinOp.and IntKind.u16
      (b.fdiv (32 : Int)) (31 : Int)) * if (16 : Int) < IntKind.i64.wrap (bits BinOp.and IntKind.u16 (o.fdiv (256 : Int)) (31 : Int)) then (16 : Int) else IntKind.i64.wrap (bits
      BinOp.and IntKind.u16 (o.fdiv (256 : Int)) (31 : Int))))).tdiv (16 : Int)) then (31 : Int) else IntKind.i64.wrap ((IntKind.i64.wrap (IntKind.i64.wrap (IntKind.i64.wrap
      (bits BinOp.and IntKind.u16 (a.fdiv (32 : Int)) (31 : Int)) * if (16 : Int) < IntKind.i64.wrap (bits BinOp.and IntKind.u16 o (31 : Int)) then (16 : Int) else
      IntKind.i64.wrap (bits BinOp.and IntKind.u16 o (31 : Int))) + IntKind.i64.wrap (IntKind.i64.wrap (bits BinOp.and IntKind.u16 (b.fdiv (32 : Int)) (31 : Int)) * if (16 :
      Int) < IntKind.i64.wrap (bits BinOp.and IntKind.u16 (o.fdiv (256 : Int)) (31 : Int)) then (16 : Int) else IntKind.i64.wrap (bits BinOp.and IntKind.u16 (o.fdiv (256 : Int))
      (31 : Int))))).tdiv (16 : Int))) * (32 : Int)))) (IntKind.i64.wrap ((if (31 : Int) < IntKind.i64.wrap ((IntKind.i64.wrap (IntKind.i64.wrap (IntKind.i64.wrap (bits
      BinOp.and IntKind.u16 (a.fdiv (1024 : Int)) (31 : Int)) * if (16 : Int) < IntKind.i64.wrap (bits BinOp.and IntKind.u16 o (31 : Int)) then (16 : Int) else IntKind.i64.wrap
      (bits BinOp.and IntKind.u16 o (31 : Int))) + IntKind.i64.wrap (IntKind.i64.wrap (bits BinOp.and IntKind.u16 (b.fdiv (1024 : Int)) (31 : Int)) * if (16 : Int) <
      IntKind.i64.wrap (bits BinOp.and IntKind.u16 (o.fdiv (256 : Int)) (31 : Int)) then (16 : Int) else IntKind.i64.wrap (bits BinOp.and IntKind.u16 (o.fdiv (256 : Int)) (31 :
      Int))))).tdiv (16 : Int)) then (31 : Int) else IntKind.i64.wrap ((IntKind.i64.wrap (IntKind.i64.wrap (IntKind.i64.wrap (bits BinOp.and IntKind.u16 (a.fdiv (1024 : Int))
      (31 : Int)) * if (16 : Int) < IntKind.i64.wrap (bits BinOp.and IntKind.u16 o (31 : Int)) then (16 : Int) else IntKind.i64.wrap (bits BinOp.and IntKind.u16 o (31 : Int))) +
      IntKind.i64.wrap (IntKind.i64.wrap (bits BinOp.and IntKind.u16 (b.fdiv (1024 : Int)) (31 : Int)) * if (16 : Int) < IntKind.i64.wrap (bits BinOp.and IntKind.u16 (o.fdiv
      (256 : Int)) (31 : Int)) then (16 : Int) else IntKind.i64.wrap (bits BinOp.and IntKind.u16 (o.fdiv (256 : Int)) (31 : Int))))).tdiv (16 : Int))) * (1024 : Int)))) = alF a
      b o) := by kernel_rfl
set_option maxRecDepth 100000 in
theorem al_c (E : World) (l1 l2 l3 : Bool) (a : Int) (b : Int) (o : Int) (s : SW) : CallTree (pe E) 15 [.c (.i l1 .u16 a), .c (.i l2 .u16 b), .c (.i l3 .u16 o)] s (.leaf (.c (.i false .u16 (alF a b o)), s)) := by
  refine CallTree.args (vs' := [.c (.i false .u16 a), .c (.i false .u16 b), .c (.i false .u16 o)]) ⟨⟨rfl, rfl⟩, ⟨rfl, rfl⟩, ⟨rfl, rfl⟩⟩ ?_
  exact pure_contractH (fnTree_sound (P := pe E) orcNone_ok tab_ok tab_sz mixed 20000 Try.func15 (by decide) [.c (.i false .u16 a), .c (.i false .u16 b), .c (.i false .u16 o)] []) (by simp [SV.ok, C.ok, okL]) (v := .c (.i false .u16 (alF a b o))) rfl ⟨by
    rw [al_p]
    simp only [k0, g32, g1024, g256]
    have e1 : ∀ x : Int, (if 16 < x % 32 then (16 : Int) else x % 32) = n16 x := fun _ => rfl
    rw [e1, e1]
    obtain ⟨n0, n1⟩ := n16_b o
    obtain ⟨m0, m1⟩ := n16_b (o / 256)
    have hm : ∀ x y : Int, mx (x % 32) (y % 32) (n16 o) (n16 (o / 256)) = (if 31 < (x % 32 * n16 o + y % 32 * n16 (o / 256)) / 16 then 31 else (x % 32 * n16 o + y % 32 * n16 (o / 256)) / 16) := fun _ _ => rfl
    have hb' : ∀ x y : Int, 0 ≤ mx (x % 32) (y % 32) (n16 o) (n16 (o / 256)) ∧ mx (x % 32) (y % 32) (n16 o) (n16 (o / 256)) ≤ 31 := fun x y => mx_b _ _ _ _ (hb x).1 (hb x).2 (hb y).1 (hb y).2 n0 n1 m0 m1
    rw [mxp _ _ _ _ (hb a).1 (hb a).2 (hb b).1 (hb b).2 n0 n1 m0 m1, mxp _ _ _ _ (hb (a / 32)).1 (hb (a / 32)).2 (hb (b / 32)).1 (hb (b / 32)).2 n0 n1 m0 m1, mxp _ _ _ _ (hb (a / 1024)).1 (hb (a / 1024)).2 (hb (b / 1024)).1 (hb (b / 1024)).2 n0 n1 m0 m1, ← hm, ← hm, ← hm]
    rw [jn _ _ _ (hb' _ _).1 (hb' _ _).2 (hb' _ _).1 (hb' _ _).2 (hb' _ _).1 (hb' _ _).2]
    first | exact ⟨rfl, rfl⟩ | exact ⟨trivial, rfl⟩ | rfl⟩ s
theorem ral_p (E : World) (a : Int) (b : Int) (o : Int) :
    (conP (.c (.i false .u16 (alF a b o))) (fnTree (pe E) orcNone (tabL fns) 20000 Try.f16 [.c (.i false .u16 a), .c (.i false .u16 b), .c (.i false .u16 o)] [])) =
    (IntKind.u16 = IntKind.u16 ∧ IntKind.u16.wrap (IntKind.i64.wrap (IntKind.i64.wrap ((32 : Int) * IntKind.i64.wrap (IntKind.i64.wrap ((32 : Int) * IntKind.i64.wrap ((0 : Int)
      + if IntKind.i64.wrap ((IntKind.i64.wrap (IntKind.i64.wrap (((IntKind.i64.wrap a).fdiv (1024 : Int)).tmod (32 : Int) * if IntKind.i64.wrap (o.tmod (32 : Int)) < (16 : Int)
      then IntKind.i64.wrap (o.tmod (32 : Int)) else (16 : Int)) + IntKind.i64.wrap (((IntKind.i64.wrap b).fdiv (1024 : Int)).tmod (32 : Int) * if IntKind.i64.wrap
      ((IntKind.u16.wrap (o.tdiv (256 : Int))).tmod (32 : Int)) < (16 : Int) then IntKind.i64.wrap ((IntKind.u16.wrap (o.tdiv (256 : Int))).tmod (32 : Int)) else (16 :
      Int)))).tdiv (16 : Int)) < (31 : Int) then IntKind.i64.wrap ((IntKind.i64.wrap (IntKind.i64.wrap (((IntKind.i64.wrap a).fdiv (1024 : Int)).tmod (32 : Int) * if
      IntKind.i64.wrap (o.tmod (32 : Int)) < (16 : Int) then IntKind.i64.wrap (o.tmod (32 : Int)) else (16 : Int)) + IntKind.i64.wrap (((IntKind.i64.wrap b).fdiv (1024 :
      Int)).tmod (32 : Int) * if IntKind.i64.wrap ((IntKind.u16.wrap (o.tdiv (256 : Int))).tmod (32 : Int)) < (16 : Int) then IntKind.i64.wrap ((IntKind.u16.wrap (o.tdiv (256 :
      Int))).tmod (32 : Int)) else (16 : Int)))).tdiv (16 : Int)) else (31 : Int))) + if IntKind.i64.wrap ((IntKind.i64.wrap (IntKind.i64.wrap (((IntKind.i64.wrap a).fdiv (32 :
      Int)).tmod (32 : Int) * if IntKind.i64.wrap (o.tmod (32 : Int)) < (16 : Int) then IntKind.i64.wrap (o.tmod (32 : Int)) else (16 : Int)) + IntKind.i64.wrap
      (((IntKind.i64.wrap b).fdiv (32 : Int)).tmod (32 : Int) * if IntKind.i64.wrap ((IntKind.u16.wrap (o.tdiv (256 : Int))).tmod (32 : Int)) < (16 : Int) then IntKind.i64.wrap
      ((IntKind.u16.wrap (o.tdiv (256 : Int))).tmod (32 : Int)) else (16 : Int)))).tdiv (16 : Int)) < (31 : Int) then IntKind.i64.wrap ((IntKind.i64.wrap (IntKind.i64.wrap
      (((IntKind.i64.wrap a).fdiv (32 : Int)).tmod (32 : Int) * if IntKind.i64.wrap (o.tmod (32 : Int)) < (16 : Int) then IntKind.i64.wrap (o.tmod (32 : Int)) else (16 : Int)) +
      IntKind.i64.wrap (((IntKind.i64.wrap b).fdiv (32 : Int)).tmod (32 : Int) * if IntKind.i64.wrap ((IntKind.u16.wrap (o.tdiv (256 : Int))).tmod (32 : Int)) < (16 : Int) then
      IntKind.i64.wrap ((IntKind.u16.wrap (o.tdiv (256 : Int))).tmod (32 : Int)) else (16 : Int)))).tdiv (16 : Int)) else (31 : Int))) + if IntKind.i64.wrap ((IntKind.i64.wrap
      (IntKind.i64.wrap (((IntKind.i64.wrap a).fdiv (1 : Int)).tmod (32 : Int) * if IntKind.i64.wrap (o.tmod (32 : Int)) < (16 : Int) then IntKind.i64.wrap (o.tmod (32 : Int))
      else (16 : Int)) + IntKind.i64.wrap (((IntKind.i64.wrap b).fdiv (1 : Int)).tmod (32 : Int) * if IntKind.i64.wrap ((IntKind.u16.wrap (o.tdiv (256 : Int))).tmod (32 : Int))
      < (16 : Int) then IntKind.i64.wrap ((IntKind.u16.wrap (o.tdiv (256 : Int))).tmod (32 : Int)) else (16 : Int)))).tdiv (16 : Int)) < (31 : Int) then IntKind.i64.wrap
      ((IntKind.i64.wrap (IntKind.i64.wrap (((IntKind.i64.wrap a).fdiv (1 : Int)).tmod (32 : Int) * if IntKind.i64.wrap (o.tmod (32 : Int)) < (16 : Int) then IntKind.i64.wrap
      (o.tmod (32 : Int)) else (16 : Int)) + IntKind.i64.wrap (((IntKind.i64.wrap b).fdiv (1 : Int)).tmod (32 : Int) * if IntKind.i64.wrap ((IntKind.u16.wrap (o.tdiv (256 :
      Int))).tmod (32 : Int)) < (16 : Int) then IntKind.i64.wrap ((IntKind.u16.wrap (o.tdiv (256 : Int))).tmod (32 : Int)) else (16 : Int)))).tdiv (16 : Int)) else (31 : Int)))
      = alF a b o) := by kernel_rfl
set_option maxRecDepth 100000 in
theorem ral_c (E : World) (l1 l2 l3 : Bool) (a : Int) (b : Int) (o : Int) (s : SW) (ha : (u16b a) = true) (hb2 : (u16b b) = true) (ho : (u16b o) = true) : CallTree (pe E) 16 [.c (.i l1 .u16 a), .c (.i l2 .u16 b), .c (.i l3 .u16 o)] s (.leaf (.c (.i false .u16 (alF a b o)), s)) := by
  refine CallTree.args (vs' := [.c (.i false .u16 a), .c (.i false .u16 b), .c (.i false .u16 o)]) ⟨⟨rfl, rfl⟩, ⟨rfl, rfl⟩, ⟨rfl, rfl⟩⟩ ?_
  exact pure_contractH (fnTree_sound (P := pe E) orcNone_ok tab_ok tab_sz mixed 20000 Try.func16 (by decide) [.c (.i false .u16 a), .c (.i false .u16 b), .c (.i false .u16 o)] []) (by simp [SV.ok, C.ok, okL]) (v := .c (.i false .u16 (alF a b o))) rfl ⟨by
    rw [ral_p]; rw [u16b_iff] at ha hb2 ho
    obtain ⟨a1, a2, a3⟩ := pr a 0 ha.1 ha.2
    obtain ⟨c1, c2, c3⟩ := pr b 0 hb2.1 hb2.2
    rw [a1, a2, a3, c1, c2, c3, n16r _ ho.1, n16s _ ho.1 ho.2]
    obtain ⟨n0, n1⟩ := n16_b o
    obtain ⟨m0, m1⟩ := n16_b (o / 256)
    have hm : ∀ x y : Int, mx (x % 32) (y % 32) (n16 o) (n16 (o / 256)) = (if 31 < (x % 32 * n16 o + y % 32 * n16 (o / 256)) / 16 then 31 else (x % 32 * n16 o + y % 32 * n16 (o / 256)) / 16) := fun _ _ => rfl
    have hb' : ∀ x y : Int, 0 ≤ mx (x % 32) (y % 32) (n16 o) (n16 (o / 256)) ∧ mx (x % 32) (y % 32) (n16 o) (n16 (o / 256)) ≤ 31 := fun x y => mx_b _ _ _ _ (hb x).1 (hb x).2 (hb y).1 (hb y).2 n0 n1 m0 m1
    rw [mxp _ _ _ _ (hb a).1 (hb a).2 (hb b).1 (hb b).2 n0 n1 m0 m1, mxp _ _ _ _ (hb (a / 32)).1 (hb (a / 32)).2 (hb (b / 32)).1 (hb (b / 32)).2 n0 n1 m0 m1, mxp _ _ _ _ (hb (a / 1024)).1 (hb (a / 1024)).2 (hb (b / 1024)).1 (hb (b / 1024)).2 n0 n1 m0 m1, mxr, mxr, mxr, ← hm, ← hm, ← hm]
    rw [jr _ _ _ (hb' _ _).1 (hb' _ _).2 (hb' _ _).1 (hb' _ _).2 (hb' _ _).1 (hb' _ _).2]
    first | exact ⟨rfl, rfl⟩ | exact ⟨trivial, rfl⟩ | rfl⟩ s
theorem bt_p (E : World) (a : Int) (b : Int) (d : Bool) :
    (conP (.c (.i false .u16 (brF a b d))) (fnTree (pe E) orcNone (tabL fns) 20000 Try.f17 [.c (.i false .u16 a), .c (.i false .u16 b), .c (.b false d)] [])) =
    ((d = true → (d = true → (d = true → IntKind.u16 = IntKind.u16 ∧ IntKind.u16.wrap (bits BinOp.or IntKind.i64 (bits BinOp.or IntKind.i64 (IntKind.i64.wrap (IntKind.i64.wrap
      (bits BinOp.and IntKind.u16 a (31 : Int)) - IntKind.i64.wrap ((IntKind.i64.wrap (IntKind.i64.wrap (bits BinOp.and IntKind.u16 a (31 : Int)) * if (16 : Int) <
      IntKind.i64.wrap (bits BinOp.and IntKind.u16 b (31 : Int)) then (16 : Int) else IntKind.i64.wrap (bits BinOp.and IntKind.u16 b (31 : Int)))).tdiv (16 : Int))))
      (IntKind.i64.wrap (IntKind.i64.wrap (IntKind.i64.wrap (bits BinOp.and IntKind.u16 (a.fdiv (32 : Int)) (31 : Int)) - IntKind.i64.wrap ((IntKind.i64.wrap (IntKind.i64.wrap
      (bits BinOp.and IntKind.u16 (a.fdiv (32 : Int)) (31 : Int)) * if (16 : Int) < IntKind.i64.wrap (bits BinOp.and IntKind.u16 b (31 : Int)) then (16 : Int) else
      IntKind.i64.wrap (bits BinOp.and IntKind.u16 b (31 : Int)))).tdiv (16 : Int))) * (32 : Int)))) (IntKind.i64.wrap (IntKind.i64.wrap (IntKind.i64.wrap (bits BinOp.and
      IntKind.u16 (a.fdiv (1024 : Int)) (31 : Int)) - IntKind.i64.wrap ((IntKind.i64.wrap (IntKind.i64.wrap (bits BinOp.and IntKind.u16 (a.fdiv (1024 : Int)) (31 : Int)) * if
      (16 : Int) < IntKind.i64.wrap (bits BinOp.and IntKind.u16 b (31 : Int)) then (16 : Int) else IntKind.i64.wrap (bits BinOp.and IntKind.u16 b (31 : Int)))).tdiv (16 : Int)))
      * (1024 : Int)))) = brF a b d) ∧ (d = false → IntKind.u16 = IntKind.u16 ∧ IntKind.u16.wrap (bits BinOp.or IntKind.i64 (bits BinOp.or IntKind.i64 (IntKind.i64.wrap
      (IntKind.i64.wrap (bits BinOp.and IntKind.u16 a (31 : Int)) - IntKind.i64.wrap ((IntKind.i64.wrap (IntKind.i64.wrap (bits BinOp.and IntKind.u16 a (31 : Int)) * if (16 :
      Int) < IntKind.i64.wrap (bits BinOp.and IntKind.u16 b (31 : Int)) then (16 : Int) else IntKind.i64.wrap (bits BinOp.and IntKind.u16 b (31 : Int)))).tdiv (16 : Int))))
      (IntKind.i64.wrap (IntKind.i64.wrap (IntKind.i64.wrap (bits BinOp.and IntKind.u16 (a.fdiv (32 : Int)) (31 : Int)) - IntKind.i64.wrap ((IntKind.i64.wrap (IntKind.i64.wrap
      (bits BinOp.and IntKind.u16 (a.fdiv (32 : Int)) (31 : Int)) * if (16 : Int) < IntKind.i64.wrap (bits BinOp.and IntKind.u16 b (31 : Int)) then (16 : Int) else
      IntKind.i64.wrap (bits BinOp.and IntKind.u16 b (31 : Int)))).tdiv (16 : Int))) * (32 : Int)))) (IntKind.i64.wrap (IntKind.i64.wrap (IntKind.i64.wrap (bits BinOp.and
      IntKind.u16 (a.fdiv (1024 : Int)) (31 : Int)) + IntKind.i64.wrap ((IntKind.i64.wrap (IntKind.i64.wrap ((31 : Int) - IntKind.i64.wrap (bits BinOp.and IntKind.u16 (a.fdiv
      (1024 : Int)) (31 : Int))) * if (16 : Int) < IntKind.i64.wrap (bits BinOp.and IntKind.u16 b (31 : Int)) then (16 : Int) else IntKind.i64.wrap (bits BinOp.and IntKind.u16 b
      (31 : Int)))).tdiv (16 : Int))) * (1024 : Int)))) = brF a b d)) ∧ (d = false → (d = true → IntKind.u16 = IntKind.u16 ∧ IntKind.u16.wrap (bits BinOp.or IntKind.i64 (bits
      BinOp.or IntKind.i64 (IntKind.i64.wrap (IntKind.i64.wrap (bits BinOp.and IntKind.u16 a (31 : Int)) - IntKind.i64.wrap ((IntKind.i64.wrap (IntKind.i64.wrap (bits BinOp.and
      IntKind.u16 a (31 : Int)) * if (16 : Int) < IntKind.i64.wrap (bits BinOp.and IntKind.u16 b (31 : Int)) then (16 : Int) else IntKind.i64.wrap (bits BinOp.and IntKind.u16 b
      (31 : Int)))).tdiv (16 : Int)))) (IntKind.i64.wrap (IntKind.i64.wrap (IntKind.i64.wrap (bits BinOp.and IntKind.u16 (a.fdiv (32 : Int)) (31 : Int)) + IntKind.i64.wrap
      ((IntKind.i64.wrap (IntKind.i64.wrap ((31 : Int) - IntKind.i64.wrap (bits BinOp.and IntKind.u16 (a.fdiv (32 : Int)) (31 : Int))) * if (16 : Int) < IntKind.i64.wrap (bits
      BinOp.and IntKind.u16 b (31 : Int)) then (16 : Int) else IntKind.i64.wrap (bits BinOp.and IntKind.u16 b (31 : Int)))).tdiv (16 : Int))) * (32 : Int)))) (IntKind.i64.wrap
      (IntKind.i64.wrap (IntKind.i64.wrap (bits BinOp.and IntKind.u16 (a.fdiv (1024 : Int)) (31 : Int)) - IntKind.i64.wrap ((IntKind.i64.wrap (IntKind.i64.wrap (bits BinOp.and
      IntKind.u16 (a.fdiv (1024 : Int)) (31 : Int)) * if (16 : Int) < IntKind.i64.wrap (bits BinOp.and IntKind.u16 b (31 : Int)) then (16 : Int) else IntKind.i64.wrap (bits
      BinOp.and IntKind.u16 b (31 : Int)))).tdiv (16 : Int))) * (1024 : Int)))) = brF a b d) ∧ (d = false → IntKind.u16 = IntKind.u16 ∧ IntKind.u16.wrap (bits BinOp.or
      IntKind.i64 (bits BinOp.or IntKind.i64 (IntKind.i64.wrap (IntKind.i64.wrap (bits BinOp.and IntKind.u16 a (31 : Int)) - IntKind.i64.wrap ((IntKind.i64.wrap
      (IntKind.i64.wrap (bits BinOp.and IntKind.u16 a (31 : Int)) * if (16 : Int) < IntKind.i64.wrap (bits BinOp.and IntKind.u16 b (31 : Int)) then (16 : Int) else
      IntKind.i64.wrap (bits BinOp.and IntKind.u16 b (31 : Int)))).tdiv (16 : Int)))) (IntKind.i64.wrap (IntKind.i64.wrap (IntKind.i64.wrap (bits BinOp.and IntKind.u16 (a.fdiv
      (32 : Int)) (31 : Int)) + IntKind.i64.wrap ((IntKind.i64.wrap (IntKind.i64.wrap ((31 : Int) - IntKind.i64.wrap (bits BinOp.and IntKind.u16 (a.fdiv (32 : Int)) (31 : Int)))
      * if (16 : Int) < IntKind.i64.wrap (bits BinOp.and IntKind.u16 b (31 : Int)) then (16 : Int) else IntKind.i64.wrap (bits BinOp.and IntKind.u16 b (31 : Int)))).tdiv (16 :
      Int))) * (32 : Int)))) (IntKind.i64.wrap (IntKind.i64.wrap (IntKind.i64.wrap (bits BinOp.and IntKind.u16 (a.fdiv (1024 : Int)) (31 : Int)) + IntKind.i64.wrap
      ((IntKind.i64.wrap (IntKind.i64.wrap ((31 : Int) - IntKind.i64.wrap (bits BinOp.and IntKind.u16 (a.fdiv (1024 : Int)) (31 : Int))) * if (16 : Int) < IntKind.i64.wrap (bits
      BinOp.and IntKind.u16 b (31 : Int)) then (16 : Int) else IntKind.i64.wrap (bits BinOp.and IntKind.u16 b (31 : Int)))).tdiv (16 : Int))) * (1024 : Int)))) = brF a b d))) ∧
      (d = false → (d = true → (d = true → IntKind.u16 = IntKind.u16 ∧ IntKind.u16.wrap (bits BinOp.or IntKind.i64 (bits BinOp.or IntKind.i64 (IntKind.i64.wrap (IntKind.i64.wrap
      (bits BinOp.and IntKind.u16 a (31 : Int)) + IntKind.i64.wrap ((IntKind.i64.wrap (IntKind.i64.wrap ((31 : Int) - IntKind.i64.wrap (bits BinOp.and IntKind.u16 a (31 : Int)))
      * if (16 : Int) < IntKind.i64.wrap (bits BinOp.and IntKind.u16 b (31 : Int)) then (16 : Int) else IntKind.i64.wrap (bits BinOp.and IntKind.u16 b (31 : Int)))).tdiv (16 :
      Int)))) (IntKind.i64.wrap (IntKind.i64.wrap (IntKind.i64.wrap (bits BinOp.and IntKind.u16 (a.fdiv (32 : Int)) (31 : Int)) - IntKind.i64.wrap ((IntKind.i64.wrap
      (IntKind.i64.wrap (bits BinOp.and IntKind.u16 (a.fdiv (32 : Int)) (31 : Int)) * if (16 : Int) < IntKind.i64.wrap (bits BinOp.and IntKind.u16 b (31 : Int)) then (16 : Int)
      else IntKind.i64.wrap (bits BinOp.and IntKind.u16 b (31 : Int)))).tdiv (16 : Int))) * (32 : Int)))) (IntKind.i64.wrap (IntKind.i64.wrap (IntKind.i64.wrap (bits BinOp.and
      IntKind.u16 (a.fdiv (1024 : Int)) (31 : Int)) - IntKind.i64.wrap ((IntKind.i64.wrap (IntKind.i64.wrap (bits BinOp.and IntKind.u16 (a.fdiv (1024 : Int)) (31 : Int)) * if
      (16 : Int) < IntKind.i64.wrap (bits BinOp.and IntKind.u16 b (31 : Int)) then (16 : Int) else IntKind.i64.wrap (bits BinOp.and IntKind.u16 b (31 : Int)))).tdiv (16 : Int)))
      * (1024 : Int)))) = brF a b d) ∧ (d = false → IntKind.u16 = IntKind.u16 ∧ IntKind.u16.wrap (bits BinOp.or IntKind.i64 (bits BinOp.or IntKind.i64 (IntKind.i64.wrap
      (IntKind.i64.wrap (bits BinOp.and IntKind.u16 a (31 : Int)) + IntKind.i64.wrap ((IntKind.i64.wrap (IntKind.i64.wrap ((31 : Int) - IntKind.i64.wrap (bits BinOp.and
      IntKind.u16 a (31 : Int))) * if (16 : Int) < IntKind.i64.wrap (bits BinOp.and IntKind.u16 b (31 : Int)) then (16 : Int) else IntKind.i64.wrap (bits BinOp.and IntKind.u16 b
      (31 : Int)))).tdiv (16 : Int)))) (IntKind.i64.wrap (IntKind.i64.wrap (IntKind.i64.wrap (bits BinOp.and IntKind.u16 (a.fdiv (32 : Int)) (31 : Int)) - IntKind.i64.wrap
      ((IntKind.i64.wrap (IntKind.i64.wrap (bits BinOp.and IntKind.u16 (a.fdiv (32 : Int)) (31 : Int)) * if (16 : Int) < IntKind.i64.wrap (bits BinOp.and IntKind.u16 b (31 :
      Int)) then (16 : Int) else IntKind.i64.wrap (bits BinOp.and IntKind.u16 b (31 : Int)))).tdiv (16 : Int))) * (32 : Int)))) (IntKind.i64.wrap (IntKind.i64.wrap
      (IntKind.i64.wrap (bits BinOp.and IntKind.u16 (a.fdiv (1024 : Int)) (31 : Int)) + IntKind.i64.wrap ((IntKind.i64.wrap (IntKind.i64.wrap ((31 : Int) - IntKind.i64.wrap
      (bits BinOp.and IntKind.u16 (a.fdiv (1024 : Int)) (31 : Int))) * if (16 : Int) < IntKind.i64.wrap (bits BinOp.and IntKind.u16 b (31 : Int)) then (16 : Int) else
      IntKind.i64.wrap (bits BinOp.and IntKind.u16 b (31 : Int)))).tdiv (16 : Int))) * (1024 : Int)))) = brF a b d)) ∧ (d = false → (d = true → IntKind.u16 = IntKind.u16 ∧
      IntKind.u16.wrap (bits BinOp.or IntKind.i64 (bits BinOp.or IntKind.i64 (IntKind.i64.wrap (IntKind.i64.wrap (bits BinOp.and IntKind.u16 a (31 : Int)) + IntKind.i64.wrap
      ((IntKind.i64.wrap (IntKind.i64.wrap ((31 : Int) - IntKind.i64.wrap (bits BinOp.and IntKind.u16 a (31 : Int))) * if (16 : Int) < IntKind.i64.wrap (bits BinOp.and
      IntKind.u16 b (31 : Int)) then (16 : Int) else IntKind.i64.wrap (bits BinOp.and IntKind.u16 b (31 : Int)))).tdiv (16 : Int)))) (IntKind.i64.wrap (IntKind.i64.wrap
      (IntKind.i64.wrap (bits BinOp.and IntKind.u16 (a.fdiv (32 : Int)) (31 : Int)) + IntKind.i64.wrap ((IntKind.i64.wrap (IntKind.i64.wrap ((31 : Int) - IntKind.i64.wrap (bits
      BinOp.and IntKind.u16 (a.fdiv (32 : Int)) (31 : Int))) * if (16 : Int) < IntKind.i64.wrap (bits BinOp.and IntKind.u16 b (31 : Int)) then (16 : Int) else IntKind.i64.wrap
      (bits BinOp.and IntKind.u16 b (31 : Int)))).tdiv (16 : Int))) * (32 : Int)))) (IntKind.i64.wrap (IntKind.i64.wrap (IntKind.i64.wrap (bits BinOp.and IntKind.u16 (a.fdiv
      (1024 : Int)) (31 : Int)) - IntKind.i64.wrap ((IntKind.i64.wrap (IntKind.i64.wrap (bits BinOp.and IntKind.u16 (a.fdiv (1024 : Int)) (31 : Int)) * if (16 : Int) <
      IntKind.i64.wrap (bits BinOp.and IntKind.u16 b (31 : Int)) then (16 : Int) else IntKind.i64.wrap (bits BinOp.and IntKind.u16 b (31 : Int)))).tdiv (16 : Int))) * (1024 :
      Int)))) = brF a b d) ∧ (d = false → IntKind.u16 = IntKind.u16 ∧ IntKind.u16.wrap (bits BinOp.or IntKind.i64 (bits BinOp.or IntKind.i64 (IntKind.i64.wrap (IntKind.i64.wrap
      (bits BinOp.and IntKind.u16 a (31 : Int)) + IntKind.i64.wrap ((IntKind.i64.wrap (IntKind.i64.wrap ((31 : Int) - IntKind.i64.wrap (bits BinOp.and IntKind.u16 a (31 : Int)))
      * if (16 : Int) < IntKind.i64.wrap (bits BinOp.and IntKind.u16 b (31 : Int)) then (16 : Int) else IntKind.i64.wrap (bits BinOp.and IntKind.u16 b (31 : Int)))).tdiv (16 :
      Int)))) (IntKind.i64.wrap (IntKind.i64.wrap (IntKind.i64.wrap (bits BinOp.and IntKind.u16 (a.fdiv (32 : Int)) (31 : Int)) + IntKind.i64.wrap ((IntKind.i64.wrap
      (IntKind.i64.wrap ((31 : Int) - IntKind.i64.wrap (bits BinOp.and IntKind.u16 (a.fdiv (32 : Int)) (31 : Int))) * if (16 : Int) < IntKind.i64.wrap (bits BinOp.and
      IntKind.u16 b (31 : Int)) then (16 : Int) else IntKind.i64.wrap (bits BinOp.and IntKind.u16 b (31 : Int)))).tdiv (16 : Int))) * (32 : Int)))) (IntKind.i64.wrap
      (IntKind.i64.wrap (IntKind.i64.wrap (bits BinOp.and IntKind.u16 (a.fdiv (1024 : Int)) (31 : Int)) + IntKind.i64.wrap ((IntKind.i64.wrap (IntKind.i64.wrap ((31 : Int) -
      IntKind.i64.wrap (bits BinOp.and IntKind.u16 (a.fdiv (1024 : Int)) (31 : Int))) * if (16 : Int) < IntKind.i64.wrap (bits BinOp.and IntKind.u16 b (31 : Int)) then (16 :
      Int) else IntKind.i64.wrap (bits BinOp.and IntKind.u16 b (31 : Int)))).tdiv (16 : Int))) * (1024 : Int)))) = brF a b d)))) := by kernel_rfl
set_option maxRecDepth 100000 in
theorem bt_c (E : World) (l1 l2 l3 : Bool) (a : Int) (b : Int) (d : Bool) (s : SW) : CallTree (pe E) 17 [.c (.i l1 .u16 a), .c (.i l2 .u16 b), .c (.b l3 d)] s (.leaf (.c (.i false .u16 (brF a b d)), s)) := by
  refine CallTree.args (vs' := [.c (.i false .u16 a), .c (.i false .u16 b), .c (.b false d)]) ⟨⟨rfl, rfl⟩, ⟨rfl, rfl⟩, rfl⟩ ?_
  exact pure_contractH (fnTree_sound (P := pe E) orcNone_ok tab_ok tab_sz mixed 20000 Try.func17 (by decide) [.c (.i false .u16 a), .c (.i false .u16 b), .c (.b false d)] []) (by simp [SV.ok, C.ok, okL]) (v := .c (.i false .u16 (brF a b d))) rfl ⟨by
    rw [bt_p]
    simp only [k0, g32, g1024]
    have e1 : ∀ x : Int, (if 16 < x % 32 then (16 : Int) else x % 32) = n16 x := fun _ => rfl
    rw [e1]
    obtain ⟨n0, n1⟩ := n16_b b
    have hb' : ∀ (d : Bool) (x : Int), 0 ≤ br d (x % 32) (n16 b) ∧ br d (x % 32) (n16 b) ≤ 31 := fun d x => br_b d _ _ (hb x).1 (hb x).2 n0 n1
    cases d <;> simp only [Bool.true_eq_false, Bool.false_eq_true, false_implies, true_implies, true_and, and_true]
    · rw [brl _ _ (hb a).1 (hb a).2 n0 n1, brl _ _ (hb (a / 32)).1 (hb (a / 32)).2 n0 n1, brl _ _ (hb (a / 1024)).1 (hb (a / 1024)).2 n0 n1, jn _ _ _ (hb' _ _).1 (hb' _ _).2 (hb' _ _).1 (hb' _ _).2 (hb' _ _).1 (hb' _ _).2]
      rfl
    · rw [brd _ _ (hb a).1 (hb a).2 n0 n1, brd _ _ (hb (a / 32)).1 (hb (a / 32)).2 n0 n1, brd _ _ (hb (a / 1024)).1 (hb (a / 1024)).2 n0 n1, jn _ _ _ (hb' _ _).1 (hb' _ _).2 (hb' _ _).1 (hb' _ _).2 (hb' _ _).1 (hb' _ _).2]
      rfl⟩ s
theorem rbt_p (E : World) (a : Int) (b : Int) (d : Bool) :
    (conP (.c (.i false .u16 (brF a b d))) (fnTree (pe E) orcNone (tabL fns) 20000 Try.f18 [.c (.i false .u16 a), .c (.i false .u16 b), .c (.b false d)] [])) =
    (IntKind.u16 = IntKind.u16 ∧ IntKind.u16.wrap (IntKind.i64.wrap (IntKind.i64.wrap ((32 : Int) * IntKind.i64.wrap (IntKind.i64.wrap ((32 : Int) * IntKind.i64.wrap ((0 : Int)
      + bif d then IntKind.i64.wrap (((IntKind.i64.wrap a).fdiv (1024 : Int)).tmod (32 : Int) - IntKind.i64.wrap ((IntKind.i64.wrap (((IntKind.i64.wrap a).fdiv (1024 :
      Int)).tmod (32 : Int) * if IntKind.i64.wrap (b.tmod (32 : Int)) < (16 : Int) then IntKind.i64.wrap (b.tmod (32 : Int)) else (16 : Int))).tdiv (16 : Int))) else
      IntKind.i64.wrap (((IntKind.i64.wrap a).fdiv (1024 : Int)).tmod (32 : Int) + IntKind.i64.wrap ((IntKind.i64.wrap (IntKind.i64.wrap ((31 : Int) - ((IntKind.i64.wrap a).fdiv
      (1024 : Int)).tmod (32 : Int)) * if IntKind.i64.wrap (b.tmod (32 : Int)) < (16 : Int) then IntKind.i64.wrap (b.tmod (32 : Int)) else (16 : Int))).tdiv (16 : Int))))) + bif
      d then IntKind.i64.wrap (((IntKind.i64.wrap a).fdiv (32 : Int)).tmod (32 : Int) - IntKind.i64.wrap ((IntKind.i64.wrap (((IntKind.i64.wrap a).fdiv (32 : Int)).tmod (32 :
      Int) * if IntKind.i64.wrap (b.tmod (32 : Int)) < (16 : Int) then IntKind.i64.wrap (b.tmod (32 : Int)) else (16 : Int))).tdiv (16 : Int))) else IntKind.i64.wrap
      (((IntKind.i64.wrap a).fdiv (32 : Int)).tmod (32 : Int) + IntKind.i64.wrap ((IntKind.i64.wrap (IntKind.i64.wrap ((31 : Int) - ((IntKind.i64.wrap a).fdiv (32 : Int)).tmod
      (32 : Int)) * if IntKind.i64.wrap (b.tmod (32 : Int)) < (16 : Int) then IntKind.i64.wrap (b.tmod (32 : Int)) else (16 : Int))).tdiv (16 : Int))))) + bif d then
      IntKind.i64.wrap (((IntKind.i64.wrap a).fdiv (1 : Int)).tmod (32 : Int) - IntKind.i64.wrap ((IntKind.i64.wrap (((IntKind.i64.wrap a).fdiv (1 : Int)).tmod (32 : Int) * if
      IntKind.i64.wrap (b.tmod (32 : Int)) < (16 : Int) then IntKind.i64.wrap (b.tmod (32 : Int)) else (16 : Int))).tdiv (16 : Int))) else IntKind.i64.wrap (((IntKind.i64.wrap
      a).fdiv (1 : Int)).tmod (32 : Int) + IntKind.i64.wrap ((IntKind.i64.wrap (IntKind.i64.wrap ((31 : Int) - ((IntKind.i64.wrap a).fdiv (1 : Int)).tmod (32 : Int)) * if
      IntKind.i64.wrap (b.tmod (32 : Int)) < (16 : Int) then IntKind.i64.wrap (b.tmod (32 : Int)) else (16 : Int))).tdiv (16 : Int))))) = brF a b d) := by kernel_rfl
set_option maxRecDepth 100000 in
theorem rbt_c (E : World) (l1 l2 l3 : Bool) (a : Int) (b : Int) (d : Bool) (s : SW) (ha : (u16b a) = true) (hb2 : (u16b b) = true) : CallTree (pe E) 18 [.c (.i l1 .u16 a), .c (.i l2 .u16 b), .c (.b l3 d)] s (.leaf (.c (.i false .u16 (brF a b d)), s)) := by
  refine CallTree.args (vs' := [.c (.i false .u16 a), .c (.i false .u16 b), .c (.b false d)]) ⟨⟨rfl, rfl⟩, ⟨rfl, rfl⟩, rfl⟩ ?_
  exact pure_contractH (fnTree_sound (P := pe E) orcNone_ok tab_ok tab_sz mixed 20000 Try.func18 (by decide) [.c (.i false .u16 a), .c (.i false .u16 b), .c (.b false d)] []) (by simp [SV.ok, C.ok, okL]) (v := .c (.i false .u16 (brF a b d))) rfl ⟨by
    rw [rbt_p]; rw [u16b_iff] at ha hb2
    obtain ⟨a1, a2, a3⟩ := pr a 0 ha.1 ha.2
    rw [a1, a2, a3, n16r _ hb2.1]
    obtain ⟨n0, n1⟩ := n16_b b
    have hb' : ∀ (d : Bool) (x : Int), 0 ≤ br d (x % 32) (n16 b) ∧ br d (x % 32) (n16 b) ≤ 31 := fun d x => br_b d _ _ (hb x).1 (hb x).2 n0 n1
    rw [brl _ _ (hb a).1 (hb a).2 n0 n1, brl _ _ (hb (a / 32)).1 (hb (a / 32)).2 n0 n1, brl _ _ (hb (a / 1024)).1 (hb (a / 1024)).2 n0 n1, brd _ _ (hb a).1 (hb a).2 n0 n1, brd _ _ (hb (a / 32)).1 (hb (a / 32)).2 n0 n1, brd _ _ (hb (a / 1024)).1 (hb (a / 1024)).2 n0 n1]
    have hc : ∀ x : Int, (bif d then br true x (n16 b) else br false x (n16 b)) = br d x (n16 b) := by intro x; cases d <;> rfl
    rw [hc, hc, hc, jr _ _ _ (hb' _ _).1 (hb' _ _).2 (hb' _ _).1 (hb' _ _).2 (hb' _ _).1 (hb' _ _).2]
    first | exact ⟨rfl, rfl⟩ | exact ⟨trivial, rfl⟩ | rfl⟩ s
noncomputable def orcS (E : World) : Orc := fun g vs s => match g, vs with
  | 28, [.c (.i _ .u16 a), .c (.i _ .i64 b)] => some (.need (u16b a) (.leaf (.c (.b false (wF a b)), s)))
  | 29, [.c (.i _ .i64 b), .c (.i _ .u16 a)] => some (.need (u16b a) (.leaf (.c (.b false (wF a b)), s)))
  | 15, [.c (.i _ .u16 a), .c (.i _ .u16 b), .c (.i _ .u16 o)] => some (.leaf (.c (.i false .u16 (alF a b o)), s))
  | 16, [.c (.i _ .u16 a), .c (.i _ .u16 b), .c (.i _ .u16 o)] => some (.need (u16b a) (.need (u16b b) (.need (u16b o) (.leaf (.c (.i false .u16 (alF a b o)), s)))))
  | 17, [.c (.i _ .u16 a), .c (.i _ .u16 b), .c (.b _ d)] => some (.leaf (.c (.i false .u16 (brF a b d)), s))
  | 18, [.c (.i _ .u16 a), .c (.i _ .u16 b), .c (.b _ d)] => some (.need (u16b a) (.need (u16b b) (.leaf (.c (.i false .u16 (brF a b d)), s))))
  | g, vs => (orcA E) g vs s
theorem orcS_ok {E : World} : OrcOK (pe E) (orcS E) := by
  intro g vs s t h
  unfold orcS at h
  split at h
  · cases h
    exact CallTree.need fun h => wi_c E _ _ _ _ s h
  · cases h
    exact CallTree.need fun h => rwi_c E _ _ _ _ s h
  · cases h
    exact al_c E _ _ _ _ _ _ s
  · cases h
    exact CallTree.need fun ha => CallTree.need fun hb2 => CallTree.need fun ho => ral_c E _ _ _ _ _ _ s ha hb2 ho
  · cases h
    exact bt_c E _ _ _ _ _ _ s
  · cases h
    exact CallTree.need fun ha => CallTree.need fun hb2 => rbt_c E _ _ _ _ _ _ s ha hb2
  · exact orcA_ok _ _ _ _ h
end Go.Proofs.Ytdkegheacceecaa

