import Derived.Test.YtkgpcdnlbgmglaaRows
import Derived.Test.YtkgpcdnlbgmglaaEw
set_option linter.unusedVariables false
set_option linter.unusedSimpArgs false
namespace Go.Proofs.Ytkgpcdnlbgmglaa
open Go Go.Proofs Go.Proofs.Ytkgpcdnlbgmglaa.Ev

noncomputable def fns : List (FuncId × Func) := [(3, Try.f3), (4, Try.f4), (5, Try.f5), (6, Try.f6), (7, Try.f7), (8, Try.f8), (9, Try.f9), (10, Try.f10), (11, Try.f11), (12, Try.f12), (13, Try.f13), (14, Try.f14), (15, Try.f15), (16, Try.f16), (17, Try.f17), (18, Try.f18), (19, Try.f19), (20, Try.f20), (21, Try.f21), (22, Try.f22), (23, Try.f23), (24, Try.f24), (25, Try.f25), (26, Try.f26), (27, Try.f27), (28, Try.f28), (29, Try.f29), (30, Try.f30), (31, Try.f31), (32, Try.f32), (33, Try.f33), (34, Try.f34), (35, Try.f35), (36, Try.f36), (37, Try.f37), (38, Try.f38)]
theorem fns_ok : ∀ p, p ∈ fns → FnOK Try.prog p :=
  fn_cons ⟨Try.func3, by decide, rfl, by decide⟩ <|
  fn_cons ⟨Try.func4, by decide, rfl, by decide⟩ <|
  fn_cons ⟨Try.func5, by decide, rfl, by decide⟩ <|
  fn_cons ⟨Try.func6, by decide, rfl, by decide⟩ <|
  fn_cons ⟨Try.func7, by decide, rfl, by decide⟩ <|
  fn_cons ⟨Try.func8, by decide, rfl, by decide⟩ <|
  fn_cons ⟨Try.func9, by decide, rfl, by decide⟩ <|
  fn_cons ⟨Try.func10, by decide, rfl, by decide⟩ <|
  fn_cons ⟨Try.func11, by decide, rfl, by decide⟩ <|
  fn_cons ⟨Try.func12, by decide, rfl, by decide⟩ <|
  fn_cons ⟨Try.func13, by decide, rfl, by decide⟩ <|
  fn_cons ⟨Try.func14, by decide, rfl, by decide⟩ <|
  fn_cons ⟨Try.func15, by decide, rfl, by decide⟩ <|
  fn_cons ⟨Try.func16, by decide, rfl, by decide⟩ <|
  fn_cons ⟨Try.func17, by decide, rfl, by decide⟩ <|
  fn_cons ⟨Try.func18, by decide, rfl, by decide⟩ <|
  fn_cons ⟨Try.func19, by decide, rfl, by decide⟩ <|
  fn_cons ⟨Try.func20, by decide, rfl, by decide⟩ <|
  fn_cons ⟨Try.func21, by decide, rfl, by decide⟩ <|
  fn_cons ⟨Try.func22, by decide, rfl, by decide⟩ <|
  fn_cons ⟨Try.func23, by decide, rfl, by decide⟩ <|
  fn_cons ⟨Try.func24, by decide, rfl, by decide⟩ <|
  fn_cons ⟨Try.func25, by decide, rfl, by decide⟩ <|
  fn_cons ⟨Try.func26, by decide, rfl, by decide⟩ <|
  fn_cons ⟨Try.func27, by decide, rfl, by decide⟩ <|
  fn_cons ⟨Try.func28, by decide, rfl, by decide⟩ <|
  fn_cons ⟨Try.func29, by decide, rfl, by decide⟩ <|
  fn_cons ⟨Try.func30, by decide, rfl, by decide⟩ <|
  fn_cons ⟨Try.func31, by decide, rfl, by decide⟩ <|
  fn_cons ⟨Try.func32, by decide, rfl, by decide⟩ <|
  fn_cons ⟨Try.func33, by decide, rfl, by decide⟩ <|
  fn_cons ⟨Try.func34, by decide, rfl, by decide⟩ <|
  fn_cons ⟨Try.func35, by decide, rfl, by decide⟩ <|
  fn_cons ⟨Try.func36, by decide, rfl, by decide⟩ <|
  fn_cons ⟨Try.func37, by decide, rfl, by decide⟩ <|
  fn_cons ⟨Try.func38, by decide, rfl, by decide⟩ <| fn_nil
theorem tab_ok : TabOK Try.prog (tabL fns) := tabL_ok fns_ok
theorem tab_sz : ∀ g fn, tabL fns g = some fn → fn.ntmps < 4095 := tabL_sz fns_ok
theorem mixed : Try.prog.follows .mixedOrders = true := by kernel_rfl


def u32 (x : Int) : Bool := decide (0 ≤ x ∧ x < 4294967296)
theorem u32_iff (x : Int) : u32 x = true ↔ 0 ≤ x ∧ x < 4294967296 := by simp [u32]
def fB (x k : Int) : Bool := decide (x / k % 2 = 1)
def bv (b : Bool) (k : Int) : Int := if b then k else 0
def wV (x : Int) (n z c v : Bool) : Int := x % 268435456 + bv v 268435456 + bv c 536870912 + bv z 1073741824 + bv n 2147483648
theorem awake_p  :
    (conP (.c (.b true true)) (fnTree Try.prog orcNone (tabL fns) 20000 Try.f8 [] [])) =
    (true = true) := by kernel_rfl
theorem fl_p (x : Int) :
    (conP (.a [.b false (fB x 2147483648), .b false (fB x 1073741824), .b false (fB x 536870912), .b false (fB x 268435456)]) (fnTree Try.prog orcNone (tabL fns) 1000 Try.f26 [.c (.i false .u32 x)] [])) =
    ((bits BinOp.and IntKind.u32 (x.fdiv (2147483648 : Int)) (1 : Int) != (0 : Int)) = fB x (2147483648 : Int) ∧ (bits BinOp.and IntKind.u32 (x.fdiv (1073741824 : Int)) (1 :
      Int) != (0 : Int)) = fB x (1073741824 : Int) ∧ (bits BinOp.and IntKind.u32 (x.fdiv (536870912 : Int)) (1 : Int) != (0 : Int)) = fB x (536870912 : Int) ∧ (bits BinOp.and
      IntKind.u32 (x.fdiv (268435456 : Int)) (1 : Int) != (0 : Int)) = fB x (268435456 : Int)) := by kernel_rfl
theorem rfl_p (x : Int) :
    (conP (.a [.b false (fB x 2147483648), .b false (fB x 1073741824), .b false (fB x 536870912), .b false (fB x 268435456)]) (fnTree Try.prog orcNone (tabL fns) 1000 Try.f31 [.c (.i false .u32 x)] [])) =
    (((x.fdiv (2147483648 : Int)).tmod (2 : Int) == (1 : Int)) = fB x (2147483648 : Int) ∧ ((x.fdiv (1073741824 : Int)).tmod (2 : Int) == (1 : Int)) = fB x (1073741824 : Int) ∧
      ((x.fdiv (536870912 : Int)).tmod (2 : Int) == (1 : Int)) = fB x (536870912 : Int) ∧ ((x.fdiv (268435456 : Int)).tmod (2 : Int) == (1 : Int)) = fB x (268435456 : Int)) := by kernel_rfl
theorem wi_p (x : Int) (n z c v : Bool) :
    (conP (.c (.i false .u32 (wV x n z c v))) (fnTree Try.prog orcNone (tabL fns) 1000 Try.f27 [.c (.i false .u32 x), .a [.b false n, .b false z, .b false c, .b false v]] [])) =
    ((v = true → (c = true → (z = true → (n = true → IntKind.u32 = IntKind.u32 ∧ bits BinOp.or IntKind.u32 (bits BinOp.or IntKind.u32 (bits BinOp.or IntKind.u32 (bits BinOp.or
      IntKind.u32 (bits BinOp.and IntKind.u32 x (268435455 : Int)) (268435456 : Int)) (536870912 : Int)) (1073741824 : Int)) (2147483648 : Int) = wV x n z c v) ∧ (n = false →
      IntKind.u32 = IntKind.u32 ∧ bits BinOp.or IntKind.u32 (bits BinOp.or IntKind.u32 (bits BinOp.or IntKind.u32 (bits BinOp.and IntKind.u32 x (268435455 : Int)) (268435456 :
      Int)) (536870912 : Int)) (1073741824 : Int) = wV x n z c v)) ∧ (z = false → (n = true → IntKind.u32 = IntKind.u32 ∧ bits BinOp.or IntKind.u32 (bits BinOp.or IntKind.u32
      (bits BinOp.or IntKind.u32 (bits BinOp.and IntKind.u32 x (268435455 : Int)) (268435456 : Int)) (536870912 : Int)) (2147483648 : Int) = wV x n z c v) ∧ (n = false →
      IntKind.u32 = IntKind.u32 ∧ bits BinOp.or IntKind.u32 (bits BinOp.or IntKind.u32 (bits BinOp.and IntKind.u32 x (268435455 : Int)) (268435456 : Int)) (536870912 : Int) = wV
      x n z c v))) ∧ (c = false → (z = true → (n = true → IntKind.u32 = IntKind.u32 ∧ bits BinOp.or IntKind.u32 (bits BinOp.or IntKind.u32 (bits BinOp.or IntKind.u32 (bits
      BinOp.and IntKind.u32 x (268435455 : Int)) (268435456 : Int)) (1073741824 : Int)) (2147483648 : Int) = wV x n z c v) ∧ (n = false → IntKind.u32 = IntKind.u32 ∧ bits
      BinOp.or IntKind.u32 (bits BinOp.or IntKind.u32 (bits BinOp.and IntKind.u32 x (268435455 : Int)) (268435456 : Int)) (1073741824 : Int) = wV x n z c v)) ∧ (z = false → (n =
      true → IntKind.u32 = IntKind.u32 ∧ bits BinOp.or IntKind.u32 (bits BinOp.or IntKind.u32 (bits BinOp.and IntKind.u32 x (268435455 : Int)) (268435456 : Int)) (2147483648 :
      Int) = wV x n z c v) ∧ (n = false → IntKind.u32 = IntKind.u32 ∧ bits BinOp.or IntKind.u32 (bits BinOp.and IntKind.u32 x (268435455 : Int)) (268435456 : Int) = wV x n z c
      v)))) ∧ (v = false → (c = true → (z = true → (n = true → IntKind.u32 = IntKind.u32 ∧ bits BinOp.or IntKind.u32 (bits BinOp.or IntKind.u32 (bits BinOp.or IntKind.u32 (bits
      BinOp.and IntKind.u32 x (268435455 : Int)) (536870912 : Int)) (1073741824 : Int)) (2147483648 : Int) = wV x n z c v) ∧ (n = false → IntKind.u32 = IntKind.u32 ∧ bits
      BinOp.or IntKind.u32 (bits BinOp.or IntKind.u32 (bits BinOp.and IntKind.u32 x (268435455 : Int)) (536870912 : Int)) (1073741824 : Int) = wV x n z c v)) ∧ (z = false → (n =
      true → IntKind.u32 = IntKind.u32 ∧ bits BinOp.or IntKind.u32 (bits BinOp.or IntKind.u32 (bits BinOp.and IntKind.u32 x (268435455 : Int)) (536870912 : Int)) (2147483648 :
      Int) = wV x n z c v) ∧ (n = false → IntKind.u32 = IntKind.u32 ∧ bits BinOp.or IntKind.u32 (bits BinOp.and IntKind.u32 x (268435455 : Int)) (536870912 : Int) = wV x n z c
      v))) ∧ (c = false → (z = true → (n = true → IntKind.u32 = IntKind.u32 ∧ bits BinOp.or IntKind.u32 (bits BinOp.or IntKind.u32 (bits BinOp.and IntKind.u32 x (268435455 :
      Int)) (1073741824 : Int)) (2147483648 : Int) = wV x n z c v) ∧ (n = false → IntKind.u32 = IntKind.u32 ∧ bits BinOp.or IntKind.u32 (bits BinOp.and IntKind.u32 x (268435455
      : Int)) (1073741824 : Int) = wV x n z c v)) ∧ (z = false → (n = true → IntKind.u32 = IntKind.u32 ∧ bits BinOp.or IntKind.u32 (bits BinOp.and IntKind.u32 x (268435455 :
      Int)) (2147483648 : Int) = wV x n z c v) ∧ (n = false → IntKind.u32 = IntKind.u32 ∧ bits BinOp.and IntKind.u32 x (268435455 : Int) = wV x n z c v))))) := by kernel_rfl
theorem rwi_p (x : Int) (n z c v : Bool) :
    (conP (.c (.i false .u32 (wV x n z c v))) (fnTree Try.prog orcNone (tabL fns) 1000 Try.f32 [.c (.i false .u32 x), .a [.b false n, .b false z, .b false c, .b false v]] [])) =
    ((n = true → (z = true → (c = true → (v = true → IntKind.u32 = IntKind.u32 ∧ IntKind.u32.wrap (IntKind.u32.wrap (IntKind.u32.wrap (IntKind.u32.wrap (x.tmod (268435456 :
      Int) + (2147483648 : Int)) + (1073741824 : Int)) + (536870912 : Int)) + (268435456 : Int)) = wV x n z c v) ∧ (v = false → IntKind.u32 = IntKind.u32 ∧ IntKind.u32.wrap
      (IntKind.u32.wrap (IntKind.u32.wrap (x.tmod (268435456 : Int) + (2147483648 : Int)) + (1073741824 : Int)) + (536870912 : Int)) = wV x n z c v)) ∧ (c = false → (v = true →
      IntKind.u32 = IntKind.u32 ∧ IntKind.u32.wrap (IntKind.u32.wrap (IntKind.u32.wrap (x.tmod (268435456 : Int) + (2147483648 : Int)) + (1073741824 : Int)) + (268435456 : Int))
      = wV x n z c v) ∧ (v = false → IntKind.u32 = IntKind.u32 ∧ IntKind.u32.wrap (IntKind.u32.wrap (x.tmod (268435456 : Int) + (2147483648 : Int)) + (1073741824 : Int)) = wV x
      n z c v))) ∧ (z = false → (c = true → (v = true → IntKind.u32 = IntKind.u32 ∧ IntKind.u32.wrap (IntKind.u32.wrap (IntKind.u32.wrap (x.tmod (268435456 : Int) + (2147483648
      : Int)) + (536870912 : Int)) + (268435456 : Int)) = wV x n z c v) ∧ (v = false → IntKind.u32 = IntKind.u32 ∧ IntKind.u32.wrap (IntKind.u32.wrap (x.tmod (268435456 : Int) +
      (2147483648 : Int)) + (536870912 : Int)) = wV x n z c v)) ∧ (c = false → (v = true → IntKind.u32 = IntKind.u32 ∧ IntKind.u32.wrap (IntKind.u32.wrap (x.tmod (268435456 :
      Int) + (2147483648 : Int)) + (268435456 : Int)) = wV x n z c v) ∧ (v = false → IntKind.u32 = IntKind.u32 ∧ IntKind.u32.wrap (x.tmod (268435456 : Int) + (2147483648 : Int))
      = wV x n z c v)))) ∧ (n = false → (z = true → (c = true → (v = true → IntKind.u32 = IntKind.u32 ∧ IntKind.u32.wrap (IntKind.u32.wrap (IntKind.u32.wrap (x.tmod (268435456 :
      Int) + (1073741824 : Int)) + (536870912 : Int)) + (268435456 : Int)) = wV x n z c v) ∧ (v = false → IntKind.u32 = IntKind.u32 ∧ IntKind.u32.wrap (IntKind.u32.wrap (x.tmod
      (268435456 : Int) + (1073741824 : Int)) + (536870912 : Int)) = wV x n z c v)) ∧ (c = false → (v = true → IntKind.u32 = IntKind.u32 ∧ IntKind.u32.wrap (IntKind.u32.wrap
      (x.tmod (268435456 : Int) + (1073741824 : Int)) + (268435456 : Int)) = wV x n z c v) ∧ (v = false → IntKind.u32 = IntKind.u32 ∧ IntKind.u32.wrap (x.tmod (268435456 : Int)
      + (1073741824 : Int)) = wV x n z c v))) ∧ (z = false → (c = true → (v = true → IntKind.u32 = IntKind.u32 ∧ IntKind.u32.wrap (IntKind.u32.wrap (x.tmod (268435456 : Int) +
      (536870912 : Int)) + (268435456 : Int)) = wV x n z c v) ∧ (v = false → IntKind.u32 = IntKind.u32 ∧ IntKind.u32.wrap (x.tmod (268435456 : Int) + (536870912 : Int)) = wV x n
      z c v)) ∧ (c = false → (v = true → IntKind.u32 = IntKind.u32 ∧ IntKind.u32.wrap (x.tmod (268435456 : Int) + (268435456 : Int)) = wV x n z c v) ∧ (v = false → IntKind.u32 =
      IntKind.u32 ∧ x.tmod (268435456 : Int) = wV x n z c v))))) := by kernel_rfl
theorem orbit (k : Nat) (x : Int) (h0 : 0 ≤ x) (hk : k < 32) (h1 : x < ((2 ^ k : Nat) : Int)) : bits .or .u32 x ((2 ^ k : Nat) : Int) = x + ((2 ^ k : Nat) : Int) := by
  obtain ⟨n, rfl⟩ := Int.eq_ofNat_of_zero_le h0
  have hn : n < 2 ^ k := by exact_mod_cast h1
  have hp : 2 ^ k < 2 ^ 32 := Nat.pow_lt_pow_right (by decide) hk
  have e := Nat.two_pow_add_eq_or_of_lt hn 1
  rw [bits_or_n .u32 rfl _ _ (by simp only [IntKind.bits]; omega) (by simp only [IntKind.bits]; omega), Nat.or_comm]
  rw [Nat.mul_one] at e
  rw [← e]; omega
theorem o28 (x : Int) (h0 : 0 ≤ x) (h1 : x < 268435456) : bits .or .u32 x 268435456 = x + 268435456 := orbit 28 x h0 (by decide) h1
theorem o29 (x : Int) (h0 : 0 ≤ x) (h1 : x < 536870912) : bits .or .u32 x 536870912 = x + 536870912 := orbit 29 x h0 (by decide) h1
theorem o30 (x : Int) (h0 : 0 ≤ x) (h1 : x < 1073741824) : bits .or .u32 x 1073741824 = x + 1073741824 := orbit 30 x h0 (by decide) h1
theorem o31 (x : Int) (h0 : 0 ≤ x) (h1 : x < 2147483648) : bits .or .u32 x 2147483648 = x + 2147483648 := orbit 31 x h0 (by decide) h1
theorem fl_ok (x : Int) (hx : u32 x = true) : conP (.a [.b false (fB x 2147483648), .b false (fB x 1073741824), .b false (fB x 536870912), .b false (fB x 268435456)]) (fnTree Try.prog orcNone (tabL fns) 1000 Try.f26 [.c (.i false .u32 x)] []) := by
  rw [fl_p]
  rw [u32_iff] at hx
  simp (disch := first | decide | omega) only [and_m1, fdiv_lit, bne0, fB, ne_eq, decide_eq_decide]
  refine ⟨?_, ?_, ?_, ?_⟩ <;> omega
theorem rfl_ok (x : Int) (hx : u32 x = true) : conP (.a [.b false (fB x 2147483648), .b false (fB x 1073741824), .b false (fB x 536870912), .b false (fB x 268435456)]) (fnTree Try.prog orcNone (tabL fns) 1000 Try.f31 [.c (.i false .u32 x)] []) := by
  rw [rfl_p]
  rw [u32_iff] at hx
  simp (disch := first | decide | omega) only [and_m1, fdiv_lit, tmod_n, tdiv_n, wu32_in, wi64_in, beqd, fB, ne_eq, decide_eq_decide]
  first | done | (refine ⟨?_, ?_, ?_, ?_⟩ <;> first | rfl | omega | simp)
theorem wi_ok (x : Int) (n z c v : Bool) (hx : u32 x = true) : conP (.c (.i false .u32 (wV x n z c v))) (fnTree Try.prog orcNone (tabL fns) 1000 Try.f27 [.c (.i false .u32 x), .a [.b false n, .b false z, .b false c, .b false v]] []) := by
  rw [wi_p]
  rw [u32_iff] at hx
  rw [and_m28 .u32 x (by decide)]
  unfold wV bv
  have hm : 0 ≤ x % 268435456 ∧ x % 268435456 < 268435456 := by omega
  generalize x % 268435456 = m at *
  cases n <;> cases z <;> cases c <;> cases v <;>
    simp (disch := omega) only [o28, o29, o30, o31, Bool.false_eq_true, Bool.true_eq_false, if_true, if_false, true_implies, false_implies, true_and, and_true, and_self, Int.add_zero]
theorem rwi_ok (x : Int) (n z c v : Bool) (hx : u32 x = true) : conP (.c (.i false .u32 (wV x n z c v))) (fnTree Try.prog orcNone (tabL fns) 1000 Try.f32 [.c (.i false .u32 x), .a [.b false n, .b false z, .b false c, .b false v]] []) := by
  rw [rwi_p]
  rw [u32_iff] at hx
  rw [tmod_n _ _ hx.1]
  unfold wV bv
  have hm : 0 ≤ x % 268435456 ∧ x % 268435456 < 268435456 := by omega
  generalize x % 268435456 = m at *
  cases n <;> cases z <;> cases c <;> cases v <;>
    simp (disch := omega) only [wu32_in, Bool.false_eq_true, Bool.true_eq_false, if_true, if_false, true_implies, false_implies, true_and, and_true, and_self, Int.add_zero] <;> omega
set_option maxRecDepth 100000 in
theorem awake_c (s : SW) : CallTree Try.prog 8 [] s (.leaf (.c (.b true true), s)) := by
  exact pure_contract (fnTree_sound orcNone_ok tab_ok tab_sz mixed 20000 Try.func8 (by decide) [] []) (by simp [SV.ok, C.ok, okL]) (v := .c (.b true true)) rfl (conP_OK _ (by rw [awake_p])) s
set_option maxRecDepth 100000 in
theorem fl_c (l1 : Bool) (x : Int) (s : SW) (hx : (u32 x) = true) : CallTree Try.prog 26 [.c (.i l1 .u32 x)] s (.leaf (.a [.b false (fB x 2147483648), .b false (fB x 1073741824), .b false (fB x 536870912), .b false (fB x 268435456)], s)) := by
  refine CallTree.args (vs' := [.c (.i false .u32 x)]) ⟨rfl, rfl⟩ ?_
  exact pure_contract (fnTree_sound orcNone_ok tab_ok tab_sz mixed 1000 Try.func26 (by decide) [.c (.i false .u32 x)] []) (by simp [SV.ok, C.ok, okL]) (v := .a [.b false (fB x 2147483648), .b false (fB x 1073741824), .b false (fB x 536870912), .b false (fB x 268435456)]) rfl (conP_OK _ (fl_ok x hx)) s
set_option maxRecDepth 100000 in
theorem rfl_c (l1 : Bool) (x : Int) (s : SW) (hx : (u32 x) = true) : CallTree Try.prog 31 [.c (.i l1 .u32 x)] s (.leaf (.a [.b false (fB x 2147483648), .b false (fB x 1073741824), .b false (fB x 536870912), .b false (fB x 268435456)], s)) := by
  refine CallTree.args (vs' := [.c (.i false .u32 x)]) ⟨rfl, rfl⟩ ?_
  exact pure_contract (fnTree_sound orcNone_ok tab_ok tab_sz mixed 1000 Try.func31 (by decide) [.c (.i false .u32 x)] []) (by simp [SV.ok, C.ok, okL]) (v := .a [.b false (fB x 2147483648), .b false (fB x 1073741824), .b false (fB x 536870912), .b false (fB x 268435456)]) rfl (conP_OK _ (rfl_ok x hx)) s
set_option maxRecDepth 100000 in
theorem wi_c (l1 l2 l3 l4 l5 : Bool) (x : Int) (n : Bool) (z : Bool) (c : Bool) (v : Bool) (s : SW) (hx : (u32 x) = true) : CallTree Try.prog 27 [.c (.i l1 .u32 x), .a [.b l2 n, .b l3 z, .b l4 c, .b l5 v]] s (.leaf (.c (.i false .u32 (wV x n z c v)), s)) := by
  refine CallTree.args (vs' := [.c (.i false .u32 x), .a [.b false n, .b false z, .b false c, .b false v]]) ⟨⟨rfl, rfl⟩, ⟨rfl, rfl, rfl, rfl⟩⟩ ?_
  exact pure_contract (fnTree_sound orcNone_ok tab_ok tab_sz mixed 1000 Try.func27 (by decide) [.c (.i false .u32 x), .a [.b false n, .b false z, .b false c, .b false v]] []) (by simp [SV.ok, C.ok, okL]) (v := .c (.i false .u32 (wV x n z c v))) rfl (conP_OK _ (wi_ok x n z c v hx)) s
set_option maxRecDepth 100000 in
theorem rwi_c (l1 l2 l3 l4 l5 : Bool) (x : Int) (n : Bool) (z : Bool) (c : Bool) (v : Bool) (s : SW) (hx : (u32 x) = true) : CallTree Try.prog 32 [.c (.i l1 .u32 x), .a [.b l2 n, .b l3 z, .b l4 c, .b l5 v]] s (.leaf (.c (.i false .u32 (wV x n z c v)), s)) := by
  refine CallTree.args (vs' := [.c (.i false .u32 x), .a [.b false n, .b false z, .b false c, .b false v]]) ⟨⟨rfl, rfl⟩, ⟨rfl, rfl, rfl, rfl⟩⟩ ?_
  exact pure_contract (fnTree_sound orcNone_ok tab_ok tab_sz mixed 1000 Try.func32 (by decide) [.c (.i false .u32 x), .a [.b false n, .b false z, .b false c, .b false v]] []) (by simp [SV.ok, C.ok, okL]) (v := .c (.i false .u32 (wV x n z c v))) rfl (conP_OK _ (rwi_ok x n z c v hx)) s
def orc1 : Orc := fun g vs s => match g, vs with
  | 8, [] => some (.leaf (.c (.b true true), s))
  | 26, [.c (.i _ .u32 x)] => some (.need (u32 x) (.leaf (.a [.b false (fB x 2147483648), .b false (fB x 1073741824), .b false (fB x 536870912), .b false (fB x 268435456)], s)))
  | 31, [.c (.i _ .u32 x)] => some (.need (u32 x) (.leaf (.a [.b false (fB x 2147483648), .b false (fB x 1073741824), .b false (fB x 536870912), .b false (fB x 268435456)], s)))
  | 27, [.c (.i _ .u32 x), .a [.b _ n, .b _ z, .b _ c, .b _ v]] => some (.need (u32 x) (.leaf (.c (.i false .u32 (wV x n z c v)), s)))
  | 32, [.c (.i _ .u32 x), .a [.b _ n, .b _ z, .b _ c, .b _ v]] => some (.need (u32 x) (.leaf (.c (.i false .u32 (wV x n z c v)), s)))
  | g, vs => none
theorem orc1_ok : OrcOK Try.prog orc1 := by
  intro g vs s t h
  unfold orc1 at h
  split at h
  · cases h
    exact awake_c s
  · cases h
    exact CallTree.need fun hx => fl_c _ _ s hx
  · cases h
    exact CallTree.need fun hx => rfl_c _ _ s hx
  · cases h
    exact CallTree.need fun hx => wi_c _ _ _ _ _ _ _ _ _ _ s hx
  · cases h
    exact CallTree.need fun hx => rwi_c _ _ _ _ _ _ _ _ _ _ s hx
  · cases h

theorem flags_p (x : Int) (n z c v : Bool) :
    (lawP (fnTree Try.prog orc1 (tabL fns) 1000 Try.f6 [.c (.i false .u32 x), .a [.b false n, .b false z, .b false c, .b false v]] [])) =
    (u32 x = true ∧ u32 (wV x n z c v) = true ∧ (false ^^ fB (wV x n z c v) (2147483648 : Int) == n && (fB (wV x n z c v) (1073741824 : Int) == z && (fB (wV x n z c v)
      (536870912 : Int) == c && (fB (wV x n z c v) (268435456 : Int) == v && true)))) = true ∧ (bits BinOp.and IntKind.u32 (wV x n z c v) (268435455 : Int) == bits BinOp.and
      IntKind.u32 x (268435455 : Int)) = true ∧ u32 x = true ∧ u32 x = true ∧ (wV x (fB x (2147483648 : Int)) (fB x (1073741824 : Int)) (fB x (536870912 : Int)) (fB x (268435456
      : Int)) == x) = true ∧ u32 x = true ∧ u32 x = true ∧ (false ^^ fB x (2147483648 : Int) == fB x (2147483648 : Int) && (fB x (1073741824 : Int) == fB x (1073741824 : Int) &&
      (fB x (536870912 : Int) == fB x (536870912 : Int) && (fB x (268435456 : Int) == fB x (268435456 : Int) && true)))) = true ∧ u32 x = true ∧ (wV x n z c v == wV x n z c v) =
      true ∧ true = true) := by kernel_rfl
theorem wV_bd (x : Int) (n z c v : Bool) : 0 ≤ wV x n z c v ∧ wV x n z c v < 4294967296 ∧ wV x n z c v % 268435456 = x % 268435456 := by
  unfold wV bv
  cases n <;> cases z <;> cases c <;> cases v <;> simp only [Bool.false_eq_true, if_true, if_false] <;> omega
theorem wV_fl (x : Int) (n z c v : Bool) : fB (wV x n z c v) 2147483648 = n ∧ fB (wV x n z c v) 1073741824 = z ∧ fB (wV x n z c v) 536870912 = c ∧ fB (wV x n z c v) 268435456 = v := by
  unfold wV bv fB
  cases n <;> cases z <;> cases c <;> cases v <;> simp only [Bool.false_eq_true, if_true, if_false, decide_eq_true_eq, decide_eq_false_iff_not] <;> omega
theorem wV_id (x : Int) (hx : 0 ≤ x ∧ x < 4294967296) : wV x (fB x 2147483648) (fB x 1073741824) (fB x 536870912) (fB x 268435456) = x := by
  unfold wV bv fB
  simp only [decide_eq_true_eq]
  (repeat' split) <;> omega
theorem flags_l (x : Int) (n z c v : Bool) (hx : u32 x = true) : lawP (fnTree Try.prog orc1 (tabL fns) 1000 Try.f6 [.c (.i false .u32 x), .a [.b false n, .b false z, .b false c, .b false v]] []) := by
  rw [flags_p]
  have hb := wV_bd x n z c v
  have hu : u32 (wV x n z c v) = true := by rw [u32_iff]; omega
  obtain ⟨f1, f2, f3, f4⟩ := wV_fl x n z c v
  rw [f1, f2, f3, f4, wV_id x ((u32_iff x).1 hx), and_m28 .u32 _ (by decide), and_m28 .u32 x (by decide), hb.2.2]
  simp [hx, hu]
end Go.Proofs.Ytkgpcdnlbgmglaa

