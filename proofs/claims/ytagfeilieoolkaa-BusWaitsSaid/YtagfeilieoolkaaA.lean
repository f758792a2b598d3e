import Derived.Test.YtagfeilieoolkaaRows
import Derived.Test.YtagfeilieoolkaaEw
set_option linter.unusedVariables false
set_option linter.unusedSimpArgs false
namespace Go.Proofs.Ytagfeilieoolkaa
open Go Go.Proofs Go.Proofs.Ytagfeilieoolkaa.Ev

noncomputable def fns : List (FuncId × Func) := [(3, Try.f3), (4, Try.f4), (5, Try.f5), (6, Try.f6), (7, Try.f7), (8, Try.f8), (9, Try.f9), (10, Try.f10), (11, Try.f11), (12, Try.f12), (13, Try.f13), (14, Try.f14), (15, Try.f15), (16, Try.f16), (17, Try.f17), (18, Try.f18), (19, Try.f19)]
theorem fns_ok : ∀ p, p ∈ fns → FnOK Try.prog p :=
  fn_cons ⟨Try.func3, by decide, rfl, by decide⟩ <|
  fn_cons ⟨Try.func4, by decide, rfl, by decide⟩ <|
  fn_cons ⟨Try.func5, by decide, rfl, by decide⟩ <|
  fn_cons ⟨Try.func6, by decide, rfl, by decide⟩ <|
  fn_cons ⟨Try.func7, by decide, rfl, by decide⟩ <|
  fn_cons ⟨Try.func8, by decide, rfl, by decide⟩ <|
  fn_cons ⟨Try.func9, by decide, rfl, by decide⟩ <|
  fn_cons ⟨Try.func10, by decide, rfl, by decide⟩ <|
  fn_cons ⟨Try.func11, by decide, rfl, by decide⟩ <|
  fn_cons ⟨Try.func12, by decide, rfl, by decide⟩ <|
  fn_cons ⟨Try.func13, by decide, rfl, by decide⟩ <|
  fn_cons ⟨Try.func14, by decide, rfl, by decide⟩ <|
  fn_cons ⟨Try.func15, by decide, rfl, by decide⟩ <|
  fn_cons ⟨Try.func16, by decide, rfl, by decide⟩ <|
  fn_cons ⟨Try.func17, by decide, rfl, by decide⟩ <|
  fn_cons ⟨Try.func18, by decide, rfl, by decide⟩ <|
  fn_cons ⟨Try.func19, by decide, rfl, by decide⟩ <| fn_nil
theorem tab_ok : TabOK Try.prog (tabL fns) := tabL_ok fns_ok
theorem tab_sz : ∀ g fn, tabL fns g = some fn → fn.ntmps < 4095 := tabL_sz fns_ok
theorem mixed : Try.prog.follows .mixedOrders = true := by kernel_rfl


def mR (a : Int) : Int :=
  if a / 16777216 = 0 then (if a % 16777216 < 16384 then 9 else 0) else if a / 16777216 = 2 then 1 else if a / 16777216 = 3 then 2 else if a / 16777216 = 4 then (if a % 16777216 < 1024 then 3 else 0) else
  if a / 16777216 = 5 then 4 else if a / 16777216 = 6 then 5 else if a / 16777216 = 7 then 6 else if 8 ≤ a / 16777216 ∧ a / 16777216 ≤ 13 then 7 else if 14 ≤ a / 16777216 ∧ a / 16777216 ≤ 15 then 8 else 0
def mA (a : Int) : Int :=
  if a / 16777216 = 0 then (if a % 16777216 < 16384 then a % 16777216 else 0) else if a / 16777216 = 2 then a % 262144 else if a / 16777216 = 3 then a % 32768 else if a / 16777216 = 4 then (if a % 16777216 < 1024 then a % 16777216 else 0) else
  if a / 16777216 = 5 then a % 1024 else if a / 16777216 = 6 then (if 98304 ≤ a % 131072 then a % 131072 - 32768 else a % 131072) else if a / 16777216 = 7 then a % 1024 else if 8 ≤ a / 16777216 ∧ a / 16777216 ≤ 13 then a % 33554432 else if 14 ≤ a / 16777216 ∧ a / 16777216 ≤ 15 then a % 65536 else 0
def mapS (a : Int) : SV := .t [.c (.i false .i64 (mR a)), .c (.i false .i64 (mA a))]
def u32 (x : Int) : Bool := decide (0 ≤ x ∧ x < 4294967296)
theorem u32_iff (x : Int) : u32 x = true ↔ 0 ≤ x ∧ x < 4294967296 := by simp [u32]
theorem awake_p  :
    (conP (.c (.b true true)) (fnTree Try.prog orcNone (tabL fns) 1000 Try.f7 [] [])) =
    (true = true) := by kernel_rfl
theorem map_p (a : Int) :
    (conP (mapS a) (fnTree Try.prog orcNone (tabL fns) 1000 Try.f8 [.c (.i false .u32 a)] [])) =
    (((a.fdiv (16777216 : Int) == (0 : Int)) = true → (decide (bits BinOp.and IntKind.u32 a (16777215 : Int) < (16384 : Int)) = true → (IntKind.i64 = IntKind.i64 ∧ (9 : Int) =
      mR a) ∧ IntKind.i64 = IntKind.i64 ∧ IntKind.i64.wrap (bits BinOp.and IntKind.u32 a (16777215 : Int)) = mA a) ∧ (decide (bits BinOp.and IntKind.u32 a (16777215 : Int) <
      (16384 : Int)) = false → (IntKind.i64 = IntKind.i64 ∧ (0 : Int) = mR a) ∧ IntKind.i64 = IntKind.i64 ∧ (0 : Int) = mA a)) ∧ ((a.fdiv (16777216 : Int) == (0 : Int)) = false
      → ((a.fdiv (16777216 : Int) == (2 : Int)) = true → (IntKind.i64 = IntKind.i64 ∧ (1 : Int) = mR a) ∧ IntKind.i64 = IntKind.i64 ∧ IntKind.i64.wrap (a.tmod (262144 : Int)) =
      mA a) ∧ ((a.fdiv (16777216 : Int) == (2 : Int)) = false → ((a.fdiv (16777216 : Int) == (3 : Int)) = true → (IntKind.i64 = IntKind.i64 ∧ (2 : Int) = mR a) ∧ IntKind.i64 =
      IntKind.i64 ∧ IntKind.i64.wrap (a.tmod (32768 : Int)) = mA a) ∧ ((a.fdiv (16777216 : Int) == (3 : Int)) = false → ((a.fdiv (16777216 : Int) == (4 : Int)) = true → (decide
      (bits BinOp.and IntKind.u32 a (16777215 : Int) < (1024 : Int)) = true → (IntKind.i64 = IntKind.i64 ∧ (3 : Int) = mR a) ∧ IntKind.i64 = IntKind.i64 ∧ IntKind.i64.wrap (bits
      BinOp.and IntKind.u32 a (16777215 : Int)) = mA a) ∧ (decide (bits BinOp.and IntKind.u32 a (16777215 : Int) < (1024 : Int)) = false → (IntKind.i64 = IntKind.i64 ∧ (0 : Int)
      = mR a) ∧ IntKind.i64 = IntKind.i64 ∧ (0 : Int) = mA a)) ∧ ((a.fdiv (16777216 : Int) == (4 : Int)) = false → ((a.fdiv (16777216 : Int) == (5 : Int)) = true → (IntKind.i64
      = IntKind.i64 ∧ (4 : Int) = mR a) ∧ IntKind.i64 = IntKind.i64 ∧ IntKind.i64.wrap (a.tmod (1024 : Int)) = mA a) ∧ ((a.fdiv (16777216 : Int) == (5 : Int)) = false → ((a.fdiv
      (16777216 : Int) == (6 : Int)) = true → (decide (a.tmod (131072 : Int) ≥ (98304 : Int)) = true → (IntKind.i64 = IntKind.i64 ∧ (5 : Int) = mR a) ∧ IntKind.i64 = IntKind.i64
      ∧ IntKind.i64.wrap (IntKind.u32.wrap (a.tmod (131072 : Int) - (32768 : Int))) = mA a) ∧ (decide (a.tmod (131072 : Int) ≥ (98304 : Int)) = false → (IntKind.i64 =
      IntKind.i64 ∧ (5 : Int) = mR a) ∧ IntKind.i64 = IntKind.i64 ∧ IntKind.i64.wrap (a.tmod (131072 : Int)) = mA a)) ∧ ((a.fdiv (16777216 : Int) == (6 : Int)) = false →
      ((a.fdiv (16777216 : Int) == (7 : Int)) = true → (IntKind.i64 = IntKind.i64 ∧ (6 : Int) = mR a) ∧ IntKind.i64 = IntKind.i64 ∧ IntKind.i64.wrap (a.tmod (1024 : Int)) = mA
      a) ∧ ((a.fdiv (16777216 : Int) == (7 : Int)) = false → ((a.fdiv (16777216 : Int) == (8 : Int)) = true → (IntKind.i64 = IntKind.i64 ∧ (7 : Int) = mR a) ∧ IntKind.i64 =
      IntKind.i64 ∧ IntKind.i64.wrap (a.tmod (33554432 : Int)) = mA a) ∧ ((a.fdiv (16777216 : Int) == (8 : Int)) = false → ((a.fdiv (16777216 : Int) == (9 : Int)) = true →
      (IntKind.i64 = IntKind.i64 ∧ (7 : Int) = mR a) ∧ IntKind.i64 = IntKind.i64 ∧ IntKind.i64.wrap (a.tmod (33554432 : Int)) = mA a) ∧ ((a.fdiv (16777216 : Int) == (9 : Int)) =
      false → ((a.fdiv (16777216 : Int) == (10 : Int)) = true → (IntKind.i64 = IntKind.i64 ∧ (7 : Int) = mR a) ∧ IntKind.i64 = IntKind.i64 ∧ IntKind.i64.wrap (a.tmod (33554432 :
      Int)) = mA a) ∧ ((a.fdiv (16777216 : Int) == (10 : Int)) = false → ((a.fdiv (16777216 : Int) == (11 : Int)) = true → (IntKind.i64 = IntKind.i64 ∧ (7 : Int) = mR a) ∧
      IntKind.i64 = IntKind.i64 ∧ IntKind.i64.wrap (a.tmod (33554432 : Int)) = mA a) ∧ ((a.fdiv (16777216 : Int) == (11 : Int)) = false → ((a.fdiv (16777216 : Int) == (12 :
      Int)) = true → (IntKind.i64 = IntKind.i64 ∧ (7 : Int) = mR a) ∧ IntKind.i64 = IntKind.i64 ∧ IntKind.i64.wrap (a.tmod (33554432 : Int)) = mA a) ∧ ((a.fdiv (16777216 : Int)
      == (12 : Int)) = false → ((a.fdiv (16777216 : Int) == (13 : Int)) = true → (IntKind.i64 = IntKind.i64 ∧ (7 : Int) = mR a) ∧ IntKind.i64 = IntKind.i64 ∧ IntKind.i64.wrap
      (a.tmod (33554432 : Int)) = mA a) ∧ ((a.fdiv (16777216 : Int) == (13 : Int)) = false → ((a.fdiv (16777216 : Int) == (14 : Int)) = true → (IntKind.i64 = IntKind.i64 ∧ (8 :
      Int) = mR a) ∧ IntKind.i64 = IntKind.i64 ∧ IntKind.i64.wrap (a.tmod (65536 : Int)) = mA a) ∧ ((a.fdiv (16777216 : Int) == (14 : Int)) = false → ((a.fdiv (16777216 : Int)
      == (15 : Int)) = true → (IntKind.i64 = IntKind.i64 ∧ (8 : Int) = mR a) ∧ IntKind.i64 = IntKind.i64 ∧ IntKind.i64.wrap (a.tmod (65536 : Int)) = mA a) ∧ ((a.fdiv (16777216 :
      Int) == (15 : Int)) = false → (IntKind.i64 = IntKind.i64 ∧ (0 : Int) = mR a) ∧ IntKind.i64 = IntKind.i64 ∧ (0 : Int) = mA a)))))))))))))))) := by kernel_rfl
theorem rmap_p (a : Int) :
    (conP (mapS a) (fnTree Try.prog orcNone (tabL fns) 1000 Try.f9 [.c (.i false .u32 a)] [])) =
    (((IntKind.i64.wrap (IntKind.u32.wrap (a.tdiv (16777216 : Int))) == (0 : Int)) = true → (decide (IntKind.i64.wrap (a.tmod (16777216 : Int)) < (16384 : Int)) = true →
      (IntKind.i64 = IntKind.i64 ∧ (9 : Int) = mR a) ∧ IntKind.i64 = IntKind.i64 ∧ IntKind.i64.wrap (a.tmod (16777216 : Int)) = mA a) ∧ (decide (IntKind.i64.wrap (a.tmod
      (16777216 : Int)) < (16384 : Int)) = false → ((IntKind.i64.wrap (IntKind.u32.wrap (a.tdiv (16777216 : Int))) == (2 : Int)) = true → (IntKind.i64 = IntKind.i64 ∧ (1 : Int)
      = mR a) ∧ IntKind.i64 = IntKind.i64 ∧ (IntKind.i64.wrap (a.tmod (16777216 : Int))).tmod (262144 : Int) = mA a) ∧ ((IntKind.i64.wrap (IntKind.u32.wrap (a.tdiv (16777216 :
      Int))) == (2 : Int)) = false → ((IntKind.i64.wrap (IntKind.u32.wrap (a.tdiv (16777216 : Int))) == (3 : Int)) = true → (IntKind.i64 = IntKind.i64 ∧ (2 : Int) = mR a) ∧
      IntKind.i64 = IntKind.i64 ∧ (IntKind.i64.wrap (a.tmod (16777216 : Int))).tmod (32768 : Int) = mA a) ∧ ((IntKind.i64.wrap (IntKind.u32.wrap (a.tdiv (16777216 : Int))) == (3
      : Int)) = false → ((IntKind.i64.wrap (IntKind.u32.wrap (a.tdiv (16777216 : Int))) == (4 : Int)) = true → (decide (IntKind.i64.wrap (a.tmod (16777216 : Int)) < (1024 :
      Int)) = true → (IntKind.i64 = IntKind.i64 ∧ (3 : Int) = mR a) ∧ IntKind.i64 = IntKind.i64 ∧ IntKind.i64.wrap (a.tmod (16777216 : Int)) = mA a) ∧ (decide (IntKind.i64.wrap
      (a.tmod (16777216 : Int)) < (1024 : Int)) = false → ((IntKind.i64.wrap (IntKind.u32.wrap (a.tdiv (16777216 : Int))) == (5 : Int)) = true → (IntKind.i64 = IntKind.i64 ∧ (4
      : Int) = mR a) ∧ IntKind.i64 = IntKind.i64 ∧ (IntKind.i64.wrap (a.tmod (16777216 : Int))).tmod (1024 : Int) = mA a) ∧ ((IntKind.i64.wrap (IntKind.u32.wrap (a.tdiv
      (16777216 : Int))) == (5 : Int)) = false → ((IntKind.i64.wrap (IntKind.u32.wrap (a.tdiv (16777216 : Int))) == (6 : Int)) = true → (decide ((IntKind.i64.wrap (a.tmod
      (16777216 : Int))).tmod (131072 : Int) ≥ (98304 : Int)) = true → (IntKind.i64 = IntKind.i64 ∧ (5 : Int) = mR a) ∧ IntKind.i64 = IntKind.i64 ∧ IntKind.i64.wrap
      ((IntKind.i64.wrap (a.tmod (16777216 : Int))).tmod (131072 : Int) - (32768 : Int)) = mA a) ∧ (decide ((IntKind.i64.wrap (a.tmod (16777216 : Int))).tmod (131072 : Int) ≥
      (98304 : Int)) = false → (IntKind.i64 = IntKind.i64 ∧ (5 : Int) = mR a) ∧ IntKind.i64 = IntKind.i64 ∧ (IntKind.i64.wrap (a.tmod (16777216 : Int))).tmod (131072 : Int) = mA
      a)) ∧ ((IntKind.i64.wrap (IntKind.u32.wrap (a.tdiv (16777216 : Int))) == (6 : Int)) = false → ((IntKind.i64.wrap (IntKind.u32.wrap (a.tdiv (16777216 : Int))) == (7 : Int))
      = true → (IntKind.i64 = IntKind.i64 ∧ (6 : Int) = mR a) ∧ IntKind.i64 = IntKind.i64 ∧ (IntKind.i64.wrap (a.tmod (16777216 : Int))).tmod (1024 : Int) = mA a) ∧
      ((IntKind.i64.wrap (IntKind.u32.wrap (a.tdiv (16777216 : Int))) == (7 : Int)) = false → (decide (IntKind.i64.wrap (IntKind.u32.wrap (a.tdiv (16777216 : Int))) ≥ (8 : Int))
      = true → (decide (IntKind.i64.wrap (IntKind.u32.wrap (a.tdiv (16777216 : Int))) ≤ (13 : Int)) = true → (IntKind.i64 = IntKind.i64 ∧ (7 : Int) = mR a) ∧ IntKind.i64 =
      IntKind.i64 ∧ IntKind.i64.wrap (a.tmod (33554432 : Int)) = mA a) ∧ (decide (IntKind.i64.wrap (IntKind.u32.wrap (a.tdiv (16777216 : Int))) ≤ (13 : Int)) = false →
      ((IntKind.i64.wrap (IntKind.u32.wrap (a.tdiv (16777216 : Int))) == (14 : Int)) = true → (IntKind.i64 = IntKind.i64 ∧ (8 : Int) = mR a) ∧ IntKind.i64 = IntKind.i64 ∧
      (IntKind.i64.wrap (a.tmod (16777216 : Int))).tmod (65536 : Int) = mA a) ∧ ((IntKind.i64.wrap (IntKind.u32.wrap (a.tdiv (16777216 : Int))) == (14 : Int)) = false →
      ((IntKind.i64.wrap (IntKind.u32.wrap (a.tdiv (16777216 : Int))) == (15 : Int)) = true → (IntKind.i64 = IntKind.i64 ∧ (8 : Int) = mR a) ∧ IntKind.i64 = IntKind.i64 ∧
      (IntKind.i64.wrap (a.tmod (16777216 : Int))).tmod (65536 : Int) = mA a) ∧ ((IntKind.i64.wrap (IntKind.u32.wrap (a.tdiv (16777216 : Int))) == (15 : Int)) = false →
      (IntKind.i64 = IntKind.i64 ∧ (0 : Int) = mR a) ∧ IntKind.i64 = IntKind.i64 ∧ (0 : Int) = mA a)))) ∧ (decide (IntKind.i64.wrap (IntKind.u32.wrap (a.tdiv (16777216 : Int)))
      ≥ (8 : Int)) = false → ((IntKind.i64.wrap (IntKind.u32.wrap (a.tdiv (16777216 : Int))) == (14 : Int)) = true → (IntKind.i64 = IntKind.i64 ∧ (8 : Int) = mR a) ∧ IntKind.i64
      = IntKind.i64 ∧ (IntKind.i64.wrap (a.tmod (16777216 : Int))).tmod (65536 : Int) = mA a) ∧ ((IntKind.i64.wrap (IntKind.u32.wrap (a.tdiv (16777216 : Int))) == (14 : Int)) =
      false → ((IntKind.i64.wrap (IntKind.u32.wrap (a.tdiv (16777216 : Int))) == (15 : Int)) = true → (IntKind.i64 = IntKind.i64 ∧ (8 : Int) = mR a) ∧ IntKind.i64 = IntKind.i64
      ∧ (IntKind.i64.wrap (a.tmod (16777216 : Int))).tmod (65536 : Int) = mA a) ∧ ((IntKind.i64.wrap (IntKind.u32.wrap (a.tdiv (16777216 : Int))) == (15 : Int)) = false →
      (IntKind.i64 = IntKind.i64 ∧ (0 : Int) = mR a) ∧ IntKind.i64 = IntKind.i64 ∧ (0 : Int) = mA a)))))))) ∧ ((IntKind.i64.wrap (IntKind.u32.wrap (a.tdiv (16777216 : Int))) ==
      (4 : Int)) = false → ((IntKind.i64.wrap (IntKind.u32.wrap (a.tdiv (16777216 : Int))) == (5 : Int)) = true → (IntKind.i64 = IntKind.i64 ∧ (4 : Int) = mR a) ∧ IntKind.i64 =
      IntKind.i64 ∧ (IntKind.i64.wrap (a.tmod (16777216 : Int))).tmod (1024 : Int) = mA a) ∧ ((IntKind.i64.wrap (IntKind.u32.wrap (a.tdiv (16777216 : Int))) == (5 : Int)) =
      false → ((IntKind.i64.wrap (IntKind.u32.wrap (a.tdiv (16777216 : Int))) == (6 : Int)) = true → (decide ((IntKind.i64.wrap (a.tmod (16777216 : Int))).tmod (131072 : Int) ≥
      (98304 : Int)) = true → (IntKind.i64 = IntKind.i64 ∧ (5 : Int) = mR a) ∧ IntKind.i64 = IntKind.i64 ∧ IntKind.i64.wrap ((IntKind.i64.wrap (a.tmod (16777216 : Int))).tmod
      (131072 : Int) - (32768 : Int)) = mA a) ∧ (decide ((IntKind.i64.wrap (a.tmod (16777216 : Int))).tmod (131072 : Int) ≥ (98304 : Int)) = false → (IntKind.i64 = IntKind.i64 ∧
      (5 : Int) = mR a) ∧ IntKind.i64 = IntKind.i64 ∧ (IntKind.i64.wrap (a.tmod (16777216 : Int))).tmod (131072 : Int) = mA a)) ∧ ((IntKind.i64.wrap (IntKind.u32.wrap (a.tdiv
      (16777216 : Int))) == (6 : Int)) = false → ((IntKind.i64.wrap (IntKind.u32.wrap (a.tdiv (16777216 : Int))) == (7 : Int)) = true → (IntKind.i64 = IntKind.i64 ∧ (6 : Int) =
      mR a) ∧ IntKind.i64 = IntKind.i64 ∧ (IntKind.i64.wrap (a.tmod (16777216 : Int))).tmod (1024 : Int) = mA a) ∧ ((IntKind.i64.wrap (IntKind.u32.wrap (a.tdiv (16777216 :
      Int))) == (7 : Int)) = false → (decide (IntKind.i64.wrap (IntKind.u32.wrap (a.tdiv (16777216 : Int))) ≥ (8 : Int)) = true → (decide (IntKind.i64.wrap (IntKind.u32.wrap
      (a.tdiv (16777216 : Int))) ≤ (13 : Int)) = true → (IntKind.i64 = IntKind.i64 ∧ (7 : Int) = mR a) ∧ IntKind.i64 = IntKind.i64 ∧ IntKind.i64.wrap (a.tmod (33554432 : Int)) =
      mA a) ∧ (decide (IntKind.i64.wrap (IntKind.u32.wrap (a.tdiv (16777216 : Int))) ≤ (13 : Int)) = false → ((IntKind.i64.wrap (IntKind.u32.wrap (a.tdiv (16777216 : Int))) ==
      (14 : Int)) = true → (IntKind.i64 = IntKind.i64 ∧ (8 : Int) = mR a) ∧ IntKind.i64 = IntKind.i64 ∧ (IntKind.i64.wrap (a.tmod (16777216 : Int))).tmod (65536 : Int) = mA a) ∧
      ((IntKind.i64.wrap (IntKind.u32.wrap (a.tdiv (16777216 : Int))) == (14 : Int)) = false → ((IntKind.i64.wrap (IntKind.u32.wrap (a.tdiv (16777216 : Int))) == (15 : Int)) =
      true → (IntKind.i64 = IntKind.i64 ∧ (8 : Int) = mR a) ∧ IntKind.i64 = IntKind.i64 ∧ (IntKind.i64.wrap (a.tmod (16777216 : Int))).tmod (65536 : Int) = mA a) ∧
      ((IntKind.i64.wrap (IntKind.u32.wrap (a.tdiv (16777216 : Int))) == (15 : Int)) = false → (IntKind.i64 = IntKind.i64 ∧ (0 : Int) = mR a) ∧ IntKind.i64 = IntKind.i64 ∧ (0 :
      Int) = mA a)))) ∧ (decide (IntKind.i64.wrap (IntKind.u32.wrap (a.tdiv (16777216 : Int))) ≥ (8 : Int)) = false → ((IntKind.i64.wrap (IntKind.u32.wrap (a.tdiv (16777216 :
      Int))) == (14 : Int)) = true → (IntKind.i64 = IntKind.i64 ∧ (8 : Int) = mR a) ∧ IntKind.i64 = IntKind.i64 ∧ (IntKind.i64.wrap (a.tmod (16777216 : Int))).tmod (65536 : Int)
      = mA a) ∧ ((IntKind.i64.wrap (IntKind.u32.wrap (a.tdiv (16777216 : Int))) == (14 : Int)) = false → ((IntKind.i64.wrap (IntKind.u32.wrap (a.tdiv (16777216 : Int))) == (15 :
      Int)) = true → (IntKind.i64 = IntKind.i64 ∧ (8 : Int) = mR a) ∧ IntKind.i64 = IntKind.i64 ∧ (IntKind.i64.wrap (a.tmod (16777216 : Int))).tmod (65536 : Int) = mA a) ∧
      ((IntKind.i64.wrap (IntKind.u32.wrap (a.tdiv (16777216 : Int))) == (15 : Int)) = false → (IntKind.i64 = IntKind.i64 ∧ (0 : Int) = mR a) ∧ IntKind.i64 = IntKind.i64 ∧ (0 :
      Int) = mA a))))))))))) ∧ ((IntKind.i64.wrap (IntKind.u32.wrap (a.tdiv (16777216 : Int))) == (0 : Int)) = false → ((IntKind.i64.wrap (IntKind.u32.wrap (a.tdiv (16777216 :
      Int))) == (2 : Int)) = true → (IntKind.i64 = IntKind.i64 ∧ (1 : Int) = mR a) ∧ IntKind.i64 = IntKind.i64 ∧ (IntKind.i64.wrap (a.tmod (16777216 : Int))).tmod (262144 : Int)
      = mA a) ∧ ((IntKind.i64.wrap (IntKind.u32.wrap (a.tdiv (16777216 : Int))) == (2 : Int)) = false → ((IntKind.i64.wrap (IntKind.u32.wrap (a.tdiv (16777216 : Int))) == (3 :
      Int)) = true → (IntKind.i64 = IntKind.i64 ∧ (2 : Int) = mR a) ∧ IntKind.i64 = IntKind.i64 ∧ (IntKind.i64.wrap (a.tmod (16777216 : Int))).tmod (32768 : Int) = mA a) ∧
      ((IntKind.i64.wrap (IntKind.u32.wrap (a.tdiv (16777216 : Int))) == (3 : Int)) = false → ((IntKind.i64.wrap (IntKind.u32.wrap (a.tdiv (16777216 : Int))) == (4 : Int)) =
      true → (decide (IntKind.i64.wrap (a.tmod (16777216 : Int)) < (1024 : Int)) = true → (IntKind.i64 = IntKind.i64 ∧ (3 : Int) = mR a) ∧ IntKind.i64 = IntKind.i64 ∧
      IntKind.i64.wrap (a.tmod (16777216 : Int)) = mA a) ∧ (decide (IntKind.i64.wrap (a.tmod (16777216 : Int)) < (1024 : Int)) = false → ((IntKind.i64.wrap (IntKind.u32.wrap
      (a.tdiv (16777216 : Int))) == (5 : Int)) = true → (IntKind.i64 = IntKind.i64 ∧ (4 : Int) = mR a) ∧ IntKind.i64 = IntKind.i64 ∧ (IntKind.i64.wrap (a.tmod (16777216 :
      Int))).tmod (1024 : Int) = mA a) ∧ ((IntKind.i64.wrap (IntKind.u32.wrap (a.tdiv (16777216 : Int))) == (5 : Int)) = false → ((IntKind.i64.wrap (IntKind.u32.wrap (a.tdiv
      (16777216 : Int))) == (6 : Int)) = true → (decide ((IntKind.i64.wrap (a.tmod (16777216 : Int))).tmod (131072 : Int) ≥ (98304 : Int)) = true → (IntKind.i64 = IntKind.i64 ∧
      (5 : Int) = mR a) ∧ IntKind.i64 = IntKind.i64 ∧ IntKind.i64.wrap ((IntKind.i64.wrap (a.tmod (16777216 : Int))).tmod (131072 : Int) - (32768 : Int)) = mA a) ∧ (decide
      ((IntKind.i64.wrap (a.tmod (16777216 : Int))).tmod (131072 : Int) ≥ (98304 : Int)) = false → (IntKind.i64 = IntKind.i64 ∧ (5 : Int) = mR a) ∧ IntKind.i64 = IntKind.i64 ∧
      (IntKind.i64.wrap (a.tmod (16777216 : Int))).tmod (131072 : Int) = mA a)) ∧ ((IntKind.i64.wrap (IntKind.u32.wrap (a.tdiv (16777216 : Int))) == (6 : Int)) = false →
      ((IntKind.i64.wrap (IntKind.u32.wrap (a.tdiv (16777216 : Int))) == (7 : Int)) = true → (IntKind.i64 = IntKind.i64 ∧ (6 : Int) = mR a) ∧ IntKind.i64 = IntKind.i64 ∧
      (IntKind.i64.wrap (a.tmod (16777216 : Int))).tmod (1024 : Int) = mA a) ∧ ((IntKind.i64.wrap (IntKind.u32.wrap (a.tdiv (16777216 : Int))) == (7 : Int)) = false → (decide
      (IntKind.i64.wrap (IntKind.u32.wrap (a.tdiv (16777216 : Int))) ≥ (8 : Int)) = true → (decide (IntKind.i64.wrap (IntKind.u32.wrap (a.tdiv (16777216 : Int))) ≤ (13 : Int)) =
      true → (IntKind.i64 = IntKind.i64 ∧ (7 : Int) = mR a) ∧ IntKind.i64 = IntKind.i64 ∧ IntKind.i64.wrap (a.tmod (33554432 : Int)) = mA a) ∧ (decide (IntKind.i64.wrap
      (IntKind.u32.wrap (a.tdiv (16777216 : Int))) ≤ (13 : Int)) = false → ((IntKind.i64.wrap (IntKind.u32.wrap (a.tdiv (16777216 : Int))) == (14 : Int)) = true → (IntKind.i64 =
      IntKind.i64 ∧ (8 : Int) = mR a) ∧ IntKind.i64 = IntKind.i64 ∧ (IntKind.i64.wrap (a.tmod (16777216 : Int))).tmod (65536 : Int) = mA a) ∧ ((IntKind.i64.wrap
      (IntKind.u32.wrap (a.tdiv (16777216 : Int))) == (14 : Int)) = false → ((IntKind.i64.wrap (IntKind.u32.wrap (a.tdiv (16777216 : Int))) == (15 : Int)) = true → (IntKind.i64
      = IntKind.i64 ∧ (8 : Int) = mR a) ∧ IntKind.i64 = IntKind.i64 ∧ (IntKind.i64.wrap (a.tmod (16777216 : Int))).tmod (65536 : Int) = mA a) ∧ ((IntKind.i64.wrap
      (IntKind.u32.wrap (a.tdiv (16777216 : Int))) == (15 : Int)) = false → (IntKind.i64 = IntKind.i64 ∧ (0 : Int) = mR a) ∧ IntKind.i64 = IntKind.i64 ∧ (0 : Int) = mA a)))) ∧
      (decide (IntKind.i64.wrap (IntKind.u32.wrap (a.tdiv (16777216 : Int))) ≥ (8 : Int)) = false → ((IntKind.i64.wrap (IntKind.u32.wrap (a.tdiv (16777216 : Int))) == (14 :
      Int)) = true → (IntKind.i64 = IntKind.i64 ∧ (8 : Int) = mR a) ∧ IntKind.i64 = IntKind.i64 ∧ (IntKind.i64.wrap (a.tmod (16777216 : Int))).tmod (65536 : Int) = mA a) ∧
      ((IntKind.i64.wrap (IntKind.u32.wrap (a.tdiv (16777216 : Int))) == (14 : Int)) = false → ((IntKind.i64.wrap (IntKind.u32.wrap (a.tdiv (16777216 : Int))) == (15 : Int)) =
      true → (IntKind.i64 = IntKind.i64 ∧ (8 : Int) = mR a) ∧ IntKind.i64 = IntKind.i64 ∧ (IntKind.i64.wrap (a.tmod (16777216 : Int))).tmod (65536 : Int) = mA a) ∧
      ((IntKind.i64.wrap (IntKind.u32.wrap (a.tdiv (16777216 : Int))) == (15 : Int)) = false → (IntKind.i64 = IntKind.i64 ∧ (0 : Int) = mR a) ∧ IntKind.i64 = IntKind.i64 ∧ (0 :
      Int) = mA a)))))))) ∧ ((IntKind.i64.wrap (IntKind.u32.wrap (a.tdiv (16777216 : Int))) == (4 : Int)) = false → ((IntKind.i64.wrap (IntKind.u32.wrap (a.tdiv (16777216 :
      Int))) == (5 : Int)) = true → (IntKind.i64 = IntKind.i64 ∧ (4 : Int) = mR a) ∧ IntKind.i64 = IntKind.i64 ∧ (IntKind.i64.wrap (a.tmod (16777216 : Int))).tmod (1024 : Int) =
      mA a) ∧ ((IntKind.i64.wrap (IntKind.u32.wrap (a.tdiv (16777216 : Int))) == (5 : Int)) = false → ((IntKind.i64.wrap (IntKind.u32.wrap (a.tdiv (16777216 : Int))) == (6 :
      Int)) = true → (decide ((IntKind.i64.wrap (a.tmod (16777216 : Int))).tmod (131072 : Int) ≥ (98304 : Int)) = true → (IntKind.i64 = IntKind.i64 ∧ (5 : Int) = mR a) ∧
      IntKind.i64 = IntKind.i64 ∧ IntKind.i64.wrap ((IntKind.i64.wrap (a.tmod (16777216 : Int))).tmod (131072 : Int) - (32768 : Int)) = mA a) ∧ (decide ((IntKind.i64.wrap
      (a.tmod (16777216 : Int))).tmod (131072 : Int) ≥ (98304 : Int)) = false → (IntKind.i64 = IntKind.i64 ∧ (5 : Int) = mR a) ∧ IntKind.i64 = IntKind.i64 ∧ (IntKind.i64.wrap
      (a.tmod (16777216 : Int))).tmod (131072 : Int) = mA a)) ∧ ((IntKind.i64.wrap (IntKind.u32.wrap (a.tdiv (16777216 : Int))) == (6 : Int)) = false → ((IntKind.i64.wrap
      (IntKind.u32.wrap (a.tdiv (16777216 : Int))) == (7 : Int)) = true → (IntKind.i64 = IntKind.i64 ∧ (6 : Int) = mR a) ∧ IntKind.i64 = IntKind.i64 ∧ (IntKind.i64.wrap (a.tmod
      (16777216 : Int))).tmod (1024 : Int) = mA a) ∧ ((IntKind.i64.wrap (IntKind.u32.wrap (a.tdiv (16777216 : Int))) == (7 : Int)) = false → (decide (IntKind.i64.wrap
      (IntKind.u32.wrap (a.tdiv (16777216 : Int))) ≥ (8 : Int)) = true → (decide (IntKind.i64.wrap (IntKind.u32.wrap (a.tdiv (16777216 : Int))) ≤ (13 : Int)) = true →
      (IntKind.i64 = IntKind.i64 ∧ (7 : Int) = mR a) ∧ IntKind.i64 = IntKind.i64 ∧ IntKind.i64.wrap (a.tmod (33554432 : Int)) = mA a) ∧ (decide (IntKind.i64.wrap
      (IntKind.u32.wrap (a.tdiv (16777216 : Int))) ≤ (13 : Int)) = false → ((IntKind.i64.wrap (IntKind.u32.wrap (a.tdiv (16777216 : Int))) == (14 : Int)) = true → (IntKind.i64 =
      IntKind.i64 ∧ (8 : Int) = mR a) ∧ IntKind.i64 = IntKind.i64 ∧ (IntKind.i64.wrap (a.tmod (16777216 : Int))).tmod (65536 : Int) = mA a) ∧ ((IntKind.i64.wrap
      (IntKind.u32.wrap (a.tdiv (16777216 : Int))) == (14 : Int)) = false → ((IntKind.i64.wrap (IntKind.u32.wrap (a.tdiv (16777216 : Int))) == (15 : Int)) = true → (IntKind.i64
      = IntKind.i64 ∧ (8 : Int) = mR a) ∧ IntKind.i64 = IntKind.i64 ∧ (IntKind.i64.wrap (a.tmod (16777216 : Int))).tmod (65536 : Int) = mA a) ∧ ((IntKind.i64.wrap
      (IntKind.u32.wrap (a.tdiv (16777216 : Int))) == (15 : Int)) = false → (IntKind.i64 = IntKind.i64 ∧ (0 : Int) = mR a) ∧ IntKind.i64 = IntKind.i64 ∧ (0 : Int) = mA a)))) ∧
      (decide (IntKind.i64.wrap (IntKind.u32.wrap (a.tdiv (16777216 : Int))) ≥ (8 : Int)) = false → ((IntKind.i64.wrap (IntKind.u32.wrap (a.tdiv (16777216 : Int))) == (14 :
      Int)) = true → (IntKind.i64 = IntKind.i64 ∧ (8 : Int) = mR a) ∧ IntKind.i64 = IntKind.i64 ∧ (IntKind.i64.wrap (a.tmod (16777216 : Int))).tmod (65536 : Int) = mA a) ∧
      ((IntKind.i64.wrap (IntKind.u32.wrap (a.tdiv (16777216 : Int))) == (14 : Int)) = false → ((IntKind.i64.wrap (IntKind.u32.wrap (a.tdiv (16777216 : Int))) == (15 : Int)) =
      true → (IntKind.i64 = IntKind.i64 ∧ (8 : Int) = mR a) ∧ IntKind.i64 = IntKind.i64 ∧ (IntKind.i64.wrap (a.tmod (16777216 : Int))).tmod (65536 : Int) = mA a) ∧
      ((IntKind.i64.wrap (IntKind.u32.wrap (a.tdiv (16777216 : Int))) == (15 : Int)) = false → (IntKind.i64 = IntKind.i64 ∧ (0 : Int) = mR a) ∧ IntKind.i64 = IntKind.i64 ∧ (0 :
      Int) = mA a))))))))))) := by kernel_rfl
theorem map_ok (a : Int) (ha : u32 a = true) : conP (mapS a) (fnTree Try.prog orcNone (tabL fns) 1000 Try.f8 [.c (.i false .u32 a)] []) := by
  rw [map_p]
  rw [u32_iff] at ha
  rw [and_m24 .u32 a (by decide)]
  simp (disch := first | decide | omega) only [tmod_n, tdiv_n, fdiv_lit, wi64_in, wu32_in, beq_iff_eq, decide_eq_true_eq, decide_eq_false_iff_not, beqd, true_and, ge_iff_le]
  unfold mR mA
  (repeat' first | apply And.intro | intro _) <;> (try simp (disch := omega) only [wu32_in, wi64_in]) <;> (try simp only [*, if_true, if_false]) <;> first | rfl | omega | (simp_all; done) | (simp_all; omega) | (simp_all <;> intros <;> omega)
set_option maxHeartbeats 4000000 in
theorem rmap_ok (a : Int) (ha : u32 a = true) : conP (mapS a) (fnTree Try.prog orcNone (tabL fns) 1000 Try.f9 [.c (.i false .u32 a)] []) := by
  rw [rmap_p]
  rw [u32_iff] at ha
  
  simp (disch := first | decide | omega) only [tmod_n, tdiv_n, fdiv_lit, wi64_in, wu32_in, beq_iff_eq, decide_eq_true_eq, decide_eq_false_iff_not, beqd, true_and, ge_iff_le]
  unfold mR mA
  (repeat' first | apply And.intro | intro _) <;> (try simp (disch := omega) only [wu32_in, wi64_in]) <;> (try simp only [*, if_true, if_false]) <;> first | rfl | omega | (simp_all; done) | (simp_all; omega) | (simp_all <;> intros <;> omega)


def fst (x : Int) : Int := if x = 0 then 4 else if x = 1 then 3 else if x = 2 then 2 else 8
def ctlS (w : Int) : SV := .a [.i false .i64 (fst (w / 4 % 4)), .i false .i64 (fst (w / 32 % 4)), .i false .i64 (fst (w / 256 % 4)),
  .i false .i64 (if w / 16 % 2 = 1 then 1 else 2), .i false .i64 (if w / 128 % 2 = 1 then 1 else 4), .i false .i64 (if w / 1024 % 2 = 1 then 1 else 8), .i false .i64 (fst (w % 4)), .b false (decide (w / 16384 % 2 = 1))]
theorem ctl_p (w : Int) :
    (conP (ctlS w) (fnTree Try.prog orcNone (tabL fns) 1000 Try.f10 [.c (.i false .u16 w)] [])) =
    (inB (bits BinOp.and IntKind.u16 w (3 : Int)) (4 : Nat) = true ∧ inB (bits BinOp.and IntKind.u16 (w.fdiv (4 : Int)) (3 : Int)) (4 : Nat) = true ∧ ((bits BinOp.and
      IntKind.u16 ((w.fdiv (4 : Int)).fdiv (4 : Int)) (1 : Int) != (0 : Int)) = true → inB (bits BinOp.and IntKind.u16 (w.fdiv (32 : Int)) (3 : Int)) (4 : Nat) = true ∧ ((bits
      BinOp.and IntKind.u16 ((w.fdiv (32 : Int)).fdiv (4 : Int)) (1 : Int) != (0 : Int)) = true → inB (bits BinOp.and IntKind.u16 (w.fdiv (256 : Int)) (3 : Int)) (4 : Nat) =
      true ∧ ((bits BinOp.and IntKind.u16 ((w.fdiv (256 : Int)).fdiv (4 : Int)) (1 : Int) != (0 : Int)) = true → (IntKind.i64 = IntKind.i64 ∧ selI [(4 : Int), (3 : Int), (2 :
      Int), (8 : Int)] (bits BinOp.and IntKind.u16 (w.fdiv (4 : Int)) (3 : Int)) = fst (w / (4 : Int) % (4 : Int))) ∧ (IntKind.i64 = IntKind.i64 ∧ selI [(4 : Int), (3 : Int), (2
      : Int), (8 : Int)] (bits BinOp.and IntKind.u16 (w.fdiv (32 : Int)) (3 : Int)) = fst (w / (32 : Int) % (4 : Int))) ∧ (IntKind.i64 = IntKind.i64 ∧ selI [(4 : Int), (3 :
      Int), (2 : Int), (8 : Int)] (bits BinOp.and IntKind.u16 (w.fdiv (256 : Int)) (3 : Int)) = fst (w / (256 : Int) % (4 : Int))) ∧ (IntKind.i64 = IntKind.i64 ∧ (1 : Int) = if
      w / (16 : Int) % (2 : Int) = (1 : Int) then (1 : Int) else (2 : Int)) ∧ (IntKind.i64 = IntKind.i64 ∧ (1 : Int) = if w / (128 : Int) % (2 : Int) = (1 : Int) then (1 : Int)
      else (4 : Int)) ∧ (IntKind.i64 = IntKind.i64 ∧ (1 : Int) = if w / (1024 : Int) % (2 : Int) = (1 : Int) then (1 : Int) else (8 : Int)) ∧ (IntKind.i64 = IntKind.i64 ∧ selI
      [(4 : Int), (3 : Int), (2 : Int), (8 : Int)] (bits BinOp.and IntKind.u16 w (3 : Int)) = fst (w % (4 : Int))) ∧ (bits BinOp.and IntKind.u16 (w.fdiv (16384 : Int)) (1 : Int)
      != (0 : Int)) = decide (w / (16384 : Int) % (2 : Int) = (1 : Int))) ∧ ((bits BinOp.and IntKind.u16 ((w.fdiv (256 : Int)).fdiv (4 : Int)) (1 : Int) != (0 : Int)) = false →
      (IntKind.i64 = IntKind.i64 ∧ selI [(4 : Int), (3 : Int), (2 : Int), (8 : Int)] (bits BinOp.and IntKind.u16 (w.fdiv (4 : Int)) (3 : Int)) = fst (w / (4 : Int) % (4 : Int)))
      ∧ (IntKind.i64 = IntKind.i64 ∧ selI [(4 : Int), (3 : Int), (2 : Int), (8 : Int)] (bits BinOp.and IntKind.u16 (w.fdiv (32 : Int)) (3 : Int)) = fst (w / (32 : Int) % (4 :
      Int))) ∧ (IntKind.i64 = IntKind.i64 ∧ selI [(4 : Int), (3 : Int), (2 : Int), (8 : Int)] (bits BinOp.and IntKind.u16 (w.fdiv (256 : Int)) (3 : Int)) = fst (w / (256 : Int)
      % (4 : Int))) ∧ (IntKind.i64 = IntKind.i64 ∧ (1 : Int) = if w / (16 : Int) % (2 : Int) = (1 : Int) then (1 : Int) else (2 : Int)) ∧ (IntKind.i64 = IntKind.i64 ∧ (1 : Int)
      = if w / (128 : Int) % (2 : Int) = (1 : Int) then (1 : Int) else (4 : Int)) ∧ (IntKind.i64 = IntKind.i64 ∧ (8 : Int) = if w / (1024 : Int) % (2 : Int) = (1 : Int) then (1
      : Int) else (8 : Int)) ∧ (IntKind.i64 = IntKind.i64 ∧ selI [(4 : Int), (3 : Int), (2 : Int), (8 : Int)] (bits BinOp.and IntKind.u16 w (3 : Int)) = fst (w % (4 : Int))) ∧
      (bits BinOp.and IntKind.u16 (w.fdiv (16384 : Int)) (1 : Int) != (0 : Int)) = decide (w / (16384 : Int) % (2 : Int) = (1 : Int)))) ∧ ((bits BinOp.and IntKind.u16 ((w.fdiv
      (32 : Int)).fdiv (4 : Int)) (1 : Int) != (0 : Int)) = false → inB (bits BinOp.and IntKind.u16 (w.fdiv (256 : Int)) (3 : Int)) (4 : Nat) = true ∧ ((bits BinOp.and
      IntKind.u16 ((w.fdiv (256 : Int)).fdiv (4 : Int)) (1 : Int) != (0 : Int)) = true → (IntKind.i64 = IntKind.i64 ∧ selI [(4 : Int), (3 : Int), (2 : Int), (8 : Int)] (bits
      BinOp.and IntKind.u16 (w.fdiv (4 : Int)) (3 : Int)) = fst (w / (4 : Int) % (4 : Int))) ∧ (IntKind.i64 = IntKind.i64 ∧ selI [(4 : Int), (3 : Int), (2 : Int), (8 : Int)]
      (bits BinOp.and IntKind.u16 (w.fdiv (32 : Int)) (3 : Int)) = fst (w / (32 : Int) % (4 : Int))) ∧ (IntKind.i64 = IntKind.i64 ∧ selI [(4 : Int), (3 : Int), (2 : Int), (8 :
      Int)] (bits BinOp.and IntKind.u16 (w.fdiv (256 : Int)) (3 : Int)) = fst (w / (256 : Int) % (4 : Int))) ∧ (IntKind.i64 = IntKind.i64 ∧ (1 : Int) = if w / (16 : Int) % (2 :
      Int) = (1 : Int) then (1 : Int) else (2 : Int)) ∧ (IntKind.i64 = IntKind.i64 ∧ (4 : Int) = if w / (128 : Int) % (2 : Int) = (1 : Int) then (1 : Int) else (4 : Int)) ∧
      (IntKind.i64 = IntKind.i64 ∧ (1 : Int) = if w / (1024 : Int) % (2 : Int) = (1 : Int) then (1 : Int) else (8 : Int)) ∧ (IntKind.i64 = IntKind.i64 ∧ selI [(4 : Int), (3 :
      Int), (2 : Int), (8 : Int)] (bits BinOp.and IntKind.u16 w (3 : Int)) = fst (w % (4 : Int))) ∧ (bits BinOp.and IntKind.u16 (w.fdiv (16384 : Int)) (1 : Int) != (0 : Int)) =
      decide (w / (16384 : Int) % (2 : Int) = (1 : Int))) ∧ ((bits BinOp.and IntKind.u16 ((w.fdiv (256 : Int)).fdiv (4 : Int)) (1 : Int) != (0 : Int)) = false → (IntKind.i64 =
      IntKind.i64 ∧ selI [(4 : Int), (3 : Int), (2 : Int), (8 : Int)] (bits BinOp.and IntKind.u16 (w.fdiv (4 : Int)) (3 : Int)) = fst (w / (4 : Int) % (4 : Int))) ∧ (IntKind.i64
      = IntKind.i64 ∧ selI [(4 : Int), (3 : Int), (2 : Int), (8 : Int)] (bits BinOp.and IntKind.u16 (w.fdiv (32 : Int)) (3 : Int)) = fst (w / (32 : Int) % (4 : Int))) ∧
      (IntKind.i64 = IntKind.i64 ∧ selI [(4 : Int), (3 : Int), (2 : Int), (8 : Int)] (bits BinOp.and IntKind.u16 (w.fdiv (256 : Int)) (3 : Int)) = fst (w / (256 : Int) % (4 :
      Int))) ∧ (IntKind.i64 = IntKind.i64 ∧ (1 : Int) = if w / (16 : Int) % (2 : Int) = (1 : Int) then (1 : Int) else (2 : Int)) ∧ (IntKind.i64 = IntKind.i64 ∧ (4 : Int) = if w
      / (128 : Int) % (2 : Int) = (1 : Int) then (1 : Int) else (4 : Int)) ∧ (IntKind.i64 = IntKind.i64 ∧ (8 : Int) = if w / (1024 : Int) % (2 : Int) = (1 : Int) then (1 : Int)
      else (8 : Int)) ∧ (IntKind.i64 = IntKind.i64 ∧ selI [(4 : Int), (3 : Int), (2 : Int), (8 : Int)] (bits BinOp.and IntKind.u16 w (3 : Int)) = fst (w % (4 : Int))) ∧ (bits
      BinOp.and IntKind.u16 (w.fdiv (16384 : Int)) (1 : Int) != (0 : Int)) = decide (w / (16384 : Int) % (2 : Int) = (1 : Int))))) ∧ ((bits BinOp.and IntKind.u16 ((w.fdiv (4 :
      Int)).fdiv (4 : Int)) (1 : Int) != (0 : Int)) = false → inB (bits BinOp.and IntKind.u16 (w.fdiv (32 : Int)) (3 : Int)) (4 : Nat) = true ∧ ((bits BinOp.and IntKind.u16
      ((w.fdiv (32 : Int)).fdiv (4 : Int)) (1 : Int) != (0 : Int)) = true → inB (bits BinOp.and IntKind.u16 (w.fdiv (256 : Int)) (3 : Int)) (4 : Nat) = true ∧ ((bits BinOp.and
      IntKind.u16 ((w.fdiv (256 : Int)).fdiv (4 : Int)) (1 : Int) != (0 : Int)) = true → (IntKind.i64 = IntKind.i64 ∧ selI [(4 : Int), (3 : Int), (2 : Int), (8 : Int)] (bits
      BinOp.and IntKind.u16 (w.fdiv (4 : Int)) (3 : Int)) = fst (w / (4 : Int) % (4 : Int))) ∧ (IntKind.i64 = IntKind.i64 ∧ selI [(4 : Int), (3 : Int), (2 : Int), (8 : Int)]
      (bits BinOp.and IntKind.u16 (w.fdiv (32 : Int)) (3 : Int)) = fst (w / (32 : Int) % (4 : Int))) ∧ (IntKind.i64 = IntKind.i64 ∧ selI [(4 : Int), (3 : Int), (2 : Int), (8 :
      Int)] (bits BinOp.and IntKind.u16 (w.fdiv (256 : Int)) (3 : Int)) = fst (w / (256 : Int) % (4 : Int))) ∧ (IntKind.i64 = IntKind.i64 ∧ (2 : Int) = if w / (16 : Int) % (2 :
      Int) = (1 : Int) then (1 : Int) else (2 : Int)) ∧ (IntKind.i64 = IntKind.i64 ∧ (1 : Int) = if w / (128 : Int) % (2 : Int) = (1 : Int) then (1 : Int) else (4 : Int)) ∧
      (IntKind.i64 = IntKind.i64 ∧ (1 : Int) = if w / (1024 : Int) % (2 : Int) = (1 : Int) then (1 : Int) else (8 : Int)) ∧ (IntKind.i64 = IntKind.i64 ∧ selI [(4 : Int), (3 :
      Int), (2 : Int), (8 : Int)] (bits BinOp.and IntKind.u16 w (3 : Int)) = fst (w % (4 : Int))) ∧ (bits BinOp.and IntKind.u16 (w.fdiv (16384 : Int)) (1 : Int) != (0 : Int)) =
      decide (w / (16384 : Int) % (2 : Int) = (1 : Int))) ∧ ((bits BinOp.and IntKind.u16 ((w.fdiv (256 : Int)).fdiv (4 : Int)) (1 : Int) != (0 : Int)) = false → (IntKind.i64 =
      IntKind.i64 ∧ selI [(4 : Int), (3 : Int), (2 : Int), (8 : Int)] (bits BinOp.and IntKind.u16 (w.fdiv (4 : Int)) (3 : Int)) = fst (w / (4 : Int) % (4 : Int))) ∧ (IntKind.i64
      = IntKind.i64 ∧ selI [(4 : Int), (3 : Int), (2 : Int), (8 : Int)] (bits BinOp.and IntKind.u16 (w.fdiv (32 : Int)) (3 : Int)) = fst (w / (32 : Int) % (4 : Int))) ∧
      (IntKind.i64 = IntKind.i64 ∧ selI [(4 : Int), (3 : Int), (2 : Int), (8 : Int)] (bits BinOp.and IntKind.u16 (w.fdiv (256 : Int)) (3 : Int)) = fst (w / (256 : Int) % (4 :
      Int))) ∧ (IntKind.i64 = IntKind.i64 ∧ (2 : Int) = if w / (16 : Int) % (2 : Int) = (1 : Int) then (1 : Int) else (2 : Int)) ∧ (IntKind.i64 = IntKind.i64 ∧ (1 : Int) = if w
      / (128 : Int) % (2 : Int) = (1 : Int) then (1 : Int) else (4 : Int)) ∧ (IntKind.i64 = IntKind.i64 ∧ (8 : Int) = if w / (1024 : Int) % (2 : Int) = (1 : Int) then (1 : Int)
      else (8 : Int)) ∧ (IntKind.i64 = IntKind.i64 ∧ selI [(4 : Int), (3 : Int), (2 : Int), (8 : Int)] (bits BinOp.and IntKind.u16 w (3 : Int)) = fst (w % (4 : Int))) ∧ (bits
      BinOp.and IntKind.u16 (w.fdiv (16384 : Int)) (1 : Int) != (0 : Int)) = decide (w / (16384 : Int) % (2 : Int) = (1 : Int)))) ∧ ((bits BinOp.and IntKind.u16 ((w.fdiv (32 :
      Int)).fdiv (4 : Int)) (1 : Int) != (0 : Int)) = false → inB (bits BinOp.and IntKind.u16 (w.fdiv (256 : Int)) (3 : Int)) (4 : Nat) = true ∧ ((bits BinOp.and IntKind.u16
      ((w.fdiv (256 : Int)).fdiv (4 : Int)) (1 : Int) != (0 : Int)) = true → (IntKind.i64 = IntKind.i64 ∧ selI [(4 : Int), (3 : Int), (2 : Int), (8 : Int)] (bits BinOp.and
      IntKind.u16 (w.fdiv (4 : Int)) (3 : Int)) = fst (w / (4 : Int) % (4 : Int))) ∧ (IntKind.i64 = IntKind.i64 ∧ selI [(4 : Int), (3 : Int), (2 : Int), (8 : Int)] (bits
      BinOp.and IntKind.u16 (w.fdiv (32 : Int)) (3 : Int)) = fst (w / (32 : Int) % (4 : Int))) ∧ (IntKind.i64 = IntKind.i64 ∧ selI [(4 : Int), (3 : Int), (2 : Int), (8 : Int)]
      (bits BinOp.and IntKind.u16 (w.fdiv (256 : Int)) (3 : Int)) = fst (w / (256 : Int) % (4 : Int))) ∧ (IntKind.i64 = IntKind.i64 ∧ (2 : Int) = if w / (16 : Int) % (2 : Int) =
      (1 : Int) then (1 : Int) else (2 : Int)) ∧ (IntKind.i64 = IntKind.i64 ∧ (4 : Int) = if w / (128 : Int) % (2 : Int) = (1 : Int) then (1 : Int) else (4 : Int)) ∧
      (IntKind.i64 = IntKind.i64 ∧ (1 : Int) = if w / (1024 : Int) % (2 : Int) = (1 : Int) then (1 : Int) else (8 : Int)) ∧ (IntKind.i64 = IntKind.i64 ∧ selI [(4 : Int), (3 :
      Int), (2 : Int), (8 : Int)] (bits BinOp.and IntKind.u16 w (3 : Int)) = fst (w % (4 : Int))) ∧ (bits BinOp.and IntKind.u16 (w.fdiv (16384 : Int)) (1 : Int) != (0 : Int)) =
      decide (w / (16384 : Int) % (2 : Int) = (1 : Int))) ∧ ((bits BinOp.and IntKind.u16 ((w.fdiv (256 : Int)).fdiv (4 : Int)) (1 : Int) != (0 : Int)) = false → (IntKind.i64 =
      IntKind.i64 ∧ selI [(4 : Int), (3 : Int), (2 : Int), (8 : Int)] (bits BinOp.and IntKind.u16 (w.fdiv (4 : Int)) (3 : Int)) = fst (w / (4 : Int) % (4 : Int))) ∧ (IntKind.i64
      = IntKind.i64 ∧ selI [(4 : Int), (3 : Int), (2 : Int), (8 : Int)] (bits BinOp.and IntKind.u16 (w.fdiv (32 : Int)) (3 : Int)) = fst (w / (32 : Int) % (4 : Int))) ∧
      (IntKind.i64 = IntKind.i64 ∧ selI [(4 : Int), (3 : Int), (2 : Int), (8 : Int)] (bits BinOp.and IntKind.u16 (w.fdiv (256 : Int)) (3 : Int)) = fst (w / (256 : Int) % (4 :
      Int))) ∧ (IntKind.i64 = IntKind.i64 ∧ (2 : Int) = if w / (16 : Int) % (2 : Int) = (1 : Int) then (1 : Int) else (2 : Int)) ∧ (IntKind.i64 = IntKind.i64 ∧ (4 : Int) = if w
      / (128 : Int) % (2 : Int) = (1 : Int) then (1 : Int) else (4 : Int)) ∧ (IntKind.i64 = IntKind.i64 ∧ (8 : Int) = if w / (1024 : Int) % (2 : Int) = (1 : Int) then (1 : Int)
      else (8 : Int)) ∧ (IntKind.i64 = IntKind.i64 ∧ selI [(4 : Int), (3 : Int), (2 : Int), (8 : Int)] (bits BinOp.and IntKind.u16 w (3 : Int)) = fst (w % (4 : Int))) ∧ (bits
      BinOp.and IntKind.u16 (w.fdiv (16384 : Int)) (1 : Int) != (0 : Int)) = decide (w / (16384 : Int) % (2 : Int) = (1 : Int)))))) := by kernel_rfl
theorem rctl_p (w : Int) :
    (conP (ctlS w) (fnTree Try.prog orcNone (tabL fns) 1000 Try.f11 [.c (.i false .u16 w)] [])) =
    (inB ((IntKind.i64.wrap ((IntKind.i64.wrap w).tdiv (1 : Int))).tmod (4 : Int)) (4 : Nat) = true ∧ inB ((IntKind.i64.wrap ((IntKind.i64.wrap w).tdiv (4 : Int))).tmod (4 :
      Int)) (4 : Nat) = true ∧ inB ((IntKind.i64.wrap ((IntKind.i64.wrap w).tdiv (32 : Int))).tmod (4 : Int)) (4 : Nat) = true ∧ inB ((IntKind.i64.wrap ((IntKind.i64.wrap
      w).tdiv (256 : Int))).tmod (4 : Int)) (4 : Nat) = true ∧ (((IntKind.i64.wrap ((IntKind.i64.wrap w).tdiv (16 : Int))).tmod (2 : Int) == (1 : Int)) = true →
      (((IntKind.i64.wrap ((IntKind.i64.wrap w).tdiv (128 : Int))).tmod (2 : Int) == (1 : Int)) = true → (((IntKind.i64.wrap ((IntKind.i64.wrap w).tdiv (1024 : Int))).tmod (2 :
      Int) == (1 : Int)) = true → (IntKind.i64 = IntKind.i64 ∧ selI [(4 : Int), (3 : Int), (2 : Int), (8 : Int)] ((IntKind.i64.wrap ((IntKind.i64.wrap w).tdiv (4 : Int))).tmod
      (4 : Int)) = fst (w / (4 : Int) % (4 : Int))) ∧ (IntKind.i64 = IntKind.i64 ∧ selI [(4 : Int), (3 : Int), (2 : Int), (8 : Int)] ((IntKind.i64.wrap ((IntKind.i64.wrap
      w).tdiv (32 : Int))).tmod (4 : Int)) = fst (w / (32 : Int) % (4 : Int))) ∧ (IntKind.i64 = IntKind.i64 ∧ selI [(4 : Int), (3 : Int), (2 : Int), (8 : Int)]
      ((IntKind.i64.wrap ((IntKind.i64.wrap w).tdiv (256 : Int))).tmod (4 : Int)) = fst (w / (256 : Int) % (4 : Int))) ∧ (IntKind.i64 = IntKind.i64 ∧ (1 : Int) = if w / (16 :
      Int) % (2 : Int) = (1 : Int) then (1 : Int) else (2 : Int)) ∧ (IntKind.i64 = IntKind.i64 ∧ (1 : Int) = if w / (128 : Int) % (2 : Int) = (1 : Int) then (1 : Int) else (4 :
      Int)) ∧ (IntKind.i64 = IntKind.i64 ∧ (1 : Int) = if w / (1024 : Int) % (2 : Int) = (1 : Int) then (1 : Int) else (8 : Int)) ∧ (IntKind.i64 = IntKind.i64 ∧ selI [(4 : Int),
      (3 : Int), (2 : Int), (8 : Int)] ((IntKind.i64.wrap ((IntKind.i64.wrap w).tdiv (1 : Int))).tmod (4 : Int)) = fst (w % (4 : Int))) ∧ ((IntKind.i64.wrap ((IntKind.i64.wrap
      w).tdiv (16384 : Int))).tmod (2 : Int) == (1 : Int)) = decide (w / (16384 : Int) % (2 : Int) = (1 : Int))) ∧ (((IntKind.i64.wrap ((IntKind.i64.wrap w).tdiv (1024 :
      Int))).tmod (2 : Int) == (1 : Int)) = false → (IntKind.i64 = IntKind.i64 ∧ selI [(4 : Int), (3 : Int), (2 : Int), (8 : Int)] ((IntKind.i64.wrap ((IntKind.i64.wrap w).tdiv
      (4 : Int))).tmod (4 : Int)) = fst (w / (4 : Int) % (4 : Int))) ∧ (IntKind.i64 = IntKind.i64 ∧ selI [(4 : Int), (3 : Int), (2 : Int), (8 : Int)] ((IntKind.i64.wrap
      ((IntKind.i64.wrap w).tdiv (32 : Int))).tmod (4 : Int)) = fst (w / (32 : Int) % (4 : Int))) ∧ (IntKind.i64 = IntKind.i64 ∧ selI [(4 : Int), (3 : Int), (2 : Int), (8 :
      Int)] ((IntKind.i64.wrap ((IntKind.i64.wrap w).tdiv (256 : Int))).tmod (4 : Int)) = fst (w / (256 : Int) % (4 : Int))) ∧ (IntKind.i64 = IntKind.i64 ∧ (1 : Int) = if w /
      (16 : Int) % (2 : Int) = (1 : Int) then (1 : Int) else (2 : Int)) ∧ (IntKind.i64 = IntKind.i64 ∧ (1 : Int) = if w / (128 : Int) % (2 : Int) = (1 : Int) then (1 : Int) else
      (4 : Int)) ∧ (IntKind.i64 = IntKind.i64 ∧ (8 : Int) = if w / (1024 : Int) % (2 : Int) = (1 : Int) then (1 : Int) else (8 : Int)) ∧ (IntKind.i64 = IntKind.i64 ∧ selI [(4 :
      Int), (3 : Int), (2 : Int), (8 : Int)] ((IntKind.i64.wrap ((IntKind.i64.wrap w).tdiv (1 : Int))).tmod (4 : Int)) = fst (w % (4 : Int))) ∧ ((IntKind.i64.wrap
      ((IntKind.i64.wrap w).tdiv (16384 : Int))).tmod (2 : Int) == (1 : Int)) = decide (w / (16384 : Int) % (2 : Int) = (1 : Int)))) ∧ (((IntKind.i64.wrap ((IntKind.i64.wrap
      w).tdiv (128 : Int))).tmod (2 : Int) == (1 : Int)) = false → (((IntKind.i64.wrap ((IntKind.i64.wrap w).tdiv (1024 : Int))).tmod (2 : Int) == (1 : Int)) = true →
      (IntKind.i64 = IntKind.i64 ∧ selI [(4 : Int), (3 : Int), (2 : Int), (8 : Int)] ((IntKind.i64.wrap ((IntKind.i64.wrap w).tdiv (4 : Int))).tmod (4 : Int)) = fst (w / (4 :
      Int) % (4 : Int))) ∧ (IntKind.i64 = IntKind.i64 ∧ selI [(4 : Int), (3 : Int), (2 : Int), (8 : Int)] ((IntKind.i64.wrap ((IntKind.i64.wrap w).tdiv (32 : Int))).tmod (4 :
      Int)) = fst (w / (32 : Int) % (4 : Int))) ∧ (IntKind.i64 = IntKind.i64 ∧ selI [(4 : Int), (3 : Int), (2 : Int), (8 : Int)] ((IntKind.i64.wrap ((IntKind.i64.wrap w).tdiv
      (256 : Int))).tmod (4 : Int)) = fst (w / (256 : Int) % (4 : Int))) ∧ (IntKind.i64 = IntKind.i64 ∧ (1 : Int) = if w / (16 : Int) % (2 : Int) = (1 : Int) then (1 : Int) else
      (2 : Int)) ∧ (IntKind.i64 = IntKind.i64 ∧ (4 : Int) = if w / (128 : Int) % (2 : Int) = (1 : Int) then (1 : Int) else (4 : Int)) ∧ (IntKind.i64 = IntKind.i64 ∧ (1 : Int) =
      if w / (1024 : Int) % (2 : Int) = (1 : Int) then (1 : Int) else (8 : Int)) ∧ (IntKind.i64 = IntKind.i64 ∧ selI [(4 : Int), (3 : Int), (2 : Int), (8 : Int)]
      ((IntKind.i64.wrap ((IntKind.i64.wrap w).tdiv (1 : Int))).tmod (4 : Int)) = fst (w % (4 : Int))) ∧ ((IntKind.i64.wrap ((IntKind.i64.wrap w).tdiv (16384 : Int))).tmod (2 :
      Int) == (1 : Int)) = decide (w / (16384 : Int) % (2 : Int) = (1 : Int))) ∧ (((IntKind.i64.wrap ((IntKind.i64.wrap w).tdiv (1024 : Int))).tmod (2 : Int) == (1 : Int)) =
      false → (IntKind.i64 = IntKind.i64 ∧ selI [(4 : Int), (3 : Int), (2 : Int), (8 : Int)] ((IntKind.i64.wrap ((IntKind.i64.wrap w).tdiv (4 : Int))).tmod (4 : Int)) = fst (w /
      (4 : Int) % (4 : Int))) ∧ (IntKind.i64 = IntKind.i64 ∧ selI [(4 : Int), (3 : Int), (2 : Int), (8 : Int)] ((IntKind.i64.wrap ((IntKind.i64.wrap w).tdiv (32 : Int))).tmod (4
      : Int)) = fst (w / (32 : Int) % (4 : Int))) ∧ (IntKind.i64 = IntKind.i64 ∧ selI [(4 : Int), (3 : Int), (2 : Int), (8 : Int)] ((IntKind.i64.wrap ((IntKind.i64.wrap w).tdiv
      (256 : Int))).tmod (4 : Int)) = fst (w / (256 : Int) % (4 : Int))) ∧ (IntKind.i64 = IntKind.i64 ∧ (1 : Int) = if w / (16 : Int) % (2 : Int) = (1 : Int) then (1 : Int) else
      (2 : Int)) ∧ (IntKind.i64 = IntKind.i64 ∧ (4 : Int) = if w / (128 : Int) % (2 : Int) = (1 : Int) then (1 : Int) else (4 : Int)) ∧ (IntKind.i64 = IntKind.i64 ∧ (8 : Int) =
      if w / (1024 : Int) % (2 : Int) = (1 : Int) then (1 : Int) else (8 : Int)) ∧ (IntKind.i64 = IntKind.i64 ∧ selI [(4 : Int), (3 : Int), (2 : Int), (8 : Int)]
      ((IntKind.i64.wrap ((IntKind.i64.wrap w).tdiv (1 : Int))).tmod (4 : Int)) = fst (w % (4 : Int))) ∧ ((IntKind.i64.wrap ((IntKind.i64.wrap w).tdiv (16384 : Int))).tmod (2 :
      Int) == (1 : Int)) = decide (w / (16384 : Int) % (2 : Int) = (1 : Int))))) ∧ (((IntKind.i64.wrap ((IntKind.i64.wrap w).tdiv (16 : Int))).tmod (2 : Int) == (1 : Int)) =
      false → (((IntKind.i64.wrap ((IntKind.i64.wrap w).tdiv (128 : Int))).tmod (2 : Int) == (1 : Int)) = true → (((IntKind.i64.wrap ((IntKind.i64.wrap w).tdiv (1024 :
      Int))).tmod (2 : Int) == (1 : Int)) = true → (IntKind.i64 = IntKind.i64 ∧ selI [(4 : Int), (3 : Int), (2 : Int), (8 : Int)] ((IntKind.i64.wrap ((IntKind.i64.wrap w).tdiv
      (4 : Int))).tmod (4 : Int)) = fst (w / (4 : Int) % (4 : Int))) ∧ (IntKind.i64 = IntKind.i64 ∧ selI [(4 : Int), (3 : Int), (2 : Int), (8 : Int)] ((IntKind.i64.wrap
      ((IntKind.i64.wrap w).tdiv (32 : Int))).tmod (4 : Int)) = fst (w / (32 : Int) % (4 : Int))) ∧ (IntKind.i64 = IntKind.i64 ∧ selI [(4 : Int), (3 : Int), (2 : Int), (8 :
      Int)] ((IntKind.i64.wrap ((IntKind.i64.wrap w).tdiv (256 : Int))).tmod (4 : Int)) = fst (w / (256 : Int) % (4 : Int))) ∧ (IntKind.i64 = IntKind.i64 ∧ (2 : Int) = if w /
      (16 : Int) % (2 : Int) = (1 : Int) then (1 : Int) else (2 : Int)) ∧ (IntKind.i64 = IntKind.i64 ∧ (1 : Int) = if w / (128 : Int) % (2 : Int) = (1 : Int) then (1 : Int) else
      (4 : Int)) ∧ (IntKind.i64 = IntKind.i64 ∧ (1 : Int) = if w / (1024 : Int) % (2 : Int) = (1 : Int) then (1 : Int) else (8 : Int)) ∧ (IntKind.i64 = IntKind.i64 ∧ selI [(4 :
      Int), (3 : Int), (2 : Int), (8 : Int)] ((IntKind.i64.wrap ((IntKind.i64.wrap w).tdiv (1 : Int))).tmod (4 : Int)) = fst (w % (4 : Int))) ∧ ((IntKind.i64.wrap
      ((IntKind.i64.wrap w).tdiv (16384 : Int))).tmod (2 : Int) == (1 : Int)) = decide (w / (16384 : Int) % (2 : Int) = (1 : Int))) ∧ (((IntKind.i64.wrap ((IntKind.i64.wrap
      w).tdiv (1024 : Int))).tmod (2 : Int) == (1 : Int)) = false → (IntKind.i64 = IntKind.i64 ∧ selI [(4 : Int), (3 : Int), (2 : Int), (8 : Int)] ((IntKind.i64.wrap
      ((IntKind.i64.wrap w).tdiv (4 : Int))).tmod (4 : Int)) = fst (w / (4 : Int) % (4 : Int))) ∧ (IntKind.i64 = IntKind.i64 ∧ selI [(4 : Int), (3 : Int), (2 : Int), (8 : Int)]
      ((IntKind.i64.wrap ((IntKind.i64.wrap w).tdiv (32 : Int))).tmod (4 : Int)) = fst (w / (32 : Int) % (4 : Int))) ∧ (IntKind.i64 = IntKind.i64 ∧ selI [(4 : Int), (3 : Int),
      (2 : Int), (8 : Int)] ((IntKind.i64.wrap ((IntKind.i64.wrap w).tdiv (256 : Int))).tmod (4 : Int)) = fst (w / (256 : Int) % (4 : Int))) ∧ (IntKind.i64 = IntKind.i64 ∧ (2 :
      Int) = if w / (16 : Int) % (2 : Int) = (1 : Int) then (1 : Int) else (2 : Int)) ∧ (IntKind.i64 = IntKind.i64 ∧ (1 : Int) = if w / (128 : Int) % (2 : Int) = (1 : Int) then
      (1 : Int) else (4 : Int)) ∧ (IntKind.i64 = IntKind.i64 ∧ (8 : Int) = if w / (1024 : Int) % (2 : Int) = (1 : Int) then (1 : Int) else (8 : Int)) ∧ (IntKind.i64 =
      IntKind.i64 ∧ selI [(4 : Int), (3 : Int), (2 : Int), (8 : Int)] ((IntKind.i64.wrap ((IntKind.i64.wrap w).tdiv (1 : Int))).tmod (4 : Int)) = fst (w % (4 : Int))) ∧
      ((IntKind.i64.wrap ((IntKind.i64.wrap w).tdiv (16384 : Int))).tmod (2 : Int) == (1 : Int)) = decide (w / (16384 : Int) % (2 : Int) = (1 : Int)))) ∧ (((IntKind.i64.wrap
      ((IntKind.i64.wrap w).tdiv (128 : Int))).tmod (2 : Int) == (1 : Int)) = false → (((IntKind.i64.wrap ((IntKind.i64.wrap w).tdiv (1024 : Int))).tmod (2 : Int) == (1 : Int))
      = true → (IntKind.i64 = IntKind.i64 ∧ selI [(4 : Int), (3 : Int), (2 : Int), (8 : Int)] ((IntKind.i64.wrap ((IntKind.i64.wrap w).tdiv (4 : Int))).tmod (4 : Int)) = fst (w
      / (4 : Int) % (4 : Int))) ∧ (IntKind.i64 = IntKind.i64 ∧ selI [(4 : Int), (3 : Int), (2 : Int), (8 : Int)] ((IntKind.i64.wrap ((IntKind.i64.wrap w).tdiv (32 : Int))).tmod
      (4 : Int)) = fst (w / (32 : Int) % (4 : Int))) ∧ (IntKind.i64 = IntKind.i64 ∧ selI [(4 : Int), (3 : Int), (2 : Int), (8 : Int)] ((IntKind.i64.wrap ((IntKind.i64.wrap
      w).tdiv (256 : Int))).tmod (4 : Int)) = fst (w / (256 : Int) % (4 : Int))) ∧ (IntKind.i64 = IntKind.i64 ∧ (2 : Int) = if w / (16 : Int) % (2 : Int) = (1 : Int) then (1 :
      Int) else (2 : Int)) ∧ (IntKind.i64 = IntKind.i64 ∧ (4 : Int) = if w / (128 : Int) % (2 : Int) = (1 : Int) then (1 : Int) else (4 : Int)) ∧ (IntKind.i64 = IntKind.i64 ∧ (1
      : Int) = if w / (1024 : Int) % (2 : Int) = (1 : Int) then (1 : Int) else (8 : Int)) ∧ (IntKind.i64 = IntKind.i64 ∧ selI [(4 : Int), (3 : Int), (2 : Int), (8 : Int)]
      ((IntKind.i64.wrap ((IntKind.i64.wrap w).tdiv (1 : Int))).tmod (4 : Int)) = fst (w % (4 : Int))) ∧ ((IntKind.i64.wrap ((IntKind.i64.wrap w).tdiv (16384 : Int))).tmod (2 :
      Int) == (1 : Int)) = decide (w / (16384 : Int) % (2 : Int) = (1 : Int))) ∧ (((IntKind.i64.wrap ((IntKind.i64.wrap w).tdiv (1024 : Int))).tmod (2 : Int) == (1 : Int)) =
      false → (IntKind.i64 = IntKind.i64 ∧ selI [(4 : Int), (3 : Int), (2 : Int), (8 : Int)] ((IntKind.i64.wrap ((IntKind.i64.wrap w).tdiv (4 : Int))).tmod (4 : Int)) = fst (w /
      (4 : Int) % (4 : Int))) ∧ (IntKind.i64 = IntKind.i64 ∧ selI [(4 : Int), (3 : Int), (2 : Int), (8 : Int)] ((IntKind.i64.wrap ((IntKind.i64.wrap w).tdiv (32 : Int))).tmod (4
      : Int)) = fst (w / (32 : Int) % (4 : Int))) ∧ (IntKind.i64 = IntKind.i64 ∧ selI [(4 : Int), (3 : Int), (2 : Int), (8 : Int)] ((IntKind.i64.wrap ((IntKind.i64.wrap w).tdiv
      (256 : Int))).tmod (4 : Int)) = fst (w / (256 : Int) % (4 : Int))) ∧ (IntKind.i64 = IntKind.i64 ∧ (2 : Int) = if w / (16 : Int) % (2 : Int) = (1 : Int) then (1 : Int) else
      (2 : Int)) ∧ (IntKind.i64 = IntKind.i64 ∧ (4 : Int) = if w / (128 : Int) % (2 : Int) = (1 : Int) then (1 : Int) else (4 : Int)) ∧ (IntKind.i64 = IntKind.i64 ∧ (8 : Int) =
      if w / (1024 : Int) % (2 : Int) = (1 : Int) then (1 : Int) else (8 : Int)) ∧ (IntKind.i64 = IntKind.i64 ∧ selI [(4 : Int), (3 : Int), (2 : Int), (8 : Int)]
      ((IntKind.i64.wrap ((IntKind.i64.wrap w).tdiv (1 : Int))).tmod (4 : Int)) = fst (w % (4 : Int))) ∧ ((IntKind.i64.wrap ((IntKind.i64.wrap w).tdiv (16384 : Int))).tmod (2 :
      Int) == (1 : Int)) = decide (w / (16384 : Int) % (2 : Int) = (1 : Int)))))) := by kernel_rfl

def u16 (x : Int) : Bool := decide (0 ≤ x ∧ x < 65536)
theorem u16_iff (x : Int) : u16 x = true ↔ 0 ≤ x ∧ x < 65536 := by simp [u16]
theorem sel4 (i : Int) (h0 : 0 ≤ i) (h1 : i < 4) : selI [4, 3, 2, 8] i = fst i := by
  unfold fst
  rcases (show i = 0 ∨ i = 1 ∨ i = 2 ∨ i = 3 by omega) with rfl | rfl | rfl | rfl <;> rfl
theorem inB4 (i : Int) (h0 : 0 ≤ i) (h1 : i < 4) : inB i 4 = true := by simp [inB]; omega
theorem inBl (i : Int) (n : Nat) (h0 : 0 ≤ i) (h1 : i < n) : inB i n = true := by simp [inB]; omega
theorem ctl_ok (w : Int) (hw : u16 w = true) : conP (ctlS w) (fnTree Try.prog orcNone (tabL fns) 1000 Try.f10 [.c (.i false .u16 w)] []) := by
  rw [ctl_p]
  rw [u16_iff] at hw
  simp (disch := first | decide | omega) only [and_m2, and_m1, fdiv_lit, bne0, ne_eq, decide_eq_true_eq, decide_eq_false_iff_not, inB4, sel4, true_and]
  have e1 : w / 4 / 4 = w / 16 := by omega
  have e2 : w / 32 / 4 = w / 128 := by omega
  have e3 : w / 256 / 4 = w / 1024 := by omega
  simp only [e1, e2, e3]
  (repeat' first | apply And.intro | intro _) <;> first | rfl | omega | (simp only [*, if_true, if_false]; done) | (rw [if_pos (by omega)]) | (rw [if_neg (by omega)]) | (rw [decide_eq_decide]; omega) | (simp [*]; done)
theorem rctl_ok (w : Int) (hw : u16 w = true) : conP (ctlS w) (fnTree Try.prog orcNone (tabL fns) 1000 Try.f11 [.c (.i false .u16 w)] []) := by
  rw [rctl_p]
  rw [u16_iff] at hw
  simp (disch := first | decide | omega) only [wi64_in, tdiv_n, tmod_n, beqd, decide_eq_true_eq, decide_eq_false_iff_not, inB4, sel4, true_and, Int.ediv_one]
  (repeat' first | apply And.intro | intro _) <;> first | rfl | omega | (simp only [*, if_true, if_false]; done) | (rw [if_pos (by omega)]) | (rw [if_neg (by omega)]) | (rw [decide_eq_decide]; omega) | (simp [*]; done)
end Go.Proofs.Ytagfeilieoolkaa

