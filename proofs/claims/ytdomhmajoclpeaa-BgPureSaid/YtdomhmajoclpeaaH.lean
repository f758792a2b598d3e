import Derived.Test.YtdomhmajoclpeaaRows
import Derived.Test.YtdomhmajoclpeaaEx
set_option linter.unusedVariables false
set_option linter.unusedSimpArgs false
namespace Go.Proofs.Ytdomhmajoclpeaa
open Go Go.Proofs Go.Proofs.Ytdomhmajoclpeaa.Ev

noncomputable abbrev pe (E : World) : PE := ⟨Try.prog, E, true, [(0, 6, 1), (0, 1, 1), (0, 2, 1), (0, 1005, 1), (122, 91, 3), (122, 6000, 1), (0, 3, 2)]⟩
noncomputable def fns : List (FuncId × Func) := [(3, Try.f3), (4, Try.f4), (5, Try.f5), (6, Try.f6), (7, Try.f7), (8, Try.f8), (9, Try.f9), (10, Try.f10), (11, Try.f11), (12, Try.f12), (13, Try.f13), (14, Try.f14), (15, Try.f15), (16, Try.f16), (17, Try.f17), (18, Try.f18), (19, Try.f19), (20, Try.f20), (21, Try.f21), (22, Try.f22), (23, Try.f23), (24, Try.f24), (25, Try.f25), (26, Try.f26), (27, Try.f27), (28, Try.f28), (29, Try.f29), (30, Try.f30), (31, Try.f31), (32, Try.f32), (33, Try.f33), (34, Try.f34), (35, Try.f35), (36, Try.f36), (37, Try.f37), (38, Try.f38), (39, Try.f39), (40, Try.f40), (41, Try.f41), (42, Try.f42), (43, Try.f43), (44, Try.f44), (45, Try.f45)]
theorem fns_ok : ∀ p, p ∈ fns → FnOK Try.prog p :=
  fn_cons ⟨Try.func3, by decide, rfl, by decide⟩ <|
  fn_cons ⟨Try.func4, by decide, rfl, by decide⟩ <|
  fn_cons ⟨Try.func5, by decide, rfl, by decide⟩ <|
  fn_cons ⟨Try.func6, by decide, rfl, by decide⟩ <|
  fn_cons ⟨Try.func7, by decide, rfl, by decide⟩ <|
  fn_cons ⟨Try.func8, by decide, rfl, by decide⟩ <|
  fn_cons ⟨Try.func9, by decide, rfl, by decide⟩ <|
  fn_cons ⟨Try.func10, by decide, rfl, by decide⟩ <|
  fn_cons ⟨Try.func11, by decide, rfl, by decide⟩ <|
  fn_cons ⟨Try.func12, by decide, rfl, by decide⟩ <|
  fn_cons ⟨Try.func13, by decide, rfl, by decide⟩ <|
  fn_cons ⟨Try.func14, by decide, rfl, by decide⟩ <|
  fn_cons ⟨Try.func15, by decide, rfl, by decide⟩ <|
  fn_cons ⟨Try.func16, by decide, rfl, by decide⟩ <|
  fn_cons ⟨Try.func17, by decide, rfl, by decide⟩ <|
  fn_cons ⟨Try.func18, by decide, rfl, by decide⟩ <|
  fn_cons ⟨Try.func19, by decide, rfl, by decide⟩ <|
  fn_cons ⟨Try.func20, by decide, rfl, by decide⟩ <|
  fn_cons ⟨Try.func21, by decide, rfl, by decide⟩ <|
  fn_cons ⟨Try.func22, by decide, rfl, by decide⟩ <|
  fn_cons ⟨Try.func23, by decide, rfl, by decide⟩ <|
  fn_cons ⟨Try.func24, by decide, rfl, by decide⟩ <|
  fn_cons ⟨Try.func25, by decide, rfl, by decide⟩ <|
  fn_cons ⟨Try.func26, by decide, rfl, by decide⟩ <|
  fn_cons ⟨Try.func27, by decide, rfl, by decide⟩ <|
  fn_cons ⟨Try.func28, by decide, rfl, by decide⟩ <|
  fn_cons ⟨Try.func29, by decide, rfl, by decide⟩ <|
  fn_cons ⟨Try.func30, by decide, rfl, by decide⟩ <|
  fn_cons ⟨Try.func31, by decide, rfl, by decide⟩ <|
  fn_cons ⟨Try.func32, by decide, rfl, by decide⟩ <|
  fn_cons ⟨Try.func33, by decide, rfl, by decide⟩ <|
  fn_cons ⟨Try.func34, by decide, rfl, by decide⟩ <|
  fn_cons ⟨Try.func35, by decide, rfl, by decide⟩ <|
  fn_cons ⟨Try.func36, by decide, rfl, by decide⟩ <|
  fn_cons ⟨Try.func37, by decide, rfl, by decide⟩ <|
  fn_cons ⟨Try.func38, by decide, rfl, by decide⟩ <|
  fn_cons ⟨Try.func39, by decide, rfl, by decide⟩ <|
  fn_cons ⟨Try.func40, by decide, rfl, by decide⟩ <|
  fn_cons ⟨Try.func41, by decide, rfl, by decide⟩ <|
  fn_cons ⟨Try.func42, by decide, rfl, by decide⟩ <|
  fn_cons ⟨Try.func43, by decide, rfl, by decide⟩ <|
  fn_cons ⟨Try.func44, by decide, rfl, by decide⟩ <|
  fn_cons ⟨Try.func45, by decide, rfl, by decide⟩ <| fn_nil
theorem tab_ok {E : World} : TabOK (pe E) (tabL fns) := tabL_ok fns_ok
theorem tab_sz : ∀ g fn, tabL fns g = some fn → fn.ntmps < 4095 := tabL_sz fns_ok
theorem mixed : Try.prog.follows .mixedOrders = true := by kernel_rfl

noncomputable def cl (y : PX) : Nat → Nat → List Int
  | _, 0 => []
  | b, n + 1 => y.n b :: cl y (b + 1) n
noncomputable def rw3 (y : PX) (a : Nat) (R : Prop) : Prop := 5 = 5 ∧ (Ho.flat [.r .u8 0 255] = true ∧ Ho.Row [.r .u8 0 255] (y.l a)) ∧ 5 = 5 ∧ (Ho.flat [.r .u8 0 255] = true ∧ Ho.Row [.r .u8 0 255] (y.l (a + 1))) ∧ 5 = 5 ∧ (Ho.flat [.r .u8 0 255] = true ∧ Ho.Row [.r .u8 0 255] (y.l (a + 2))) ∧ R
noncomputable def sB3 (y : PX) (a : Nat) (R : Prop) : Prop := sameB (Bl.mk (y.l a) 5) (Bl.mk (y.l a) 5) = true ∧ sameB (Bl.mk (y.l (a + 1)) 5) (Bl.mk (y.l (a + 1)) 5) = true ∧ sameB (Bl.mk (y.l (a + 2)) 5) (Bl.mk (y.l (a + 2)) 5) = true ∧ R
noncomputable def clS (y : PX) (d : Nat) : Nat → Nat → List Int
  | _, 0 => []
  | b, n + 1 => y.n b :: clS y d (b + d) n
theorem cl_len (y : PX) : ∀ n b : Nat, (cl y b n).length = n
  | 0, _ => rfl
  | n + 1, b => by simp only [cl, List.length_cons, cl_len y n (b + 1)]
noncomputable def rgS (y : PX) (b : Nat) (R : Prop) : Prop := ((0) ≤ y.n (b + 0) ∧ y.n (b + 0) ≤ 65535) ∧ ((0) ≤ y.n (b + 1) ∧ y.n (b + 1) ≤ 65535) ∧ ((0) ≤ y.n (b + 2) ∧ y.n (b + 2) ≤ 65535) ∧ ((0) ≤ y.n (b + 3) ∧ y.n (b + 3) ≤ 65535) ∧ ((0) ≤ y.n (b + 4) ∧ y.n (b + 4) ≤ 65535) ∧ ((0) ≤ y.n (b + 5) ∧ y.n (b + 5) ≤ 65535) ∧ ((0) ≤ y.n (b + 6) ∧ y.n (b + 6) ≤ 65535) ∧ ((0) ≤ y.n (b + 7) ∧ y.n (b + 7) ≤ 65535) ∧ ((0) ≤ y.n (b + 8) ∧ y.n (b + 8) ≤ 65535) ∧ ((0) ≤ y.n (b + 9) ∧ y.n (b + 9) ≤ 65535) ∧ ((0) ≤ y.n (b + 10) ∧ y.n (b + 10) ≤ 65535) ∧ ((0) ≤ y.n (b + 11) ∧ y.n (b + 11) ≤ 65535) ∧ ((0) ≤ y.n (b + 12) ∧ y.n (b + 12) ≤ 65535) ∧ ((-32768) ≤ y.n (b + 13) ∧ y.n (b + 13) ≤ 32767) ∧ ((-32768) ≤ y.n (b + 14) ∧ y.n (b + 14) ≤ 32767) ∧ ((-32768) ≤ y.n (b + 15) ∧ y.n (b + 15) ≤ 32767) ∧ ((-32768) ≤ y.n (b + 16) ∧ y.n (b + 16) ≤ 32767) ∧ ((-32768) ≤ y.n (b + 17) ∧ y.n (b + 17) ≤ 32767) ∧ ((-32768) ≤ y.n (b + 18) ∧ y.n (b + 18) ≤ 32767) ∧ ((-32768) ≤ y.n (b + 19) ∧ y.n (b + 19) ≤ 32767) ∧ ((-32768) ≤ y.n (b + 20) ∧ y.n (b + 20) ≤ 32767) ∧ ((-2147483648) ≤ y.n (b + 21) ∧ y.n (b + 21) ≤ 2147483647) ∧ ((-2147483648) ≤ y.n (b + 22) ∧ y.n (b + 22) ≤ 2147483647) ∧ ((-2147483648) ≤ y.n (b + 23) ∧ y.n (b + 23) ≤ 2147483647) ∧ ((-2147483648) ≤ y.n (b + 24) ∧ y.n (b + 24) ≤ 2147483647) ∧ ((0) ≤ y.n (b + 25) ∧ y.n (b + 25) ≤ 65535) ∧ R
noncomputable def kpS (y : PX) (b : Nat) (R : Prop) : Prop := decide (y.n (b + 0) = y.n (b + 0)) = true ∧ decide (y.n (b + 1) = y.n (b + 1)) = true ∧ decide (y.n (b + 2) = y.n (b + 2)) = true ∧ decide (y.n (b + 3) = y.n (b + 3)) = true ∧ decide (y.n (b + 4) = y.n (b + 4)) = true ∧ decide (y.n (b + 5) = y.n (b + 5)) = true ∧ decide (y.n (b + 6) = y.n (b + 6)) = true ∧ decide (y.n (b + 7) = y.n (b + 7)) = true ∧ decide (y.n (b + 8) = y.n (b + 8)) = true ∧ decide (y.n (b + 9) = y.n (b + 9)) = true ∧ decide (y.n (b + 10) = y.n (b + 10)) = true ∧ decide (y.n (b + 11) = y.n (b + 11)) = true ∧ decide (y.n (b + 12) = y.n (b + 12)) = true ∧ decide (y.n (b + 13) = y.n (b + 13)) = true ∧ decide (y.n (b + 14) = y.n (b + 14)) = true ∧ decide (y.n (b + 15) = y.n (b + 15)) = true ∧ decide (y.n (b + 16) = y.n (b + 16)) = true ∧ decide (y.n (b + 17) = y.n (b + 17)) = true ∧ decide (y.n (b + 18) = y.n (b + 18)) = true ∧ decide (y.n (b + 19) = y.n (b + 19)) = true ∧ decide (y.n (b + 20) = y.n (b + 20)) = true ∧ decide (y.n (b + 21) = y.n (b + 21)) = true ∧ decide (y.n (b + 22) = y.n (b + 22)) = true ∧ decide (y.n (b + 23) = y.n (b + 23)) = true ∧ decide (y.n (b + 24) = y.n (b + 24)) = true ∧ decide (y.n (b + 25) = y.n (b + 25)) = true ∧ R
end Go.Proofs.Ytdomhmajoclpeaa

