import Derived.Test.YtkgpcdnlbgmglaaRows
import Derived.Test.YtkgpcdnlbgmglaaEw
set_option linter.unusedVariables false
set_option linter.unusedSimpArgs false
namespace Go.Proofs.Ytkgpcdnlbgmglaa
open Go Go.Proofs Go.Proofs.Ytkgpcdnlbgmglaa.Ev

noncomputable def fns : List (FuncId × Func) := [(3, Try.f3), (4, Try.f4), (5, Try.f5), (6, Try.f6), (7, Try.f7), (8, Try.f8), (9, Try.f9), (10, Try.f10), (11, Try.f11), (12, Try.f12), (13, Try.f13), (14, Try.f14), (15, Try.f15), (16, Try.f16), (17, Try.f17), (18, Try.f18), (19, Try.f19), (20, Try.f20), (21, Try.f21), (22, Try.f22), (23, Try.f23), (24, Try.f24), (25, Try.f25), (26, Try.f26), (27, Try.f27), (28, Try.f28), (29, Try.f29), (30, Try.f30), (31, Try.f31), (32, Try.f32), (33, Try.f33), (34, Try.f34), (35, Try.f35), (36, Try.f36), (37, Try.f37), (38, Try.f38)]
theorem fns_ok : ∀ p, p ∈ fns → FnOK Try.prog p :=
  fn_cons ⟨Try.func3, by decide, rfl, by decide⟩ <|
  fn_cons ⟨Try.func4, by decide, rfl, by decide⟩ <|
  fn_cons ⟨Try.func5, by decide, rfl, by decide⟩ <|
  fn_cons ⟨Try.func6, by decide, rfl, by decide⟩ <|
  fn_cons ⟨Try.func7, by decide, rfl, by decide⟩ <|
  fn_cons ⟨Try.func8, by decide, rfl, by decide⟩ <|
  fn_cons ⟨Try.func9, by decide, rfl, by decide⟩ <|
  fn_cons ⟨Try.func10, by decide, rfl, by decide⟩ <|
  fn_cons ⟨Try.func11, by decide, rfl, by decide⟩ <|
  fn_cons ⟨Try.func12, by decide, rfl, by decide⟩ <|
  fn_cons ⟨Try.func13, by decide, rfl, by decide⟩ <|
  fn_cons ⟨Try.func14, by decide, rfl, by decide⟩ <|
  fn_cons ⟨Try.func15, by decide, rfl, by decide⟩ <|
  fn_cons ⟨Try.func16, by decide, rfl, by decide⟩ <|
  fn_cons ⟨Try.func17, by decide, rfl, by decide⟩ <|
  fn_cons ⟨Try.func18, by decide, rfl, by decide⟩ <|
  fn_cons ⟨Try.func19, by decide, rfl, by decide⟩ <|
  fn_cons ⟨Try.func20, by decide, rfl, by decide⟩ <|
  fn_cons ⟨Try.func21, by decide, rfl, by decide⟩ <|
  fn_cons ⟨Try.func22, by decide, rfl, by decide⟩ <|
  fn_cons ⟨Try.func23, by decide, rfl, by decide⟩ <|
  fn_cons ⟨Try.func24, by decide, rfl, by decide⟩ <|
  fn_cons ⟨Try.func25, by decide, rfl, by decide⟩ <|
  fn_cons ⟨Try.func26, by decide, rfl, by decide⟩ <|
  fn_cons ⟨Try.func27, by decide, rfl, by decide⟩ <|
  fn_cons ⟨Try.func28, by decide, rfl, by decide⟩ <|
  fn_cons ⟨Try.func29, by decide, rfl, by decide⟩ <|
  fn_cons ⟨Try.func30, by decide, rfl, by decide⟩ <|
  fn_cons ⟨Try.func31, by decide, rfl, by decide⟩ <|
  fn_cons ⟨Try.func32, by decide, rfl, by decide⟩ <|
  fn_cons ⟨Try.func33, by decide, rfl, by decide⟩ <|
  fn_cons ⟨Try.func34, by decide, rfl, by decide⟩ <|
  fn_cons ⟨Try.func35, by decide, rfl, by decide⟩ <|
  fn_cons ⟨Try.func36, by decide, rfl, by decide⟩ <|
  fn_cons ⟨Try.func37, by decide, rfl, by decide⟩ <|
  fn_cons ⟨Try.func38, by decide, rfl, by decide⟩ <| fn_nil
theorem tab_ok : TabOK Try.prog (tabL fns) := tabL_ok fns_ok
theorem tab_sz : ∀ g fn, tabL fns g = some fn → fn.ntmps < 4095 := tabL_sz fns_ok
theorem mixed : Try.prog.follows .mixedOrders = true := by kernel_rfl


theorem BankAll_p (s : Int) :
    (lawP (fnTree Try.prog orcNone (tabL fns) 20000 Try.f7 [.c (.i false .u32 s)] [])) =
    ((IntKind.u32.wrap (s + (13 : Int)) != IntKind.u32.wrap (s + (13 : Int))) = false ∧ (IntKind.u32.wrap (s + (14 : Int)) != IntKind.u32.wrap (s + (14 : Int))) = false ∧ (bits
      BinOp.xor IntKind.u32 s (17 : Int) != bits BinOp.xor IntKind.u32 s (17 : Int)) = false ∧ (IntKind.u32.wrap (s + (513 : Int)) != IntKind.u32.wrap (s + (513 : Int))) = false
      ∧ (IntKind.u32.wrap (s + (8 : Int)) != IntKind.u32.wrap (s + (8 : Int))) = false ∧ (IntKind.u32.wrap (s + (508 : Int)) != IntKind.u32.wrap (s + (508 : Int))) = false ∧
      (IntKind.u32.wrap (s + (9 : Int)) != IntKind.u32.wrap (s + (9 : Int))) = false ∧ (IntKind.u32.wrap (s + (509 : Int)) != IntKind.u32.wrap (s + (509 : Int))) = false ∧
      (IntKind.u32.wrap (s + (10 : Int)) != IntKind.u32.wrap (s + (10 : Int))) = false ∧ (IntKind.u32.wrap (s + (510 : Int)) != IntKind.u32.wrap (s + (510 : Int))) = false ∧
      (IntKind.u32.wrap (s + (11 : Int)) != IntKind.u32.wrap (s + (11 : Int))) = false ∧ (IntKind.u32.wrap (s + (511 : Int)) != IntKind.u32.wrap (s + (511 : Int))) = false ∧
      (IntKind.u32.wrap (s + (12 : Int)) != IntKind.u32.wrap (s + (12 : Int))) = false ∧ (IntKind.u32.wrap (s + (512 : Int)) != IntKind.u32.wrap (s + (512 : Int))) = false ∧
      (IntKind.u32.wrap (s * (1 : Int)) != IntKind.u32.wrap (s * (1 : Int))) = false ∧ (IntKind.u32.wrap (s * (2 : Int)) != IntKind.u32.wrap (s * (2 : Int))) = false ∧
      (IntKind.u32.wrap (s * (3 : Int)) != IntKind.u32.wrap (s * (3 : Int))) = false ∧ (IntKind.u32.wrap (s * (4 : Int)) != IntKind.u32.wrap (s * (4 : Int))) = false ∧
      (IntKind.u32.wrap (s * (5 : Int)) != IntKind.u32.wrap (s * (5 : Int))) = false ∧ (IntKind.u32.wrap (s * (6 : Int)) != IntKind.u32.wrap (s * (6 : Int))) = false ∧
      (IntKind.u32.wrap (s * (7 : Int)) != IntKind.u32.wrap (s * (7 : Int))) = false ∧ (IntKind.u32.wrap (s * (8 : Int)) != IntKind.u32.wrap (s * (8 : Int))) = false ∧
      (IntKind.u32.wrap (s + (113 : Int)) != IntKind.u32.wrap (s + (113 : Int))) = false ∧ (IntKind.u32.wrap (s + (114 : Int)) != IntKind.u32.wrap (s + (114 : Int))) = false ∧
      (bits BinOp.xor IntKind.u32 s (18 : Int) != bits BinOp.xor IntKind.u32 s (18 : Int)) = false ∧ (IntKind.u32.wrap (s + (513 : Int)) != IntKind.u32.wrap (s + (513 : Int))) =
      false ∧ (IntKind.u32.wrap (s + (508 : Int)) != IntKind.u32.wrap (s + (508 : Int))) = false ∧ (IntKind.u32.wrap (s + (508 : Int)) != IntKind.u32.wrap (s + (508 : Int))) =
      false ∧ (IntKind.u32.wrap (s + (509 : Int)) != IntKind.u32.wrap (s + (509 : Int))) = false ∧ (IntKind.u32.wrap (s + (509 : Int)) != IntKind.u32.wrap (s + (509 : Int))) =
      false ∧ (IntKind.u32.wrap (s + (510 : Int)) != IntKind.u32.wrap (s + (510 : Int))) = false ∧ (IntKind.u32.wrap (s + (510 : Int)) != IntKind.u32.wrap (s + (510 : Int))) =
      false ∧ (IntKind.u32.wrap (s + (511 : Int)) != IntKind.u32.wrap (s + (511 : Int))) = false ∧ (IntKind.u32.wrap (s + (511 : Int)) != IntKind.u32.wrap (s + (511 : Int))) =
      false ∧ (IntKind.u32.wrap (s + (512 : Int)) != IntKind.u32.wrap (s + (512 : Int))) = false ∧ (IntKind.u32.wrap (s + (512 : Int)) != IntKind.u32.wrap (s + (512 : Int))) =
      false ∧ (IntKind.u32.wrap (s * (1 : Int)) != IntKind.u32.wrap (s * (1 : Int))) = false ∧ (IntKind.u32.wrap (s * (2 : Int)) != IntKind.u32.wrap (s * (2 : Int))) = false ∧
      (IntKind.u32.wrap (s * (3 : Int)) != IntKind.u32.wrap (s * (3 : Int))) = false ∧ (IntKind.u32.wrap (s * (4 : Int)) != IntKind.u32.wrap (s * (4 : Int))) = false ∧
      (IntKind.u32.wrap (s * (5 : Int)) != IntKind.u32.wrap (s * (5 : Int))) = false ∧ (IntKind.u32.wrap (s * (6 : Int)) != IntKind.u32.wrap (s * (6 : Int))) = false ∧
      (IntKind.u32.wrap (s * (7 : Int)) != IntKind.u32.wrap (s * (7 : Int))) = false ∧ (IntKind.u32.wrap (s * (8 : Int)) != IntKind.u32.wrap (s * (8 : Int))) = false ∧
      (IntKind.u32.wrap (s + (213 : Int)) != IntKind.u32.wrap (s + (213 : Int))) = false ∧ (IntKind.u32.wrap (s + (214 : Int)) != IntKind.u32.wrap (s + (214 : Int))) = false ∧
      (bits BinOp.xor IntKind.u32 s (19 : Int) != bits BinOp.xor IntKind.u32 s (19 : Int)) = false ∧ (IntKind.u32.wrap (s + (513 : Int)) != IntKind.u32.wrap (s + (513 : Int))) =
      false ∧ (IntKind.u32.wrap (s + (508 : Int)) != IntKind.u32.wrap (s + (508 : Int))) = false ∧ (IntKind.u32.wrap (s + (508 : Int)) != IntKind.u32.wrap (s + (508 : Int))) =
      false ∧ (IntKind.u32.wrap (s + (509 : Int)) != IntKind.u32.wrap (s + (509 : Int))) = false ∧ (IntKind.u32.wrap (s + (509 : Int)) != IntKind.u32.wrap (s + (509 : Int))) =
      false ∧ (IntKind.u32.wrap (s + (510 : Int)) != IntKind.u32.wrap (s + (510 : Int))) = false ∧ (IntKind.u32.wrap (s + (510 : Int)) != IntKind.u32.wrap (s + (510 : Int))) =
      false ∧ (IntKind.u32.wrap (s + (511 : Int)) != IntKind.u32.wrap (s + (511 : Int))) = false ∧ (IntKind.u32.wrap (s + (511 : Int)) != IntKind.u32.wrap (s + (511 : Int))) =
      false ∧ (IntKind.u32.wrap (s + (512 : Int)) != IntKind.u32.wrap (s + (512 : Int))) = false ∧ (IntKind.u32.wrap (s + (512 : Int)) != IntKind.u32.wrap (s + (512 : Int))) =
      false ∧ (IntKind.u32.wrap (s * (1 : Int)) != IntKind.u32.wrap (s * (1 : Int))) = false ∧ (IntKind.u32.wrap (s * (2 : Int)) != IntKind.u32.wrap (s * (2 : Int))) = false ∧
      (IntKind.u32.wrap (s * (3 : Int)) != IntKind.u32.wrap (s * (3 : Int))) = false ∧ (IntKind.u32.wrap (s * (4 : Int)) != IntKind.u32.wrap (s * (4 : Int))) = false ∧
      (IntKind.u32.wrap (s * (5 : Int)) != IntKind.u32.wrap (s * (5 : Int))) = false ∧ (IntKind.u32.wrap (s * (6 : Int)) != IntKind.u32.wrap (s * (6 : Int))) = false ∧
      (IntKind.u32.wrap (s * (7 : Int)) != IntKind.u32.wrap (s * (7 : Int))) = false ∧ (IntKind.u32.wrap (s * (8 : Int)) != IntKind.u32.wrap (s * (8 : Int))) = false ∧
      (IntKind.u32.wrap (s + (313 : Int)) != IntKind.u32.wrap (s + (313 : Int))) = false ∧ (IntKind.u32.wrap (s + (314 : Int)) != IntKind.u32.wrap (s + (314 : Int))) = false ∧
      (bits BinOp.xor IntKind.u32 s (23 : Int) != bits BinOp.xor IntKind.u32 s (23 : Int)) = false ∧ (IntKind.u32.wrap (s + (513 : Int)) != IntKind.u32.wrap (s + (513 : Int))) =
      false ∧ (IntKind.u32.wrap (s + (508 : Int)) != IntKind.u32.wrap (s + (508 : Int))) = false ∧ (IntKind.u32.wrap (s + (508 : Int)) != IntKind.u32.wrap (s + (508 : Int))) =
      false ∧ (IntKind.u32.wrap (s + (509 : Int)) != IntKind.u32.wrap (s + (509 : Int))) = false ∧ (IntKind.u32.wrap (s + (509 : Int)) != IntKind.u32.wrap (s + (509 : Int))) =
      false ∧ (IntKind.u32.wrap (s + (510 : Int)) != IntKind.u32.wrap (s + (510 : Int))) = false ∧ (IntKind.u32.wrap (s + (510 : Int)) != IntKind.u32.wrap (s + (510 : Int))) =
      false ∧ (IntKind.u32.wrap (s + (511 : Int)) != IntKind.u32.wrap (s + (511 : Int))) = false ∧ (IntKind.u32.wrap (s + (511 : Int)) != IntKind.u32.wrap (s + (511 : Int))) =
      false ∧ (IntKind.u32.wrap (s + (512 : Int)) != IntKind.u32.wrap (s + (512 : Int))) = false ∧ (IntKind.u32.wrap (s + (512 : Int)) != IntKind.u32.wrap (s + (512 : Int))) =
      false ∧ (IntKind.u32.wrap (s * (1 : Int)) != IntKind.u32.wrap (s * (1 : Int))) = false ∧ (IntKind.u32.wrap (s * (2 : Int)) != IntKind.u32.wrap (s * (2 : Int))) = false ∧
      (IntKind.u32.wrap (s * (3 : Int)) != IntKind.u32.wrap (s * (3 : Int))) = false ∧ (IntKind.u32.wrap (s * (4 : Int)) != IntKind.u32.wrap (s * (4 : Int))) = false ∧
      (IntKind.u32.wrap (s * (5 : Int)) != IntKind.u32.wrap (s * (5 : Int))) = false ∧ (IntKind.u32.wrap (s * (6 : Int)) != IntKind.u32.wrap (s * (6 : Int))) = false ∧
      (IntKind.u32.wrap (s * (7 : Int)) != IntKind.u32.wrap (s * (7 : Int))) = false ∧ (IntKind.u32.wrap (s * (8 : Int)) != IntKind.u32.wrap (s * (8 : Int))) = false ∧
      (IntKind.u32.wrap (s + (413 : Int)) != IntKind.u32.wrap (s + (413 : Int))) = false ∧ (IntKind.u32.wrap (s + (414 : Int)) != IntKind.u32.wrap (s + (414 : Int))) = false ∧
      (bits BinOp.xor IntKind.u32 s (27 : Int) != bits BinOp.xor IntKind.u32 s (27 : Int)) = false ∧ (IntKind.u32.wrap (s + (513 : Int)) != IntKind.u32.wrap (s + (513 : Int))) =
      false ∧ (IntKind.u32.wrap (s + (508 : Int)) != IntKind.u32.wrap (s + (508 : Int))) = false ∧ (IntKind.u32.wrap (s + (508 : Int)) != IntKind.u32.wrap (s + (508 : Int))) =
      false ∧ (IntKind.u32.wrap (s + (509 : Int)) != IntKind.u32.wrap (s + (509 : Int))) = false ∧ (IntKind.u32.wrap (s + (509 : Int)) != IntKind.u32.wrap (s + (509 : Int))) =
      false ∧ (IntKind.u32.wrap (s + (510 : Int)) != IntKind.u32.wrap (s + (510 : Int))) = false ∧ (IntKind.u32.wrap (s + (510 : Int)) != IntKind.u32.wrap (s + (510 : Int))) =
      false ∧ (IntKind.u32.wrap (s + (511 : Int)) != IntKind.u32.wrap (s + (511 : Int))) = false ∧ (IntKind.u32.wrap (s + (511 : Int)) != IntKind.u32.wrap (s + (511 : Int))) =
      false ∧ (IntKind.u32.wrap (s + (512 : Int)) != IntKind.u32.wrap (s + (512 : Int))) = false ∧ (IntKind.u32.wrap (s + (512 : Int)) != IntKind.u32.wrap (s + (512 : Int))) =
      false ∧ (IntKind.u32.wrap (s * (1 : Int)) != IntKind.u32.wrap (s * (1 : Int))) = false ∧ (IntKind.u32.wrap (s * (2 : Int)) != IntKind.u32.wrap (s * (2 : Int))) = false ∧
      (IntKind.u32.wrap (s * (3 : Int)) != IntKind.u32.wrap (s * (3 : Int))) = false ∧ (IntKind.u32.wrap (s * (4 : Int)) != IntKind.u32.wrap (s * (4 : Int))) = false ∧
      (IntKind.u32.wrap (s * (5 : Int)) != IntKind.u32.wrap (s * (5 : Int))) = false ∧ (IntKind.u32.wrap (s * (6 : Int)) != IntKind.u32.wrap (s * (6 : Int))) = false ∧
      (IntKind.u32.wrap (s * (7 : Int)) != IntKind.u32.wrap (s * (7 : Int))) = false ∧ (IntKind.u32.wrap (s * (8 : Int)) != IntKind.u32.wrap (s * (8 : Int))) = false ∧
      (IntKind.u32.wrap (s + (513 : Int)) != IntKind.u32.wrap (s + (513 : Int))) = false ∧ (IntKind.u32.wrap (s + (514 : Int)) != IntKind.u32.wrap (s + (514 : Int))) = false ∧
      (IntKind.u32.wrap (s + (513 : Int)) != IntKind.u32.wrap (s + (513 : Int))) = false ∧ (IntKind.u32.wrap (s + (508 : Int)) != IntKind.u32.wrap (s + (508 : Int))) = false ∧
      (IntKind.u32.wrap (s + (508 : Int)) != IntKind.u32.wrap (s + (508 : Int))) = false ∧ (IntKind.u32.wrap (s + (509 : Int)) != IntKind.u32.wrap (s + (509 : Int))) = false ∧
      (IntKind.u32.wrap (s + (509 : Int)) != IntKind.u32.wrap (s + (509 : Int))) = false ∧ (IntKind.u32.wrap (s + (510 : Int)) != IntKind.u32.wrap (s + (510 : Int))) = false ∧
      (IntKind.u32.wrap (s + (510 : Int)) != IntKind.u32.wrap (s + (510 : Int))) = false ∧ (IntKind.u32.wrap (s + (511 : Int)) != IntKind.u32.wrap (s + (511 : Int))) = false ∧
      (IntKind.u32.wrap (s + (511 : Int)) != IntKind.u32.wrap (s + (511 : Int))) = false ∧ (IntKind.u32.wrap (s + (512 : Int)) != IntKind.u32.wrap (s + (512 : Int))) = false ∧
      (IntKind.u32.wrap (s + (512 : Int)) != IntKind.u32.wrap (s + (512 : Int))) = false ∧ (IntKind.u32.wrap (s * (1 : Int)) != IntKind.u32.wrap (s * (1 : Int))) = false ∧
      (IntKind.u32.wrap (s * (2 : Int)) != IntKind.u32.wrap (s * (2 : Int))) = false ∧ (IntKind.u32.wrap (s * (3 : Int)) != IntKind.u32.wrap (s * (3 : Int))) = false ∧
      (IntKind.u32.wrap (s * (4 : Int)) != IntKind.u32.wrap (s * (4 : Int))) = false ∧ (IntKind.u32.wrap (s * (5 : Int)) != IntKind.u32.wrap (s * (5 : Int))) = false ∧
      (IntKind.u32.wrap (s * (6 : Int)) != IntKind.u32.wrap (s * (6 : Int))) = false ∧ (IntKind.u32.wrap (s * (7 : Int)) != IntKind.u32.wrap (s * (7 : Int))) = false ∧
      (IntKind.u32.wrap (s * (8 : Int)) != IntKind.u32.wrap (s * (8 : Int))) = false ∧ true = true) := by kernel_rfl
theorem all_l (s : Int) : lawP (fnTree Try.prog orcNone (tabL fns) 20000 Try.f7 [.c (.i false .u32 s)] []) := by
  rw [BankAll_p]
  simp only [bne_self_eq_false, beq_self_eq_true, and_self, true_and, and_true, implies_true]
end Go.Proofs.Ytkgpcdnlbgmglaa

