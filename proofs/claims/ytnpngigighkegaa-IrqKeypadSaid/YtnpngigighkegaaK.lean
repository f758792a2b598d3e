import Derived.Test.YtnpngigighkegaaRows
import Derived.Test.YtnpngigighkegaaEw
set_option linter.unusedVariables false
set_option linter.unusedSimpArgs false
namespace Go.Proofs.Ytnpngigighkegaa
open Go Go.Proofs Go.Proofs.Ytnpngigighkegaa.Ev

noncomputable def fns : List (FuncId × Func) := [(3, Try.f3), (4, Try.f4), (5, Try.f5), (6, Try.f6), (7, Try.f7), (8, Try.f8), (9, Try.f9), (10, Try.f10), (11, Try.f11), (12, Try.f12), (13, Try.f13), (14, Try.f14), (15, Try.f15), (16, Try.f16), (17, Try.f17), (18, Try.f18), (19, Try.f19), (20, Try.f20), (21, Try.f21), (22, Try.f22), (23, Try.f23)]
theorem fns_ok : ∀ p, p ∈ fns → FnOK Try.prog p :=
  fn_cons ⟨Try.func3, by decide, rfl, by decide⟩ <|
  fn_cons ⟨Try.func4, by decide, rfl, by decide⟩ <|
  fn_cons ⟨Try.func5, by decide, rfl, by decide⟩ <|
  fn_cons ⟨Try.func6, by decide, rfl, by decide⟩ <|
  fn_cons ⟨Try.func7, by decide, rfl, by decide⟩ <|
  fn_cons ⟨Try.func8, by decide, rfl, by decide⟩ <|
  fn_cons ⟨Try.func9, by decide, rfl, by decide⟩ <|
  fn_cons ⟨Try.func10, by decide, rfl, by decide⟩ <|
  fn_cons ⟨Try.func11, by decide, rfl, by decide⟩ <|
  fn_cons ⟨Try.func12, by decide, rfl, by decide⟩ <|
  fn_cons ⟨Try.func13, by decide, rfl, by decide⟩ <|
  fn_cons ⟨Try.func14, by decide, rfl, by decide⟩ <|
  fn_cons ⟨Try.func15, by decide, rfl, by decide⟩ <|
  fn_cons ⟨Try.func16, by decide, rfl, by decide⟩ <|
  fn_cons ⟨Try.func17, by decide, rfl, by decide⟩ <|
  fn_cons ⟨Try.func18, by decide, rfl, by decide⟩ <|
  fn_cons ⟨Try.func19, by decide, rfl, by decide⟩ <|
  fn_cons ⟨Try.func20, by decide, rfl, by decide⟩ <|
  fn_cons ⟨Try.func21, by decide, rfl, by decide⟩ <|
  fn_cons ⟨Try.func22, by decide, rfl, by decide⟩ <|
  fn_cons ⟨Try.func23, by decide, rfl, by decide⟩ <| fn_nil
theorem tab_ok : TabOK Try.prog (tabL fns) := tabL_ok fns_ok
theorem tab_sz : ∀ g fn, tabL fns g = some fn → fn.ntmps < 4095 := tabL_sz fns_ok
theorem mixed : Try.prog.follows .mixedOrders = true := by kernel_rfl


def gv (w : Int) : Int := bits .and .u16 w 1023
def wr (r w k : Int) : Int := if bits .and .u16 w 16384 = 0 then r else if bits .and .u16 w 32768 = 0 then (if bits .and .u16 k (gv w) = 0 then r else bits .or .u16 r 4096) else (if bits .and .u16 k (gv w) = gv w then bits .or .u16 r 4096 else r)
theorem watch_p (e r w k : Int) (m : Bool) :
    (conH (.t []) [⟨[.i false .u16 e, .i false .u16 (wr r w k), .i false .u16 w, .i false .u16 k, .b false m], 45⟩] (fnTree Try.prog orcNone (tabL fns) 1000 Try.f21 [.c (.p 0 0)] [⟨[.i false .u16 e, .i false .u16 r, .i false .u16 w, .i false .u16 k, .b false m], 45⟩])) =
    (((bits BinOp.and IntKind.u16 w (16384 : Int) == (0 : Int)) = true → True ∧ ((45 : Nat) = (45 : Nat) ∧ (IntKind.u16 = IntKind.u16 ∧ e = e) ∧ (IntKind.u16 = IntKind.u16 ∧ r
      = wr r w k) ∧ (IntKind.u16 = IntKind.u16 ∧ w = w) ∧ (IntKind.u16 = IntKind.u16 ∧ k = k) ∧ m = m) ∧ True) ∧ ((bits BinOp.and IntKind.u16 w (16384 : Int) == (0 : Int)) =
      false → ((bits BinOp.and IntKind.u16 w (32768 : Int) != (0 : Int)) = true → ((bits BinOp.and IntKind.u16 k (bits BinOp.and IntKind.u16 w (1023 : Int)) == bits BinOp.and
      IntKind.u16 w (1023 : Int)) = true → True ∧ ((45 : Nat) = (45 : Nat) ∧ (IntKind.u16 = IntKind.u16 ∧ e = e) ∧ (IntKind.u16 = IntKind.u16 ∧ bits BinOp.or IntKind.u16 r (4096
      : Int) = wr r w k) ∧ (IntKind.u16 = IntKind.u16 ∧ w = w) ∧ (IntKind.u16 = IntKind.u16 ∧ k = k) ∧ m = m) ∧ True) ∧ ((bits BinOp.and IntKind.u16 k (bits BinOp.and
      IntKind.u16 w (1023 : Int)) == bits BinOp.and IntKind.u16 w (1023 : Int)) = false → ((bits BinOp.and IntKind.u16 w (32768 : Int) == (0 : Int)) = true → ((bits BinOp.and
      IntKind.u16 k (bits BinOp.and IntKind.u16 w (1023 : Int)) != (0 : Int)) = true → True ∧ ((45 : Nat) = (45 : Nat) ∧ (IntKind.u16 = IntKind.u16 ∧ e = e) ∧ (IntKind.u16 =
      IntKind.u16 ∧ bits BinOp.or IntKind.u16 r (4096 : Int) = wr r w k) ∧ (IntKind.u16 = IntKind.u16 ∧ w = w) ∧ (IntKind.u16 = IntKind.u16 ∧ k = k) ∧ m = m) ∧ True) ∧ ((bits
      BinOp.and IntKind.u16 k (bits BinOp.and IntKind.u16 w (1023 : Int)) != (0 : Int)) = false → True ∧ ((45 : Nat) = (45 : Nat) ∧ (IntKind.u16 = IntKind.u16 ∧ e = e) ∧
      (IntKind.u16 = IntKind.u16 ∧ r = wr r w k) ∧ (IntKind.u16 = IntKind.u16 ∧ w = w) ∧ (IntKind.u16 = IntKind.u16 ∧ k = k) ∧ m = m) ∧ True)) ∧ ((bits BinOp.and IntKind.u16 w
      (32768 : Int) == (0 : Int)) = false → True ∧ ((45 : Nat) = (45 : Nat) ∧ (IntKind.u16 = IntKind.u16 ∧ e = e) ∧ (IntKind.u16 = IntKind.u16 ∧ r = wr r w k) ∧ (IntKind.u16 =
      IntKind.u16 ∧ w = w) ∧ (IntKind.u16 = IntKind.u16 ∧ k = k) ∧ m = m) ∧ True))) ∧ ((bits BinOp.and IntKind.u16 w (32768 : Int) != (0 : Int)) = false → ((bits BinOp.and
      IntKind.u16 w (32768 : Int) == (0 : Int)) = true → ((bits BinOp.and IntKind.u16 k (bits BinOp.and IntKind.u16 w (1023 : Int)) != (0 : Int)) = true → True ∧ ((45 : Nat) =
      (45 : Nat) ∧ (IntKind.u16 = IntKind.u16 ∧ e = e) ∧ (IntKind.u16 = IntKind.u16 ∧ bits BinOp.or IntKind.u16 r (4096 : Int) = wr r w k) ∧ (IntKind.u16 = IntKind.u16 ∧ w = w)
      ∧ (IntKind.u16 = IntKind.u16 ∧ k = k) ∧ m = m) ∧ True) ∧ ((bits BinOp.and IntKind.u16 k (bits BinOp.and IntKind.u16 w (1023 : Int)) != (0 : Int)) = false → True ∧ ((45 :
      Nat) = (45 : Nat) ∧ (IntKind.u16 = IntKind.u16 ∧ e = e) ∧ (IntKind.u16 = IntKind.u16 ∧ r = wr r w k) ∧ (IntKind.u16 = IntKind.u16 ∧ w = w) ∧ (IntKind.u16 = IntKind.u16 ∧ k
      = k) ∧ m = m) ∧ True)) ∧ ((bits BinOp.and IntKind.u16 w (32768 : Int) == (0 : Int)) = false → True ∧ ((45 : Nat) = (45 : Nat) ∧ (IntKind.u16 = IntKind.u16 ∧ e = e) ∧
      (IntKind.u16 = IntKind.u16 ∧ r = wr r w k) ∧ (IntKind.u16 = IntKind.u16 ∧ w = w) ∧ (IntKind.u16 = IntKind.u16 ∧ k = k) ∧ m = m) ∧ True)))) := by kernel_rfl
theorem watch_ok (e r w k : Int) (m : Bool) : conH (.t []) [⟨[.i false .u16 e, .i false .u16 (wr r w k), .i false .u16 w, .i false .u16 k, .b false m], 45⟩] (fnTree Try.prog orcNone (tabL fns) 1000 Try.f21 [.c (.p 0 0)] [⟨[.i false .u16 e, .i false .u16 r, .i false .u16 w, .i false .u16 k, .b false m], 45⟩]) := by
  rw [watch_p]
  unfold wr gv
  simp only [beqd, bne0, ne_eq, decide_eq_true_eq, decide_eq_false_iff_not, Decidable.not_not]
  (repeat' first | apply And.intro | intro _) <;> first | rfl | trivial | (simp_all; done)
theorem watch_c (l0 l1 l2 l3 l4 : Bool) (e r w k : Int) (m : Bool) : CallTree Try.prog 21 [.c (.p 0 0)] [⟨[.i l0 .u16 e, .i l1 .u16 r, .i l2 .u16 w, .i l3 .u16 k, .b l4 m], 45⟩] (.leaf (.t [], [⟨[.i false .u16 e, .i false .u16 (wr r w k), .i false .u16 w, .i false .u16 k, .b false m], 45⟩])) := by
  refine CallTree.ref (s' := [⟨[.i false .u16 e, .i false .u16 r, .i false .u16 w, .i false .u16 k, .b false m], 45⟩]) ⟨⟨rfl, ⟨rfl, rfl⟩, ⟨rfl, rfl⟩, ⟨rfl, rfl⟩, ⟨rfl, rfl⟩, rfl⟩, trivial⟩ ?_
  exact heap_contract (fnTree_sound orcNone_ok tab_ok tab_sz mixed 1000 Try.func21 (by decide) [.c (.p 0 0)] [⟨[.i false .u16 e, .i false .u16 r, .i false .u16 w, .i false .u16 k, .b false m], 45⟩]) (watch_ok e r w k m)
def orcW : Orc := fun g vs s => match g, vs, s with
  | 21, [.c (.p 0 0)], [⟨[.i _ .u16 e, .i _ .u16 r, .i _ .u16 w, .i _ .u16 k, .b _ m], 45⟩] => some (.leaf (.t [], [⟨[.i false .u16 e, .i false .u16 (wr r w k), .i false .u16 w, .i false .u16 k, .b false m], 45⟩]))
  | _, _, _ => none
theorem orcW_ok : OrcOK Try.prog orcW := by
  intro g vs s t h
  unfold orcW at h
  split at h
  · cases h
    exact watch_c _ _ _ _ _ _ _ _ _ _
  · cases h
theorem awake_p  :
    (conP (.c (.b true true)) (fnTree Try.prog orcNone (tabL fns) 20000 Try.f7 [] [])) =
    (true = true) := by kernel_rfl
set_option maxRecDepth 100000 in
theorem awake_c (s : SW) : CallTree Try.prog 7 [] s (.leaf (.c (.b true true), s)) := by
  exact pure_contract (fnTree_sound orcNone_ok tab_ok tab_sz mixed 20000 Try.func7 (by decide) [] []) (by simp [SV.ok, C.ok, okL]) (v := .c (.b true true)) rfl (conP_OK _ (by rw [awake_p])) s
def orc2 : Orc := fun g vs s => match g, vs with
  | 7, [] => some (.leaf (.c (.b true true), s))
  | g, vs => orcW g vs s
theorem orc2_ok : OrcOK Try.prog orc2 := by
  intro g vs s t h
  unfold orc2 at h
  split at h
  · cases h
    exact awake_c s
  · exact orcW_ok _ _ _ _ h

theorem key_p (w k : Int) :
    (lawP (fnTree Try.prog orc2 (tabL fns) 20000 Try.f6 [.c (.i false .u16 w), .c (.i false .u16 k)] [])) =
    ((wr (wr (0 : Int) (bits BinOp.and IntKind.u16 (bits BinOp.andNot IntKind.u16 w (16384 : Int)) (50175 : Int)) (0 : Int)) (bits BinOp.and IntKind.u16 (bits BinOp.andNot
      IntKind.u16 w (16384 : Int)) (50175 : Int)) (bits BinOp.and IntKind.u16 k (1023 : Int)) != (0 : Int)) = false ∧ (bits BinOp.and IntKind.u16 (bits BinOp.xor IntKind.u16
      (65535 : Int) (bits BinOp.and IntKind.u16 k (1023 : Int))) (1023 : Int) != bits BinOp.and IntKind.u16 (bits BinOp.xor IntKind.u16 (65535 : Int) k) (1023 : Int)) = false ∧
      ((w.fdiv (32768 : Int) == (1 : Int)) = true → (false ^^ (wr (wr (wr (0 : Int) (bits BinOp.and IntKind.u16 (bits BinOp.andNot IntKind.u16 w (16384 : Int)) (50175 : Int)) (0
      : Int)) (bits BinOp.and IntKind.u16 (bits BinOp.andNot IntKind.u16 w (16384 : Int)) (50175 : Int)) (bits BinOp.and IntKind.u16 k (1023 : Int))) (bits BinOp.and IntKind.u16
      (bits BinOp.or IntKind.u16 w (16384 : Int)) (50175 : Int)) (bits BinOp.and IntKind.u16 k (1023 : Int)) == (4096 : Int)) == (bits BinOp.andNot IntKind.u16 (bits BinOp.and
      IntKind.u16 w (1023 : Int)) (bits BinOp.and IntKind.u16 k (1023 : Int)) == (0 : Int))) = true ∧ (false ^^ (wr (wr (wr (0 : Int) (bits BinOp.and IntKind.u16 (bits
      BinOp.andNot IntKind.u16 w (16384 : Int)) (50175 : Int)) (0 : Int)) (bits BinOp.and IntKind.u16 (bits BinOp.andNot IntKind.u16 w (16384 : Int)) (50175 : Int)) (bits
      BinOp.and IntKind.u16 k (1023 : Int))) (bits BinOp.and IntKind.u16 (bits BinOp.or IntKind.u16 w (16384 : Int)) (50175 : Int)) (bits BinOp.and IntKind.u16 k (1023 : Int))
      == (0 : Int)) == !bits BinOp.andNot IntKind.u16 (bits BinOp.and IntKind.u16 w (1023 : Int)) (bits BinOp.and IntKind.u16 k (1023 : Int)) == (0 : Int)) = true) ∧ ((w.fdiv
      (32768 : Int) == (1 : Int)) = false → (false ^^ (wr (wr (wr (0 : Int) (bits BinOp.and IntKind.u16 (bits BinOp.andNot IntKind.u16 w (16384 : Int)) (50175 : Int)) (0 : Int))
      (bits BinOp.and IntKind.u16 (bits BinOp.andNot IntKind.u16 w (16384 : Int)) (50175 : Int)) (bits BinOp.and IntKind.u16 k (1023 : Int))) (bits BinOp.and IntKind.u16 (bits
      BinOp.or IntKind.u16 w (16384 : Int)) (50175 : Int)) (bits BinOp.and IntKind.u16 k (1023 : Int)) == (4096 : Int)) == (bits BinOp.and IntKind.u16 (bits BinOp.and
      IntKind.u16 w (1023 : Int)) (bits BinOp.and IntKind.u16 k (1023 : Int)) != (0 : Int))) = true ∧ (false ^^ (wr (wr (wr (0 : Int) (bits BinOp.and IntKind.u16 (bits
      BinOp.andNot IntKind.u16 w (16384 : Int)) (50175 : Int)) (0 : Int)) (bits BinOp.and IntKind.u16 (bits BinOp.andNot IntKind.u16 w (16384 : Int)) (50175 : Int)) (bits
      BinOp.and IntKind.u16 k (1023 : Int))) (bits BinOp.and IntKind.u16 (bits BinOp.or IntKind.u16 w (16384 : Int)) (50175 : Int)) (bits BinOp.and IntKind.u16 k (1023 : Int))
      == (0 : Int)) == !bits BinOp.and IntKind.u16 (bits BinOp.and IntKind.u16 w (1023 : Int)) (bits BinOp.and IntKind.u16 k (1023 : Int)) != (0 : Int)) = true)) := by kernel_rfl
end Go.Proofs.Ytnpngigighkegaa

