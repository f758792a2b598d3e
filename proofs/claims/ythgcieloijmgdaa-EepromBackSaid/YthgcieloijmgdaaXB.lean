import Derived.Test.YthgcieloijmgdaaXA
set_option linter.unusedVariables false
set_option linter.unusedSimpArgs false
namespace Go.Proofs.Ythgcieloijmgdaa
open Go Go.Proofs Go.Proofs.Ythgcieloijmgdaa.Ev Go.Proofs.Ythgcieloijmgdaa.Ev.Ho
set_option maxRecDepth 100000
noncomputable def mCv (w : Int) : MB := .o [.s, .c (.i true .i64 w), .c (.i true .i64 0), .c (.b true true), .i .i64, .i .u64, .i .u64, .r .i64 0 68] 63
structure SO (s b : ByteArray) (i : Int) : Prop where
  e : txt s = ([48, 48, 48, 48] ++ txt b).take i.toNat
structure OO (out : Int) (b : ByteArray) : Prop where
  l : (txt b).length = 64
  h : ∀ k : Nat, k < 64 → (txt b)[k]? = some (UInt8.ofNat (48 + out / 2 ^ (63 - k) % 2).toNat)
structure Im (s : ByteArray) (n : Nat) : Prop where
  e : s.size = n
noncomputable def litN (t : Nat) (n : Int) : Tr → SW → Bool := fun tr _ => match tr.get t with | .c (.i _ _ m) => decide (m = n) | _ => false
noncomputable def headF : Tree Lf → List Item
  | .leaf lf => cond lf.ended [] lf.todo
  | .node _ t f => match headF t with | [] => headF f | l => l
  | .need _ t => headF t
  | .pin _ _ _ k => headF (k default)
  | .fail => []
noncomputable def ba_td (E : World) : List Item := headF (run (pe E) (orcW E) (tabL fns) 20000 (2 ^ 200 - 1) [.code (Try.f4.body.getD .skip)] ⟨Try.f4.ntmps, mkFrGo (Tr.mk 12) 0 [.c (.b true true), .c (.i true .i64 7), .c (.i true .u64 77)]⟩ [])
noncomputable def bb_td (E : World) : List Item := headF (run (pe E) (orcW E) (tabL fns) 20000 (2 ^ 200 - 1) [.code (Try.f4.body.getD .skip)] ⟨Try.f4.ntmps, mkFrGo (Tr.mk 12) 0 [.c (.b true false), .c (.i true .i64 7), .c (.i true .u64 77)]⟩ [])
theorem vlen (E : World) :
    ((ba_td E).length = 1000 ∧ (bb_td E).length = 1000) =
    ((4 : Nat) = (1000 : Nat) ∧ (4 : Nat) = (1000 : Nat)) := by kernel_rfl
end Go.Proofs.Ythgcieloijmgdaa

