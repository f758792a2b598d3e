import Derived.Test.YtabklphoccicmaaG
set_option linter.unusedVariables false
set_option linter.unusedSimpArgs false
namespace Go.Proofs.Ytabklphoccicmaa
open Go Go.Proofs Go.Proofs.Ytabklphoccicmaa.Ev Go.Proofs.Ytabklphoccicmaa.Ev.Ho
set_option maxRecDepth 100000
noncomputable def noS (t : Nat) : Tr → SW → Bool := fun tr _ => match tr.get t with | .t [] => true | .any => true | _ => false
theorem sub4 (x : Int) (h0 : 0 ≤ x) (h1 : x ≤ 4294967295) : IntKind.u32.wrap (x - x.tmod 4) = alF 4 x := by rw [tmod_n _ _ h0, wu32]; unfold alF; omega
theorem sub2 (x : Int) (h0 : 0 ≤ x) (h1 : x ≤ 4294967295) : IntKind.u32.wrap (x - x.tmod 2) = alF 2 x := by rw [tmod_n _ _ h0, wu32]; unfold alF; omega
theorem inc_eq2 (c : Int) (h0 : 0 ≤ c) : ((c.fdiv 16777216).tmod 2 == 0) = incB c := by
  rw [fdiv_lit _ _ (by decide), tmod_n _ _ (by omega)]; unfold incB
  by_cases h : c / 16777216 % 2 = 0 <;> simp [h]
noncomputable def c23_td (E : World) : List Item := headOf (run (pe E) (orcM E) (tabL fns) 20000 (2 ^ 200 - 1) [.code (Try.f23.body.getD .skip)] ⟨Try.f23.ntmps, mkFrGo (Tr.mk 12) 0 [.c (.p 0 0), .c (.i false .u32 0), .c (.i false .u32 0), .c (.i false .u32 0), .c (.b true false)]⟩ (mkM default [] [mB 2, rowB, rowN] 0))
noncomputable def c23b_td (E : World) : List Item := headOf (run (pe E) (orcM E) (tabL fns) 20000 (2 ^ 200 - 1) (c23_td E) (mkL Try.f23.ntmps (slC default ([(0, .c (.p 0 0)), (1, .q (.i true .u32 0)), (2, .q (.i true .u32 0)), (3, .q (.i true .u32 0)), (4, .q (.b true false)), (11, .r .i64 (0) (65536)), (12, .c (.i true .u32 4))]))) (mkM default [] [mB 2, rowB, rowN] 0))
end Go.Proofs.Ytabklphoccicmaa

