import Derived.Test.YtabklphoccicmaaNB
set_option linter.unusedVariables false
set_option linter.unusedSimpArgs false
namespace Go.Proofs.Ytabklphoccicmaa
open Go Go.Proofs Go.Proofs.Ytabklphoccicmaa.Ev Go.Proofs.Ytabklphoccicmaa.Ev.Ho Go.IntKind
set_option maxRecDepth 100000
noncomputable def orcG (E : World) : Orc := fun g vs s => match g with
  | 57 => (match frGo [mS 2, mN 3 4, rowB, rowB, rowN] vs s (fun vs0 π s1 s0 => match vs0 with
      | [.c (.p 0 0), .c (.i l1 .u8 x)] => some (hdG (pre := fun z => okM (Mm.mk (z.n 100000) (z.n 100001) (z.n 100002) (z.l 3) (z.l 4)) ∧ z.n 100002 ≤ 400000 ∧ (z.l 2).length = (z.n 4).toNat ∧ z.n 4 ≤ z.n 3 ∧ 0 ≤ x ∧ x ≤ 255) (fun z hz hp => HD.args (vs := [.c (.p 0 0), .c (.i l1 .u8 x)]) (by simp [simL, SV.sim, C.sim]) (gv_c E x z hz hp)) (by rfl) π s1 s0)
      | _ => none) with
    | some t => some t
    | none => (orcN E) g vs s)
  | g => (orcN E) g vs s
theorem orcG_ok {E : World} : OrcOK (pe E) (orcG E) := by
  intro g vs s t h
  unfold orcG at h
  split at h
  · split at h
    · rename_i hfr; cases h
      obtain ⟨π, s1, hq, hK, hv, hok, hpd⟩ := frGo_spec (P := pe E) hfr
      split at hK
      · rename_i heq; cases hK
        rw [heq] at hv hok
        exact hpd _ _ (hdG_ok _ _ π s1 hq hv hok)
      · cases hK
    · exact orcN_ok _ _ _ _ h
  · exact orcN_ok _ _ _ _ h
noncomputable def df_td (E : World) : List Item := headOf (run (pe E) (orcG E) (tabL fns) 20000 (2 ^ 200 - 1) [.code (Try.f42.body.getD .skip)] ⟨Try.f42.ntmps, mkFrGo (Tr.mk 12) 0 [.c (.p 0 0)]⟩ (mkM default [] [mS 2, mN 3 4, rowB, rowB, rowN] 0))
theorem lnd (E : World) :
    ((df_td E).length = 0) =
     ((3 : Nat) = (0 : Nat)) := by kernel_rfl
end Go.Proofs.Ytabklphoccicmaa

