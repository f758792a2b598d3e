import Derived.Test.YtkeinfmfkcgkhaaE
import Derived.Test.YtkeinfmfkcgkhaaH
import Derived.Test.YtkeinfmfkcgkhaaI
set_option linter.unusedVariables false
set_option linter.unusedSimpArgs false
namespace Go.Proofs.Ytkeinfmfkcgkhaa
open Go Go.Proofs Go.Proofs.Ytkeinfmfkcgkhaa.Ev Go.Proofs.Ytkeinfmfkcgkhaa.Ev.Ho
set_option maxRecDepth 100000
noncomputable def orcS (E : World) : Orc := fun g vs s => match g with
  | 39 => (match frGo [mV 1 2, mP 3, rowS, mO] vs s (fun vs0 π s1 s0 => match vs0 with
      | [.c (.p 0 1)] => cond (isV s0) (some (hdG (pre := fun z => Len2 (z.l 2) (z.n 74) ∧ z.n 74 * 512 ≤ z.n 73) (fun z hz hp => HD.args (vs := [.c (.p 0 1)]) (by simp [simL, SV.sim, C.sim]) (nx1_c E z hz hp)) (by rfl) π s1 s0)) none
      | [.c (.p 0 35)] => cond (isV s0) (some (hdG (pre := fun z => Len2 (z.l 2) (z.n 74) ∧ z.n 74 * 512 ≤ z.n 73) (fun z hz hp => HD.args (vs := [.c (.p 0 35)]) (by simp [simL, SV.sim, C.sim]) (nx35_c E z hz hp)) (by rfl) π s1 s0)) none
      | _ => none) with
    | some t => some t
    | none => (orcR E) g vs s)
  | g => (orcR E) g vs s
theorem orcS_ok {E : World} : OrcOK (pe E) (orcS E) := by
  intro g vs s t h
  unfold orcS at h
  split at h
  · split at h
    · rename_i hfr; cases h
      obtain ⟨π, s1, hq, hK, hv, hok, hpd⟩ := frGo_spec (P := pe E) hfr
      split at hK
      · rename_i heq
        cases hgd : isV (renM π s1 [mV 1 2, mP 3, rowS, mO] π) <;> simp only [hgd, cond_true, cond_false] at hK
        · cases hK
        cases hK
        rw [heq] at hv hok
        exact hpd _ _ (hdG_ok _ _ π s1 hq hv hok)
      · rename_i heq
        cases hgd : isV (renM π s1 [mV 1 2, mP 3, rowS, mO] π) <;> simp only [hgd, cond_true, cond_false] at hK
        · cases hK
        cases hK
        rw [heq] at hv hok
        exact hpd _ _ (hdG_ok _ _ π s1 hq hv hok)
      · cases hK
    · exact orcR_ok _ _ _ _ h
  · exact orcR_ok _ _ _ _ h
end Go.Proofs.Ytkeinfmfkcgkhaa

