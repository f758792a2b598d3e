import Derived.Test.YtkeinfmfkcgkhaaTB
import Derived.Test.YtkeinfmfkcgkhaaTC
import Derived.Test.YtkeinfmfkcgkhaaTD
set_option linter.unusedVariables false
set_option linter.unusedSimpArgs false
namespace Go.Proofs.Ytkeinfmfkcgkhaa
open Go Go.Proofs Go.Proofs.Ytkeinfmfkcgkhaa.Ev Go.Proofs.Ytkeinfmfkcgkhaa.Ev.Ho
set_option maxRecDepth 100000
noncomputable def orcP (E : World) : Orc := fun g vs s => match g with
  | 12 => (match frGo [mT 1 2, mP 3, rowT, mO] vs s (fun vs0 π s1 s0 => match vs0 with
      | [.c (.p 0 0), .c (.i false .i64 w)] => some (hdG (pre := fun z => z.n 74 = 0 ∧ (w ≤ z.n 73 + 512 ∧ z.n 73 ≤ w ∧ (w - z.n 73) % 512 = 0) ∧ z.n 73 % 512 = 0 ∧ w ≤ 1000000) (fun z hz hp => HD.args (vs := [.c (.p 0 0), .c (.i false .i64 w)]) (by simp [simL, SV.sim, C.sim]) (rn_c E w z hz hp)) (by rfl) π s1 s0)
      | _ => none) with
    | some t => some t
    | none => (orcA E) g vs s)
  | 39 => (match frGo [mT 1 2, mP 3, rowT, mO] vs s (fun vs0 π s1 s0 => match vs0 with
      | [.c (.p 0 1)] => some (hdG (pre := fun _ => True) (fun z hz hp => HD.args (vs := [.c (.p 0 1)]) (by simp [simL, SV.sim, C.sim]) (nxt_c E z hz hp)) (by rfl) π s1 s0)
      | _ => none) with
    | some t => some t
    | none => (orcA E) g vs s)
  | g => (orcA E) g vs s
theorem orcP_ok {E : World} : OrcOK (pe E) (orcP E) := by
  intro g vs s t h
  unfold orcP at h
  split at h
  · split at h
    · rename_i hfr; cases h
      obtain ⟨π, s1, hq, hK, hv, hok, hpd⟩ := frGo_spec (P := pe E) hfr
      split at hK
      · rename_i heq; cases hK
        rw [heq] at hv hok
        exact hpd _ _ (hdG_ok _ _ π s1 hq hv hok)
      · cases hK
    · exact orcA_ok _ _ _ _ h
  · split at h
    · rename_i hfr; cases h
      obtain ⟨π, s1, hq, hK, hv, hok, hpd⟩ := frGo_spec (P := pe E) hfr
      split at hK
      · rename_i heq; cases hK
        rw [heq] at hv hok
        exact hpd _ _ (hdG_ok _ _ π s1 hq hv hok)
      · cases hK
    · exact orcA_ok _ _ _ _ h
  · exact orcA_ok _ _ _ _ h
end Go.Proofs.Ytkeinfmfkcgkhaa

