import Derived.Test.YthgcieloijmgdaaWWaq
import Derived.Test.YthgcieloijmgdaaWRaq
import Derived.Test.YthgcieloijmgdaaWWbq
import Derived.Test.YthgcieloijmgdaaWRbq
set_option linter.unusedVariables false
set_option linter.unusedSimpArgs false
namespace Go.Proofs.Ythgcieloijmgdaa
open Go Go.Proofs Go.Proofs.Ythgcieloijmgdaa.Ev Go.Proofs.Ythgcieloijmgdaa.Ev.Ho
set_option maxRecDepth 100000
noncomputable def orcW (E : World) : Orc := fun g vs s => match g with
  | 17 => (match frGo [mW 14] vs s (fun vs0 π s1 s0 => match vs0 with
      | [.c (.p 0 0), .c (.strn 81 t)] => some (hdG (pre := fun z => (ST t 81 false ∧ (z.s 0).size = 8192) ∧ z.n 2 = 0) (fun z hz hp => HD.args (vs := [.c (.p 0 0), .c (.strn 81 t)]) (by simp [simL, SV.sim, C.sim]) (sWa_c E t z hz hp)) (by rfl) π s1 s0)
      | [.c (.p 0 0), .c (.strn 17 t)] => some (hdG (pre := fun z => (ST t 17 true ∧ (z.s 0).size = 8192) ∧ z.n 2 = 0) (fun z hz hp => HD.args (vs := [.c (.p 0 0), .c (.strn 17 t)]) (by simp [simL, SV.sim, C.sim]) (sRa_c E t z hz hp)) (by rfl) π s1 s0)
      | _ => none) with
    | some t => some t
    | none => (match frGo [mW 6] vs s (fun vs0 π s1 s0 => match vs0 with
      | [.c (.p 0 0), .c (.strn 73 t)] => some (hdG (pre := fun z => (ST t 73 false ∧ (z.s 0).size = 512) ∧ z.n 2 = 0) (fun z hz hp => HD.args (vs := [.c (.p 0 0), .c (.strn 73 t)]) (by simp [simL, SV.sim, C.sim]) (sWb_c E t z hz hp)) (by rfl) π s1 s0)
      | [.c (.p 0 0), .c (.strn 9 t)] => some (hdG (pre := fun z => (ST t 9 true ∧ (z.s 0).size = 512) ∧ z.n 2 = 0) (fun z hz hp => HD.args (vs := [.c (.p 0 0), .c (.strn 9 t)]) (by simp [simL, SV.sim, C.sim]) (sRb_c E t z hz hp)) (by rfl) π s1 s0)
      | _ => none) with
    | some t => some t
    | none => (orcV E) g vs s))
  | g => (orcV E) g vs s
theorem orcW_ok {E : World} : OrcOK (pe E) (orcW E) := by
  intro g vs s t h
  unfold orcW at h
  split at h
  · split at h
    · rename_i hfr; cases h
      obtain ⟨π, s1, hq, hK, hv, hok, hpd⟩ := frGo_spec (P := pe E) hfr
      split at hK
      · rename_i heq; cases hK
        rw [heq] at hv hok
        exact hpd _ _ (hdG_ok _ _ π s1 hq hv hok)
      · rename_i heq; cases hK
        rw [heq] at hv hok
        exact hpd _ _ (hdG_ok _ _ π s1 hq hv hok)
      · cases hK
    · split at h
      · rename_i hfr; cases h
        obtain ⟨π, s1, hq, hK, hv, hok, hpd⟩ := frGo_spec (P := pe E) hfr
        split at hK
        · rename_i heq; cases hK
          rw [heq] at hv hok
          exact hpd _ _ (hdG_ok _ _ π s1 hq hv hok)
        · rename_i heq; cases hK
          rw [heq] at hv hok
          exact hpd _ _ (hdG_ok _ _ π s1 hq hv hok)
        · cases hK
      · exact orcV_ok _ _ _ _ h
  · exact orcV_ok _ _ _ _ h
end Go.Proofs.Ythgcieloijmgdaa

