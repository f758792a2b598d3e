import Derived.Test.YtdomhmajoclpeaaV
import Derived.Test.YtdomhmajoclpeaaL5
set_option linter.unusedVariables false
set_option linter.unusedSimpArgs false
namespace Go.Proofs.Ytdomhmajoclpeaa
open Go Go.Proofs Go.Proofs.Ytdomhmajoclpeaa.Ev Go.Proofs.Ytdomhmajoclpeaa.Ev.Ho Go.IntKind
set_option maxRecDepth 100000
noncomputable def orcW3R (E : World) : Orc := fun g vs s => match g with
  | 12 => (match frGo [mSr 1, rowB, rowB, rowB] vs s (fun vs0 π s1 s0 => match vs0 with
      | [.c (.p 0 0), .c (.i l2 .i64 i), .c (.i l3 .i64 x), .c (.i l4 .i64 line)] => some (hrG (pre := fun z => (ROk (z.l 1) (z.n 26).toNat ∧ ROk (z.l 2) (z.n 27).toNat) ∧ 0 ≤ x ∧ x ≤ 239) (fun z hz hp => HR.args (vs := [.c (.p 0 0), .c (.i l2 .i64 i), .c (.i l3 .i64 x), .c (.i l4 .i64 line)]) (by simp [simL, SV.sim, C.sim]) (dotR_c E i x line z hz hp)) (by rfl) π s1 s0)
      | _ => none) with
    | some t => some t
    | none => (orcWR E) g vs s)
  | 13 => (match frGo [mS 1, rowB, rowB, rowB] vs s (fun vs0 π s1 s0 => match vs0 with
      | [.c (.p 0 0), .c (.i l2 .i64 i)] => some (hrG (pre := fun _ => True) (fun z hz hp => HR.args (vs := [.c (.p 0 0), .c (.i l2 .i64 i)]) (by simp [simL, SV.sim, C.sim]) (shownR_c E i z hz hp)) (by rfl) π s1 s0)
      | _ => none) with
    | some t => some t
    | none => (orcWR E) g vs s)
  | 14 => (match frGo [mSr 1, rowB, rowB, rowB] vs s (fun vs0 π s1 s0 => match vs0 with
      | [.c (.p 0 0), .c (.i l2 .i64 i)] => some (hrG (pre := fun _ => True) (fun z hz hp => HR.args (vs := [.c (.p 0 0), .c (.i l2 .i64 i)]) (by simp [simL, SV.sim, C.sim]) (rshR_c E i z hz hp)) (by rfl) π s1 s0)
      | _ => none) with
    | some t => some t
    | none => (orcWR E) g vs s)
  | g => (orcWR E) g vs s
theorem orcW3R_ok {E : World} : OrcOK (pe E) (orcW3R E) := by
  intro g vs s t h
  unfold orcW3R at h
  split at h
  · split at h
    · rename_i hfr; cases h
      obtain ⟨π, s1, hq, hK, hv, hok, hpd⟩ := frGo_spec (P := pe E) hfr
      split at hK
      · rename_i heq; cases hK
        rw [heq] at hv hok
        exact hpd _ _ (hrG_ok _ _ (by rfl) π s1 hq hv hok)
      · cases hK
    · exact orcWR_ok _ _ _ _ h
  · split at h
    · rename_i hfr; cases h
      obtain ⟨π, s1, hq, hK, hv, hok, hpd⟩ := frGo_spec (P := pe E) hfr
      split at hK
      · rename_i heq; cases hK
        rw [heq] at hv hok
        exact hpd _ _ (hrG_ok _ _ (by rfl) π s1 hq hv hok)
      · cases hK
    · exact orcWR_ok _ _ _ _ h
  · split at h
    · rename_i hfr; cases h
      obtain ⟨π, s1, hq, hK, hv, hok, hpd⟩ := frGo_spec (P := pe E) hfr
      split at hK
      · rename_i heq; cases hK
        rw [heq] at hv hok
        exact hpd _ _ (hrG_ok _ _ (by rfl) π s1 hq hv hok)
      · cases hK
    · exact orcWR_ok _ _ _ _ h
  · exact orcWR_ok _ _ _ _ h
end Go.Proofs.Ytdomhmajoclpeaa

