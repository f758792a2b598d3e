import Derived.Test.YtkeinfmfkcgkhaaF
import Derived.Test.YtkeinfmfkcgkhaaG
import Derived.Test.YtkeinfmfkcgkhaaK
import Derived.Test.YtkeinfmfkcgkhaaL
set_option linter.unusedVariables false
set_option linter.unusedSimpArgs false
namespace Go.Proofs.Ytkeinfmfkcgkhaa
open Go Go.Proofs Go.Proofs.Ytkeinfmfkcgkhaa.Ev Go.Proofs.Ytkeinfmfkcgkhaa.Ev.Ho
set_option maxRecDepth 100000
noncomputable def orcT (E : World) : Orc := fun g vs s => match g with
  | 10 => (match frGo [mU 1 2, mP 3, rowS, mO] vs s (fun vs0 π s1 s0 => match vs0 with
      | [.c (.p 0 0), .c (.i false .i64 w), .c (.i false .i64 r), .c (.i l3 .u16 x)] => cond (isU s0) (some (hdG (pre := fun z => Len2 (z.l 2) (z.n 74) ∧ z.n 74 * 512 ≤ z.n 73 ∧ w ≤ 10000000 ∧ r ≠ 2 ∧ 0 ≤ x ∧ x ≤ 65535) (fun z hz hp => HD.args (vs := [.c (.p 0 0), .c (.i false .i64 w), .c (.i false .i64 r), .c (.i l3 .u16 x)]) (by simp [simL, SV.sim, C.sim]) (wr_c E w r x z hz hp)) (by rfl) π s1 s0)) none
      | _ => none) with
    | some t => some t
    | none => (orcS E) g vs s)
  | 17 => (match frGo [mU 1 2, mP 3, rowS, mO] vs s (fun vs0 π s1 s0 => match vs0 with
      | [.c (.p 0 0), .c (.i false .i64 i), .c (.i l2 .u32 x)] => cond (isU s0) (some (hdG (pre := fun z => Len2 (z.l 2) (z.n 74) ∧ z.n 74 * 512 ≤ z.n 73) (fun z hz hp => HD.args (vs := [.c (.p 0 0), .c (.i false .i64 i), .c (.i l2 .u32 x)]) (by simp [simL, SV.sim, C.sim]) (fdu_c E i x z hz hp)) (by rfl) π s1 s0)) none
      | _ => none) with
    | some t => some t
    | none => (match frGo [mV 1 2, mP 3, rowS, mO] vs s (fun vs0 π s1 s0 => match vs0 with
      | [.c (.p 0 0), .c (.i false .i64 i), .c (.i l2 .u32 x)] => cond (isV s0) (some (hdG (pre := fun z => Len2 (z.l 2) (z.n 74) ∧ z.n 74 * 512 ≤ z.n 73) (fun z hz hp => HD.args (vs := [.c (.p 0 0), .c (.i false .i64 i), .c (.i l2 .u32 x)]) (by simp [simL, SV.sim, C.sim]) (fdv_c E i x z hz hp)) (by rfl) π s1 s0)) none
      | _ => none) with
    | some t => some t
    | none => (orcS E) g vs s))
  | 19 => (match frGo [mU 1 2, mP 3, rowS, mO] vs s (fun vs0 π s1 s0 => match vs0 with
      | [.c (.p 0 0), .c (.i false .i64 w), .c (.i false .i64 t)] => cond (isU s0) (some (hdG (pre := fun z => Len2 (z.l 2) (z.n 74) ∧ z.n 74 * 512 ≤ z.n 73 ∧ w ≤ 10000000) (fun z hz hp => HD.args (vs := [.c (.p 0 0), .c (.i false .i64 w), .c (.i false .i64 t)]) (by simp [simL, SV.sim, C.sim]) (ovu_c E w t z hz hp)) (by rfl) π s1 s0)) none
      | _ => none) with
    | some t => some t
    | none => (match frGo [mV 1 2, mP 3, rowS, mO] vs s (fun vs0 π s1 s0 => match vs0 with
      | [.c (.p 0 0), .c (.i false .i64 w), .c (.i false .i64 t)] => cond (isV s0) (some (hdG (pre := fun z => Len2 (z.l 2) (z.n 74) ∧ z.n 74 * 512 ≤ z.n 73 ∧ w ≤ 10000000) (fun z hz hp => HD.args (vs := [.c (.p 0 0), .c (.i false .i64 w), .c (.i false .i64 t)]) (by simp [simL, SV.sim, C.sim]) (ovv_c E w t z hz hp)) (by rfl) π s1 s0)) none
      | _ => none) with
    | some t => some t
    | none => (orcS E) g vs s))
  | g => (orcS E) g vs s
theorem orcT_ok {E : World} : OrcOK (pe E) (orcT E) := by
  intro g vs s t h
  unfold orcT at h
  split at h
  · split at h
    · rename_i hfr; cases h
      obtain ⟨π, s1, hq, hK, hv, hok, hpd⟩ := frGo_spec (P := pe E) hfr
      split at hK
      · rename_i heq
        cases hgd : isU (renM π s1 [mU 1 2, mP 3, rowS, mO] π) <;> simp only [hgd, cond_true, cond_false] at hK
        · cases hK
        cases hK
        rw [heq] at hv hok
        exact hpd _ _ (hdG_ok _ _ π s1 hq hv hok)
      · cases hK
    · exact orcS_ok _ _ _ _ h
  · split at h
    · rename_i hfr; cases h
      obtain ⟨π, s1, hq, hK, hv, hok, hpd⟩ := frGo_spec (P := pe E) hfr
      split at hK
      · rename_i heq
        cases hgd : isU (renM π s1 [mU 1 2, mP 3, rowS, mO] π) <;> simp only [hgd, cond_true, cond_false] at hK
        · cases hK
        cases hK
        rw [heq] at hv hok
        exact hpd _ _ (hdG_ok _ _ π s1 hq hv hok)
      · cases hK
    · split at h
      · rename_i hfr; cases h
        obtain ⟨π, s1, hq, hK, hv, hok, hpd⟩ := frGo_spec (P := pe E) hfr
        split at hK
        · rename_i heq
          cases hgd : isV (renM π s1 [mV 1 2, mP 3, rowS, mO] π) <;> simp only [hgd, cond_true, cond_false] at hK
          · cases hK
          cases hK
          rw [heq] at hv hok
          exact hpd _ _ (hdG_ok _ _ π s1 hq hv hok)
        · cases hK
      · exact orcS_ok _ _ _ _ h
  · split at h
    · rename_i hfr; cases h
      obtain ⟨π, s1, hq, hK, hv, hok, hpd⟩ := frGo_spec (P := pe E) hfr
      split at hK
      · rename_i heq
        cases hgd : isU (renM π s1 [mU 1 2, mP 3, rowS, mO] π) <;> simp only [hgd, cond_true, cond_false] at hK
        · cases hK
        cases hK
        rw [heq] at hv hok
        exact hpd _ _ (hdG_ok _ _ π s1 hq hv hok)
      · cases hK
    · split at h
      · rename_i hfr; cases h
        obtain ⟨π, s1, hq, hK, hv, hok, hpd⟩ := frGo_spec (P := pe E) hfr
        split at hK
        · rename_i heq
          cases hgd : isV (renM π s1 [mV 1 2, mP 3, rowS, mO] π) <;> simp only [hgd, cond_true, cond_false] at hK
          · cases hK
          cases hK
          rw [heq] at hv hok
          exact hpd _ _ (hdG_ok _ _ π s1 hq hv hok)
        · cases hK
      · exact orcS_ok _ _ _ _ h
  · exact orcS_ok _ _ _ _ h
noncomputable def l_td (E : World) : List Item := headOf (run (pe E) (orcT E) (tabL fns) 20000 (2 ^ 200 - 1) [.code (Try.f6.body.getD .skip)] ⟨Try.f6.ntmps, mkFrGo (Tr.mk 12) 0 [.c (.es none 5 5), .c (.i false .u16 0)]⟩ [])
theorem lnl (E : World) :
    ((l_td E).length = 0) =
    ((4 : Nat) = (0 : Nat)) := by kernel_rfl
end Go.Proofs.Ytkeinfmfkcgkhaa

