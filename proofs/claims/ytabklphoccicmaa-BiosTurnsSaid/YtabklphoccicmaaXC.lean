import Derived.Test.YtabklphoccicmaaY
import Derived.Test.YtabklphoccicmaaZ
import Derived.Test.YtabklphoccicmaaXA
import Derived.Test.YtabklphoccicmaaXB
import Derived.Test.YtabklphoccicmaaR
import Derived.Test.YtabklphoccicmaaI
set_option linter.unusedVariables false
set_option linter.unusedSimpArgs false
namespace Go.Proofs.Ytabklphoccicmaa
open Go Go.Proofs Go.Proofs.Ytabklphoccicmaa.Ev Go.Proofs.Ytabklphoccicmaa.Ev.Ho
set_option maxRecDepth 100000
noncomputable def orcT (E : World) : Orc := fun g vs s => match g with
  | 21 => (match frGo [] vs s (fun vs0 π s1 s0 => match vs0 with
      | [.a [.es a n m, .i l1 .u32 f, .i l2 .u32 t, .i l3 .u32 c, .b l4 fast, .i l5 .i64 k, .i l6 .u32 p]] => some (hdG (pre := fun _ => n ≤ 10000 ∧ eRows E a n 1 [.i .u8] = true) (fun z hz hp => HD.args (vs := [.a [.es a n m, .i l1 .u32 f, .i l2 .u32 t, .i l3 .u32 c, .b l4 fast, .i l5 .i64 k, .i l6 .u32 p]]) (by simp [simL, SV.sim, C.sim]) (two_c E a n m f t c k p fast z hz hp)) (by rfl) π s1 s0)
      | _ => none) with
    | some t => some t
    | none => (orcN E) g vs s)
  | 28 => (match frGo [mB 2, rowB, rowN] vs s (fun vs0 π s1 s0 => match vs0 with
      | [.c (.ifc 36 0 0), .c (.i l1 .u32 f), .c (.i l2 .u32 t), .c (.i l3 .i64 n)] => some (hdG (pre := fun z => okM (Mm.mk (z.n 0) (z.n 1) (z.n 2) (z.l 1) (z.l 2)) ∧ z.n 2 ≤ 100000 ∧ (0 ≤ f ∧ f ≤ 4294967295) ∧ (0 ≤ t ∧ t ≤ 4294967295)) (fun z hz hp => HD.args (vs := [.c (.ifc 36 0 0), .c (.i l1 .u32 f), .c (.i l2 .u32 t), .c (.i l3 .i64 n)]) (by simp [simL, SV.sim, C.sim]) (c28_c E f t n z hz hp)) (by rfl) π s1 s0)
      | _ => none) with
    | some t => some t
    | none => (orcN E) g vs s)
  | 29 => (match frGo [mB 2, rowB, rowN] vs s (fun vs0 π s1 s0 => match vs0 with
      | [.c (.p 0 0), .c (.i l1 .u32 f), .c (.i l2 .u32 t), .c (.i l3 .i64 n)] => some (hdG (pre := fun z => okM (Mm.mk (z.n 0) (z.n 1) (z.n 2) (z.l 1) (z.l 2)) ∧ z.n 2 ≤ 100000 ∧ (0 ≤ f ∧ f ≤ 4294967295) ∧ (0 ≤ t ∧ t ≤ 4294967295)) (fun z hz hp => HD.args (vs := [.c (.p 0 0), .c (.i l1 .u32 f), .c (.i l2 .u32 t), .c (.i l3 .i64 n)]) (by simp [simL, SV.sim, C.sim]) (c29_c E f t n z hz hp)) (by rfl) π s1 s0)
      | _ => none) with
    | some t => some t
    | none => (orcN E) g vs s)
  | 30 => (match frGo [mB 2, rowB, rowN] vs s (fun vs0 π s1 s0 => match vs0 with
      | [.c (.ifc 36 0 0), .c (.i l1 .u32 f), .c (.i l2 .u32 t), .c (.i l3 .i64 n), .c (.i l4 .u32 ap)] => some (hdG (pre := fun z => okM (Mm.mk (z.n 0) (z.n 1) (z.n 2) (z.l 1) (z.l 2)) ∧ z.n 2 ≤ 100000 ∧ (0 ≤ f ∧ f ≤ 4294967295) ∧ (0 ≤ t ∧ t ≤ 4294967295) ∧ (0 ≤ ap ∧ ap ≤ 4294967295)) (fun z hz hp => HD.args (vs := [.c (.ifc 36 0 0), .c (.i l1 .u32 f), .c (.i l2 .u32 t), .c (.i l3 .i64 n), .c (.i l4 .u32 ap)]) (by simp [simL, SV.sim, C.sim]) (c30_c E f t n ap z hz hp)) (by rfl) π s1 s0)
      | _ => none) with
    | some t => some t
    | none => (orcN E) g vs s)
  | 31 => (match frGo [mB 2, rowB, rowN] vs s (fun vs0 π s1 s0 => match vs0 with
      | [.c (.p 0 0), .c (.i l1 .u32 f), .c (.i l2 .u32 t), .c (.i l3 .i64 n), .c (.i l4 .u32 ap)] => some (hdG (pre := fun z => okM (Mm.mk (z.n 0) (z.n 1) (z.n 2) (z.l 1) (z.l 2)) ∧ z.n 2 ≤ 100000 ∧ (0 ≤ f ∧ f ≤ 4294967295) ∧ (0 ≤ t ∧ t ≤ 4294967295) ∧ (0 ≤ ap ∧ ap ≤ 4294967295)) (fun z hz hp => HD.args (vs := [.c (.p 0 0), .c (.i l1 .u32 f), .c (.i l2 .u32 t), .c (.i l3 .i64 n), .c (.i l4 .u32 ap)]) (by simp [simL, SV.sim, C.sim]) (c31_c E f t n ap z hz hp)) (by rfl) π s1 s0)
      | _ => none) with
    | some t => some t
    | none => (orcN E) g vs s)
  | 24 => (match frGo [rowN, rowN] vs s (fun vs0 π s1 s0 => match vs0 with
      | [.c (.rn 0 3 n1), .c (.rn 1 3 n2)] => some (hdG (pre := fun z => (n1 = n2 ∧ EqL (z.l 0) (z.l 1)) ∧ (z.l 0).length = n1 * 3 ∧ n1 ≤ 1000000) (fun z hz hp => HD.args (vs := [.c (.rn 0 3 n1), .c (.rn 1 3 n2)]) (by simp [simL, SV.sim, C.sim]) (same_c E n1 n2 z hz hp)) (by rfl) π s1 s0)
      | _ => none) with
    | some t => some t
    | none => (orcN E) g vs s)
  | g => (orcN E) g vs s
theorem orcT_ok {E : World} : OrcOK (pe E) (orcT E) := by
  intro g vs s t h
  unfold orcT at h
  split at h
  · split at h
    · rename_i hfr; cases h
      obtain ⟨π, s1, hq, hK, hv, hok, hpd⟩ := frGo_spec (P := pe E) hfr
      split at hK
      · rename_i heq; cases hK
        rw [heq] at hv hok
        exact hpd _ _ (hdG_ok _ _ π s1 hq hv hok)
      · cases hK
    · exact orcN_ok _ _ _ _ h
  · split at h
    · rename_i hfr; cases h
      obtain ⟨π, s1, hq, hK, hv, hok, hpd⟩ := frGo_spec (P := pe E) hfr
      split at hK
      · rename_i heq; cases hK
        rw [heq] at hv hok
        exact hpd _ _ (hdG_ok _ _ π s1 hq hv hok)
      · cases hK
    · exact orcN_ok _ _ _ _ h
  · split at h
    · rename_i hfr; cases h
      obtain ⟨π, s1, hq, hK, hv, hok, hpd⟩ := frGo_spec (P := pe E) hfr
      split at hK
      · rename_i heq; cases hK
        rw [heq] at hv hok
        exact hpd _ _ (hdG_ok _ _ π s1 hq hv hok)
      · cases hK
    · exact orcN_ok _ _ _ _ h
  · split at h
    · rename_i hfr; cases h
      obtain ⟨π, s1, hq, hK, hv, hok, hpd⟩ := frGo_spec (P := pe E) hfr
      split at hK
      · rename_i heq; cases hK
        rw [heq] at hv hok
        exact hpd _ _ (hdG_ok _ _ π s1 hq hv hok)
      · cases hK
    · exact orcN_ok _ _ _ _ h
  · split at h
    · rename_i hfr; cases h
      obtain ⟨π, s1, hq, hK, hv, hok, hpd⟩ := frGo_spec (P := pe E) hfr
      split at hK
      · rename_i heq; cases hK
        rw [heq] at hv hok
        exact hpd _ _ (hdG_ok _ _ π s1 hq hv hok)
      · cases hK
    · exact orcN_ok _ _ _ _ h
  · split at h
    · rename_i hfr; cases h
      obtain ⟨π, s1, hq, hK, hv, hok, hpd⟩ := frGo_spec (P := pe E) hfr
      split at hK
      · rename_i heq; cases hK
        rw [heq] at hv hok
        exact hpd _ _ (hdG_ok _ _ π s1 hq hv hok)
      · cases hK
    · exact orcN_ok _ _ _ _ h
  · exact orcN_ok _ _ _ _ h
end Go.Proofs.Ytabklphoccicmaa

