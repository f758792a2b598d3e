import Derived.Test.YtabklphoccicmaaC
import Derived.Test.YtabklphoccicmaaD
import Derived.Test.YtabklphoccicmaaE
set_option linter.unusedVariables false
set_option linter.unusedSimpArgs false
namespace Go.Proofs.Ytabklphoccicmaa
open Go Go.Proofs Go.Proofs.Ytabklphoccicmaa.Ev Go.Proofs.Ytabklphoccicmaa.Ev.Ho Go.IntKind
set_option maxRecDepth 100000
noncomputable def TM (z : PX) : Mm := ⟨z.n 0, z.n 1, z.n 2, z.l 1, z.l 2⟩
noncomputable def MS : List MB := [mB 2, rowB, rowN]
noncomputable def ME : List MB := [mB 3, rowB, .g HOLE, rowN]
noncomputable def rdv1 (E : World) (a : Int) (m : Mm) : Int := (fnY (pe E) 27 [.c (.p 0 0), .c (.i false .u32 a), .c (.i true .i64 1)] [mB 2, rowB, rowN] [mB 2, rowB, rowN] (.c (.r .u32 0 255)) (fun z y => (Mm.mk (y.n 0) (y.n 1) (y.n 2) (y.l 1) (y.l 2)) = (Mm.mk (z.n 0) (z.n 1) (z.n 2) (z.l 1) (z.l 2))) TM (fun z => okM (Mm.mk (z.n 0) (z.n 1) (z.n 2) (z.l 1) (z.l 2))) m).n 90000
theorem rdf1_c (E : World) (a : Int) (z : PX) (hz : rgM z [mB 2, rowB, rowN] 0) (hp : (fun z => okM (Mm.mk (z.n 0) (z.n 1) (z.n 2) (z.l 1) (z.l 2))) z) : HD (pe E) 27 [.c (.p 0 0), .c (.i false .u32 a), .c (.i true .i64 1)] [mB 2, rowB, rowN] [mB 2, rowB, rowN] (.c (.r .u32 0 255)) (fun z y => (Mm.mk (y.n 0) (y.n 1) (y.n 2) (y.l 1) (y.l 2)) = (Mm.mk (z.n 0) (z.n 1) (z.n 2) (z.l 1) (z.l 2)) ∧ y.n 90000 = rdv1 E a (Mm.mk (z.n 0) (z.n 1) (z.n 2) (z.l 1) (z.l 2))) z := by
  refine (HD.fn (T := TM) (pre := fun z => okM (Mm.mk (z.n 0) (z.n 1) (z.n 2) (z.l 1) (z.l 2))) mk_M2 (fun z z' y h h' => ?_) (fun z hz hp => rd1_c E a z hz hp) z hz hp).imp (fun y _ _ h => ⟨h.1, by rw [h.2]; rfl⟩)
  have h1 : TM y = TM z' := h'
  exact (h1.trans h.symm : TM y = TM z)
noncomputable def rdv2 (E : World) (a : Int) (m : Mm) : Int := (fnY (pe E) 27 [.c (.p 0 0), .c (.i false .u32 a), .c (.i true .i64 2)] [mB 2, rowB, rowN] [mB 2, rowB, rowN] (.c (.r .u32 0 65535)) (fun z y => (Mm.mk (y.n 0) (y.n 1) (y.n 2) (y.l 1) (y.l 2)) = (Mm.mk (z.n 0) (z.n 1) (z.n 2) (z.l 1) (z.l 2))) TM (fun z => okM (Mm.mk (z.n 0) (z.n 1) (z.n 2) (z.l 1) (z.l 2))) m).n 90000
theorem rdf2_c (E : World) (a : Int) (z : PX) (hz : rgM z [mB 2, rowB, rowN] 0) (hp : (fun z => okM (Mm.mk (z.n 0) (z.n 1) (z.n 2) (z.l 1) (z.l 2))) z) : HD (pe E) 27 [.c (.p 0 0), .c (.i false .u32 a), .c (.i true .i64 2)] [mB 2, rowB, rowN] [mB 2, rowB, rowN] (.c (.r .u32 0 65535)) (fun z y => (Mm.mk (y.n 0) (y.n 1) (y.n 2) (y.l 1) (y.l 2)) = (Mm.mk (z.n 0) (z.n 1) (z.n 2) (z.l 1) (z.l 2)) ∧ y.n 90000 = rdv2 E a (Mm.mk (z.n 0) (z.n 1) (z.n 2) (z.l 1) (z.l 2))) z := by
  refine (HD.fn (T := TM) (pre := fun z => okM (Mm.mk (z.n 0) (z.n 1) (z.n 2) (z.l 1) (z.l 2))) mk_M2 (fun z z' y h h' => ?_) (fun z hz hp => rd2_c E a z hz hp) z hz hp).imp (fun y _ _ h => ⟨h.1, by rw [h.2]; rfl⟩)
  have h1 : TM y = TM z' := h'
  exact (h1.trans h.symm : TM y = TM z)
noncomputable def rdv4 (E : World) (a : Int) (m : Mm) : Int := (fnY (pe E) 27 [.c (.p 0 0), .c (.i false .u32 a), .c (.i true .i64 4)] [mB 2, rowB, rowN] [mB 2, rowB, rowN] (.c (.r .u32 0 4294967295)) (fun z y => (Mm.mk (y.n 0) (y.n 1) (y.n 2) (y.l 1) (y.l 2)) = (Mm.mk (z.n 0) (z.n 1) (z.n 2) (z.l 1) (z.l 2))) TM (fun z => okM (Mm.mk (z.n 0) (z.n 1) (z.n 2) (z.l 1) (z.l 2))) m).n 90000
theorem rdf4_c (E : World) (a : Int) (z : PX) (hz : rgM z [mB 2, rowB, rowN] 0) (hp : (fun z => okM (Mm.mk (z.n 0) (z.n 1) (z.n 2) (z.l 1) (z.l 2))) z) : HD (pe E) 27 [.c (.p 0 0), .c (.i false .u32 a), .c (.i true .i64 4)] [mB 2, rowB, rowN] [mB 2, rowB, rowN] (.c (.r .u32 0 4294967295)) (fun z y => (Mm.mk (y.n 0) (y.n 1) (y.n 2) (y.l 1) (y.l 2)) = (Mm.mk (z.n 0) (z.n 1) (z.n 2) (z.l 1) (z.l 2)) ∧ y.n 90000 = rdv4 E a (Mm.mk (z.n 0) (z.n 1) (z.n 2) (z.l 1) (z.l 2))) z := by
  refine (HD.fn (T := TM) (pre := fun z => okM (Mm.mk (z.n 0) (z.n 1) (z.n 2) (z.l 1) (z.l 2))) mk_M2 (fun z z' y h h' => ?_) (fun z hz hp => rd4_c E a z hz hp) z hz hp).imp (fun y _ _ h => ⟨h.1, by rw [h.2]; rfl⟩)
  have h1 : TM y = TM z' := h'
  exact (h1.trans h.symm : TM y = TM z)
noncomputable def wrm2 (E : World) (a x : Int) (m : Mm) : Mm := M3 (fnY (pe E) 32 [.c (.p 0 0), .c (.i false .u32 a), .c (.i true .i64 2), .c (.i false .u32 x)] [mB 2, rowB, rowN] [mB 3, rowB, .g HOLE, rowN] (.t []) (fun z y => grM (Mm.mk (z.n 0) (z.n 1) (z.n 2) (z.l 1) (z.l 2)) (Mm.mk (y.n 0) (y.n 1) (y.n 2) (y.l 1) (y.l 3))) TM (fun z => okM (Mm.mk (z.n 0) (z.n 1) (z.n 2) (z.l 1) (z.l 2))) m)
theorem wrf2_c (E : World) (a x : Int) (z : PX) (hz : rgM z [mB 2, rowB, rowN] 0) (hp : (fun z => okM (Mm.mk (z.n 0) (z.n 1) (z.n 2) (z.l 1) (z.l 2))) z) : HD (pe E) 32 [.c (.p 0 0), .c (.i false .u32 a), .c (.i true .i64 2), .c (.i false .u32 x)] [mB 2, rowB, rowN] [mB 3, rowB, .g HOLE, rowN] (.t []) (fun z y => grM (Mm.mk (z.n 0) (z.n 1) (z.n 2) (z.l 1) (z.l 2)) (Mm.mk (y.n 0) (y.n 1) (y.n 2) (y.l 1) (y.l 3)) ∧ (Mm.mk (y.n 0) (y.n 1) (y.n 2) (y.l 1) (y.l 3)) = wrm2 E a x (Mm.mk (z.n 0) (z.n 1) (z.n 2) (z.l 1) (z.l 2))) z := by
  refine (HD.fn (T := TM) (pre := fun z => okM (Mm.mk (z.n 0) (z.n 1) (z.n 2) (z.l 1) (z.l 2))) mk_M2 (fun z z' y h h' => ?_) (fun z hz hp => wr2_c E a x z hz hp) z hz hp).imp (fun y _ _ h => ⟨h.1, by rw [h.2]; rfl⟩)
  have h1 : grM (TM z') (M3 y) := h'
  rw [← h] at h1
  exact h1
noncomputable def wrm4 (E : World) (a x : Int) (m : Mm) : Mm := M3 (fnY (pe E) 32 [.c (.p 0 0), .c (.i false .u32 a), .c (.i true .i64 4), .c (.i false .u32 x)] [mB 2, rowB, rowN] [mB 3, rowB, .g HOLE, rowN] (.t []) (fun z y => grM (Mm.mk (z.n 0) (z.n 1) (z.n 2) (z.l 1) (z.l 2)) (Mm.mk (y.n 0) (y.n 1) (y.n 2) (y.l 1) (y.l 3))) TM (fun z => okM (Mm.mk (z.n 0) (z.n 1) (z.n 2) (z.l 1) (z.l 2))) m)
theorem wrf4_c (E : World) (a x : Int) (z : PX) (hz : rgM z [mB 2, rowB, rowN] 0) (hp : (fun z => okM (Mm.mk (z.n 0) (z.n 1) (z.n 2) (z.l 1) (z.l 2))) z) : HD (pe E) 32 [.c (.p 0 0), .c (.i false .u32 a), .c (.i true .i64 4), .c (.i false .u32 x)] [mB 2, rowB, rowN] [mB 3, rowB, .g HOLE, rowN] (.t []) (fun z y => grM (Mm.mk (z.n 0) (z.n 1) (z.n 2) (z.l 1) (z.l 2)) (Mm.mk (y.n 0) (y.n 1) (y.n 2) (y.l 1) (y.l 3)) ∧ (Mm.mk (y.n 0) (y.n 1) (y.n 2) (y.l 1) (y.l 3)) = wrm4 E a x (Mm.mk (z.n 0) (z.n 1) (z.n 2) (z.l 1) (z.l 2))) z := by
  refine (HD.fn (T := TM) (pre := fun z => okM (Mm.mk (z.n 0) (z.n 1) (z.n 2) (z.l 1) (z.l 2))) mk_M2 (fun z z' y h h' => ?_) (fun z hz hp => wr4_c E a x z hz hp) z hz hp).imp (fun y _ _ h => ⟨h.1, by rw [h.2]; rfl⟩)
  have h1 : grM (TM z') (M3 y) := h'
  rw [← h] at h1
  exact h1
noncomputable def orcM (E : World) : Orc := fun g vs s => match g with
  | 27 => (match frGo [mB 2, rowB, rowN] vs s (fun vs0 π s1 s0 => match vs0 with
      | [.c (.p 0 0), .c (.i l1 .u32 a), .c (.i l2 .i64 1)] => some (hdG (pre := fun z => okM (Mm.mk (z.n 0) (z.n 1) (z.n 2) (z.l 1) (z.l 2))) (fun z hz hp => HD.args (vs := [.c (.p 0 0), .c (.i l1 .u32 a), .c (.i l2 .i64 1)]) (by simp [simL, SV.sim, C.sim]) (rdf1_c E a z hz hp)) (by rfl) π s1 s0)
      | [.c (.p 0 0), .c (.i l1 .u32 a), .c (.i l2 .i64 2)] => some (hdG (pre := fun z => okM (Mm.mk (z.n 0) (z.n 1) (z.n 2) (z.l 1) (z.l 2))) (fun z hz hp => HD.args (vs := [.c (.p 0 0), .c (.i l1 .u32 a), .c (.i l2 .i64 2)]) (by simp [simL, SV.sim, C.sim]) (rdf2_c E a z hz hp)) (by rfl) π s1 s0)
      | [.c (.p 0 0), .c (.i l1 .u32 a), .c (.i l2 .i64 4)] => some (hdG (pre := fun z => okM (Mm.mk (z.n 0) (z.n 1) (z.n 2) (z.l 1) (z.l 2))) (fun z hz hp => HD.args (vs := [.c (.p 0 0), .c (.i l1 .u32 a), .c (.i l2 .i64 4)]) (by simp [simL, SV.sim, C.sim]) (rdf4_c E a z hz hp)) (by rfl) π s1 s0)
      | _ => none) with
    | some t => some t
    | none => (orcA E) g vs s)
  | 32 => (match frGo [mB 2, rowB, rowN] vs s (fun vs0 π s1 s0 => match vs0 with
      | [.c (.p 0 0), .c (.i l1 .u32 a), .c (.i l2 .i64 2), .c (.i l3 .u32 x)] => some (hdG (pre := fun z => okM (Mm.mk (z.n 0) (z.n 1) (z.n 2) (z.l 1) (z.l 2))) (fun z hz hp => HD.args (vs := [.c (.p 0 0), .c (.i l1 .u32 a), .c (.i l2 .i64 2), .c (.i l3 .u32 x)]) (by simp [simL, SV.sim, C.sim]) (wrf2_c E a x z hz hp)) (by rfl) π s1 s0)
      | [.c (.p 0 0), .c (.i l1 .u32 a), .c (.i l2 .i64 4), .c (.i l3 .u32 x)] => some (hdG (pre := fun z => okM (Mm.mk (z.n 0) (z.n 1) (z.n 2) (z.l 1) (z.l 2))) (fun z hz hp => HD.args (vs := [.c (.p 0 0), .c (.i l1 .u32 a), .c (.i l2 .i64 4), .c (.i l3 .u32 x)]) (by simp [simL, SV.sim, C.sim]) (wrf4_c E a x z hz hp)) (by rfl) π s1 s0)
      | _ => none) with
    | some t => some t
    | none => (orcA E) g vs s)
  | g => (orcA E) g vs s
theorem orcM_ok {E : World} : OrcOK (pe E) (orcM E) := by
  intro g vs s t h
  unfold orcM at h
  split at h
  · split at h
    · rename_i hfr; cases h
      obtain ⟨π, s1, hq, hK, hv, hok, hpd⟩ := frGo_spec (P := pe E) hfr
      split at hK
      · rename_i heq; cases hK
        rw [heq] at hv hok
        exact hpd _ _ (hdG_ok _ _ π s1 hq hv hok)
      · rename_i heq; cases hK
        rw [heq] at hv hok
        exact hpd _ _ (hdG_ok _ _ π s1 hq hv hok)
      · rename_i heq; cases hK
        rw [heq] at hv hok
        exact hpd _ _ (hdG_ok _ _ π s1 hq hv hok)
      · cases hK
    · exact orcA_ok _ _ _ _ h
  · split at h
    · rename_i hfr; cases h
      obtain ⟨π, s1, hq, hK, hv, hok, hpd⟩ := frGo_spec (P := pe E) hfr
      split at hK
      · rename_i heq; cases hK
        rw [heq] at hv hok
        exact hpd _ _ (hdG_ok _ _ π s1 hq hv hok)
      · rename_i heq; cases hK
        rw [heq] at hv hok
        exact hpd _ _ (hdG_ok _ _ π s1 hq hv hok)
      · cases hK
    · exact orcA_ok _ _ _ _ h
  · exact orcA_ok _ _ _ _ h
end Go.Proofs.Ytabklphoccicmaa

