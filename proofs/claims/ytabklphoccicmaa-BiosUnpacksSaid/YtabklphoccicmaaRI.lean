import Derived.Test.YtabklphoccicmaaRB
import Derived.Test.YtabklphoccicmaaRC
import Derived.Test.YtabklphoccicmaaRE
import Derived.Test.YtabklphoccicmaaRG
import Derived.Test.YtabklphoccicmaaRH
set_option linter.unusedVariables false
set_option linter.unusedSimpArgs false
namespace Go.Proofs.Ytabklphoccicmaa
open Go Go.Proofs Go.Proofs.Ytabklphoccicmaa.Ev Go.Proofs.Ytabklphoccicmaa.Ev.Ho Go.IntKind
set_option maxRecDepth 100000
noncomputable def fiF (E : World) (to : Int) (u : OU) : Mm :=
  if (u.o.length : Int) % 2 = 1 then wrm2 E (IntKind.u32.wrap (to + ((u.o.length : Int) - 1))) (u.o.getD (u.o.length - 1) 0) u.m else u.m
noncomputable def upS (E : World) (f : Int) (m : Mm) : Int := rdv4 E (alF 4 f) m / 256 % 65536
noncomputable def upK (E : World) (f : Int) (m : Mm) : Int := rdv4 E (alF 4 f) m % 256
noncomputable def upA (f : Int) (m : Mm) : AU := ⟨IntKind.u32.wrap (alF 4 f + 4), ⟨m, []⟩⟩
structure UpI (E : World) (f t : Int) (m : Mm) (R : AU) : Prop where
  h0 : upS E f m = 0 → R.u = ⟨m, []⟩
  h16 : upS E f m ≠ 0 → upK E f m = 16 → PcI E (alF 2 t) (upS E f m) (upA f m) R
  h48 : upS E f m ≠ 0 → upK E f m = 48 → RuI E (alF 2 t) (upS E f m) (upA f m) R
  h36 : upS E f m ≠ 0 → upK E f m = 36 → CdI E (alF 2 t) (upS E f m) false (upA f m) R.u
  h40 : upS E f m ≠ 0 → upK E f m = 40 → CdI E (alF 2 t) (upS E f m) true (upA f m) R.u
  h129 : upS E f m ≠ 0 → upK E f m = 129 → dfF E (alF 2 t) (upS E f m) (upS E f m).toNat 0 (upA f m).a (upA f m).u = R
  h_ : upS E f m ≠ 0 → upK E f m ≠ 16 → upK E f m ≠ 48 → upK E f m ≠ 36 → upK E f m ≠ 40 → upK E f m ≠ 129 → R.u = ⟨m, []⟩
theorem fi1 {E : World} {to : Int} {m m' : Mm} {l : List C} (h : (l.length : Int) % 2 = 1) (hm : m' = wrm2 E (IntKind.u32.wrap (to + ((l.length : Int) - 1))) (rI l (l.length - 1)) m) : m' = fiF E to ⟨m, vals l⟩ := by
  unfold fiF; rw [if_pos (by rw [vals_len]; exact h), hm, vals_len, vals_get _ _ (by omega)]
theorem fi2 {E : World} {to : Int} {m : Mm} {l : List C} (h : (l.length : Int) % 2 ≠ 1) : m = fiF E to ⟨m, vals l⟩ := by
  unfold fiF; rw [if_neg (by rw [vals_len]; exact h)]
theorem eS1 (v : Int) : IntKind.i64.wrap (bits .and .u32 (v.fdiv 256) 65535) = v / 256 % 65536 := by
  rw [show bits .and .u32 (v.fdiv 256) 65535 = (v.fdiv 256) % 65536 from and_mask .u32 _ 16 (.inl (by decide)), fdiv_lit _ _ (by decide), wi64]; omega
theorem eK1 (v : Int) : bits .and .u32 v 255 = v % 256 := and_mask .u32 _ 8 (.inl (by decide))
theorem fi0 {E : World} {to : Int} {m : Mm} {R : OU} (h : R = ⟨m, []⟩) : m = fiF E to R := by
  subst h; unfold fiF; rw [if_neg (by simp)]
theorem ln0 {m : Mm} {R : OU} (h : R = ⟨m, []⟩) : (0 : Int) = (R.o.length : Int) := by subst h; rfl
theorem vals_nil : vals [] = [] := rfl
theorem fi_p (E : World) (z : PX)  :
    (hdP ([mS 2, mN 3 4, rowB, rowB, rowN] : List MB).length [mS 5, mN 3 6, .g HOLE, rowB, .g HOLE, rowB, rowN] (.t []) (fun z y => ((Mm.mk (y.n 100000) (y.n 100001) (y.n 100002) (y.l 3) (y.l 6)) = fiF E (z.n 2) (OU.mk (Mm.mk (z.n 100000) (z.n 100001) (z.n 100002) (z.l 3) (z.l 4)) (vals (z.l 2))) ∧ y.n 4 = z.n 4) ∧ okM (Mm.mk (y.n 100000) (y.n 100001) (y.n 100002) (y.l 3) (y.l 6)) ∧ y.n 100002 ≤ z.n 100002 + 1) z (fnTree (pe E) (orcN E) (tabL fns) 20000 Try.f43 [.c (.p 0 0)] (mkM z [] [mS 2, mN 3 4, rowB, rowB, rowN] 0))) =
     ((((↑(z.n 4).toNat : Int).tmod (2 : Int) == 1) = true → inB (i64.wrap ((↑(z.n 4).toNat : Int) - 1)) (z.n 4).toNat = true ∧ rOk (z.l 2) (i64.wrap ((↑(z.n 4).toNat : Int) - 1)).toNat (EK.i u8) = true ∧ ((eM (z.l 3) (z.l 4)) ∧ okM (Mm.mk (z.n 100000) (↑(z.n 100001).toNat : Int) (↑(z.n 100002).toNat : Int) (z.l 3) (z.l 4))) ∧ ∀ (y : PX), aM y 3 ∧ True ∧ grM (Mm.mk (z.n 100000) (↑(z.n 100001).toNat : Int) (↑(z.n 100002).toNat : Int) (z.l 3) (z.l 4)) (Mm.mk (y.n 0) (y.n 1) (y.n 2) (y.l 1) (y.l 3)) ∧ Mm.mk (y.n 0) (y.n 1) (y.n 2) (y.l 1) (y.l 3) = wrm2 E (u32.wrap (z.n 2 + u32.wrap (i64.wrap ((↑(z.n 4).toNat : Int) - 1)))) (u32.wrap (rI (z.l 2) (i64.wrap ((↑(z.n 4).toNat : Int) - 1)).toNat)) (Mm.mk (z.n 100000) (↑(z.n 100001).toNat : Int) (↑(z.n 100002).toNat : Int) (z.l 3) (z.l 4)) → (eP (z.n 3) (y.l 1) (z.l 2) (y.l 3)) ∧ True ∧ (Mm.mk (y.n 0) (↑(y.n 1).toNat : Int) (↑(y.n 2).toNat : Int) (y.l 1) (y.l 3) = fiF E (z.n 2) (OU.mk (Mm.mk (z.n 100000) (z.n 100001) (z.n 100002) (z.l 3) (z.l 4)) (vals (z.l 2))) ∧ (↑(z.n 4).toNat : Int) = z.n 4) ∧ okM (Mm.mk (y.n 0) (↑(y.n 1).toNat : Int) (↑(y.n 2).toNat : Int) (y.l 1) (y.l 3)) ∧ (↑(y.n 2).toNat : Int) ≤ z.n 100002 + 1) ∧ (((↑(z.n 4).toNat : Int).tmod (2 : Int) == 1) = false → (eP (z.n 3) (z.l 3) (z.l 2) (z.l 4)) ∧ True ∧ (Mm.mk (z.n 100000) (↑(z.n 100001).toNat : Int) (↑(z.n 100002).toNat : Int) (z.l 3) (z.l 4) = fiF E (z.n 2) (OU.mk (Mm.mk (z.n 100000) (z.n 100001) (z.n 100002) (z.l 3) (z.l 4)) (vals (z.l 2))) ∧ (↑(z.n 4).toNat : Int) = z.n 4) ∧ okM (Mm.mk (z.n 100000) (↑(z.n 100001).toNat : Int) (↑(z.n 100002).toNat : Int) (z.l 3) (z.l 4)) ∧ (↑(z.n 100002).toNat : Int) ≤ z.n 100002 + 1)) := by kernel_rfl
set_option maxHeartbeats 4000000 in
theorem fi_c (E : World)  (z : PX) (hz : rgM z [mS 2, mN 3 4, rowB, rowB, rowN] 0) (hp : (fun z => okM (Mm.mk (z.n 100000) (z.n 100001) (z.n 100002) (z.l 3) (z.l 4)) ∧ z.n 100002 ≤ 200000 + z.n 4 ∧ (z.l 2).length = (z.n 4).toNat ∧ z.n 4 ≤ z.n 3 ∧ 0 ≤ z.n 4 ∧ z.n 100002 ≤ 900000) z) : HD (pe E) 43 [.c (.p 0 0)] [mS 2, mN 3 4, rowB, rowB, rowN] [mS 5, mN 3 6, .g HOLE, rowB, .g HOLE, rowB, rowN] (.t []) (fun z y => ((Mm.mk (y.n 100000) (y.n 100001) (y.n 100002) (y.l 3) (y.l 6)) = fiF E (z.n 2) (OU.mk (Mm.mk (z.n 100000) (z.n 100001) (z.n 100002) (z.l 3) (z.l 4)) (vals (z.l 2))) ∧ y.n 4 = z.n 4) ∧ okM (Mm.mk (y.n 100000) (y.n 100001) (y.n 100002) (y.l 3) (y.l 6)) ∧ y.n 100002 ≤ z.n 100002 + 1) z := by
  refine HD.mk (by rfl) (fnTree_sound (P := pe E) orcN_ok tab_ok tab_sz mixed 20000 Try.func43 (by decide) [.c (.p 0 0)] _) ⟨?_⟩
  rw [fi_p]
  obtain ⟨⟨hK, hnz, hl, hle, hz0⟩, hn9⟩ := (by obtain ⟨a1, a2, a3, a4, a5, a6⟩ := hp; exact ⟨⟨a1, a2, a3, a4, a5⟩, a6⟩ : (okM (Mm.mk (z.n 100000) (z.n 100001) (z.n 100002) (z.l 3) (z.l 4)) ∧ z.n 100002 ≤ 200000 + z.n 4 ∧ (z.l 2).length = (z.n 4).toNat ∧ z.n 4 ≤ z.n 3 ∧ 0 ≤ z.n 4) ∧ z.n 100002 ≤ 900000)
  have hf1 : flat [Sp.r .u8 0 255] = true := rfl
  have hf2 : flat [Sp.i .u32, Sp.i .i64, Sp.i .u32] = true := rfl
  have hf3 : flat [Sp.r .i64 0 255] = true := rfl
  obtain ⟨usz, u4z, _⟩ : (0 ≤ z.n 3 ∧ z.n 3 ≤ 65535) ∧ 0 ≤ z.n 4 ∧ True := hz.1
  obtain ⟨b1z, b2z, _⟩ : 0 ≤ z.n 100001 ∧ 0 ≤ z.n 100002 ∧ True := hz.2.1
  have T1z : ((z.n 100001).toNat : Int) = z.n 100001 := Int.toNat_of_nonneg b1z
  have T2z : ((z.n 100002).toNat : Int) = z.n 100002 := Int.toNat_of_nonneg b2z
  have T4z : ((z.n 4).toNat : Int) = z.n 4 := Int.toNat_of_nonneg u4z
  have roz : Row [.r .u8 0 255] (z.l 2) := hz.2.2.1.2
  have rbz : Row [.r .u8 0 255] (z.l 3) := hz.2.2.2.1.2
  have rnz : Row [.i .u32, .i .i64, .i .u32] (z.l 4) := hz.2.2.2.2.1.2
  have tm : (z.n 4).tmod 2 = z.n 4 % 2 := tmod_n _ _ hz0
  have w1 : IntKind.i64.wrap (z.n 4 - 1) = z.n 4 - 1 := by rw [wi64]; omega
  simp only [T1z, T2z, T4z, tm, w1, ua]
  refine ⟨fun h => ?_, fun h => ?_⟩
  · have h : z.n 4 % 2 = 1 := by simpa using h
    have hin : inB (z.n 4 - 1) (z.n 4).toNat = true := by simp only [inB, Bool.and_eq_true, decide_eq_true_eq]; omega
    have hro := roz.rOk (p := (z.n 4 - 1).toNat) (q := .r .u8 0 255) (k := EK.i .u8) (by omega) (by simp [Nat.mod_one]) rfl
    have hrg := roz.rg (p := (z.n 4 - 1).toNat) (k := .u8) (lo := 0) (hi := 255) (by omega) (by simp [Nat.mod_one])
    have wr : IntKind.u32.wrap (rI (z.l 2) (z.n 4 - 1).toNat) = rI (z.l 2) (z.n 4 - 1).toNat := by rw [wu32]; omega
    simp only [wr]
    refine ⟨hin, hro, ⟨by ((repeat' (first | exact trivial | with_reducible rfl | assumption | exact rfl | apply And.intro)) <;> omega), hK⟩, ?_⟩
    rintro y ⟨⟨⟨p1, p2, _⟩, ⟨_, q3⟩, ⟨_, q6⟩, _⟩, _, hg, hq⟩
    have S1 : ((y.n 1).toNat : Int) = y.n 1 := Int.toNat_of_nonneg p1
    have S2 : ((y.n 2).toNat : Int) = y.n 2 := Int.toNat_of_nonneg p2
    have hK2 := hK.gr hg (show z.n 100002 < 1000000 by omega)
    have hn2 : y.n 2 = z.n 100002 + 1 := hg.1
    have en : (z.n 4 - 1).toNat = (z.l 2).length - 1 := by omega
    have ez : z.n 4 - 1 = ((z.l 2).length : Int) - 1 := by omega
    rw [en, ez] at hq
    have hG := fi1 (E := E) (to := z.n 2) (by omega) hq
    simp only [S1, S2]
    ((repeat' (first | exact trivial | with_reducible rfl | assumption | exact rfl | apply And.intro)) <;> omega)
  · have h : z.n 4 % 2 ≠ 1 := by simpa using h
    have hG := fi2 (E := E) (to := z.n 2) (m := (Mm.mk (z.n 100000) (z.n 100001) (z.n 100002) (z.l 3) (z.l 4))) (l := z.l 2) (by omega)
    ((repeat' (first | exact trivial | with_reducible rfl | assumption | exact rfl | apply And.intro)) <;> omega)
noncomputable def orcU (E : World) (RA : AU) : Orc := fun g vs s => match g with
  | 39 => (match frGo [mS 2, mN 3 4, rowB, rowB, rowN] vs s (fun vs0 π s1 s0 => match vs0 with
      | [.c (.p 0 0)] => some (hdG (pre := fun z => okM (Mm.mk (z.n 100000) (z.n 100001) (z.n 100002) (z.l 3) (z.l 4)) ∧ z.n 100002 ≤ 200000 + z.n 4 ∧ (z.l 2).length = (z.n 4).toNat ∧ z.n 4 ≤ z.n 3 ∧ 0 ≤ z.n 4 ∧ PcI E (z.n 2) (z.n 3) (AU.mk (z.n 1) (OU.mk (Mm.mk (z.n 100000) (z.n 100001) (z.n 100002) (z.l 3) (z.l 4)) (vals (z.l 2)))) RA) (fun z hz hp => HD.args (vs := [.c (.p 0 0)]) (by simp [simL, SV.sim, C.sim]) (pc_c E RA z hz hp)) (by rfl) π s1 s0)
      | _ => none) with
    | some t => some t
    | none => (orcN E) g vs s)
  | 40 => (match frGo [mS 2, mN 3 4, rowB, rowB, rowN] vs s (fun vs0 π s1 s0 => match vs0 with
      | [.c (.p 0 0)] => some (hdG (pre := fun z => okM (Mm.mk (z.n 100000) (z.n 100001) (z.n 100002) (z.l 3) (z.l 4)) ∧ z.n 100002 ≤ 200000 + z.n 4 ∧ (z.l 2).length = (z.n 4).toNat ∧ z.n 4 ≤ z.n 3 ∧ 0 ≤ z.n 4 ∧ RuI E (z.n 2) (z.n 3) (AU.mk (z.n 1) (OU.mk (Mm.mk (z.n 100000) (z.n 100001) (z.n 100002) (z.l 3) (z.l 4)) (vals (z.l 2)))) RA) (fun z hz hp => HD.args (vs := [.c (.p 0 0)]) (by simp [simL, SV.sim, C.sim]) (ru_c E RA z hz hp)) (by rfl) π s1 s0)
      | _ => none) with
    | some t => some t
    | none => (orcN E) g vs s)
  | 41 => (match frGo [mS 2, mN 3 4, rowB, rowB, rowN] vs s (fun vs0 π s1 s0 => match vs0 with
      | [.c (.p 0 0), .c (.b l1 h8)] => some (hdG (pre := fun z => okM (Mm.mk (z.n 100000) (z.n 100001) (z.n 100002) (z.l 3) (z.l 4)) ∧ z.n 100002 ≤ 200000 + z.n 4 ∧ (z.l 2).length = (z.n 4).toNat ∧ z.n 4 ≤ z.n 3 ∧ 0 ≤ z.n 4 ∧ CdI E (z.n 2) (z.n 3) (!h8) (AU.mk (z.n 1) (OU.mk (Mm.mk (z.n 100000) (z.n 100001) (z.n 100002) (z.l 3) (z.l 4)) (vals (z.l 2)))) RA.u ∧ z.n 4 < z.n 3) (fun z hz hp => HD.args (vs := [.c (.p 0 0), .c (.b l1 h8)]) (by simp [simL, SV.sim, C.sim]) (tr_c E h8 RA.u z hz hp)) (by rfl) π s1 s0)
      | _ => none) with
    | some t => some t
    | none => (orcN E) g vs s)
  | 42 => (match frGo [mS 2, mN 3 4, rowB, rowB, rowN] vs s (fun vs0 π s1 s0 => match vs0 with
      | [.c (.p 0 0)] => some (hdG (pre := fun z => okM (Mm.mk (z.n 100000) (z.n 100001) (z.n 100002) (z.l 3) (z.l 4)) ∧ z.n 100002 ≤ 200000 + z.n 4 ∧ (z.l 2).length = (z.n 4).toNat ∧ z.n 4 ≤ z.n 3 ∧ 0 ≤ z.n 4) (fun z hz hp => HD.args (vs := [.c (.p 0 0)]) (by simp [simL, SV.sim, C.sim]) (df_c E z hz hp)) (by rfl) π s1 s0)
      | _ => none) with
    | some t => some t
    | none => (orcN E) g vs s)
  | 43 => (match frGo [mS 2, mN 3 4, rowB, rowB, rowN] vs s (fun vs0 π s1 s0 => match vs0 with
      | [.c (.p 0 0)] => some (hdG (pre := fun z => okM (Mm.mk (z.n 100000) (z.n 100001) (z.n 100002) (z.l 3) (z.l 4)) ∧ z.n 100002 ≤ 200000 + z.n 4 ∧ (z.l 2).length = (z.n 4).toNat ∧ z.n 4 ≤ z.n 3 ∧ 0 ≤ z.n 4 ∧ z.n 100002 ≤ 900000) (fun z hz hp => HD.args (vs := [.c (.p 0 0)]) (by simp [simL, SV.sim, C.sim]) (fi_c E z hz hp)) (by rfl) π s1 s0)
      | _ => none) with
    | some t => some t
    | none => (orcN E) g vs s)
  | g => (orcN E) g vs s
theorem orcU_ok {E : World} {RA : AU} : OrcOK (pe E) (orcU E RA) := by
  intro g vs s t h
  unfold orcU at h
  split at h
  · split at h
    · rename_i hfr; cases h
      obtain ⟨π, s1, hq, hK, hv, hok, hpd⟩ := frGo_spec (P := pe E) hfr
      split at hK
      · rename_i heq; cases hK
        rw [heq] at hv hok
        exact hpd _ _ (hdG_ok _ _ π s1 hq hv hok)
      · cases hK
    · exact orcN_ok _ _ _ _ h
  · split at h
    · rename_i hfr; cases h
      obtain ⟨π, s1, hq, hK, hv, hok, hpd⟩ := frGo_spec (P := pe E) hfr
      split at hK
      · rename_i heq; cases hK
        rw [heq] at hv hok
        exact hpd _ _ (hdG_ok _ _ π s1 hq hv hok)
      · cases hK
    · exact orcN_ok _ _ _ _ h
  · split at h
    · rename_i hfr; cases h
      obtain ⟨π, s1, hq, hK, hv, hok, hpd⟩ := frGo_spec (P := pe E) hfr
      split at hK
      · rename_i heq; cases hK
        rw [heq] at hv hok
        exact hpd _ _ (hdG_ok _ _ π s1 hq hv hok)
      · cases hK
    · exact orcN_ok _ _ _ _ h
  · split at h
    · rename_i hfr; cases h
      obtain ⟨π, s1, hq, hK, hv, hok, hpd⟩ := frGo_spec (P := pe E) hfr
      split at hK
      · rename_i heq; cases hK
        rw [heq] at hv hok
        exact hpd _ _ (hdG_ok _ _ π s1 hq hv hok)
      · cases hK
    · exact orcN_ok _ _ _ _ h
  · split at h
    · rename_i hfr; cases h
      obtain ⟨π, s1, hq, hK, hv, hok, hpd⟩ := frGo_spec (P := pe E) hfr
      split at hK
      · rename_i heq; cases hK
        rw [heq] at hv hok
        exact hpd _ _ (hdG_ok _ _ π s1 hq hv hok)
      · cases hK
    · exact orcN_ok _ _ _ _ h
  · exact orcN_ok _ _ _ _ h
noncomputable def orcV (E : World) (RA : AU) : Orc := fun g vs s => match g with
  | 44 => (match frGo [mSt 2, mO' 2 3, mN 4 5, rowI, rowB, rowN] vs s (fun vs0 π s1 s0 => match vs0 with
      | [.c (.p 0 0), .c (.p 1 0)] => some (hdG (pre := fun z => okM (Mm.mk (z.n 200000) (z.n 200001) (z.n 200002) (z.l 4) (z.l 5)) ∧ z.n 200002 ≤ 200000 + z.n 100003 ∧ (z.l 3).length = (z.n 100003).toNat ∧ z.n 100003 ≤ z.n 100002 ∧ 0 ≤ z.n 100003 ∧ PcI E (z.n 100001) (z.n 100002) (AU.mk (z.n 1) (OU.mk (Mm.mk (z.n 200000) (z.n 200001) (z.n 200002) (z.l 4) (z.l 5)) (vals (z.l 3)))) RA) (fun z hz hp => HD.args (vs := [.c (.p 0 0), .c (.p 1 0)]) (by simp [simL, SV.sim, C.sim]) (ad_c E RA z hz hp)) (by rfl) π s1 s0)
      | _ => none) with
    | some t => some t
    | none => (orcN E) g vs s)
  | 45 => (match frGo [mSt 2, mO' 2 3, mN 4 5, rowI, rowB, rowN] vs s (fun vs0 π s1 s0 => match vs0 with
      | [.c (.p 0 0), .c (.p 1 0)] => some (hdG (pre := fun z => okM (Mm.mk (z.n 200000) (z.n 200001) (z.n 200002) (z.l 4) (z.l 5)) ∧ z.n 200002 ≤ 200000 + z.n 100003 ∧ (z.l 3).length = (z.n 100003).toNat ∧ z.n 100003 ≤ z.n 100002 ∧ 0 ≤ z.n 100003 ∧ RuI E (z.n 100001) (z.n 100002) (AU.mk (z.n 1) (OU.mk (Mm.mk (z.n 200000) (z.n 200001) (z.n 200002) (z.l 4) (z.l 5)) (vals (z.l 3)))) RA) (fun z hz hp => HD.args (vs := [.c (.p 0 0), .c (.p 1 0)]) (by simp [simL, SV.sim, C.sim]) (rd_c E RA z hz hp)) (by rfl) π s1 s0)
      | _ => none) with
    | some t => some t
    | none => (orcN E) g vs s)
  | 46 => (match frGo [mSt 2, mO' 2 3, mN 4 5, rowI, rowB, rowN] vs s (fun vs0 π s1 s0 => match vs0 with
      | [.c (.p 0 0), .c (.p 1 0), .c (.b l1 e8)] => some (hdG (pre := fun z => okM (Mm.mk (z.n 200000) (z.n 200001) (z.n 200002) (z.l 4) (z.l 5)) ∧ z.n 200002 ≤ 200000 + z.n 100003 ∧ (z.l 3).length = (z.n 100003).toNat ∧ z.n 100003 ≤ z.n 100002 ∧ 0 ≤ z.n 100003 ∧ CdI E (z.n 100001) (z.n 100002) e8 (AU.mk (z.n 1) (OU.mk (Mm.mk (z.n 200000) (z.n 200001) (z.n 200002) (z.l 4) (z.l 5)) (vals (z.l 3)))) RA.u) (fun z hz hp => HD.args (vs := [.c (.p 0 0), .c (.p 1 0), .c (.b l1 e8)]) (by simp [simL, SV.sim, C.sim]) (cd_c E e8 RA.u z hz hp)) (by rfl) π s1 s0)
      | _ => none) with
    | some t => some t
    | none => (orcN E) g vs s)
  | 49 => (match frGo [mO' 1 2, mN 3 4, rowI, rowB, rowN] vs s (fun vs0 π s1 s0 => match vs0 with
      | [.c (.p 0 0), .c (.i l1 .i64 x)] => some (hdG (pre := fun z => okM (Mm.mk (z.n 100000) (z.n 100001) (z.n 100002) (z.l 3) (z.l 4)) ∧ z.n 100002 ≤ 400000 ∧ (z.l 2).length = (z.n 3).toNat ∧ z.n 3 ≤ z.n 2 ∧ 0 ≤ x ∧ x ≤ 255) (fun z hz hp => HD.args (vs := [.c (.p 0 0), .c (.i l1 .i64 x)]) (by simp [simL, SV.sim, C.sim]) (pu_c E x z hz hp)) (by rfl) π s1 s0)
      | _ => none) with
    | some t => some t
    | none => (orcN E) g vs s)
  | g => (orcN E) g vs s
theorem orcV_ok {E : World} {RA : AU} : OrcOK (pe E) (orcV E RA) := by
  intro g vs s t h
  unfold orcV at h
  split at h
  · split at h
    · rename_i hfr; cases h
      obtain ⟨π, s1, hq, hK, hv, hok, hpd⟩ := frGo_spec (P := pe E) hfr
      split at hK
      · rename_i heq; cases hK
        rw [heq] at hv hok
        exact hpd _ _ (hdG_ok _ _ π s1 hq hv hok)
      · cases hK
    · exact orcN_ok _ _ _ _ h
  · split at h
    · rename_i hfr; cases h
      obtain ⟨π, s1, hq, hK, hv, hok, hpd⟩ := frGo_spec (P := pe E) hfr
      split at hK
      · rename_i heq; cases hK
        rw [heq] at hv hok
        exact hpd _ _ (hdG_ok _ _ π s1 hq hv hok)
      · cases hK
    · exact orcN_ok _ _ _ _ h
  · split at h
    · rename_i hfr; cases h
      obtain ⟨π, s1, hq, hK, hv, hok, hpd⟩ := frGo_spec (P := pe E) hfr
      split at hK
      · rename_i heq; cases hK
        rw [heq] at hv hok
        exact hpd _ _ (hdG_ok _ _ π s1 hq hv hok)
      · cases hK
    · exact orcN_ok _ _ _ _ h
  · split at h
    · rename_i hfr; cases h
      obtain ⟨π, s1, hq, hK, hv, hok, hpd⟩ := frGo_spec (P := pe E) hfr
      split at hK
      · rename_i heq; cases hK
        rw [heq] at hv hok
        exact hpd _ _ (hdG_ok _ _ π s1 hq hv hok)
      · cases hK
    · exact orcN_ok _ _ _ _ h
  · exact orcN_ok _ _ _ _ h
noncomputable def ud_td (E : World) : List Item := headP [false, false, false, false, false, true] (run (pe E) (orcV E ⟨0, ⟨⟨0, 0, 0, [], []⟩, []⟩⟩) (tabL fns) 20000 (2 ^ 200 - 1) [.code (Try.f26.body.getD .skip)] ⟨Try.f26.ntmps, mkFrGo (Tr.mk 12) 0 [.c (.p 0 0), .c (.i false .u32 0), .c (.i false .u32 0)]⟩ (mkM default [] [mB 2, rowB, rowN] 0))
theorem aF4 (f : Int) (h : 0 ≤ f ∧ f ≤ 4294967295) : IntKind.u32.wrap (f - f.tmod 4) = alF 4 f := by
  rw [tmod_n _ _ h.1, wu32]; unfold alF; omega
theorem aF2 (f : Int) (h : 0 ≤ f ∧ f ≤ 4294967295) : IntKind.u32.wrap (f - f.tmod 2) = alF 2 f := by
  rw [tmod_n _ _ h.1, wu32]; unfold alF; omega
theorem eS2 (v : Int) (h : 0 ≤ v ∧ v ≤ 4294967295) : IntKind.i64.wrap ((IntKind.u32.wrap (v.tdiv 256)).tmod 65536) = v / 256 % 65536 := by
  rw [show v.tdiv 256 = v / 256 from Int.tdiv_eq_ediv_of_nonneg h.1, tmod_n _ _ (ur _).1, wu32, wi64]; omega
theorem dF (l v : Int) (hl : 0 ≤ l ∧ l ≤ 255) (hv : 0 ≤ v ∧ v ≤ 255) : (IntKind.i64.wrap (l + v)).tmod 256 = (l + v) % 256 := by
  have e : IntKind.i64.wrap (l + v) = l + v := by rw [wi64]; omega
  rw [e, tmod_n _ _ (by omega)]
end Go.Proofs.Ytabklphoccicmaa

