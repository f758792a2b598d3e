import Derived.Test.YtkeinfmfkcgkhaaTF
set_option linter.unusedVariables false
set_option linter.unusedSimpArgs false
namespace Go.Proofs.Ytkeinfmfkcgkhaa
open Go Go.Proofs Go.Proofs.Ytkeinfmfkcgkhaa.Ev Go.Proofs.Ytkeinfmfkcgkhaa.Ev.Ho
set_option maxRecDepth 100000
def AllI (P : Nat → Int → Prop) : Nat → List Int → Prop
  | k, a :: l => P k a ∧ AllI P (k + 1) l
  | _, [] => True
def m5 (t : Int) : Int := if t ≤ 32 then t else 32
def WB (l : List C) (w : Int) (bs : List Int) : Prop := AllI (fun j b => (j : Int) < w → IntKind.i8.wrap b = rI l j) 0 bs
def WC (l : List C) (L w s x : Int) (bs : List Int) : Prop := AllI (fun j b => ((j : Int) < L → IntKind.i8.wrap b = rI l j) ∧ (L ≤ j → (j : Int) < w → b = x / (2 : Int) ^ (8 * (j - s)).toNat % 256)) 0 bs
def WD (l : List C) (i w : Int) (bs : List Int) : Prop := AllI (fun j b => (j : Int) < w → IntKind.i8.wrap b = rI l (i + j).toNat) 0 bs
noncomputable def headP : List Bool → Tree Lf → List Item
  | _, .leaf lf => cond lf.ended [] lf.todo
  | [], .node _ _ _ => []
  | b :: p, .node _ t f => cond b (headP p t) (headP p f)
  | p, .need _ t => headP p t
  | p, .pin _ _ _ k => headP p (k default)
  | _, .fail => []
structure Ln (l : List C) (n : Int) : Prop where
  e : l.length = n.toNat
noncomputable def noS (t : Nat) : Tr → SW → Bool := fun tr _ => match tr.get t with | .t [] => true | .any => true | _ => false
noncomputable def orcQ (E : World) : Orc := fun g vs s => match g with
  | 12 => (match frGo [mT 1 2, mP 3, rowT, mO] vs s (fun vs0 π s1 s0 => match vs0 with
      | [.c (.p 0 0), .c (.i false .i64 w)] => some (hdG (pre := fun z => z.n 74 = 0 ∧ (w ≤ z.n 73 + 512 ∧ z.n 73 ≤ w ∧ (w - z.n 73) % 512 = 0) ∧ z.n 73 % 512 = 0 ∧ w ≤ 1000000) (fun z hz hp => HD.args (vs := [.c (.p 0 0), .c (.i false .i64 w)]) (by simp [simL, SV.sim, C.sim]) (rn_c E w z hz hp)) (by rfl) π s1 s0)
      | _ => none) with
    | some t => some t
    | none => (orcA E) g vs s)
  | 17 => (match frGo [mT 1 2, mP 3, rowT, mO] vs s (fun vs0 π s1 s0 => match vs0 with
      | [.c (.p 0 0), .c (.i true .i64 0), .c (.i l2 .u32 x)] => some (hdG (pre := fun z => 0 ≤ x ∧ x ≤ 4294967295) (fun z hz hp => HD.args (vs := [.c (.p 0 0), .c (.i true .i64 0), .c (.i l2 .u32 x)]) (by simp [simL, SV.sim, C.sim]) (fd_c E x z hz hp)) (by rfl) π s1 s0)
      | _ => none) with
    | some t => some t
    | none => (orcA E) g vs s)
  | 19 => (match frGo [mT 1 2, mP 3, rowT, mO] vs s (fun vs0 π s1 s0 => match vs0 with
      | [.c (.p 0 0), .c (.i l1 .i64 w), .c (.i true .i64 0)] => some (hdG (pre := fun z => z.n 74 = 0 ∧ w = z.n 73 ∧ z.n 73 % 512 = 0 ∧ w ≤ 1000000 ∧ 1 ≤ z.n 33) (fun z hz hp => HD.args (vs := [.c (.p 0 0), .c (.i l1 .i64 w), .c (.i true .i64 0)]) (by simp [simL, SV.sim, C.sim]) (ovt_c E w z hz hp)) (by rfl) π s1 s0)
      | _ => none) with
    | some t => some t
    | none => (orcA E) g vs s)
  | g => (orcA E) g vs s
theorem orcQ_ok {E : World} : OrcOK (pe E) (orcQ E) := by
  intro g vs s t h
  unfold orcQ at h
  split at h
  · split at h
    · rename_i hfr; cases h
      obtain ⟨π, s1, hq, hK, hv, hok, hpd⟩ := frGo_spec (P := pe E) hfr
      split at hK
      · rename_i heq; cases hK
        rw [heq] at hv hok
        exact hpd _ _ (hdG_ok _ _ π s1 hq hv hok)
      · cases hK
    · exact orcA_ok _ _ _ _ h
  · split at h
    · rename_i hfr; cases h
      obtain ⟨π, s1, hq, hK, hv, hok, hpd⟩ := frGo_spec (P := pe E) hfr
      split at hK
      · rename_i heq; cases hK
        rw [heq] at hv hok
        exact hpd _ _ (hdG_ok _ _ π s1 hq hv hok)
      · cases hK
    · exact orcA_ok _ _ _ _ h
  · split at h
    · rename_i hfr; cases h
      obtain ⟨π, s1, hq, hK, hv, hok, hpd⟩ := frGo_spec (P := pe E) hfr
      split at hK
      · rename_i heq; cases hK
        rw [heq] at hv hok
        exact hpd _ _ (hdG_ok _ _ π s1 hq hv hok)
      · cases hK
    · exact orcA_ok _ _ _ _ h
  · exact orcA_ok _ _ _ _ h
noncomputable def t1_td (E : World) : List Item := headOf (run (pe E) (orcQ E) (tabL fns) 20000 (2 ^ 200 - 1) [.code (Try.f4.body.getD .skip)] ⟨Try.f4.ntmps, mkFrGo (Tr.mk 12) 0 [.c (.es none 5 5)]⟩ (mkM default [] [] 0))
noncomputable def t2_td (E : World) : List Item := headP [true] (run (pe E) (orcQ E) (tabL fns) 20000 (2 ^ 200 - 1) (t1_td E) (mkL Try.f4.ntmps (slC default ([(0, .q (.es none 5 5)), (3, .c (.p 0 0)), (4, .v 1 1), (22, .q (.es none 5 5)), (23, .q (.i false .i64 5)), (24, .r .i64 (0) (20))]))) (mkM default [] [mT 2 3, rowW, mP 4, rowT, mO] 0))
noncomputable def t3_td (E : World) : List Item := headP [false, false] (run (pe E) (orcQ E) (tabL fns) 20000 (2 ^ 200 - 1) (t1_td E) (mkL Try.f4.ntmps (slC default ([(0, .q (.es none 5 5)), (3, .c (.p 0 0)), (4, .v 1 1), (22, .q (.es none 5 5)), (23, .q (.i false .i64 5)), (24, .r .i64 (0) (20))]))) (mkM default [] [mT 2 3, rowW, mP 4, rowT, mO] 0))
theorem wc_1 {j : Nat} {b b' w0 w' L s x : Int} {l : List C} (hb : (j : Int) < w0 → IntKind.i8.wrap b = rI l j) (hf : b' = fB w0 4 x j b) (hL : L = w0) (h0 : w0 = m5 s) (hw : w' ≤ w0 + 4) (hj : j < 32) : ((j : Int) < L → IntKind.i8.wrap b' = rI l j) ∧ (L ≤ j → (j : Int) < w' → b' = x / (2 : Int) ^ (8 * (j - s)).toNat % 256) := by
  subst hL; unfold fB at hf
  refine ⟨fun h => ?_, fun h1 h2 => ?_⟩
  · rw [if_neg (by omega)] at hf; rw [hf]; exact hb h
  · have es : L = s := by unfold m5 at h0; split at h0 <;> omega
    rw [if_pos (by omega), es] at hf; exact hf
theorem wc_2 {j : Nat} {b L w s x k v : Int} {l : List C} {mm : Nat} (h : ((j : Int) < L → IntKind.i8.wrap b = rI l j) ∧ (L ≤ j → (j : Int) < w → b = x / (2 : Int) ^ (8 * (j - s)).toNat % 256)) (hL : L = s + k) (hw : L < w) (hm : mm = L.toNat) (hl : l.length = L.toNat) (h0 : 0 ≤ L) (hv : v = IntKind.i8.wrap (x / (2 : Int) ^ (8 * k).toNat)) : ((j : Int) < L + 1 → IntKind.i8.wrap b = rI (rApp l mm [C.i false .i8 v]) j) ∧ (L + 1 ≤ j → (j : Int) < w → b = x / (2 : Int) ^ (8 * (j - s)).toNat % 256) := by
  refine ⟨fun h1 => ?_, fun h1 h2 => h.2 (by omega) h2⟩
  by_cases e : (j : Int) < L
  · rw [rI_app_lt (by omega) (by omega)]; exact h.1 e
  · have ej : j = mm := by omega
    have ek : (j : Int) - s = k := by omega
    rw [h.2 (by omega) (by omega), ek, hv, ej, rI_app_ge (Nat.le_refl _) (by omega), Nat.sub_self]
    show IntKind.i8.wrap (_ % 256) = IntKind.i8.wrap _
    rw [wi8, wi8]; omega
theorem wd_1 {j : Nat} {a c b' b w i : Int} {l : List C} (h : ((j + 1 : Nat) : Int) < w → IntKind.i8.wrap c = rI l (i + ((j + 1 : Nat) : Int)).toNat) (hs : b' = if (j : Int) + 1 < w then c else a) (he : b = b') : (j : Int) < w - 1 → IntKind.i8.wrap b = rI l (i + 1 + j).toNat := by
  intro hj
  rw [if_pos (by omega)] at hs
  have e : (i + 1 + j).toNat = (i + ((j + 1 : Nat) : Int)).toNat := by congr 1; omega
  rw [he, hs, e]; exact h (by omega)
theorem wd_e {j : Nat} {b w i : Int} {l : List C} (hw : w ≤ 32) (hj : 31 ≤ j) : (j : Int) < w - 1 → IntKind.i8.wrap b = rI l (i + 1 + j).toNat := by intro h; omega
theorem wd_0 {j : Nat} {b w : Int} {l : List C} (h : (j : Int) < w → IntKind.i8.wrap b = rI l j) : (j : Int) < w → IntKind.i8.wrap b = rI l (0 + (j : Int)).toNat := by
  intro hj; rw [show (0 + (j : Int)).toNat = j by omega]; exact h hj
theorem m5_4 (t : Int) : m5 (t + 4) = if m5 t + 4 ≤ 32 then m5 t + 4 else 32 := by unfold m5; repeat' split <;> omega
end Go.Proofs.Ytkeinfmfkcgkhaa

