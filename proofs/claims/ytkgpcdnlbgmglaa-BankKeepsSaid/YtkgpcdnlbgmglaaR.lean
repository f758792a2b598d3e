import Derived.Test.YtkgpcdnlbgmglaaQ
import Derived.Test.YtkgpcdnlbgmglaaN
set_option linter.unusedVariables false
set_option linter.unusedSimpArgs false
namespace Go.Proofs.Ytkgpcdnlbgmglaa
open Go Go.Proofs Go.Proofs.Ytkgpcdnlbgmglaa.Ev
set_option maxRecDepth 100000
theorem pkLt : ∀ M, M < 6 → ∀ a, a < 6 → ∀ e, e < 2 → (pkI M a e < 45 ∧ pkI M a e ≠ 0) := by decide +kernel
theorem pkPm : ∀ M, M < 6 → ∀ a, a < 6 → ∀ b, b < 6 → ∀ e, e < 2 → pm a b (pkI M b e) = pkI M a e := by decide +kernel
theorem svPm : ∀ M, M < 6 → ∀ a, a < 6 → ∀ b, b < 6 → M ≠ 0 → pm a b (39 + M) = 39 + M := by decide +kernel
theorem setC_hi (d : Nat → Int) (i x : Int) (j : Nat) (h : 17 ≤ j) : setC d i x j = d j := by
  unfold setC
  repeat rw [if_neg (by omega)]
def kO (d f : Nat → Int) (z : Int) : Prop := (∀ e, e < 2 → pkV d z e = pkV f z e) ∧ svV d z = svV f z
theorem kb_refl {d : Nat → Int} {z : Int} : kO d d z := ⟨fun _ _ => rfl, rfl⟩
theorem svV_eq {f g : Nat → Int} {z : Int} (h : md z ≠ 0 → f (39 + md z) = g (39 + md z)) : svV f z = svV g z := by
  unfold svV
  cases e : Nat.beq (md z) 0 with
  | true => rfl
  | false => exact h (fun h0 => by rw [h0] at e; cases e)
theorem kb_of {d f : Nat → Int} {z : Int} (h : kO d f z) : kO d (ofL (bk f)) z := by
  have hz := md_lt z
  have hf := md_lt (f 0)
  refine ⟨fun e he => (h.1 e he).trans ?_, h.2.trans (svV_eq fun _ => ?_)⟩
  · exact (ofL_bk f _ (pkLt _ hz _ hf e he).1).symm
  · exact (ofL_bk f _ (by omega)).symm
theorem kb_St {d f : Nat → Int} {z y : Int} (h : kO d f z) : kO d (setSt f y) z := by
  have hz := md_lt z
  have hf := md_lt (f 0)
  have hy := md_lt y
  refine ⟨fun e he => (h.1 e he).trans ?_, h.2.trans (svV_eq fun h0 => ?_)⟩
  · show f (pkI (md z) (md (f 0)) e) = setSt f y (pkI (md z) (md y) e)
    unfold setSt
    rw [if_neg (pkLt _ hz _ hy e he).2, pkPm _ hz _ hf _ hy e he]
  · unfold setSt
    rw [if_neg (by omega), svPm _ hz _ hf _ hy h0]
theorem pkHi (M a e : Nat) (h : a ≠ M) : pkI M a e = 17 + 2 * M + e := if_neg h
theorem kb_C {d f : Nat → Int} {z i x : Int} (hm : md (f 0) ≠ md z) (h : kO d f z) : kO d (setC f i x) z := by
  refine ⟨fun e he => (h.1 e he).trans ?_, h.2.trans (svV_eq fun h0 => (setC_hi f i x _ (by omega)).symm)⟩
  show f (pkI (md z) (md (f 0)) e) = setC f i x (pkI (md z) (md (f 0)) e)
  rw [pkHi _ _ _ hm, setC_hi f i x _ (by omega)]
theorem kb_Sv {d f : Nat → Int} {z x : Int} (hm : md (f 0) ≠ md z) (h : kO d f z) : kO d (setSv f x) z := by
  have hz := md_lt z
  have hf := md_lt (f 0)
  have key : ∀ j, j ≠ 39 + md (f 0) → setSv f x j = f j := by
    intro j hj
    unfold setSv
    have : Nat.beq j (39 + md (f 0)) = false := by
      cases e : Nat.beq j (39 + md (f 0)) with
      | false => rfl
      | true => exact absurd (Nat.eq_of_beq_eq_true e) hj
    rw [this, Bool.and_false]; rfl
  refine ⟨fun e he => (h.1 e he).trans ?_, h.2.trans (svV_eq fun h0 => (key _ (by omega)).symm)⟩
  show f (pkI (md z) (md (f 0)) e) = setSv f x (pkI (md z) (md (setSv f x 0)) e)
  rw [setSv_0, pkHi _ _ _ hm, key _ (by omega)]
theorem kd_cong (a b : Int) (h : md a = md b) : kdV a = kdV b := by
  have key : ∀ x, kdV x = (match md x with | 0 => 0 | 1 => 17 | 2 => 18 | 3 => 19 | 4 => 23 | _ => 27 : Int) := by
    intro x
    unfold kdV md
    generalize bits .and .u32 x 31 = m
    cases e1 : (m == 17) with
    | true => rw [eq_of_beq e1]; rfl
    | false =>
    cases e2 : (m == 18) with
    | true => rw [eq_of_beq e2]; rfl
    | false =>
    cases e3 : (m == 19) with
    | true => rw [eq_of_beq e3]; rfl
    | false =>
    cases e4 : (m == 23) with
    | true => rw [eq_of_beq e4]; rfl
    | false =>
    cases e5 : (m == 27) with
    | true => rw [eq_of_beq e5]; rfl
    | false => rfl
  rw [key, key, h]
theorem kdne {a b : Int} (h : (kdV a != kdV b) = true) : md a ≠ md b := fun e => by rw [kd_cong a b e] at h; simp at h
theorem kfin {E : World} {z : Int} {d D : Nat → Int} {a2 : Option Addr} {n2 c2 : Nat} {A I : Int} (h : kO d D z) (hw : A = I) :
    (IntKind.u32 = IntKind.u32 ∧ pkV d z 0 = pkV D z 0) ∧ (IntKind.u32 = IntKind.u32 ∧ pkV d z 1 = pkV D z 1) ∧ (IntKind.u32 = IntKind.u32 ∧ svV d z = svV D z) ∧ C.es a2 n2 c2 = C.es a2 n2 c2 ∧ (IntKind.i64 = IntKind.i64 ∧ (n2 : Int) = (n2 : Int)) ∧ IntKind.i64 = IntKind.i64 ∧ A = I :=
  ⟨⟨rfl, h.1 0 (by decide)⟩, ⟨rfl, h.1 1 (by decide)⟩, ⟨rfl, h.2⟩, rfl, ⟨rfl, rfl⟩, rfl, hw⟩
theorem ne_of {k c : Int} (h : (k != c) = true) (h2 : (k == c) = true) : False := by
  rw [bne, h2] at h; cases h
set_option maxHeartbeats 8000000 in
theorem then_ok (W : World) (a : Option Addr) (n c : Nat) (z : Int) (a2 : Option Addr) (n2 c2 : Nat) (hmx : n2 ≤ maxLen) (hz : a2 = none → n2 = 0) (he : ∀ j, j < n2 → eRow W a2 (j * 3) [.i .i64, .i .i64, .i .u32] = true)
    (i : Nat) (d : Nat → Int) (hi : i ≤ n2) :
    loopP (pe W) Try.f4 (fun v _ => SV.sim v (.c (.b false true))) (Q4 W a n c z a2 n2 c2 (n2 - i)) (run (pe W) (orcF W) (tabL fns) 20000 (2^200-1) (hdb4 W) (mkL Try.f4.ntmps (lb4 z a2 n2 c2 (i, d))) (sa4 (i, d))) := by
  rw [keeps_then W a n c z a2 n2 c2 (i, d)]
  simp only [maxLen] at hmx
  refine ⟨fun h => ?_, fun h => ?_⟩
  · have hlt : i < n2 := by have := of_decide_eq_true h; omega
    have hrow := he i hlt
    have hwr : IntKind.i64.wrap ((i : Int) + 1) = ((i + 1 : Nat) : Int) := by rw [wi64_in _ (by omega) (by omega)]; simp
    have hmu : n2 - (i + 1) < n2 - i := by omega
    refine ⟨by simp only [inB, Bool.and_eq_true, decide_eq_true_eq]; omega, some_of_lt hz hlt, by simpa using hrow, ?_⟩
    repeat' first | (refine And.intro (fun _ => ?_) (fun _ => ?_)) | (refine ⟨rfl, rfl, i + 1, hlt, hmu, rfl, rfl, ⟨rfl, rfl⟩, rfl, ?_⟩)
    all_goals first
      | (refine kfin (E := W) ?_ hwr; (repeat' first | exact kb_refl | apply kb_of | apply kb_St | (refine kb_C (kdne (by assumption)) ?_) | (refine kb_Sv (kdne (by assumption)) ?_)); done)
      | (exfalso; exact ne_of (c := 3) (by assumption) (by assumption))
      | (exfalso; exact ne_of (c := 4) (by assumption) (by assumption))
  · have e0 : pkV d z 0 = getV (ofL (bk (setSt (ofL (bk d)) z))) 13 := by
      refine ((kb_of (kb_St (y := z) (kb_of (kb_refl (d := d) (z := z))))).1 0 (by decide)).trans ?_
      show (ofL (bk (setSt (ofL (bk d)) z))) (pkI (md z) (md z) 0) = _
      rw [pkI, if_pos rfl]; rfl
    have e1 : pkV d z 1 = getV (ofL (bk (setSt (ofL (bk d)) z))) 14 := by
      refine ((kb_of (kb_St (y := z) (kb_of (kb_refl (d := d) (z := z))))).1 1 (by decide)).trans ?_
      show (ofL (bk (setSt (ofL (bk d)) z))) (pkI (md z) (md z) 1) = _
      rw [pkI, if_pos rfl]; rfl
    have e2 : svV d z = savV (ofL (bk (setSt (ofL (bk d)) z))) := by
      exact (kb_of (kb_St (y := z) (kb_of (kb_refl (d := d) (z := z))))).2
    refine ⟨fun _ => ⟨fun _ => ⟨fun _ => rfl, fun _ => ?_⟩, fun h => ?_⟩, fun h => ?_⟩
    · show (savV (ofL (bk (setSt (ofL (bk d)) z))) == svV d z) = true
      rw [e2]; exact beq_self_eq_true _
    · have h' : (getV (ofL (bk (setSt (ofL (bk d)) z))) 14 == pkV d z 1) = false := h
      rw [e1, beq_self_eq_true] at h'; cases h'
    · have h' : (getV (ofL (bk (setSt (ofL (bk d)) z))) 13 == pkV d z 0) = false := h
      rw [e0, beq_self_eq_true] at h'; cases h'
set_option maxHeartbeats 8000000 in
theorem calls_ok (W : World) (a : Option Addr) (n c : Nat) (z : Int) (a2 : Option Addr) (n2 c2 : Nat) (hmx : n ≤ maxLen) (hz : a = none → n = 0) (he : ∀ j, j < n → eRow W a (j * 3) [.i .i64, .i .i64, .i .u32] = true)
    (i : Nat) (d : Nat → Int) (hi : i ≤ n) :
    loopP (pe W) Try.f4 (fun v _ => SV.sim v (.c (.b false true))) (Q4 W a n c z a2 n2 c2 (n - i + n2 + 1)) (run (pe W) (orcF W) (tabL fns) 20000 (2^200-1) (hd4 W) (mkL Try.f4.ntmps (la4 a n c z a2 n2 c2 (i, d))) (sa4 (i, d))) := by
  rw [keeps_round W a n c z a2 n2 c2 (i, d)]
  simp only [maxLen] at hmx
  refine ⟨fun h => ?_, fun h => ?_⟩
  · have hlt : i < n := by have := of_decide_eq_true h; omega
    have hrow := he i hlt
    have hwr : IntKind.i64.wrap ((i : Int) + 1) = ((i + 1 : Nat) : Int) := by rw [wi64_in _ (by omega) (by omega)]; simp
    have hmu : n - (i + 1) + n2 + 1 < n - i + n2 + 1 := by omega
    refine ⟨by simp only [inB, Bool.and_eq_true, decide_eq_true_eq]; omega, some_of_lt hz hlt, by simpa using hrow, ?_⟩
    repeat' first | (refine And.intro (fun _ => ?_) (fun _ => ?_)) | (refine ⟨rfl, rfl, i + 1, hlt, hmu, rfl, rfl, ⟨rfl, rfl⟩, rfl, rfl, rfl, ⟨rfl, rfl⟩, rfl, hwr⟩)
  · refine ⟨rfl, rfl, 0, Nat.zero_le _, by omega, rfl, rfl, ⟨rfl, rfl⟩, rfl, ⟨rfl, ?_⟩, ⟨rfl, ?_⟩, ⟨rfl, ?_⟩, rfl, ⟨rfl, rfl⟩, rfl, rfl⟩
    · show _ = (ofL (bk (setSt (ofL (bk d)) z))) (pkI (md z) (md z) 0)
      rw [pkI, if_pos rfl]; rfl
    · show _ = (ofL (bk (setSt (ofL (bk d)) z))) (pkI (md z) (md z) 1)
      rw [pkI, if_pos rfl]; rfl
    · rfl
theorem mem1_ref {s' : SW} {P : (Nat → Int) → Prop} (h : mem1 s' P) : ∃ d, P d ∧ refT s' [⟨bk d, 59⟩] := by
  unfold mem1 at h
  split at h
  · rename_i l ty r
    obtain ⟨rfl, h2, h3⟩ := h
    refine ⟨ofL l, h3, ?_⟩
    have e := bk_eq l h2
    generalize ofL l = f at *
    subst e
    exact ⟨(refS_refl [(⟨bk f, 59⟩ : Bl)]).1, trivial⟩
  · exact h.elim
def kH (n n2 : Nat) : (Nat × (Nat → Int)) ⊕ (Nat × (Nat → Int)) → Prop
  | .inl x => x.1 ≤ n
  | .inr x => x.1 ≤ n2
def kM (n n2 : Nat) : (Nat × (Nat → Int)) ⊕ (Nat × (Nat → Int)) → Nat
  | .inl x => n - x.1 + n2 + 1
  | .inr x => n2 - x.1
noncomputable def kD (E : World) : (Nat × (Nat → Int)) ⊕ (Nat × (Nat → Int)) → List Item
  | .inl _ => hd4 E
  | .inr _ => hdb4 E
def kL (a : Option Addr) (n c : Nat) (z : Int) (a2 : Option Addr) (n2 c2 : Nat) : (Nat × (Nat → Int)) ⊕ (Nat × (Nat → Int)) → List (Nat × SV)
  | .inl x => la4 a n c z a2 n2 c2 x
  | .inr x => lb4 z a2 n2 c2 x
def kS : (Nat × (Nat → Int)) ⊕ (Nat × (Nat → Int)) → SW
  | .inl x => sa4 x
  | .inr x => sa4 x
theorem Q4_imp (E : World) (a : Option Addr) (n c : Nat) (z : Int) (a2 : Option Addr) (n2 c2 : Nat) (k : Nat) (todo : List Item) (fr : Fr) (s' : SW) (h : Q4 E a n c z a2 n2 c2 k todo fr s') :
    ∃ x, kH n n2 x ∧ kM n n2 x < k ∧ todo = kD E x ∧ fr.nt = Try.f4.ntmps ∧ refP fr (kL a n c z a2 n2 c2 x) ∧ refT s' (kS x) := by
  unfold Q4 at h
  cases hu : is42 fr
  · rw [hu, cond_false] at h
    obtain ⟨d, ⟨i, h1, h2, h3, h4, h5⟩, h6⟩ := mem1_ref h
    exact ⟨.inl (i, d), h1, h2, h3, h4, h5, h6⟩
  · rw [hu, cond_true] at h
    obtain ⟨d, ⟨i, h1, h2, h3, h4, h5⟩, h6⟩ := mem1_ref h
    exact ⟨.inr (i, d), h1, h2, h3, h4, h5, h6⟩
set_option maxHeartbeats 4000000 in
theorem keeps_calls (W : World) (a : Option Addr) (n c : Nat) (z : Int) (a2 : Option Addr) (n2 c2 : Nat) (hmx : n ≤ maxLen) (hz : a = none → n = 0) (he : ∀ j, j < n → eRow W a (j * 3) [.i .i64, .i .i64, .i .u32] = true)
    (hmx2 : n2 ≤ maxLen) (hz2 : a2 = none → n2 = 0) (he2 : ∀ j, j < n2 → eRow W a2 (j * 3) [.i .i64, .i .i64, .i .u32] = true) :
    Calls Try.prog 4 #[.slice a n c, .int .u32 z, .slice a2 n2 c2] W fun e w' => e = .returned (.bool true) ∧ Grew W w' := by
  have hE : ExtI W Rh0 0 W := ExtI.refl W _
  refine law_of_calls (P := pe W) (ρ := Rh0) ?_
  refine calls_loopB (c := c4) (P := pe W) orcF_ok tab_ok tab_sz mixed Try.func4 rfl (by decide) (vs := [.c (.es a n c), .c (.i false .u32 z), .c (.es a2 n2 c2)]) (s := []) (Nat.le_of_ble_eq_true rfl) 20000 (2^200-1) (fun _ => 2^200-1) (kH n n2) (kM n n2) (kD W) (kL a n c z a2 n2 c2) kS
    (fun x => by cases x <;> rfl) (fun x hx => by cases x <;> exact ⟨rfl, rfl, Nat.le_of_ble_eq_true rfl⟩)
    (fun v _ => SV.sim v (.c (.b false true))) ?_ ?_ W 0 _ W (Inv.start hE) (by simp [SV.ok, C.ok, okL])
  · refine loopP_mono (fun t f s h => ?_) _ (I := fun todo fr s' => todo = hd4 W ∧ fr.nt = Try.f4.ntmps ∧ refP fr (la4 a n c z a2 n2 c2 (0, fun j => if j = 0 then 31 else 0)) ∧ refT s' (sa4 (0, fun j => if j = 0 then 31 else 0))) ?_
    · exact ⟨.inl (0, fun j => if j = 0 then 31 else 0), Nat.zero_le _, h⟩
    · rw [keeps_pro]
      refine ⟨fun _ => rfl, fun _ => ⟨rfl, rfl, ?_, ?_, trivial⟩⟩
      · repeat' first | exact rfl | apply And.intro
      · repeat' first | exact rfl | apply And.intro
  · intro j hj
    cases j with
    | inl x =>
      obtain ⟨i, f⟩ := x
      exact loopP_mono (fun t g s h => Q4_imp W a n c z a2 n2 c2 _ t g s h) _ (calls_ok W a n c z a2 n2 c2 hmx hz he i f hj)
    | inr x =>
      obtain ⟨i, f⟩ := x
      exact loopP_mono (fun t g s h => Q4_imp W a n c z a2 n2 c2 _ t g s h) _ (then_ok W a n c z a2 n2 c2 hmx2 hz2 he2 i f hj)
end Go.Proofs.Ytkgpcdnlbgmglaa

