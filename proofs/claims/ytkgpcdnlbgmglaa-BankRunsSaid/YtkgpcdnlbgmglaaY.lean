import Derived.Test.YtkgpcdnlbgmglaaV
import Derived.Test.YtkgpcdnlbgmglaaX
set_option linter.unusedVariables false
set_option linter.unusedSimpArgs false
namespace Go.Proofs.Ytkgpcdnlbgmglaa
open Go Go.Proofs Go.Proofs.Ytkgpcdnlbgmglaa.Ev
set_option maxRecDepth 100000
theorem cb {b : Bool} {p : Prop} (h : b = true) (h2 : b = false) : p := by rw [h] at h2; cases h2
theorem rkS_rst (r : Nat → Int) (x : Int) : rkS r x = rk (rst r x) := rfl
set_option maxHeartbeats 32000000 in
theorem outer_ok (W : World) (a : Option Addr) (n c : Nat) (hmx : n ≤ maxLen) (hz : a = none → n = 0) (he : ∀ j, j < n → eRow W a (j * 3) [.i .i64, .i .i64, .i .u32] = true)
    (i : Nat) (d r : Nat → Int) (hi : i ≤ n) (hr : rel d r) :
    loopP (pe W) Try.f3 (fun v _ => SV.sim v (.c (.b false true))) (I3 W a n c i 0) (run (pe W) (orcX W) (tabL fns) 20000 (2^200-1) (hd3 W) (mkL Try.f3.ntmps (la3 a n c i)) [⟨bk d, 59⟩, ⟨rk r, 37⟩]) := by
  rw [runs_outer W a n c i d r]
  simp only [maxLen] at hmx
  refine ⟨fun h => ?_, fun _ => rfl⟩
  have hlt : i < n := by have := of_decide_eq_true h; omega
  have hrow := he i hlt
  have hx : 0 ≤ kK W a i 2 ∧ kK W a i 2 < 4294967296 := bounds_u32' (eOk_int (eRow_get _ _ 2 (.i .u32) hrow rfl))
  have H := rel_of hr
  have H0 := rel_C H (kK W a i 1) (kK W a i 2)
  have H1 := rel_St (rel_ext (ofL_bk d) (fun _ _ => rfl) hr) (kK W a i 2) hx.1 hx.2
  have H2 := rel_Sv H (kK W a i 2)
  have H3 := rel_U H (kK W a i 1) (kK W a i 2)
  have H4 := rel_E H (IntKind.u32.wrap (kK W a i 1)) (kK W a i 2) (wu32_rng _).1 (wu32_rng _).2
  have K0 := rel_of H0
  have K1 := rel_of H1
  have K2 := rel_of H2
  have K3 := rel_of H3
  have K4 := rel_of H4
  refine ⟨by simp only [inB, Bool.and_eq_true, decide_eq_true_eq]; omega, some_of_lt hz hlt, by simpa using hrow, fun _ => rfl, fun _ => ?_⟩
  repeat' first
    | exact rfl
    | refine Eq.mpr (kpN_eq _ _ _ _) ?_
    | refine And.intro (decide_eq_true rfl) ?_
    | refine @And.intro (_ → _) (_ → _) (fun _ => ?_) (fun _ => ?_)
  all_goals first
    | exact cb (b := kK W a i 0 == 0) (by assumption) (by assumption)
    | exact cb (b := kK W a i 0 == 1) (by assumption) (by assumption)
    | exact cb (b := kK W a i 0 == 2) (by assumption) (by assumption)
    | exact cb (b := kK W a i 0 == 3) (by assumption) (by assumption)
    | exact cb (b := kK W a i 0 == 4) (by assumption) (by assumption)
    | exact np H0 (by assumption)
    | exact np H1 (by assumption)
    | exact np H2 (by assumption)
    | exact np H3 (by assumption)
    | exact np H4 (by assumption)
    | exact np hr (by assumption)
    | exact ns K0 (by assumption)
    | exact ns K1 (by assumption)
    | exact ns K2 (by assumption)
    | exact ns K3 (by assumption)
    | exact ns K4 (by assumption)
    | exact ns H (by assumption)
    | exact ⟨rfl, rfl, rfl, rfl, 0, hlt, Nat.zero_le _, Nat.zero_le _, ⟨K0⟩, rfl, rfl, rfl, rfl, rfl, ⟨rfl, rfl⟩, ⟨rfl, rfl⟩, rfl, rfl⟩
    | exact ⟨rfl, rfl, rfl, rfl, 0, hlt, Nat.zero_le _, Nat.zero_le _, ⟨K1⟩, rfl, rfl, rfl, rfl, rfl, ⟨rfl, rfl⟩, ⟨rfl, rfl⟩, rfl, rfl⟩
    | exact ⟨rfl, rfl, rfl, rfl, 0, hlt, Nat.zero_le _, Nat.zero_le _, ⟨K2⟩, rfl, rfl, rfl, rfl, rfl, ⟨rfl, rfl⟩, ⟨rfl, rfl⟩, rfl, rfl⟩
    | exact ⟨rfl, rfl, rfl, rfl, 0, hlt, Nat.zero_le _, Nat.zero_le _, ⟨K3⟩, rfl, rfl, rfl, rfl, rfl, ⟨rfl, rfl⟩, ⟨rfl, rfl⟩, rfl, rfl⟩
    | exact ⟨rfl, rfl, rfl, rfl, 0, hlt, Nat.zero_le _, Nat.zero_le _, ⟨K4⟩, rfl, rfl, rfl, rfl, rfl, ⟨rfl, rfl⟩, ⟨rfl, rfl⟩, rfl, rfl⟩
    | exact ⟨rfl, rfl, rfl, rfl, 0, hlt, Nat.zero_le _, Nat.zero_le _, ⟨H⟩, rfl, rfl, rfl, rfl, rfl, ⟨rfl, rfl⟩, ⟨rfl, rfl⟩, rfl, rfl⟩
set_option maxHeartbeats 4000000 in
theorem inner_ok (W : World) (a : Option Addr) (n c : Nat) (hmx : n ≤ maxLen) (i k : Nat) (d r : Nat → Int) (hi : i < n) (hk : k ≤ 16) (hr : rel d r) :
    loopP (pe W) Try.f3 (fun v _ => SV.sim v (.c (.b false true))) (Q3 W a n c i k) (run (pe W) (orcX W) (tabL fns) 20000 (2^200-1) (hdb3 W) (mkL Try.f3.ntmps (lb3 a n c i k)) [⟨bk d, 59⟩, ⟨rk r, 37⟩]) := by
  rw [runs_inner W a n c i k d r]
  simp only [maxLen] at hmx
  have H := rel_of hr
  refine ⟨fun h => ?_, fun h => ?_⟩
  · have hlt : k < 16 := by have := of_decide_eq_true h; omega
    have hwr : IntKind.i64.wrap ((k : Int) + 1) = ((k + 1 : Nat) : Int) := by rw [wi64_in _ (by omega) (by omega)]; simp
    refine ⟨fun e => ?_, fun _ => ⟨fun e => ?_, fun _ => ⟨rfl, rfl, rfl, rfl, k + 1, hi, by omega, Nat.le_refl _, ⟨H⟩, rfl, rfl, rfl, rfl, rfl, ⟨rfl, rfl⟩, ⟨rfl, rfl⟩, rfl, hwr⟩⟩⟩
    · rw [getR H k hlt] at e; simp at e
    · rw [usrR H k hlt] at e; simp at e
  · have hwr : IntKind.i64.wrap ((i : Int) + 1) = ((i + 1 : Nat) : Int) := by rw [wi64_in _ (by omega) (by omega)]; simp
    exact ⟨rfl, rfl, rfl, rfl, i + 1, hi, Nat.le_refl _, ⟨H⟩, rfl, rfl, rfl, rfl, rfl, ⟨rfl, rfl⟩, rfl, hwr⟩
theorem mem2_ref {s' : SW} {P : (Nat → Int) → (Nat → Int) → Prop} (h : mem2 s' P) : ∃ d r, P d r ∧ refT s' [⟨bk d, 59⟩, ⟨rk r, 37⟩] := by
  unfold mem2 at h
  split at h
  · rename_i l ty l2 ty2 q
    obtain ⟨rfl, rfl, h2, h3, h4⟩ := h
    refine ⟨ofL l, ofL l2, h4, ?_⟩
    have e := bk_eq l h2
    have e2 := rk_eq l2 h3
    generalize ofL l = f at *
    generalize ofL l2 = g at *
    subst e
    subst e2
    exact refS_refl [(⟨bk f, 59⟩ : Bl), ⟨rk g, 37⟩]
  · exact h.elim
def rG : Type := (Nat × (Nat → Int) × (Nat → Int)) ⊕ (Nat × Nat × (Nat → Int) × (Nat → Int))
def rH (n : Nat) : rG → Prop
  | .inl x => x.1 ≤ n ∧ rel x.2.1 x.2.2
  | .inr x => x.1 < n ∧ x.2.1 ≤ 16 ∧ rel x.2.2.1 x.2.2.2
def rM (n : Nat) : rG → Nat
  | .inl x => 20 * (n - x.1) + 19
  | .inr x => 20 * (n - x.1) + (16 - x.2.1)
noncomputable def rD (E : World) : rG → List Item
  | .inl _ => hd3 E
  | .inr _ => hdb3 E
def rL (a : Option Addr) (n c : Nat) : rG → List (Nat × SV)
  | .inl x => la3 a n c x.1
  | .inr x => lb3 a n c x.1 x.2.1
def rS : rG → SW
  | .inl x => [⟨bk x.2.1, 59⟩, ⟨rk x.2.2, 37⟩]
  | .inr x => [⟨bk x.2.2.1, 59⟩, ⟨rk x.2.2.2, 37⟩]
theorem O3_imp (E : World) (a : Option Addr) (n c i0 : Nat) (todo : List Item) (fr : Fr) (s' : SW) (h : O3 E a n c i0 todo fr s') :
    ∃ x, rH n x ∧ (∃ i d r, x = .inl (i, d, r) ∧ i0 ≤ i) ∧ todo = rD E x ∧ fr.nt = Try.f3.ntmps ∧ refP fr (rL a n c x) ∧ refT s' (rS x) := by
  obtain ⟨d, r, ⟨i, h1, h2, h3, h4, h5, h6⟩, h7⟩ := mem2_ref h
  exact ⟨.inl (i, d, r), ⟨h1, h3.out⟩, ⟨i, d, r, rfl, h2⟩, h4, h5, h6, h7⟩
theorem I3_imp (E : World) (a : Option Addr) (n c i0 k0 : Nat) (todo : List Item) (fr : Fr) (s' : SW) (h : I3 E a n c i0 k0 todo fr s') :
    ∃ x, rH n x ∧ (∃ k d r, x = .inr (i0, k, d, r) ∧ k0 ≤ k ∧ k ≤ 16 ∧ i0 < n) ∧ todo = rD E x ∧ fr.nt = Try.f3.ntmps ∧ refP fr (rL a n c x) ∧ refT s' (rS x) := by
  obtain ⟨d, r, ⟨k, h0, h1, h2, h3, h4, h5, h6⟩, h7⟩ := mem2_ref h
  exact ⟨.inr (i0, k, d, r), ⟨h0, h1, h3.out⟩, ⟨k, d, r, rfl, h2, h1, h0⟩, h4, h5, h6, h7⟩
theorem rel_0 : rel (fun j => if j = 0 then 31 else 0) (fun j => if j = 102 then 31 else 0) := by
  refine ⟨⟨by decide, by decide⟩, ?_⟩
  have key : ∀ j, j < 103 → (if j = 102 then (31 : Int) else 0) = (if ri 0 j < 45 then (if ri 0 j = 0 then 31 else 0) else 0) := by decide +kernel
  intro j hj
  show (if j = 102 then (31 : Int) else 0) = _
  rw [key j hj]
  have hm : md (if (0 : Nat) = 0 then 31 else 0) = 0 := by decide +kernel
  unfold rf
  show _ = if ri (md (if (0 : Nat) = 0 then 31 else 0)) j < 45 then _ else _
  rw [hm]
set_option maxHeartbeats 4000000 in
theorem runs_calls (W : World) (a : Option Addr) (n c : Nat) (hmx : n ≤ maxLen) (hz : a = none → n = 0) (he : ∀ j, j < n → eRow W a (j * 3) [.i .i64, .i .i64, .i .u32] = true) :
    Calls Try.prog 3 #[.slice a n c] W fun e w' => e = .returned (.bool true) ∧ Grew W w' := by
  have hE : ExtI W Rh0 0 W := ExtI.refl W _
  refine law_of_calls (P := pe W) (ρ := Rh0) ?_
  refine calls_loopB (c := c3) (P := pe W) orcX_ok tab_ok tab_sz mixed Try.func3 rfl (by decide) (vs := [.c (.es a n c)]) (s := []) (Nat.le_of_ble_eq_true rfl) 20000 (2^200-1) (fun _ => 2^200-1) (rH n) (rM n) (rD W) (rL a n c) rS
    (fun x => by cases x <;> rfl) (fun x hx => by cases x <;> exact ⟨rfl, rfl, Nat.le_of_ble_eq_true rfl⟩)
    (fun v _ => SV.sim v (.c (.b false true))) ?_ ?_ W 0 _ W (Inv.start hE) (by simp [SV.ok, C.ok, okL])
  · refine loopP_mono (fun t f s h => ?_) _ (I := fun todo fr s' => todo = hd3 W ∧ fr.nt = Try.f3.ntmps ∧ refP fr (la3 a n c 0) ∧ refT s' [⟨bk (fun j => if j = 0 then 31 else 0), 59⟩, ⟨rk (fun j => if j = 102 then 31 else 0), 37⟩]) ?_
    · exact ⟨.inl (0, fun j => if j = 0 then 31 else 0, fun j => if j = 102 then 31 else 0), ⟨Nat.zero_le _, rel_0⟩, h⟩
    · rw [runs_pro]
      repeat' first | exact rfl | exact trivial | apply And.intro
  · intro j hj
    cases j with
    | inl x =>
      obtain ⟨i, d, r⟩ := x
      refine loopP_mono (fun t g s h => ?_) _ (outer_ok W a n c hmx hz he i d r hj.1 hj.2)
      obtain ⟨x, h1, ⟨k, d', r', rfl, h3, h4, h5⟩, h6⟩ := I3_imp W a n c i 0 t g s h
      exact ⟨_, h1, by show 20 * (n - i) + (16 - k) < 20 * (n - i) + 19; omega, h6⟩
    | inr x =>
      obtain ⟨i, k, d, r⟩ := x
      have hi : i < n := hj.1
      have hk : k ≤ 16 := hj.2.1
      refine loopP_mono (fun t g s h => ?_) _ (inner_ok W a n c hmx i k d r hi hk hj.2.2)
      unfold Q3 at h
      cases hu : Nat.beq t.length (hd3 W).length
      · rw [hu, cond_false] at h
        obtain ⟨x, h1, ⟨k', d', r', rfl, h3, h4, h5⟩, h6⟩ := I3_imp W a n c i (k + 1) t g s h
        exact ⟨_, h1, by show 20 * (n - i) + (16 - k') < 20 * (n - i) + (16 - k); omega, h6⟩
      · rw [hu, cond_true] at h
        obtain ⟨x, h1, ⟨i', d', r', rfl, h3⟩, h6⟩ := O3_imp W a n c (i + 1) t g s h
        exact ⟨_, h1, by show 20 * (n - i') + 19 < 20 * (n - i) + (16 - k); omega, h6⟩
end Go.Proofs.Ytkgpcdnlbgmglaa

