import Derived.Test.YtnpngigighkegaaY
set_option linter.unusedVariables false
set_option linter.unusedSimpArgs false
namespace Go.Proofs.Ytnpngigighkegaa
open Go Go.Proofs Go.Proofs.Ytnpngigighkegaa.Ev
set_option maxRecDepth 100000
theorem eO_rk (e r k : Nat → Bool) (w : Int) (m : Bool) : ∀ j, j < 14 → eO (rk e r k w m) j = e j
  | 0, _ => rfl
  | 1, _ => rfl
  | 2, _ => rfl
  | 3, _ => rfl
  | 4, _ => rfl
  | 5, _ => rfl
  | 6, _ => rfl
  | 7, _ => rfl
  | 8, _ => rfl
  | 9, _ => rfl
  | 10, _ => rfl
  | 11, _ => rfl
  | 12, _ => rfl
  | 13, _ => rfl
  | n + 14, h => by omega
theorem rO_rk (e r k : Nat → Bool) (w : Int) (m : Bool) : ∀ j, j < 14 → rO (rk e r k w m) j = r j
  | 0, _ => rfl
  | 1, _ => rfl
  | 2, _ => rfl
  | 3, _ => rfl
  | 4, _ => rfl
  | 5, _ => rfl
  | 6, _ => rfl
  | 7, _ => rfl
  | 8, _ => rfl
  | 9, _ => rfl
  | 10, _ => rfl
  | 11, _ => rfl
  | 12, _ => rfl
  | 13, _ => rfl
  | n + 14, h => by omega
theorem kO_rk (e r k : Nat → Bool) (w : Int) (m : Bool) : ∀ j, j < 10 → kO (rk e r k w m) j = k j
  | 0, _ => rfl
  | 1, _ => rfl
  | 2, _ => rfl
  | 3, _ => rfl
  | 4, _ => rfl
  | 5, _ => rfl
  | 6, _ => rfl
  | 7, _ => rfl
  | 8, _ => rfl
  | 9, _ => rfl
  | n + 10, h => by omega
theorem Rel.list {en rq wa ky : Int} {pm : Bool} {e r k : Nat → Bool} {w : Int} {m : Bool} (h : Rel en rq wa ky pm e r k w m) : RelL en rq wa ky pm (rk e r k w m) :=
  ⟨relB_congr h.he (eO_rk e r k w m), relB_congr h.hr (rO_rk e r k w m), relB_congr h.hk (kO_rk e r k w m), h.hw, h.hm, h.h0, h.h1⟩
theorem mem2_sm {s' : SW} {P : Int → Int → Int → Int → Bool → List C → Prop} (h : mem2 s' P) : ∃ en rq wa ky pm e r k w m, P en rq wa ky pm (rk e r k w m) ∧ refT s' (sm en rq wa ky pm e r k w m) ∧ wfB 38 (rk e r k w m) = true ∧ rk e r k w m = rk (eO (rk e r k w m)) (rO (rk e r k w m)) (kO (rk e r k w m)) (iAt (rk e r k w m) 38) (bAt (rk e r k w m) 39) := by
  unfold mem2 at h
  split at h
  · rename_i en rq wa ky pm ty l ty2 rest
    obtain ⟨rfl, rfl, hl, hp⟩ := h
    have he := wfB_eq hl
    refine ⟨en, rq, wa, ky, pm, eO l, rO l, kO l, iAt l 38, bAt l 39, ?_, ?_, ?_, rfl⟩
    · rw [← he]; exact hp
    · have : refT (⟨ck en rq wa ky pm, 45⟩ :: ⟨l, 31⟩ :: rest) (sm en rq wa ky pm (eO l) (rO l) (kO l) (iAt l 38) (bAt l 39)) := by
        have h2 : refS [⟨ck en rq wa ky pm, 45⟩, ⟨l, 31⟩] (sm en rq wa ky pm (eO l) (rO l) (kO l) (iAt l 38) (bAt l 39)) := by
          unfold sm
          rw [← he]
          exact refS_refl _
        exact h2
      exact this
    · rw [← he]; exact hl
  · exact h.elim
structure G3 where
  i : Nat
  en : Int
  rq : Int
  wa : Int
  ky : Int
  pm : Bool
  e : Nat → Bool
  r : Nat → Bool
  k : Nat → Bool
  w : Int
  m : Bool
theorem wfB_rk (e r k : Nat → Bool) (w : Int) (m : Bool) : wfB 38 (rk e r k w m) = true := rfl
set_option maxHeartbeats 16000000 in
theorem round_ok (W : World) (a : Option Addr) (n c : Nat) (hmx : n ≤ maxLen) (hz : a = none → n = 0) (he : ∀ j, j < n → eRow W a (j * 3) [.i .i64, .i .i64, .i .u16] = true)
    (i : Nat) (en rq wa ky : Int) (pm : Bool) (e r k : Nat → Bool) (w : Int) (m : Bool) (hR : Rel en rq wa ky pm e r k w m) :
    loopP (pe W) Try.f3 (fun v _ => SV.sim v (.c (.b false true))) (fun todo fr s' => Holds (i < n) ∧ I3 W a n c (i + 1) todo fr s') (run (pe W) (orcX W) (tabL fns) 20000 4 (hd3 W) (mkL Try.f3.ntmps (la3 a n c i)) (sm en rq wa ky pm e r k w m)) := by
  rw [runs_round]
  simp only [maxLen] at hmx
  have R0 := hR.list
  refine ⟨fun h => ?_, fun h => rfl⟩
  have h := of_decide_eq_true h
  have hlt : i < n := by omega
  have hH : Holds (i < n) := ⟨hlt⟩
  have hrow := he i hlt
  have hx : 0 ≤ eI W a ((i : Int).toNat * 3 + 2) ∧ eI W a ((i : Int).toNat * 3 + 2) < 65536 := by
    have := bounds_u16 (eOk_int (eRow_get _ _ 2 (.i .u16) hrow rfl))
    exact ⟨this.1, by have := this.2; simp at this ⊢; omega⟩
  have hwr : IntKind.i64.wrap ((i : Int) + 1) = ((i + 1 : Nat) : Int) := by rw [wi64_in _ (by omega) (by omega)]; simp
  refine ⟨by simp only [inB, Bool.and_eq_true, decide_eq_true_eq]; omega, some_of_lt hz hlt, by simpa using hrow, fun _ => rfl, fun _ => ⟨fun _ => ?_, fun _ => ⟨fun _ => ?_, fun _ => ⟨fun _ => ?_, fun _ => ?_⟩⟩⟩⟩
  · have R1 := Rel.list (Rel.raise R0 (eI W a ((i : Int).toNat * 3 + 1)))
    have hL : Holds (RelL _ _ _ _ _ _) := ⟨R1⟩
    have w1 := Rel.wakes R1
    have f1 := Rel.fires R1
    rw [w1] at f1
    have d1 := fun y => Rel.read R1 y
    simp only [kpN_eq, decide_true, true_and, w1, f1, d1, beq_self_eq_true, bne_self_eq_false, Bool.xor_self, Bool.false_eq_true, false_implies, true_implies, wfB_rk, hL, hwr, hH, and_self, and_true, implies_true]
  · have R1 := Rel.list (Rel.write R0 (eI W a ((i : Int).toNat * 3 + 1)) (eI W a ((i : Int).toNat * 3 + 2)) hx.1 hx.2)
    have hL : Holds (RelL _ _ _ _ _ _) := ⟨R1⟩
    have w1 := Rel.wakes R1
    have f1 := Rel.fires R1
    rw [w1] at f1
    have d1 := fun y => Rel.read R1 y
    simp only [kpN_eq, decide_true, true_and, w1, f1, d1, beq_self_eq_true, bne_self_eq_false, Bool.xor_self, Bool.false_eq_true, false_implies, true_implies, wfB_rk, hL, hwr, hH, and_self, and_true, implies_true]
  · have R1 := Rel.list (Rel.keys R0 (eI W a ((i : Int).toNat * 3 + 2)) hx.1 hx.2)
    have hL : Holds (RelL _ _ _ _ _ _) := ⟨R1⟩
    have w1 := Rel.wakes R1
    have f1 := Rel.fires R1
    rw [w1] at f1
    have d1 := fun y => Rel.read R1 y
    simp only [kpN_eq, decide_true, true_and, w1, f1, d1, beq_self_eq_true, bne_self_eq_false, Bool.xor_self, Bool.false_eq_true, false_implies, true_implies, wfB_rk, hL, hwr, hH, and_self, and_true, implies_true]
  · have R1 := Rel.list hR
    have hL : Holds (RelL _ _ _ _ _ _) := ⟨R1⟩
    have w1 := Rel.wakes R1
    have f1 := Rel.fires R1
    rw [w1] at f1
    have d1 := fun y => Rel.read R1 y
    simp only [kpN_eq, decide_true, true_and, w1, f1, d1, beq_self_eq_true, bne_self_eq_false, Bool.xor_self, Bool.false_eq_true, false_implies, true_implies, wfB_rk, hL, hwr, hH, and_self, and_true, implies_true]
theorem rel_0 : Rel 0 0 0 0 false (fun _ => false) (fun _ => false) (fun _ => false) 0 false := by
  have z : ∀ n, relB n 0 (fun _ => false) := fun n => ⟨0, rfl, Nat.two_pow_pos n, fun j _ => by simp⟩
  exact ⟨z 14, z 14, z 10, rfl, rfl, by decide, by decide⟩
set_option maxHeartbeats 4000000 in
theorem runs_calls (W : World) (a : Option Addr) (n c : Nat) (hmx : n ≤ maxLen) (hz : a = none → n = 0) (he : ∀ j, j < n → eRow W a (j * 3) [.i .i64, .i .i64, .i .u16] = true) :
    Calls Try.prog 3 #[.slice a n c] W fun e w' => e = .returned (.bool true) ∧ Grew W w' := by
  have hE : ExtI W Rh0 0 W := ExtI.refl W _
  refine law_of_calls (P := pe W) (ρ := Rh0) ?_
  refine calls_loopT (c := c3) (P := pe W) orcX_ok tab_ok tab_sz mixed Try.func3 rfl (by decide) (vs := [.c (.es a n c)]) (s := []) (Nat.le_of_ble_eq_true rfl) 20000 4 (fun g : G3 => Rel g.en g.rq g.wa g.ky g.pm g.e g.r g.k g.w g.m) (fun g => n - g.i) (fun _ => hd3 W) (fun g => la3 a n c g.i) (fun g => sm g.en g.rq g.wa g.ky g.pm g.e g.r g.k g.w g.m)
    (fun x => rfl) (fun x hx => ⟨rfl, rfl, Nat.le_of_ble_eq_true rfl⟩)
    (fun v _ => SV.sim v (.c (.b false true))) ?_ ?_ W 0 _ W (Inv.start hE) (by simp [SV.ok, C.ok, okL])
  · refine loopP_mono (fun t f s h => ?_) _ (I := fun todo fr s' => todo = hd3 W ∧ fr.nt = Try.f3.ntmps ∧ refP fr (la3 a n c 0) ∧ refT s' (sm 0 0 0 0 false (fun _ => false) (fun _ => false) (fun _ => false) 0 false)) ?_
    · exact ⟨⟨0, 0, 0, 0, 0, false, fun _ => false, fun _ => false, fun _ => false, 0, false⟩, rel_0, h⟩
    · rw [runs_pro]
      repeat' first | exact rfl | exact trivial | apply And.intro
  · intro g hg
    refine loopP_mono (fun t f s h => ?_) _ (round_ok W a n c hmx hz he g.i g.en g.rq g.wa g.ky g.pm g.e g.r g.k g.w g.m hg)
    obtain ⟨⟨hlt⟩, h⟩ := h
    obtain ⟨en, rq, wa, ky, pm, e, r, k, w, m, ⟨⟨hR⟩, h1, h2, h3⟩, h4, h5, h6⟩ := mem2_sm h
    refine ⟨⟨g.i + 1, en, rq, wa, ky, pm, e, r, k, w, m⟩, ?_, by show n - (g.i + 1) < n - g.i; omega, h1, h2, h3, h4⟩
    show Rel en rq wa ky pm e r k w m
    unfold RelL at hR
    exact ⟨relB_congr hR.he fun j hj => (eO_rk e r k w m j hj).symm, relB_congr hR.hr fun j hj => (rO_rk e r k w m j hj).symm, relB_congr hR.hk fun j hj => (kO_rk e r k w m j hj).symm, hR.hw, hR.hm, hR.h0, hR.h1⟩
end Go.Proofs.Ytnpngigighkegaa

