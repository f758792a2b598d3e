import Derived.Test.YtchebhjbcjjhpaaV
set_option linter.unusedVariables false
set_option linter.unusedSimpArgs false
namespace Go.Proofs.Ytchebhjbcjjhpaa
open Go Go.Proofs Go.Proofs.Ytchebhjbcjjhpaa.Ev
set_option maxRecDepth 100000
theorem nx_none (p : Nat → Int) : ∀ (l : List Nat) (f : Bool), nxF p l f = false → f = false ∧ ∀ i, i ∈ l → ind p i = false
  | [], f, h => ⟨h, fun i hi => by cases hi⟩
  | i :: l, f, h => by
    unfold nxF at h
    cases hi : ind p i with
    | true =>
      rw [hi] at h
      have := (nx_none p l true h).1
      cases this
    | false =>
      rw [hi] at h
      obtain ⟨h1, h2⟩ := nx_none p l f h
      refine ⟨h1, fun j hj => ?_⟩
      rcases List.mem_cons.1 hj with rfl | hj
      · exact hi
      · exact h2 j hj
theorem nx_min (p : Nat → Int) : ∀ (l : List Nat) (x : Int) (f : Bool), (f = true → nxA p l x f ≤ x) ∧ (∀ i, i ∈ l → ind p i = true → nxA p l x f ≤ due p i) ∧ (nxF p l f = true → (f = true ∧ nxA p l x f = x) ∨ ∃ i, i ∈ l ∧ ind p i = true ∧ nxA p l x f = due p i)
  | [], x, f => ⟨fun _ => Int.le_refl _, fun i hi => (by cases hi), fun h => .inl ⟨h, rfl⟩⟩
  | i :: l, x, f => by
    unfold nxA nxF
    cases hi : ind p i with
    | false =>
      obtain ⟨h1, h2, h3⟩ := nx_min p l x f
      simp only [cond_false]
      refine ⟨h1, fun j hj hd => ?_, fun h => ?_⟩
      · rcases List.mem_cons.1 hj with rfl | hj
        · rw [hi] at hd; cases hd
        · exact h2 j hj hd
      · rcases h3 h with h | ⟨j, hj, h4, h5⟩
        · exact .inl h
        · exact .inr ⟨j, List.mem_cons_of_mem _ hj, h4, h5⟩
    | true =>
      simp only [cond_true]
      have hle : cond f (cond (decide (due p i < x)) (due p i) x) (due p i) ≤ due p i := by
        cases f with
        | false => exact Int.le_refl _
        | true =>
          simp only [cond_true]
          cases h : decide (due p i < x) with
          | true => exact Int.le_refl _
          | false => have := of_decide_eq_false h; simp only [cond_false]; omega
      have hlx : f = true → cond f (cond (decide (due p i < x)) (due p i) x) (due p i) ≤ x := by
        intro hf
        subst hf
        simp only [cond_true]
        cases h : decide (due p i < x) with
        | true => have := of_decide_eq_true h; simp only [cond_true]; omega
        | false => exact Int.le_refl _
      have hor : cond f (cond (decide (due p i < x)) (due p i) x) (due p i) = due p i ∨ (f = true ∧ cond f (cond (decide (due p i < x)) (due p i) x) (due p i) = x) := by
        cases f with
        | false => exact .inl rfl
        | true =>
          simp only [cond_true]
          cases h : decide (due p i < x) with
          | true => exact .inl rfl
          | false => exact .inr ⟨trivial, rfl⟩
      generalize cond f (cond (decide (due p i < x)) (due p i) x) (due p i) = z at *
      obtain ⟨h1, h2, h3⟩ := nx_min p l z true
      have h1 := h1 rfl
      refine ⟨fun hf => by have := hlx hf; omega, fun j hj hd => ?_, fun h => ?_⟩
      · rcases List.mem_cons.1 hj with rfl | hj
        · omega
        · exact h2 j hj hd
      · rcases h3 h with ⟨_, h⟩ | ⟨j, hj, h4, h5⟩
        · rcases hor with h6 | ⟨h6, h7⟩
          · exact .inr ⟨i, List.mem_cons_self, hi, by rw [h, h6]⟩
          · exact .inl ⟨h6, by rw [h, h7]⟩
        · exact .inr ⟨j, List.mem_cons_of_mem _ hj, h4, h5⟩
structure Rel (p q : Nat → Int) (w : Int) : Prop where
  w0 : 0 ≤ w
  t0 : TR (ind p 0) w (p 0) (p 1) (p 2) (p 3) (q 0) (q 1) (q 2) (q 3)
  t1 : TR (ind p 1) w (p 4) (p 5) (p 6) (p 7) (q 4) (q 5) (q 6) (q 7)
  t2 : TR (ind p 2) w (p 8) (p 9) (p 10) (p 11) (q 8) (q 9) (q 10) (q 11)
  t3 : TR (ind p 3) w (p 12) (p 13) (p 14) (p 15) (q 12) (q 13) (q 14) (q 15)
theorem fa_spec {p q : Nat → Int} {w : Int} (h : Rel p q w) (hw : w ≤ 1000000) : (fN p (w + 1) = true → ∀ i, i < 4 → ind p i = true → w + 1 < due p i) ∧ (fN p (w + 1) = false → fA p = w + 1) := by
  have dg : ∀ i, i < 4 → ind p i = true → w < due p i := by
    intro i hi hd
    obtain e | e | e | e : i = 0 ∨ i = 1 ∨ i = 2 ∨ i = 3 := by omega
    · subst e; exact due_gt h.t0 hw hd
    · subst e; exact due_gt h.t1 hw hd
    · subst e; exact due_gt h.t2 hw hd
    · subst e; exact due_gt h.t3 hw hd
  obtain ⟨_, m2, m3⟩ := nx_min p [0, 1, 2, 3] 0 false
  have mem : ∀ i, i < 4 → i ∈ [0, 1, 2, 3] := fun i hi => by
    obtain e | e | e | e : i = 0 ∨ i = 1 ∨ i = 2 ∨ i = 3 := by omega
    all_goals (subst e; simp)
  have mem' : ∀ i, i ∈ [0, 1, 2, 3] → i < 4 := fun i hi => by simp at hi; omega
  unfold fN
  cases hf : nxF p [0, 1, 2, 3] false with
  | false =>
    refine ⟨fun _ i hi hd => ?_, fun h => by cases h⟩
    have := (nx_none p _ _ hf).2 i (mem i hi)
    rw [this] at hd; cases hd
  | true =>
    simp only [Bool.not_true, cond_false]
    refine ⟨fun hd i hi h2 => ?_, fun hd => ?_⟩
    · have := of_decide_eq_true hd
      have := m2 i (mem i hi) h2
      unfold fA at *
      omega
    · have hd := of_decide_eq_false hd
      rcases m3 hf with ⟨e, _⟩ | ⟨i, hi, h2, h3⟩
      · cases e
      · have := dg i (mem' i hi) h2
        unfold fA at *
        omega
theorem q_al (p q : Nat → Int) (w : Int) (i : Nat) (I : Bool) (RL rl cn sn CN SN : Int) (h : TR I w rl (p (4 * i + 1)) cn sn RL (q (4 * i + 1)) CN SN) : alC i (q (4 * i + 1)) = ind p i ∧ rnR (q (4 * i + 1)) = cnt p i ∧ stR (q (4 * i + 1)) = stp (p (4 * i + 1)) := by
  rw [h.hct]
  exact ⟨al_ind p i h.c0 h.c1, rn_eq _ h.c0 h.c1, st_eq _ h.c0⟩
def R0 (q : Nat → Int) : Bool := upR q 0 0 && flow q 0
def R1 (q : Nat → Int) : Bool := upR (q1 q) 1 (ov1 q) && flow (q1 q) 1
def R2 (q : Nat → Int) : Bool := upR (q2 q) 2 (ov2 q) && flow (q2 q) 2
def R3 (q : Nat → Int) : Bool := upR (q3 q) 3 (ov3 q) && flow (q3 q) 3
def V1 (a : Bool) : Int := cond a (IntKind.i64.wrap (0 + 1)) 0
def V2 (a b : Bool) : Int := cond b (IntKind.i64.wrap (V1 a + 2)) (V1 a)
def V3 (a b c : Bool) : Int := cond c (IntKind.i64.wrap (V2 a b + 4)) (V2 a b)
def V4 (a b c d : Bool) : Int := cond d (IntKind.i64.wrap (V3 a b c + 8)) (V3 a b c)
theorem V1_bit : ∀ a, (((V1 a).fdiv (2 ^ (1 - 1))).tmod 2 == 1) = a := by decide
theorem V2_bit : ∀ a b, (((V2 a b).fdiv (2 ^ (2 - 1))).tmod 2 == 1) = b := by decide
theorem V3_bit : ∀ a b c, (((V3 a b c).fdiv (2 ^ (3 - 1))).tmod 2 == 1) = c := by decide
theorem msk_eq : ∀ a b c d, mskV a b c d = V4 a b c d := by decide
theorem ov1_eq (q : Nat → Int) : ov1 q = V1 (R0 q) := rfl
theorem ov2_eq (q : Nat → Int) : ov2 q = V2 (R0 q) (R1 q) := by
  show cond (R1 q) (IntKind.i64.wrap (ov1 q + 2)) (ov1 q) = _
  rw [ov1_eq]; rfl
theorem ov3_eq (q : Nat → Int) : ov3 q = V3 (R0 q) (R1 q) (R2 q) := by
  show cond (R2 q) (IntKind.i64.wrap (ov2 q + 4)) (ov2 q) = _
  rw [ov2_eq]; rfl
theorem ov4_eq (q : Nat → Int) : ov4 q = V4 (R0 q) (R1 q) (R2 q) (R3 q) := by
  show cond (R3 q) (IntKind.i64.wrap (ov3 q + 8)) (ov3 q) = _
  rw [ov3_eq]; rfl
theorem tick_rel {p q : Nat → Int} {w : Int} (h : Rel p q w) (hw : w ≤ 1000000) : fiM p (w + 1) = ov4 q ∧ (ov4 q ≠ 0 → fiA p (w + 1) = w + 1) ∧ Rel (fiP p (w + 1)) (q4 q) (w + 1) := by
  obtain ⟨f1, f2⟩ := fa_spec h hw
  have w0 := h.w0
  have g0 : ∀ i, i < 4 → (!(fN p (w + 1))) = false → ind p i = true → w + 1 < due p i := fun i hi e => f1 (by cases hh : fN p (w + 1) <;> rw [hh] at e <;> first | rfl | cases e) i hi
  obtain ⟨al0, rn0, st0⟩ := q_al p q w 0 _ _ _ _ _ _ _ h.t0
  have U0 : upR q 0 (0 : Int) = cond (ind p 0) (IntKind.i64.wrap (q 3 + 1) == stp (p 1)) (cond (cnt p 0) false false) := by
    show cond (alC 0 (q 1)) (IntKind.i64.wrap (q 3 + 1) == stR (q 1)) (cond (rnR (q 1)) (((0 : Int).fdiv (2 ^ (0 - 1))).tmod 2 == 1) false) = _
    have al0 : alC 0 (q 1) = ind p 0 := al0
    have rn0 : rnR (q 1) = cnt p 0 := rn0
    have st0 : stR (q 1) = stp (p 1) := st0
    rw [al0, rn0, st0]
    rfl
  obtain ⟨E0, T0⟩ := tim (K := cnt p 0) (b := false) (F := !(fN p (w + 1))) h.t0 w0 hw rfl (g0 0 (by decide)) (fun _ => rfl)
  have C0 : tC3 q 0 = cond (ind p 0) (cond (IntKind.i64.wrap (q 3 + 1) == stp (p 1)) 0 (IntKind.i64.wrap (q 3 + 1))) (q 3) := by
    show cond (alC 0 (q 1)) (cond (IntKind.i64.wrap (q 3 + 1) == stR (q 1)) 0 (IntKind.i64.wrap (q 3 + 1))) (q 3) = _
    have al0 : alC 0 (q 1) = ind p 0 := al0
    have st0 : stR (q 1) = stp (p 1) := st0
    rw [al0, st0]
  rw [← U0] at E0
  rw [← U0, ← C0] at T0
  have E0 : R0 q = _ := E0
  obtain ⟨al1, rn1, st1⟩ := q_al p q w 1 _ _ _ _ _ _ _ h.t1
  have U1 : upR (q1 q) 1 (ov1 q) = cond (ind p 1) (IntKind.i64.wrap (q 7 + 1) == stp (p 5)) (cond (cnt p 1) (R0 q) false) := by
    show cond (alC 1 (q 5)) (IntKind.i64.wrap (q 7 + 1) == stR (q 5)) (cond (rnR (q 5)) (((ov1 q).fdiv (2 ^ (1 - 1))).tmod 2 == 1) false) = _
    have al1 : alC 1 (q 5) = ind p 1 := al1
    have rn1 : rnR (q 5) = cnt p 1 := rn1
    have st1 : stR (q 5) = stp (p 5) := st1
    rw [al1, rn1, st1]
    rw [ov1_eq, V1_bit]
  obtain ⟨E1, T1⟩ := tim (K := cnt p 1) (b := (R0 q)) (F := !(fN p (w + 1))) h.t1 w0 hw rfl (g0 1 (by decide)) (fun e => by rw [E0, e]; rfl)
  have C1 : tC3 (q1 q) 1 = cond (ind p 1) (cond (IntKind.i64.wrap (q 7 + 1) == stp (p 5)) 0 (IntKind.i64.wrap (q 7 + 1))) (q 7) := by
    show cond (alC 1 (q 5)) (cond (IntKind.i64.wrap (q 7 + 1) == stR (q 5)) 0 (IntKind.i64.wrap (q 7 + 1))) (q 7) = _
    have al1 : alC 1 (q 5) = ind p 1 := al1
    have st1 : stR (q 5) = stp (p 5) := st1
    rw [al1, st1]
  rw [← U1] at E1
  rw [← U1, ← C1] at T1
  have E1 : R1 q = _ := E1
  obtain ⟨al2, rn2, st2⟩ := q_al p q w 2 _ _ _ _ _ _ _ h.t2
  have U2 : upR (q2 q) 2 (ov2 q) = cond (ind p 2) (IntKind.i64.wrap (q 11 + 1) == stp (p 9)) (cond (cnt p 2) (R1 q) false) := by
    show cond (alC 2 (q 9)) (IntKind.i64.wrap (q 11 + 1) == stR (q 9)) (cond (rnR (q 9)) (((ov2 q).fdiv (2 ^ (2 - 1))).tmod 2 == 1) false) = _
    have al2 : alC 2 (q 9) = ind p 2 := al2
    have rn2 : rnR (q 9) = cnt p 2 := rn2
    have st2 : stR (q 9) = stp (p 9) := st2
    rw [al2, rn2, st2]
    rw [ov2_eq, V2_bit]
  obtain ⟨E2, T2⟩ := tim (K := cnt p 2) (b := (R1 q)) (F := !(fN p (w + 1))) h.t2 w0 hw rfl (g0 2 (by decide)) (fun e => by rw [E1, e]; rfl)
  have C2 : tC3 (q2 q) 2 = cond (ind p 2) (cond (IntKind.i64.wrap (q 11 + 1) == stp (p 9)) 0 (IntKind.i64.wrap (q 11 + 1))) (q 11) := by
    show cond (alC 2 (q 9)) (cond (IntKind.i64.wrap (q 11 + 1) == stR (q 9)) 0 (IntKind.i64.wrap (q 11 + 1))) (q 11) = _
    have al2 : alC 2 (q 9) = ind p 2 := al2
    have st2 : stR (q 9) = stp (p 9) := st2
    rw [al2, st2]
  rw [← U2] at E2
  rw [← U2, ← C2] at T2
  have E2 : R2 q = _ := E2
  obtain ⟨al3, rn3, st3⟩ := q_al p q w 3 _ _ _ _ _ _ _ h.t3
  have U3 : upR (q3 q) 3 (ov3 q) = cond (ind p 3) (IntKind.i64.wrap (q 15 + 1) == stp (p 13)) (cond (cnt p 3) (R2 q) false) := by
    show cond (alC 3 (q 13)) (IntKind.i64.wrap (q 15 + 1) == stR (q 13)) (cond (rnR (q 13)) (((ov3 q).fdiv (2 ^ (3 - 1))).tmod 2 == 1) false) = _
    have al3 : alC 3 (q 13) = ind p 3 := al3
    have rn3 : rnR (q 13) = cnt p 3 := rn3
    have st3 : stR (q 13) = stp (p 13) := st3
    rw [al3, rn3, st3]
    rw [ov3_eq, V3_bit]
  obtain ⟨E3, T3⟩ := tim (K := cnt p 3) (b := (R2 q)) (F := !(fN p (w + 1))) h.t3 w0 hw rfl (g0 3 (by decide)) (fun e => by rw [E2, e]; rfl)
  have C3 : tC3 (q3 q) 3 = cond (ind p 3) (cond (IntKind.i64.wrap (q 15 + 1) == stp (p 13)) 0 (IntKind.i64.wrap (q 15 + 1))) (q 15) := by
    show cond (alC 3 (q 13)) (cond (IntKind.i64.wrap (q 15 + 1) == stR (q 13)) 0 (IntKind.i64.wrap (q 15 + 1))) (q 15) = _
    have al3 : alC 3 (q 13) = ind p 3 := al3
    have st3 : stR (q 13) = stp (p 13) := st3
    rw [al3, st3]
  rw [← U3] at E3
  rw [← U3, ← C3] at T3
  have E3 : R3 q = _ := E3
  cases hN : fN p (w + 1) with
  | true =>
    simp only [hN, Bool.not_true, cond_false, Bool.false_and] at E0 E1 E2 E3 T0 T1 T2 T3
    have eo : ov4 q = 0 := by rw [ov4_eq, E0, E1, E2, E3]; rfl
    unfold fiM fiA fiP
    simp only [hN, cond_true]
    exact ⟨eo.symm, fun h => absurd eo h, by omega, T0, T1, T2, T3⟩
  | false =>
    have hA := f2 hN
    simp only [hN, Bool.not_false, cond_true, Bool.true_and] at E0 E1 E2 E3 T0 T1 T2 T3
    rw [← hA] at E0 E1 E2 E3 T0 T1 T2 T3
    have B0 : b0 p = R0 q := E0.symm
    have B1 : b1 p = R1 q := by rw [E1, ← B0]; rfl
    have B2 : b2 p = R2 q := by rw [E2, ← B1]; rfl
    have B3 : b3 p = R3 q := by rw [E3, ← B2]; rfl
    rw [← B0] at T1
    rw [← B1] at T2
    rw [← B2] at T3
    unfold fiM fiA fiP
    simp only [hN, cond_false]
    rw [ov4_eq, msk_eq, B0, B1, B2, B3]
    have w1 : 0 ≤ fA p := by omega
    rw [← hA]
    exact ⟨rfl, fun _ => rfl, w1, T0, T1, T2, T3⟩
end Go.Proofs.Ytchebhjbcjjhpaa

