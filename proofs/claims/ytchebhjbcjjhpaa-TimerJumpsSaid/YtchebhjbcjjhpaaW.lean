import Derived.Test.YtchebhjbcjjhpaaT
set_option linter.unusedVariables false
set_option linter.unusedSimpArgs false
namespace Go.Proofs.Ytchebhjbcjjhpaa
open Go Go.Proofs Go.Proofs.Ytchebhjbcjjhpaa.Ev
set_option maxRecDepth 100000
theorem tkr0 (E : World) (p : Nat → Int) (z1 z2 z3 z4 : Int) (q : Nat → Int) (w ov : Int) (hc : 0 ≤ q 1) : loopP (pe E) Try.f10 (fun v s1 => False) (fun todo fr s' => todo = hd10 E ∧ fr.nt = Try.f10.ntmps ∧ refP fr (lv10 (tkO q 0 ov) 1) ∧ refT s' [⟨pk p, 56⟩, ⟨rk (tkQ q 0 ov) w, 32⟩, ⟨[.i false .i64 z1, .i false .i64 z2, .i false .i64 z3, .i false .u16 z4], 34⟩]) (run (pe E) (orcK E) (tabL fns) 20000 (2^200-1) (hd10 E) (mkL Try.f10.ntmps (lv10 ov 0)) [⟨pk p, 56⟩, ⟨rk q w, 32⟩, ⟨[.i false .i64 z1, .i false .i64 z2, .i false .i64 z3, .i false .u16 z4], 34⟩]) := by
  have hd := decide_eq_true hc
  have K2 : tkQ q 0 ov 2 = tC2 q 0 ov := rfl
  have K3 : tkQ q 0 ov 3 = tC3 q 0 := rfl
  have E0 : tkQ q 0 ov 0 = q 0 := rfl
  have E1 : tkQ q 0 ov 1 = q 1 := rfl
  have E4 : tkQ q 0 ov 4 = q 4 := rfl
  have E5 : tkQ q 0 ov 5 = q 5 := rfl
  have E6 : tkQ q 0 ov 6 = q 6 := rfl
  have E7 : tkQ q 0 ov 7 = q 7 := rfl
  have E8 : tkQ q 0 ov 8 = q 8 := rfl
  have E9 : tkQ q 0 ov 9 = q 9 := rfl
  have E10 : tkQ q 0 ov 10 = q 10 := rfl
  have E11 : tkQ q 0 ov 11 = q 11 := rfl
  have E12 : tkQ q 0 ov 12 = q 12 := rfl
  have E13 : tkQ q 0 ov 13 = q 13 := rfl
  have E14 : tkQ q 0 ov 14 = q 14 := rfl
  have E15 : tkQ q 0 ov 15 = q 15 := rfl
  have O : tkO q 0 ov = cond (cond (alC 0 (q 1)) (IntKind.i64.wrap (q 3 + 1) == stR (q 1)) (cond (rnR (q 1)) ((ov.fdiv 1).tmod 2 == 1) false) && IntKind.i64.wrap (q 2 + 1) == 65536) (IntKind.i64.wrap (ov + 1)) ov := rfl
  have C2 : tC2 q 0 ov = cond (cond (alC 0 (q 1)) (IntKind.i64.wrap (q 3 + 1) == stR (q 1)) (cond (rnR (q 1)) ((ov.fdiv 1).tmod 2 == 1) false)) (cond (IntKind.i64.wrap (q 2 + 1) == 65536) (q 0) (IntKind.i64.wrap (q 2 + 1))) (q 2) := rfl
  have C3 : tC3 q 0 = cond (alC 0 (q 1)) (cond (IntKind.i64.wrap (q 3 + 1) == stR (q 1)) 0 (IntKind.i64.wrap (q 3 + 1))) (q 3) := rfl
  rw [tick_r0]
  simp only [hd, K2, K3, E0, E1, E4, E5, E6, E7, E8, E9, E10, E11, E12, E13, E14, E15, decide_true, true_and, and_true, and_self, eq_self, implies_true]
  rw [O, C2, C3]
  have A0 : alC 0 (q 1) = rnR (q 1) := by unfold alC; simp
  rw [A0]
  
  generalize rnR (q 1) = R
  generalize (IntKind.i64.wrap (q 3 + 1) == stR (q 1)) = H
  generalize ((ov.fdiv 1).tmod 2 == 1) = U
  generalize (IntKind.i64.wrap (q 2 + 1) == 65536) = F
  cases R <;> cases H <;> cases U <;> cases F <;> simp
theorem tkr1 (E : World) (p : Nat → Int) (z1 z2 z3 z4 : Int) (q : Nat → Int) (w ov : Int) (hc : 0 ≤ q 5) : loopP (pe E) Try.f10 (fun v s1 => False) (fun todo fr s' => todo = hd10 E ∧ fr.nt = Try.f10.ntmps ∧ refP fr (lv10 (tkO q 1 ov) 2) ∧ refT s' [⟨pk p, 56⟩, ⟨rk (tkQ q 1 ov) w, 32⟩, ⟨[.i false .i64 z1, .i false .i64 z2, .i false .i64 z3, .i false .u16 z4], 34⟩]) (run (pe E) (orcK E) (tabL fns) 20000 (2^200-1) (hd10 E) (mkL Try.f10.ntmps (lv10 ov 1)) [⟨pk p, 56⟩, ⟨rk q w, 32⟩, ⟨[.i false .i64 z1, .i false .i64 z2, .i false .i64 z3, .i false .u16 z4], 34⟩]) := by
  have hd := decide_eq_true hc
  have K2 : tkQ q 1 ov 6 = tC2 q 1 ov := rfl
  have K3 : tkQ q 1 ov 7 = tC3 q 1 := rfl
  have E0 : tkQ q 1 ov 0 = q 0 := rfl
  have E1 : tkQ q 1 ov 1 = q 1 := rfl
  have E2 : tkQ q 1 ov 2 = q 2 := rfl
  have E3 : tkQ q 1 ov 3 = q 3 := rfl
  have E4 : tkQ q 1 ov 4 = q 4 := rfl
  have E5 : tkQ q 1 ov 5 = q 5 := rfl
  have E8 : tkQ q 1 ov 8 = q 8 := rfl
  have E9 : tkQ q 1 ov 9 = q 9 := rfl
  have E10 : tkQ q 1 ov 10 = q 10 := rfl
  have E11 : tkQ q 1 ov 11 = q 11 := rfl
  have E12 : tkQ q 1 ov 12 = q 12 := rfl
  have E13 : tkQ q 1 ov 13 = q 13 := rfl
  have E14 : tkQ q 1 ov 14 = q 14 := rfl
  have E15 : tkQ q 1 ov 15 = q 15 := rfl
  have O : tkO q 1 ov = cond (cond (alC 1 (q 5)) (IntKind.i64.wrap (q 7 + 1) == stR (q 5)) (cond (rnR (q 5)) ((ov.fdiv 1).tmod 2 == 1) false) && IntKind.i64.wrap (q 6 + 1) == 65536) (IntKind.i64.wrap (ov + 2)) ov := rfl
  have C2 : tC2 q 1 ov = cond (cond (alC 1 (q 5)) (IntKind.i64.wrap (q 7 + 1) == stR (q 5)) (cond (rnR (q 5)) ((ov.fdiv 1).tmod 2 == 1) false)) (cond (IntKind.i64.wrap (q 6 + 1) == 65536) (q 4) (IntKind.i64.wrap (q 6 + 1))) (q 6) := rfl
  have C3 : tC3 q 1 = cond (alC 1 (q 5)) (cond (IntKind.i64.wrap (q 7 + 1) == stR (q 5)) 0 (IntKind.i64.wrap (q 7 + 1))) (q 7) := rfl
  rw [tick_r1]
  simp only [hd, K2, K3, E0, E1, E2, E3, E4, E5, E8, E9, E10, E11, E12, E13, E14, E15, decide_true, true_and, and_true, and_self, eq_self, implies_true]
  rw [O, C2, C3]
  skip
  skip
  generalize alC 1 (q 5) = A
  generalize rnR (q 5) = R
  generalize (IntKind.i64.wrap (q 7 + 1) == stR (q 5)) = H
  generalize ((ov.fdiv 1).tmod 2 == 1) = U
  generalize (IntKind.i64.wrap (q 6 + 1) == 65536) = F
  cases A <;> cases R <;> cases H <;> cases U <;> cases F <;> simp
theorem tkr2 (E : World) (p : Nat → Int) (z1 z2 z3 z4 : Int) (q : Nat → Int) (w ov : Int) (hc : 0 ≤ q 9) : loopP (pe E) Try.f10 (fun v s1 => False) (fun todo fr s' => todo = hd10 E ∧ fr.nt = Try.f10.ntmps ∧ refP fr (lv10 (tkO q 2 ov) 3) ∧ refT s' [⟨pk p, 56⟩, ⟨rk (tkQ q 2 ov) w, 32⟩, ⟨[.i false .i64 z1, .i false .i64 z2, .i false .i64 z3, .i false .u16 z4], 34⟩]) (run (pe E) (orcK E) (tabL fns) 20000 (2^200-1) (hd10 E) (mkL Try.f10.ntmps (lv10 ov 2)) [⟨pk p, 56⟩, ⟨rk q w, 32⟩, ⟨[.i false .i64 z1, .i false .i64 z2, .i false .i64 z3, .i false .u16 z4], 34⟩]) := by
  have hd := decide_eq_true hc
  have K2 : tkQ q 2 ov 10 = tC2 q 2 ov := rfl
  have K3 : tkQ q 2 ov 11 = tC3 q 2 := rfl
  have E0 : tkQ q 2 ov 0 = q 0 := rfl
  have E1 : tkQ q 2 ov 1 = q 1 := rfl
  have E2 : tkQ q 2 ov 2 = q 2 := rfl
  have E3 : tkQ q 2 ov 3 = q 3 := rfl
  have E4 : tkQ q 2 ov 4 = q 4 := rfl
  have E5 : tkQ q 2 ov 5 = q 5 := rfl
  have E6 : tkQ q 2 ov 6 = q 6 := rfl
  have E7 : tkQ q 2 ov 7 = q 7 := rfl
  have E8 : tkQ q 2 ov 8 = q 8 := rfl
  have E9 : tkQ q 2 ov 9 = q 9 := rfl
  have E12 : tkQ q 2 ov 12 = q 12 := rfl
  have E13 : tkQ q 2 ov 13 = q 13 := rfl
  have E14 : tkQ q 2 ov 14 = q 14 := rfl
  have E15 : tkQ q 2 ov 15 = q 15 := rfl
  have O : tkO q 2 ov = cond (cond (alC 2 (q 9)) (IntKind.i64.wrap (q 11 + 1) == stR (q 9)) (cond (rnR (q 9)) ((ov.fdiv 2).tmod 2 == 1) false) && IntKind.i64.wrap (q 10 + 1) == 65536) (IntKind.i64.wrap (ov + 4)) ov := rfl
  have C2 : tC2 q 2 ov = cond (cond (alC 2 (q 9)) (IntKind.i64.wrap (q 11 + 1) == stR (q 9)) (cond (rnR (q 9)) ((ov.fdiv 2).tmod 2 == 1) false)) (cond (IntKind.i64.wrap (q 10 + 1) == 65536) (q 8) (IntKind.i64.wrap (q 10 + 1))) (q 10) := rfl
  have C3 : tC3 q 2 = cond (alC 2 (q 9)) (cond (IntKind.i64.wrap (q 11 + 1) == stR (q 9)) 0 (IntKind.i64.wrap (q 11 + 1))) (q 11) := rfl
  rw [tick_r2]
  simp only [hd, K2, K3, E0, E1, E2, E3, E4, E5, E6, E7, E8, E9, E12, E13, E14, E15, decide_true, true_and, and_true, and_self, eq_self, implies_true]
  rw [O, C2, C3]
  skip
  skip
  generalize alC 2 (q 9) = A
  generalize rnR (q 9) = R
  generalize (IntKind.i64.wrap (q 11 + 1) == stR (q 9)) = H
  generalize ((ov.fdiv 2).tmod 2 == 1) = U
  generalize (IntKind.i64.wrap (q 10 + 1) == 65536) = F
  cases A <;> cases R <;> cases H <;> cases U <;> cases F <;> simp
theorem tkr3 (E : World) (p : Nat → Int) (z1 z2 z3 z4 : Int) (q : Nat → Int) (w ov : Int) (hc : 0 ≤ q 13) : loopP (pe E) Try.f10 (fun v s1 => False) (fun todo fr s' => todo = hd10 E ∧ fr.nt = Try.f10.ntmps ∧ refP fr (lv10 (tkO q 3 ov) 4) ∧ refT s' [⟨pk p, 56⟩, ⟨rk (tkQ q 3 ov) w, 32⟩, ⟨[.i false .i64 z1, .i false .i64 z2, .i false .i64 z3, .i false .u16 z4], 34⟩]) (run (pe E) (orcK E) (tabL fns) 20000 (2^200-1) (hd10 E) (mkL Try.f10.ntmps (lv10 ov 3)) [⟨pk p, 56⟩, ⟨rk q w, 32⟩, ⟨[.i false .i64 z1, .i false .i64 z2, .i false .i64 z3, .i false .u16 z4], 34⟩]) := by
  have hd := decide_eq_true hc
  have K2 : tkQ q 3 ov 14 = tC2 q 3 ov := rfl
  have K3 : tkQ q 3 ov 15 = tC3 q 3 := rfl
  have E0 : tkQ q 3 ov 0 = q 0 := rfl
  have E1 : tkQ q 3 ov 1 = q 1 := rfl
  have E2 : tkQ q 3 ov 2 = q 2 := rfl
  have E3 : tkQ q 3 ov 3 = q 3 := rfl
  have E4 : tkQ q 3 ov 4 = q 4 := rfl
  have E5 : tkQ q 3 ov 5 = q 5 := rfl
  have E6 : tkQ q 3 ov 6 = q 6 := rfl
  have E7 : tkQ q 3 ov 7 = q 7 := rfl
  have E8 : tkQ q 3 ov 8 = q 8 := rfl
  have E9 : tkQ q 3 ov 9 = q 9 := rfl
  have E10 : tkQ q 3 ov 10 = q 10 := rfl
  have E11 : tkQ q 3 ov 11 = q 11 := rfl
  have E12 : tkQ q 3 ov 12 = q 12 := rfl
  have E13 : tkQ q 3 ov 13 = q 13 := rfl
  have O : tkO q 3 ov = cond (cond (alC 3 (q 13)) (IntKind.i64.wrap (q 15 + 1) == stR (q 13)) (cond (rnR (q 13)) ((ov.fdiv 4).tmod 2 == 1) false) && IntKind.i64.wrap (q 14 + 1) == 65536) (IntKind.i64.wrap (ov + 8)) ov := rfl
  have C2 : tC2 q 3 ov = cond (cond (alC 3 (q 13)) (IntKind.i64.wrap (q 15 + 1) == stR (q 13)) (cond (rnR (q 13)) ((ov.fdiv 4).tmod 2 == 1) false)) (cond (IntKind.i64.wrap (q 14 + 1) == 65536) (q 12) (IntKind.i64.wrap (q 14 + 1))) (q 14) := rfl
  have C3 : tC3 q 3 = cond (alC 3 (q 13)) (cond (IntKind.i64.wrap (q 15 + 1) == stR (q 13)) 0 (IntKind.i64.wrap (q 15 + 1))) (q 15) := rfl
  rw [tick_r3]
  simp only [hd, K2, K3, E0, E1, E2, E3, E4, E5, E6, E7, E8, E9, E10, E11, E12, E13, decide_true, true_and, and_true, and_self, eq_self, implies_true]
  rw [O, C2, C3]
  skip
  skip
  generalize alC 3 (q 13) = A
  generalize rnR (q 13) = R
  generalize (IntKind.i64.wrap (q 15 + 1) == stR (q 13)) = H
  generalize ((ov.fdiv 4).tmod 2 == 1) = U
  generalize (IntKind.i64.wrap (q 14 + 1) == 65536) = F
  cases A <;> cases R <;> cases H <;> cases U <;> cases F <;> simp
def ov1 (q : Nat → Int) : Int := tkO q 0 0
def q1 (q : Nat → Int) : Nat → Int := tkQ q 0 0
def ov2 (q : Nat → Int) : Int := tkO (q1 q) 1 (ov1 q)
def q2 (q : Nat → Int) : Nat → Int := tkQ (q1 q) 1 (ov1 q)
def ov3 (q : Nat → Int) : Int := tkO (q2 q) 2 (ov2 q)
def q3 (q : Nat → Int) : Nat → Int := tkQ (q2 q) 2 (ov2 q)
def ov4 (q : Nat → Int) : Int := tkO (q3 q) 3 (ov3 q)
def q4 (q : Nat → Int) : Nat → Int := tkQ (q3 q) 3 (ov3 q)
theorem loopP_mono {P : PE} {fn : Func} {post : SV → SW → Prop} {I J : List Item → Fr → SW → Prop} (h : ∀ t f s, I t f s → J t f s) : ∀ t : Tree Lf, loopP P fn post I t → loopP P fn post J t := by
  intro t
  induction t with
  | leaf x =>
    intro hx
    unfold loopP at hx ⊢
    cases he : x.ended
    · rw [he] at hx; exact h _ _ _ hx
    · rw [he] at hx; exact hx
  | node b t f iht ihf => exact fun hx => ⟨fun hb => iht (hx.1 hb), fun hb => ihf (hx.2 hb)⟩
  | need b t ih => exact fun hx => ⟨hx.1, ih hx.2⟩
  | fail => exact id
theorem loopP_post {P : PE} {fn : Func} {po po' : SV → SW → Prop} {I : List Item → Fr → SW → Prop} (h : ∀ v s, po v s → po' v s) : ∀ t : Tree Lf, loopP P fn po I t → loopP P fn po' I t := by
  intro t
  induction t with
  | leaf x =>
    intro hx
    unfold loopP at hx ⊢
    cases he : x.ended
    · rw [he] at hx; exact hx
    · rw [he] at hx
      simp only [cond_true] at hx ⊢
      split at hx
      · exact h _ _ hx
      · exact hx
  | node b t f iht ihf => exact fun hx => ⟨fun hb => iht (hx.1 hb), fun hb => ihf (hx.2 hb)⟩
  | need b t ih => exact fun hx => ⟨hx.1, ih hx.2⟩
  | fail => exact id
def tkG (q : Nat → Int) : Nat → (Nat → Int) × Int
  | 0 => (q, 0)
  | 1 => (q1 q, ov1 q)
  | 2 => (q2 q, ov2 q)
  | 3 => (q3 q, ov3 q)
  | _ => (q4 q, ov4 q)
theorem tick_c (E : World) (p : Nat → Int) (z1 z2 z3 z4 : Int) (q : Nat → Int) (w : Int) (h0 : 0 ≤ q 1) (h1 : 0 ≤ q 5) (h2 : 0 ≤ q 9) (h3 : 0 ≤ q 13) :
    CallTree (pe E) 10 [.c (.p 1 0)] [⟨pk p, 56⟩, ⟨rk q w, 32⟩, ⟨[.i false .i64 z1, .i false .i64 z2, .i false .i64 z3, .i false .u16 z4], 34⟩] (.leaf (.c (.i false .i64 (ov4 q)), [⟨pk p, 56⟩, ⟨rk (q4 q) (IntKind.i64.wrap (w + 1)), 32⟩, ⟨[.i false .i64 z1, .i false .i64 z2, .i false .i64 z3, .i false .u16 z4], 34⟩])) := by
  intro W L ρ w0 post hI hok hp
  refine Calls.mono (calls_loopT (c := c10) (P := pe E) orcK_ok tab_ok tab_sz mixed Try.func10 rfl (by decide) (vs := [.c (.p 1 0)]) (s := [⟨pk p, 56⟩, ⟨rk q w, 32⟩, ⟨[.i false .i64 z1, .i false .i64 z2, .i false .i64 z3, .i false .u16 z4], 34⟩]) (Nat.le_of_ble_eq_true rfl) 20000 (2^200-1) (fun i : Nat => i ≤ 4) (fun i => 4 - i) (fun _ => hd10 E) (fun i => lv10 (tkG q i).2 i) (fun i => [⟨pk p, 56⟩, ⟨rk (tkG q i).1 (IntKind.i64.wrap (w + 1)), 32⟩, ⟨[.i false .i64 z1, .i false .i64 z2, .i false .i64 z3, .i false .u16 z4], 34⟩]) (fun _ => rfl) (fun i hi => ⟨rfl, rfl, Nat.le_of_ble_eq_true rfl⟩)
    (fun v s1 => SV.sim v (.c (.i false .i64 (ov4 q))) ∧ refT s1 [⟨pk p, 56⟩, ⟨rk (q4 q) (IntKind.i64.wrap (w + 1)), 32⟩, ⟨[.i false .i64 z1, .i false .i64 z2, .i false .i64 z3, .i false .u16 z4], 34⟩]) ?_ ?_ W L ρ w0 hI hok) ?_
  · refine loopP_post (po := fun v _ => False) (fun v s h => h.elim) _ (loopP_mono (fun t f s h => ⟨0, Nat.zero_le _, h⟩) _ (I := fun todo fr s' => todo = hd10 E ∧ fr.nt = Try.f10.ntmps ∧ refP fr (lv10 0 0) ∧ refT s' [⟨pk p, 56⟩, ⟨rk q (IntKind.i64.wrap (w + 1)), 32⟩, ⟨[.i false .i64 z1, .i false .i64 z2, .i false .i64 z3, .i false .u16 z4], 34⟩]) ?_)
    rw [tick_pro E p z1 z2 z3 z4 q w 0]
    repeat' first | exact rfl | exact trivial | apply And.intro
  · intro j hj
    obtain h | h | h | h | h : j = 0 ∨ j = 1 ∨ j = 2 ∨ j = 3 ∨ j = 4 := by have : j ≤ 4 := hj; omega
    · subst h; exact loopP_post (po := fun v _ => False) (fun v s h => h.elim) _ (loopP_mono (fun t f s h => ⟨1, by decide, by decide, h⟩) _ (tkr0 E p z1 z2 z3 z4 q (IntKind.i64.wrap (w + 1)) 0 h0))
    · subst h; exact loopP_post (po := fun v _ => False) (fun v s h => h.elim) _ (loopP_mono (fun t f s h => ⟨2, by decide, by decide, h⟩) _ (tkr1 E p z1 z2 z3 z4 (q1 q) (IntKind.i64.wrap (w + 1)) (ov1 q) h1))
    · subst h; exact loopP_post (po := fun v _ => False) (fun v s h => h.elim) _ (loopP_mono (fun t f s h => ⟨3, by decide, by decide, h⟩) _ (tkr2 E p z1 z2 z3 z4 (q2 q) (IntKind.i64.wrap (w + 1)) (ov2 q) h2))
    · subst h; exact loopP_post (po := fun v _ => False) (fun v s h => h.elim) _ (loopP_mono (fun t f s h => ⟨4, by decide, by decide, h⟩) _ (tkr3 E p z1 z2 z3 z4 (q3 q) (IntKind.i64.wrap (w + 1)) (ov3 q) h3))
    · subst h
      refine loopP_mono (I := fun _ _ _ => False) (fun t f s h => h.elim) _ ?_
      have h4 := tick_r4 E p z1 z2 z3 z4 (q4 q) (IntKind.i64.wrap (w + 1)) (ov4 q)
      show loopP (pe E) Try.f10 (fun v s1 => SV.sim v (.c (.i false .i64 (ov4 q))) ∧ refT s1 [⟨pk p, 56⟩, ⟨rk (q4 q) (IntKind.i64.wrap (w + 1)), 32⟩, ⟨[.i false .i64 z1, .i false .i64 z2, .i false .i64 z3, .i false .u16 z4], 34⟩]) (fun todo fr s' => False) (run (pe E) (orcK E) (tabL fns) 20000 (2^200-1) (hd10 E) (mkL Try.f10.ntmps (lv10 (ov4 q) 4)) [⟨pk p, 56⟩, ⟨rk (q4 q) (IntKind.i64.wrap (w + 1)), 32⟩, ⟨[.i false .i64 z1, .i false .i64 z2, .i false .i64 z3, .i false .u16 z4], 34⟩])
      rw [h4]
      repeat' first | exact rfl | exact trivial | apply And.intro
  · rintro e1 w' ⟨v, s1, ρ', rfl, hag, hle, hv, hI', hx, hr⟩
    exact ⟨.c (.i false .i64 (ov4 q)), [⟨pk p, 56⟩, ⟨rk (q4 q) (IntKind.i64.wrap (w + 1)), 32⟩, ⟨[.i false .i64 z1, .i false .i64 z2, .i false .i64 z3, .i false .u16 z4], 34⟩], ρ', by rw [SV.sim_den hx], hag, Nat.le_refl 3, rfl, hI'.trim hr rfl (by have := hI'.len; omega), hp⟩
end Go.Proofs.Ytchebhjbcjjhpaa

