import Derived.Test.YtchebhjbcjjhpaaF
import Derived.Test.YtchebhjbcjjhpaaZ
set_option linter.unusedVariables false
set_option linter.unusedSimpArgs false
namespace Go.Proofs.Ytchebhjbcjjhpaa
open Go Go.Proofs Go.Proofs.Ytchebhjbcjjhpaa.Ev
set_option maxRecDepth 100000
def nxB (p : Nat → Int) : Bool := nxF p [0, 1, 2, 3] false
theorem fN_T {p : Nat → Int} {y : Int} (h : nxB p = true → fA p > y) : fN p y = true := by
  unfold fN
  have e : nxF p [0, 1, 2, 3] false = nxB p := rfl
  rw [e]
  cases hn : nxB p with
  | false => rfl
  | true => exact decide_eq_true (h hn)
theorem fN_F {p : Nat → Int} {y : Int} (h : nxB p = true) (h2 : fA p ≤ y) : fN p y = false := by
  unfold fN
  have e : nxF p [0, 1, 2, 3] false = true := h
  rw [e]
  exact decide_eq_false (by omega)
theorem fN_gt {p : Nat → Int} {y : Int} (h : fN p y = true) (hn : nxB p = true) : fA p > y := by
  unfold fN at h
  have e : nxF p [0, 1, 2, 3] false = true := hn
  rw [e] at h
  exact of_decide_eq_true h
theorem fi_T {p : Nat → Int} {y : Int} (h : fN p y = true) : fiA p y = 0 ∧ fiM p y = 0 ∧ fiP p y = p := by
  unfold fiA fiM fiP; rw [h]; exact ⟨rfl, rfl, rfl⟩
theorem fi_F {p : Nat → Int} {y : Int} (h : fN p y = false) : fiA p y = fA p ∧ fiM p y = mskV (b0 p) (b1 p) (b2 p) (b3 p) ∧ fiP p y = p4 p := by
  unfold fiA fiM fiP; rw [h]; exact ⟨rfl, rfl, rfl⟩
theorem msk_ne : ∀ a b c d, (a || b || c || d) = true → mskV a b c d ≠ 0 := by decide
theorem b0_eq (p : Nat → Int) : b0 p = cond (ind p 0) (!(due p 0 != fA p)) (cnt p 0 && (false && !(p 2 != 65535))) := rfl
theorem b1_eq (p : Nat → Int) : b1 p = cond (ind p 1) (!(due p 1 != fA p)) (cnt p 1 && (b0 p && !(p 6 != 65535))) := rfl
theorem b2_eq (p : Nat → Int) : b2 p = cond (ind p 2) (!(due p 2 != fA p)) (cnt p 2 && (b1 p && !(p 10 != 65535))) := rfl
theorem b3_eq (p : Nat → Int) : b3 p = cond (ind p 3) (!(due p 3 != fA p)) (cnt p 3 && (b2 p && !(p 14 != 65535))) := rfl
theorem msk_fire {p : Nat → Int} (h : nxB p = true) : mskV (b0 p) (b1 p) (b2 p) (b3 p) ≠ 0 := by
  obtain ⟨_, _, m3⟩ := nx_min p [0, 1, 2, 3] 0 false
  rcases m3 h with ⟨e, _⟩ | ⟨i, hi, h2, h3⟩
  · cases e
  · have h3 : fA p = due p i := h3
    apply msk_ne
    have hi : i = 0 ∨ i = 1 ∨ i = 2 ∨ i = 3 := by simp at hi; omega
    rcases hi with rfl | rfl | rfl | rfl
    · have : b0 p = true := by rw [b0_eq, h2, h3]; simp
      rw [this]; rfl
    · have : b1 p = true := by rw [b1_eq, h2, h3]; simp
      rw [this]; simp
    · have : b2 p = true := by rw [b2_eq, h2, h3]; simp
      rw [this]; simp
    · have : b3 p = true := by rw [b3_eq, h2, h3]; simp
      rw [this]; simp
theorem step_C {p q : Nat → Int} {w y : Int} (h : Rel p q w) (hw : w ≤ 1000000) (hf : fN p y = true) (hy : w < y) : ov4 q = 0 ∧ Rel p (q4 q) (w + 1) := by
  have f1 : fN p (w + 1) = true := fN_T fun hn => by have := fN_gt hf hn; omega
  obtain ⟨t1, _, t3⟩ := tick_rel h hw
  obtain ⟨_, e2, e3⟩ := fi_T f1
  rw [e2] at t1
  rw [e3] at t3
  exact ⟨t1.symm, t3⟩
theorem step_A {p q : Nat → Int} {w : Int} (h : Rel p q w) (hw : w ≤ 1000000) (hn : nxB p = true) (he : w + 1 = fA p) : ov4 q = fiM p (fA p) ∧ ov4 q ≠ 0 ∧ Rel (fiP p (fA p)) (q4 q) (fA p) := by
  obtain ⟨t1, _, t3⟩ := tick_rel h hw
  rw [he] at t1 t3
  refine ⟨t1.symm, ?_, t3⟩
  rw [← t1, (fi_F (fN_F hn (Int.le_refl _))).2.1]
  exact msk_fire hn
theorem Rel.gt {p q : Nat → Int} {w : Int} (h : Rel p q w) (hw : w ≤ 1000000) (hn : nxB p = true) : w < fA p := by
  obtain ⟨_, _, m3⟩ := nx_min p [0, 1, 2, 3] 0 false
  rcases m3 hn with ⟨e, _⟩ | ⟨i, hi, h2, h3⟩
  · cases e
  · have h3 : fA p = due p i := h3
    have hi : i = 0 ∨ i = 1 ∨ i = 2 ∨ i = 3 := by simp at hi; omega
    rw [h3]
    rcases hi with rfl | rfl | rfl | rfl
    · exact due_gt h.t0 hw h2
    · exact due_gt h.t1 hw h2
    · exact due_gt h.t2 hw h2
    · exact due_gt h.t3 hw h2
structure RM (A : Prop) (L u : Int) (p q : Nat → Int) (w : Int) : Prop where
  a : A
  r : Rel p q w
  s : L ≤ w
  k : w ≤ u
  d : u ≤ w + 5000
structure RC (L u : Int) (p q : Nat → Int) (w : Int) : Prop where
  r : Rel p q w
  s : L ≤ w
  k : w ≤ u
  d : u ≤ w + 5000
  f : fN p u = true
structure AR (L u at_ mk : Int) (p q : Nat → Int) (w : Int) : Prop where
  w0 : 0 ≤ w
  s : L ≤ w
  k : w ≤ at_
  ku : at_ ≤ u
  d : u ≤ w + 5000
  e : at_ = fA p
  n : nxB p = true
  m : w < at_ → mk = 0 ∧ Rel p q w
  f : w = at_ → mk = fiM p at_ ∧ mk ≠ 0 ∧ Rel (fiP p at_) q at_
theorem q0s {p q : Nat → Int} {w : Int} (hn : Rel p q w) : decide (0 ≤ q 1) = true ∧ decide (0 ≤ q 5) = true ∧ decide (0 ≤ q 9) = true ∧ decide (0 ≤ q 13) = true := by
  refine ⟨decide_eq_true ?_, decide_eq_true ?_, decide_eq_true ?_, decide_eq_true ?_⟩
  · have e := hn.t0.hct; have := hn.t0.c0; rw [e]; exact this
  · have e := hn.t1.hct; have := hn.t1.c0; rw [e]; exact this
  · have e := hn.t2.hct; have := hn.t2.c0; rw [e]; exact this
  · have e := hn.t3.hct; have := hn.t3.c0; rw [e]; exact this
theorem rnd_o (E : World) (a : Option Addr) (n c : Nat) (hmx : n ≤ 40) (hz : a = none → n = 0) (he : ∀ j, j < n → eRow E a (j * 4) [.i .i64, .i .i64, .i .i64, .i .u16] = true)
    (i : Nat) (p q : Nat → Int) (w : Int) (hr : Rel (iA (pk p)) (iA (rk q w)) w) (hwk : w ≤ 5000 * i) :
    loopP (pe E) Try.f4 (fun v _ => SV.sim v (.c (.b false true))) (fun todo fr s' => cond (Nat.beq todo.length 4) (Io4 E a n c (i + 1) (RX (i < n) (5000 * (i + 1))) todo fr s') (Im4 E a n c i (IntKind.i64.wrap (w + rI E a i 0)) (rI E a i 0) (rI E a i 1) (rI E a i 2) (rI E a i 3) (RM (i < n ∧ 0 ≤ rI E a i 3 ∧ rI E a i 3 < 65536 ∧ IntKind.i64.wrap (w + rI E a i 0) ≤ 5000 * (i + 1)) 0 (IntKind.i64.wrap (w + rI E a i 0))) todo fr s')) (run (pe E) (orcX E) (tabL fns) 20000 2180 (h4o E) (mkL Try.f4.ntmps (l4o a n c i)) [⟨pk p, 56⟩, ⟨rk q w, 32⟩]) := by
  rw [r4o]
  have w0 := hr.w0
  refine ⟨fun h => ?_, fun h => rfl⟩
  have h := of_decide_eq_true h
  have hlt : i < n := by omega
  have hrow := he i hlt
  have hwi : IntKind.i64.wrap ((i : Int) + 1) = ((i + 1 : Nat) : Int) := by rw [wi64_in _ (by omega) (by omega)]; simp
  have hx : 0 ≤ rI E a i 3 ∧ rI E a i 3 < 65536 := by
    have := bounds_u16 (eOk_int (eRow_get _ _ 3 (.i .u16) hrow rfl))
    exact ⟨this.1, Int.lt_of_le_of_lt this.2 (by decide)⟩
  refine ⟨by simp only [inB, Bool.and_eq_true, decide_eq_true_eq]; omega, some_of_lt hz hlt, by simpa using hrow, fun _ => ?_, fun hb => ?_⟩
  · exact ⟨rfl, rfl, rfl, rfl, ⟨⟨hlt, hr, by show w ≤ _; omega⟩⟩, rfl, rfl, rfl, rfl, rfl, ⟨rfl, rfl⟩, rfl, hwi⟩
  · have hb2 : 0 ≤ rI E a i 0 ∧ rI E a i 0 ≤ 5000 := by
      have hb : (bif decide (rI E a i 0 < 0) then true else decide (rI E a i 0 > 5000)) = false := hb
      cases h1 : decide (rI E a i 0 < 0) with
      | true => rw [h1] at hb; cases hb
      | false =>
        rw [h1] at hb
        have h1 := of_decide_eq_false h1
        have h2 := of_decide_eq_false (show decide (rI E a i 0 > 5000) = false from hb)
        omega
    have hu : IntKind.i64.wrap (w + rI E a i 0) = w + rI E a i 0 := wi64_in _ (by omega) (by omega)
    have hop : RM (i < n ∧ 0 ≤ rI E a i 3 ∧ rI E a i 3 < 65536 ∧ IntKind.i64.wrap (w + rI E a i 0) ≤ 5000 * (i + 1)) 0 (IntKind.i64.wrap (w + rI E a i 0)) (iA (pk p)) (iA (rk q w)) w := by
      rw [hu]
      exact ⟨⟨hlt, hx.1, hx.2, by omega⟩, hr, w0, by omega, by omega⟩
    exact ⟨rfl, rfl, rfl, rfl, rfl, rfl, rfl, rfl, rfl, ⟨hop⟩, rfl, rfl, rfl, rfl, rfl, ⟨rfl, rfl⟩, rfl, ⟨rfl, rfl⟩, rfl, rfl⟩
theorem rnd_m (E : World) (a : Option Addr) (n c : Nat) (i : Nat) (u : Int) (p q : Nat → Int) (w z1 z2 z3 z4 : Int) (hr : Rel (iA (pk p)) (iA (rk q w)) w) (hw6 : u ≤ 1000000) (hk : w ≤ u) (hd : u ≤ w + 5000) :
    loopP (pe E) Try.f4 (fun v _ => SV.sim v (.c (.b false true))) (fun todo fr s' => cond (Nat.beq todo.length 13) (Ia4 E a n c i u (nxA (iA (pk p)) [0, 1, 2, 3] 0 false) 0 z1 z2 z3 z4 (AR w u (nxA (iA (pk p)) [0, 1, 2, 3] 0 false) 0) todo fr s') (Ic4 E a n c i u z1 z2 z3 z4 (RC w u) todo fr s')) (run (pe E) (orcX E) (tabL fns) 20000 2180 (h4m E) (mkL Try.f4.ntmps (l4m a n c i u)) [⟨pk p, 56⟩, ⟨rk q w, 32⟩, ⟨[.i false .i64 z1, .i false .i64 z2, .i false .i64 z3, .i false .u16 z4], 34⟩]) := by
  rw [r4m]
  have w0 := hr.w0
  refine ⟨fun h => ?_, fun h => ?_⟩
  · exact ⟨rfl, rfl, rfl, rfl, rfl, rfl, rfl, rfl, rfl, ⟨⟨hr, Int.le_refl _, hk, hd, h⟩⟩, rfl, rfl, rfl, rfl, rfl, ⟨rfl, rfl⟩, rfl, ⟨rfl, rfl⟩, rfl, rfl⟩
  · have hn : nxB (iA (pk p)) = true := by
      cases hh : nxB (iA (pk p)) with
      | true => rfl
      | false =>
        have e : nxF (iA (pk p)) [0, 1, 2, 3] false = false := hh
        rw [e] at h; cases h
    have hle : fA (iA (pk p)) ≤ u := by
      have e : nxF (iA (pk p)) [0, 1, 2, 3] false = true := hn
      rw [e] at h
      have h := of_decide_eq_false (show decide (fA (iA (pk p)) > u) = false from h)
      omega
    have hg := hr.gt (by omega) hn
    have hop : AR w u (fA (iA (pk p))) 0 (iA (pk p)) (iA (rk q w)) w :=
      ⟨w0, Int.le_refl _, by omega, hle, hd, rfl, hn, fun _ => ⟨rfl, hr⟩, fun e => by omega⟩
    exact ⟨rfl, rfl, rfl, rfl, rfl, rfl, rfl, rfl, rfl, ⟨hop⟩, rfl, rfl, rfl, rfl, rfl, ⟨rfl, rfl⟩, ⟨rfl, rfl⟩, ⟨rfl, rfl⟩, rfl, ⟨rfl, rfl⟩, rfl, rfl⟩
theorem rnd_a (E : World) (a : Option Addr) (n c : Nat) (i : Nat) (L u at_ mk : Int) (p q : Nat → Int) (w z1 z2 z3 z4 : Int) (hr : AR L u at_ mk (iA (pk p)) (iA (rk q w)) w) (hw6 : u ≤ 1000000) :
    loopP (pe E) Try.f4 (fun v _ => SV.sim v (.c (.b false true))) (fun todo fr s' => cond (Nat.beq todo.length 13) (Ia4 E a n c i u at_ (ov4 (iA (rk q w))) z1 z2 z3 z4 (fun P Q W => w < at_ ∧ AR (w + 1) u at_ (ov4 (iA (rk q w))) P Q W) todo fr s') (Im4 E a n c i u z1 z2 z3 z4 (RM (w = at_) w u) todo fr s')) (run (pe E) (orcX E) (tabL fns) 20000 2180 (h4a E) (mkL Try.f4.ntmps (l4a a n c i u at_ mk)) [⟨pk p, 56⟩, ⟨rk q w, 32⟩, ⟨[.i false .i64 z1, .i false .i64 z2, .i false .i64 z3, .i false .u16 z4], 34⟩]) := by
  rw [r4a]
  have w0 := hr.w0
  have hk := hr.k
  have hku := hr.ku
  have hd := hr.d
  have he := hr.e
  have hn := hr.n
  refine ⟨fun h => ?_, fun h => ?_⟩
  · have h := of_decide_eq_true h
    obtain ⟨m0, hR⟩ := hr.m h
    have hw1 : IntKind.i64.wrap (iA (rk q w) 16 + 1) = w + 1 := wi64_in (w + 1) (by omega) (by omega)
    have hQ := q0s hR
    rw [hw1]
    refine ⟨fun e => ?_, fun _ => ⟨hQ.1, hQ.2.1, hQ.2.2.1, hQ.2.2.2, rfl, rfl, rfl, rfl, rfl, rfl, rfl, rfl, rfl, ⟨?_⟩, rfl, rfl, rfl, rfl, rfl, ⟨rfl, rfl⟩, ⟨rfl, rfl⟩, ⟨rfl, rfl⟩, rfl, ⟨rfl, rfl⟩, rfl, rfl⟩⟩
    · rw [m0] at e; cases e
    · refine ⟨h, ?_⟩
      have hop : AR (w + 1) u at_ (ov4 (iA (rk q w))) (iA (pk p)) (iA (rk (q4 (iA (rk q w))) (w + 1))) (w + 1) := by
        refine ⟨by omega, Int.le_refl _, by omega, hku, by omega, he, hn, fun hlt => ?_, fun heq => ?_⟩
        · have hf : fN (iA (pk p)) (w + 1) = true := fN_T fun _ => by omega
          obtain ⟨c1, c2⟩ := step_C hR (by omega) hf (by omega)
          exact ⟨c1, ⟨c2.w0, c2.t0, c2.t1, c2.t2, c2.t3⟩⟩
        · obtain ⟨c1, c2, c3⟩ := step_A hR (by omega) hn (by omega)
          rw [he]
          exact ⟨c1, c2, ⟨c3.w0, c3.t0, c3.t1, c3.t2, c3.t3⟩⟩
      exact hop
  · have h := of_decide_eq_false h
    have hwa : w = at_ := by omega
    obtain ⟨m1, m2, hR⟩ := hr.f hwa
    have f1 : fN (iA (pk p)) u = false := fN_F hn (by omega)
    have f2 : fN (iA (pk p)) at_ = false := fN_F hn (by omega)
    obtain ⟨e1, e2, e3⟩ := fi_F f1
    obtain ⟨g1, g2, g3⟩ := fi_F f2
    have m3 : mskV (b0 (iA (pk p))) (b1 (iA (pk p))) (b2 (iA (pk p))) (b3 (iA (pk p))) ≠ 0 := msk_fire hn
    rw [g3] at hR
    rw [g2] at m1
    rw [e1, e2, e3, ← he, m1]
    refine ⟨fun e => ?_, fun _ => ⟨rfl, rfl, rfl, rfl, rfl, rfl, rfl, rfl, rfl, ⟨?_⟩, rfl, rfl, rfl, rfl, rfl, ⟨rfl, rfl⟩, rfl, ⟨rfl, rfl⟩, rfl, rfl⟩⟩
    · rw [bne_self_eq_false, bne_self_eq_false] at e
      simp only [cond_false] at e
      exact absurd (by simpa using e) m3
    · have hop : RM (w = at_) w u (iA (pk (p4 (iA (pk p))))) (iA (rk q w)) w := by
        refine ⟨hwa, ?_, Int.le_refl _, by omega, hd⟩
        rw [hwa] at hR ⊢
        exact ⟨hR.w0, hR.t0, hR.t1, hR.t2, hR.t3⟩
      exact hop
end Go.Proofs.Ytchebhjbcjjhpaa

