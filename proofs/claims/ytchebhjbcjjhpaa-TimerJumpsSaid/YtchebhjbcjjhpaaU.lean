import Derived.Test.YtchebhjbcjjhpaaB
set_option linter.unusedVariables false
set_option linter.unusedSimpArgs false
namespace Go.Proofs.Ytchebhjbcjjhpaa
open Go Go.Proofs Go.Proofs.Ytchebhjbcjjhpaa.Ev
set_option maxRecDepth 100000
theorem is_four' {A : Bool} {z : Int} (h : (bif bif A then decide (z ≥ 0) else false then decide (z < 4) else false) = true) : inB z 4 = true := by
  cases A with
  | false => cases h
  | true => exact is_four h
theorem rnd_c (E : World) (a : Option Addr) (n c : Nat) (hmx : n ≤ 40) (i : Nat) (u : Int) (p q : Nat → Int) (w z1 z2 z3 z4 : Int) (hr : RC w u (iA (pk p)) (iA (rk q w)) w) (hlt : i < n) (hu : u ≤ 5000 * (i + 1)) (hx0 : 0 ≤ z4) (hx1 : z4 < 65536) :
    loopP (pe E) Try.f4 (fun v _ => SV.sim v (.c (.b false true))) (fun todo fr s' => cond (Nat.beq todo.length 4) (Io4 E a n c (i + 1) (RX (i < n) (5000 * (i + 1))) todo fr s') (Ic4 E a n c i u z1 z2 z3 z4 (fun P Q W => w < u ∧ RC (w + 1) u P Q W) todo fr s')) (run (pe E) (orcX E) (tabL fns) 20000 2180 (h4c E) (mkL Try.f4.ntmps (l4m a n c i u)) [⟨pk p, 56⟩, ⟨rk q w, 32⟩, ⟨[.i false .i64 z1, .i false .i64 z2, .i false .i64 z3, .i false .u16 z4], 34⟩]) := by
  rw [r4c]
  have hn := hr.r
  have w0 := hn.w0
  have hk := hr.k
  have hd := hr.d
  have hw6 : w ≤ 1000000 := by omega
  have hwk : w ≤ 5000 * (i + 1) := by omega
  have hwi : IntKind.i64.wrap ((i : Int) + 1) = ((i + 1 : Nat) : Int) := by rw [wi64_in _ (by omega) (by omega)]; simp
  refine ⟨fun h => ?_, fun _ => ?_⟩
  · have h := of_decide_eq_true h
    have hw1 : IntKind.i64.wrap (iA (rk q w) 16 + 1) = w + 1 := wi64_in (w + 1) (by omega) (by omega)
    have hQ := q0s hn
    obtain ⟨c1, c2⟩ := step_C hn hw6 hr.f h
    rw [hw1, c1]
    have hop : w < u ∧ RC (w + 1) u (iA (pk p)) (iA (rk (q4 (iA (rk q w))) (w + 1))) (w + 1) := ⟨h, ⟨c2.w0, c2.t0, c2.t1, c2.t2, c2.t3⟩, Int.le_refl _, by omega, by omega, hr.f⟩
    refine ⟨hQ.1, hQ.2.1, hQ.2.2.1, hQ.2.2.2, (fun e => by cases e), fun _ => ⟨rfl, rfl, rfl, rfl, rfl, rfl, rfl, rfl, rfl, ⟨hop⟩, rfl, rfl, rfl, rfl, rfl, ⟨rfl, rfl⟩, rfl, ⟨rfl, rfl⟩, rfl, rfl⟩⟩
  · obtain ⟨e1, e2, e3⟩ := fi_T hr.f
    rw [e1, e2, e3]
    refine ⟨(fun e => by cases e), fun _ => ⟨fun _ => ⟨fun hin => ?_, fun hout => ?_⟩, fun _ => ⟨fun hin => ?_, fun _ => ?_⟩⟩⟩
    · have hq := is_four hin
      have hr2 : Rel (iA (pk (sel4 z3 (u1 (iA (pk p)) 0 z4) (u1 (iA (pk p)) 4 z4) (u1 (iA (pk p)) 8 z4) (u1 (iA (pk p)) 12 z4) (iA (pk p))))) (iA (rlL (iA (rk q w)) z3 z4 w)) w := rel_setr hn hq hx0 hx1
      have hop : RX (i < n) (5000 * (i + 1)) (iA (pk (sel4 z3 (u1 (iA (pk p)) 0 z4) (u1 (iA (pk p)) 4 z4) (u1 (iA (pk p)) 8 z4) (u1 (iA (pk p)) 12 z4) (iA (pk p))))) (iA (rlL (iA (rk q w)) z3 z4 w)) w := ⟨hlt, ⟨hr2.w0, hr2.t0, hr2.t1, hr2.t2, hr2.t3⟩, hwk⟩

      exact ⟨hq, rfl, rfl, rfl, rfl, ⟨hop⟩, rfl, rfl, rfl, rfl, rfl, ⟨rfl, rfl⟩, rfl, hwi⟩
    · obtain ⟨h0, h1, h2, h3⟩ := not_four hout
      have hr2 : Rel (iA (pk (sel4 z3 (u1 (iA (pk p)) 0 z4) (u1 (iA (pk p)) 4 z4) (u1 (iA (pk p)) 8 z4) (u1 (iA (pk p)) 12 z4) (iA (pk p))))) (iA (rk q w)) w := by rw [sel4_d h0 h1 h2 h3]; exact hn.nf
      have hop : RX (i < n) (5000 * (i + 1)) (iA (pk (sel4 z3 (u1 (iA (pk p)) 0 z4) (u1 (iA (pk p)) 4 z4) (u1 (iA (pk p)) 8 z4) (u1 (iA (pk p)) 12 z4) (iA (pk p))))) (iA (rk q w)) w := ⟨hlt, ⟨hr2.w0, hr2.t0, hr2.t1, hr2.t2, hr2.t3⟩, hwk⟩

      exact ⟨rfl, rfl, rfl, rfl, ⟨hop⟩, rfl, rfl, rfl, rfl, rfl, ⟨rfl, rfl⟩, rfl, hwi⟩
    · have hq := is_four' hin
      have hr2 : Rel (iA (pk (sel4 z3 (scP (iA (pk p)) 0 w z4) (scP (iA (pk p)) 1 w z4) (scP (iA (pk p)) 2 w z4) (scP (iA (pk p)) 3 w z4) (iA (pk p))))) (sel4 z3 (seR (iA (rk q w)) 0 z4) (seR (iA (rk q w)) 1 z4) (seR (iA (rk q w)) 2 z4) (seR (iA (rk q w)) 3 z4) (iA (rk q w))) w := rel_setc hn hw6 hq hx0 hx1
      have hop : RX (i < n) (5000 * (i + 1)) (iA (pk (sel4 z3 (scP (iA (pk p)) 0 w z4) (scP (iA (pk p)) 1 w z4) (scP (iA (pk p)) 2 w z4) (scP (iA (pk p)) 3 w z4) (iA (pk p))))) (iA (rk (sel4 z3 (seR (iA (rk q w)) 0 z4) (seR (iA (rk q w)) 1 z4) (seR (iA (rk q w)) 2 z4) (seR (iA (rk q w)) 3 z4) (iA (rk q w))) (iA (rk q w) 16))) w := ⟨hlt, ⟨hr2.w0, hr2.t0, hr2.t1, hr2.t2, hr2.t3⟩, hwk⟩

      exact ⟨hq, rfl, rfl, rfl, rfl, ⟨hop⟩, rfl, rfl, rfl, rfl, rfl, ⟨rfl, rfl⟩, rfl, hwi⟩
    · have hop : RX (i < n) (5000 * (i + 1)) (iA (pk (iA (pk p)))) (iA (rk q w)) w := ⟨hlt, ⟨hn.w0, hn.t0, hn.t1, hn.t2, hn.t3⟩, hwk⟩
      exact ⟨rfl, rfl, rfl, rfl, ⟨hop⟩, rfl, rfl, rfl, rfl, rfl, ⟨rfl, rfl⟩, rfl, hwi⟩
theorem two_nf {s' : SW} {P : List C → List C → Prop} (h : TwoL s' P) : ∃ p q w, P (pk p) (rk q w) ∧ refT s' [⟨pk p, 56⟩, ⟨rk q w, 32⟩] := by
  unfold TwoL at h
  split at h
  · rename_i l ty l2 ty2 rest
    obtain ⟨rfl, rfl, hl, hl2, hp⟩ := h
    refine ⟨iA l, iA l2, iA l2 16, ?_, ?_⟩
    · rw [← wfP_eq hl, ← wfR_eq hl2]; exact hp
    · have h2 : refS [⟨l, 56⟩, ⟨l2, 32⟩] [⟨pk (iA l), 56⟩, ⟨rk (iA l2) (iA l2 16), 32⟩] := by
        rw [← wfP_eq hl, ← wfR_eq hl2]
        exact refS_refl _
      exact h2
  · exact h.elim
theorem three_nf {s' : SW} {z1 z2 z3 z4 : Int} {P : List C → List C → Prop} (h : ThreeL s' z1 z2 z3 z4 P) : ∃ p q w, P (pk p) (rk q w) ∧ refT s' [⟨pk p, 56⟩, ⟨rk q w, 32⟩, ⟨[.i false .i64 z1, .i false .i64 z2, .i false .i64 z3, .i false .u16 z4], 34⟩] := by
  unfold ThreeL at h
  split at h
  · rename_i l ty l2 ty2 y1 y2 y3 y4 ty3 rest
    obtain ⟨rfl, rfl, rfl, rfl, rfl, rfl, rfl, hl, hl2, hp⟩ := h
    refine ⟨iA l, iA l2, iA l2 16, ?_, ?_⟩
    · rw [← wfP_eq hl, ← wfR_eq hl2]; exact hp
    · have h2 : refS [⟨l, 56⟩, ⟨l2, 32⟩, ⟨[.i false .i64 y1, .i false .i64 y2, .i false .i64 y3, .i false .u16 y4], 34⟩] [⟨pk (iA l), 56⟩, ⟨rk (iA l2) (iA l2 16), 32⟩, ⟨[.i false .i64 y1, .i false .i64 y2, .i false .i64 y3, .i false .u16 y4], 34⟩] := by
        rw [← wfP_eq hl, ← wfR_eq hl2]
        exact refS_refl _
      exact h2
  · exact h.elim
theorem AR.re {L u at_ mk : Int} {p q : Nat → Int} {w : Int} (h : AR L u at_ mk p q w) : AR w u at_ mk p q w := ⟨h.w0, Int.le_refl _, h.k, h.ku, h.d, h.e, h.n, h.m, h.f⟩
theorem RC.re {L u : Int} {p q : Nat → Int} {w : Int} (h : RC L u p q w) : RC w u p q w := ⟨h.r, Int.le_refl _, h.k, h.d, h.f⟩
inductive G5 where
  | o (i : Nat) (p q : Nat → Int) (w : Int)
  | m (i : Nat) (u : Int) (p q : Nat → Int) (w : Int)
  | a (i : Nat) (u at_ mk : Int) (p q : Nat → Int) (w : Int)
  | c (i : Nat) (u : Int) (p q : Nat → Int) (w : Int)
def g5C (E : World) (b : Option Addr) (n i : Nat) (u : Int) : Prop := i < n ∧ n ≤ 40 ∧ 0 ≤ rI E b i 3 ∧ rI E b i 3 < 65536 ∧ u ≤ 5000 * (i + 1)
def g5H (E : World) (b : Option Addr) (n : Nat) : G5 → Prop
  | .o i p q w => Rel (iA (pk p)) (iA (rk q w)) w ∧ w ≤ 5000 * i ∧ n ≤ 40
  | .m i u p q w => Rel (iA (pk p)) (iA (rk q w)) w ∧ w ≤ u ∧ u ≤ w + 5000 ∧ g5C E b n i u
  | .a i u at_ mk p q w => AR w u at_ mk (iA (pk p)) (iA (rk q w)) w ∧ g5C E b n i u
  | .c i u p q w => RC w u (iA (pk p)) (iA (rk q w)) w ∧ g5C E b n i u
def g5M (n : Nat) : G5 → Nat
  | .o i _ _ _ => (n - i) * 30000
  | .m i u _ _ w => (n - (i + 1)) * 30000 + (5004 + 4 * (u - w).toNat)
  | .a i u at_ _ _ _ w => (n - (i + 1)) * 30000 + (5003 + 4 * (u - w).toNat + bif decide (w = at_) then 2 else 0)
  | .c i u _ _ w => (n - (i + 1)) * 30000 + ((u - w).toNat + 1)
noncomputable def g5T (E : World) : G5 → List Item
  | .o _ _ _ _ => h4o E
  | .m _ _ _ _ _ => h4m E
  | .a _ _ _ _ _ _ _ => h4a E
  | .c _ _ _ _ _ => h4c E
def g5L (b : Option Addr) (n c : Nat) : G5 → List (Nat × SV)
  | .o i _ _ _ => l4o b n c i
  | .m i u _ _ _ => l4m b n c i u
  | .a i u at_ mk _ _ _ => l4a b n c i u at_ mk
  | .c i u _ _ _ => l4m b n c i u
def g5S (E : World) (a : Option Addr) : G5 → SW
  | .o _ p q w => [⟨pk p, 56⟩, ⟨rk q w, 32⟩]
  | .m i _ p q w => [⟨pk p, 56⟩, ⟨rk q w, 32⟩, ⟨[.i false .i64 (rI E a i 0), .i false .i64 (rI E a i 1), .i false .i64 (rI E a i 2), .i false .u16 (rI E a i 3)], 34⟩]
  | .a i _ _ _ p q w => [⟨pk p, 56⟩, ⟨rk q w, 32⟩, ⟨[.i false .i64 (rI E a i 0), .i false .i64 (rI E a i 1), .i false .i64 (rI E a i 2), .i false .u16 (rI E a i 3)], 34⟩]
  | .c i _ p q w => [⟨pk p, 56⟩, ⟨rk q w, 32⟩, ⟨[.i false .i64 (rI E a i 0), .i false .i64 (rI E a i 1), .i false .i64 (rI E a i 2), .i false .u16 (rI E a i 3)], 34⟩]
set_option maxHeartbeats 1000000 in
theorem jumps_calls (W : World) (a : Option Addr) (n c : Nat) (hmx : n ≤ maxLen) (hz : a = none → n = 0) (he : ∀ j, j < n → eRow W a (j * 4) [.i .i64, .i .i64, .i .i64, .i .u16] = true) :
    Calls Try.prog 4 #[.slice a n c] W fun e w' => e = .returned (.bool true) ∧ Grew W w' := by
  have hE : ExtI W Rh0 0 W := ExtI.refl W _
  refine law_of_calls (P := pe W) (ρ := Rh0) ?_
  refine calls_loopT (c := c4) (P := pe W) orcX_ok tab_ok tab_sz mixed Try.func4 rfl (by decide) (vs := [.c (.es a n c)]) (s := []) (Nat.le_of_ble_eq_true rfl) 20000 2180 (g5H W a n) (g5M n) (g5T W) (g5L a n c) (g5S W a)
    (fun x => by cases x <;> rfl) (fun x hx => by cases x <;> exact ⟨rfl, rfl, Nat.le_of_ble_eq_true rfl⟩)
    (fun v _ => SV.sim v (.c (.b false true))) ?_ ?_ W 0 _ W (Inv.start hE) (by simp [SV.ok, C.ok, okL])
  · refine loopP_mono (fun t f s h => ?_) _ (I := fun todo fr s' => n ≤ 40 ∧ todo = h4o W ∧ fr.nt = Try.f4.ntmps ∧ refP fr (l4o a n c 0) ∧ refT s' [⟨pk (fun _ => 0), 56⟩, ⟨rk (fun _ => 0) 0, 32⟩]) ?_
    · exact ⟨.o 0 (fun _ => 0) (fun _ => 0) 0, ⟨rel_0.nf, by decide, h.1⟩, h.2⟩
    · rw [pro4]
      refine ⟨fun _ => rfl, fun h => ⟨by have := of_decide_eq_false h; omega, ?_⟩⟩
      repeat' first | exact rfl | exact trivial | apply And.intro
  · intro g hg
    cases g with
    | o i p q w =>
      obtain ⟨h1, h2, h3⟩ := hg
      simp only [g5T, g5L, g5S]
      have hr := rnd_o W a n c h3 hz he i p q w h1 h2
      generalize run (pe W) (orcX W) (tabL fns) 20000 2180 (h4o W) (mkL Try.f4.ntmps (l4o a n c i)) [⟨pk p, 56⟩, ⟨rk q w, 32⟩] = T at hr ⊢
      refine loopP_mono (fun t f s h => ?_) _ hr
      cases hb : Nat.beq t.length 4 with
      | true =>
        rw [hb] at h
        obtain ⟨p', q', w', ⟨⟨ho⟩, e1, e2, e3⟩, e4⟩ := two_nf h
        have hk : w' ≤ 5000 * (i + 1) := ho.k
        have hlt := ho.a
        refine ⟨.o (i + 1) p' q' w', ⟨ho.r, by omega, h3⟩, ?_, e1, e2, e3, e4⟩
        show (n - (i + 1)) * 30000 < (n - i) * 30000
        omega
      | false =>
        rw [hb] at h
        obtain ⟨p', q', w', ⟨⟨ho⟩, e1, e2, e3⟩, e4⟩ := three_nf h
        obtain ⟨a1, a2, a3, a4⟩ := ho.a
        have hk := ho.k
        have hd := ho.d
        refine ⟨.m i _ p' q' w', ⟨ho.r, hk, hd, a1, h3, a2, a3, a4⟩, ?_, e1, e2, e3, e4⟩
        show (n - (i + 1)) * 30000 + (5004 + 4 * (IntKind.i64.wrap (w + rI W a i 0) - w').toNat) < (n - i) * 30000
        have hd : IntKind.i64.wrap (w + rI W a i 0) ≤ w' + 5000 := hd
        omega
    | m i u p q w =>
      obtain ⟨h1, h2, h3, h4, h5, h6, h7, h8⟩ := hg
      simp only [g5T, g5L, g5S]
      have hr := rnd_m W a n c i u p q w (rI W a i 0) (rI W a i 1) (rI W a i 2) (rI W a i 3) h1 (by omega) h2 h3
      generalize run (pe W) (orcX W) (tabL fns) 20000 2180 (h4m W) (mkL Try.f4.ntmps (l4m a n c i u)) [⟨pk p, 56⟩, ⟨rk q w, 32⟩, ⟨[.i false .i64 (rI W a i 0), .i false .i64 (rI W a i 1), .i false .i64 (rI W a i 2), .i false .u16 (rI W a i 3)], 34⟩] = T at hr ⊢
      refine loopP_mono (fun t f s h => ?_) _ hr
      cases hb : Nat.beq t.length 13 with
      | true =>
        rw [hb] at h
        obtain ⟨p', q', w', ⟨⟨ho⟩, e1, e2, e3⟩, e4⟩ := three_nf h
        have hs : w ≤ w' := ho.s
        have hk : w' ≤ _ := ho.k
        have hku := ho.ku
        refine ⟨.a i u _ 0 p' q' w', ⟨ho.re, h4, h5, h6, h7, h8⟩, ?_, e1, e2, e3, e4⟩
        show (n - (i + 1)) * 30000 + (5003 + 4 * (u - w').toNat + bif decide (w' = _) then 2 else 0) < (n - (i + 1)) * 30000 + (5004 + 4 * (u - w).toNat)
        rw [decide_eq_false (show ¬ w' = nxA (iA (pk p)) [0, 1, 2, 3] 0 false from fun e => (ho.f e).2.1 rfl)]
        simp only [cond_false]
        omega
      | false =>
        rw [hb] at h
        obtain ⟨p', q', w', ⟨⟨ho⟩, e1, e2, e3⟩, e4⟩ := three_nf h
        have hd : u ≤ w' + 5000 := ho.d
        refine ⟨.c i u p' q' w', ⟨ho.re, h4, h5, h6, h7, h8⟩, ?_, e1, e2, e3, e4⟩
        show (n - (i + 1)) * 30000 + ((u - w').toNat + 1) < (n - (i + 1)) * 30000 + (5004 + 4 * (u - w).toNat)
        omega
    | a i u at_ mk p q w =>
      obtain ⟨h1, h4, h5, h6, h7, h8⟩ := hg
      simp only [g5T, g5L, g5S]
      have hr := rnd_a W a n c i w u at_ mk p q w (rI W a i 0) (rI W a i 1) (rI W a i 2) (rI W a i 3) h1 (by omega)
      generalize run (pe W) (orcX W) (tabL fns) 20000 2180 (h4a W) (mkL Try.f4.ntmps (l4a a n c i u at_ mk)) [⟨pk p, 56⟩, ⟨rk q w, 32⟩, ⟨[.i false .i64 (rI W a i 0), .i false .i64 (rI W a i 1), .i false .i64 (rI W a i 2), .i false .u16 (rI W a i 3)], 34⟩] = T at hr ⊢
      refine loopP_mono (fun t f s h => ?_) _ hr
      cases hb : Nat.beq t.length 13 with
      | true =>
        rw [hb] at h
        obtain ⟨p', q', w', ⟨⟨hlt, ho⟩, e1, e2, e3⟩, e4⟩ := three_nf h
        have hs : w + 1 ≤ w' := ho.s
        have hku := ho.ku
        refine ⟨.a i u at_ _ p' q' w', ⟨ho.re, h4, h5, h6, h7, h8⟩, ?_, e1, e2, e3, e4⟩
        show (n - (i + 1)) * 30000 + (5003 + 4 * (u - w').toNat + bif decide (w' = at_) then 2 else 0) < (n - (i + 1)) * 30000 + (5003 + 4 * (u - w).toNat + bif decide (w = at_) then 2 else 0)
        rw [decide_eq_false (show ¬ w = at_ by omega)]
        simp only [cond_false]
        cases decide (w' = at_) <;> simp only [cond_false, cond_true] <;> omega
      | false =>
        rw [hb] at h
        obtain ⟨p', q', w', ⟨⟨ho⟩, e1, e2, e3⟩, e4⟩ := three_nf h
        have hs : w ≤ w' := ho.s
        have hd : u ≤ w' + 5000 := ho.d
        refine ⟨.m i u p' q' w', ⟨ho.r, ho.k, ho.d, h4, h5, h6, h7, h8⟩, ?_, e1, e2, e3, e4⟩
        show (n - (i + 1)) * 30000 + (5004 + 4 * (u - w').toNat) < (n - (i + 1)) * 30000 + (5003 + 4 * (u - w).toNat + bif decide (w = at_) then 2 else 0)
        rw [decide_eq_true ho.a]
        simp only [cond_true]
        omega
    | c i u p q w =>
      obtain ⟨h1, h4, h5, h6, h7, h8⟩ := hg
      simp only [g5T, g5L, g5S]
      have hr := rnd_c W a n c h5 i u p q w (rI W a i 0) (rI W a i 1) (rI W a i 2) (rI W a i 3) h1 h4 h8 h6 h7
      generalize run (pe W) (orcX W) (tabL fns) 20000 2180 (h4c W) (mkL Try.f4.ntmps (l4m a n c i u)) [⟨pk p, 56⟩, ⟨rk q w, 32⟩, ⟨[.i false .i64 (rI W a i 0), .i false .i64 (rI W a i 1), .i false .i64 (rI W a i 2), .i false .u16 (rI W a i 3)], 34⟩] = T at hr ⊢
      refine loopP_mono (fun t f s h => ?_) _ hr
      cases hb : Nat.beq t.length 4 with
      | true =>
        rw [hb] at h
        obtain ⟨p', q', w', ⟨⟨ho⟩, e1, e2, e3⟩, e4⟩ := two_nf h
        have hk : w' ≤ 5000 * (i + 1) := ho.k
        refine ⟨.o (i + 1) p' q' w', ⟨ho.r, by omega, h5⟩, ?_, e1, e2, e3, e4⟩
        show (n - (i + 1)) * 30000 < (n - (i + 1)) * 30000 + ((u - w).toNat + 1)
        omega
      | false =>
        rw [hb] at h
        obtain ⟨p', q', w', ⟨⟨hlt, ho⟩, e1, e2, e3⟩, e4⟩ := three_nf h
        have hs : w + 1 ≤ w' := ho.s
        refine ⟨.c i u p' q' w', ⟨ho.re, h4, h5, h6, h7, h8⟩, ?_, e1, e2, e3, e4⟩
        show (n - (i + 1)) * 30000 + ((u - w').toNat + 1) < (n - (i + 1)) * 30000 + ((u - w).toNat + 1)
        omega
end Go.Proofs.Ytchebhjbcjjhpaa

