import Derived.Test.YtcegofobcjimlaaM
set_option linter.unusedVariables false
set_option linter.unusedSimpArgs false
namespace Go.Proofs.Ytcegofobcjimlaa
open Go Go.Proofs Go.Proofs.Ytcegofobcjimlaa.Ev Go.Proofs.Ytcegofobcjimlaa.Ev.Ho
set_option maxRecDepth 100000

structure G0 (T : Int) (s : KS) : Prop where
  c : s.c0 = true
  x : s.o1 = false
  x2 : s.o2 = false
  x3 : s.o3 = false
  w : s.sw = 0
  st : s.s0 = 15
  n0 : 0 ≤ s.now
  n1 : s.now ≤ 65536 * T
  a : s.now < 65536 * T → s.o0 = true
  e : s.now = 65536 * T → s.o0 = false
  l : s.l0 = T - s.now / 65536
structure F0 (s : KS) : Prop where
  c : s.c0 = false
  x : s.o1 = false
  x2 : s.o2 = false
  x3 : s.o3 = false
  w : s.sw = 0
  n0 : 0 ≤ s.now
  a : s.o0 = true
structure G1 (T : Int) (s : KS) : Prop where
  c : s.c1 = true
  x : s.o0 = false
  x2 : s.o2 = false
  x3 : s.o3 = false
  w : s.sw = 0
  st : s.s1 = 15
  n0 : 0 ≤ s.now
  n1 : s.now ≤ 65536 * T
  a : s.now < 65536 * T → s.o1 = true
  e : s.now = 65536 * T → s.o1 = false
  l : s.l1 = T - s.now / 65536
structure F1 (s : KS) : Prop where
  c : s.c1 = false
  x : s.o0 = false
  x2 : s.o2 = false
  x3 : s.o3 = false
  w : s.sw = 0
  n0 : 0 ≤ s.now
  a : s.o1 = true
/-- What a Run keeps. -/
structure RI (k : Int) (z y : KS) : Prop where
  g0 : ∀ T, T ≤ 64 → G0 T z → k ≤ 65536 * T → G0 T y
  g1 : ∀ T, T ≤ 64 → G1 T z → k ≤ 65536 * T → G1 T y
  f0 : F0 z → F0 y
  f1 : F1 z → F1 y
def RP (k : Int) (z : KS) : Prop := k ≤ 2199023255552 ∧ ((∃ T, T ≤ 64 ∧ G0 T z ∧ k ≤ 65536 * T) ∨ (∃ T, T ≤ 64 ∧ G1 T z ∧ k ≤ 65536 * T) ∨ F0 z ∨ F1 z)
def RQ (k : Int) (z y : KS) : Prop := RI k z y ∧ (z.now ≤ k → y.now = k)
theorem RI.quiet {k : Int} {z y : KS} (h : RI k z y) (hp : RP k z) : quiet y := by
  obtain ⟨_, ⟨T, hT, g, hk⟩ | ⟨T, hT, g, hk⟩ | f | f⟩ := hp
  · have := h.g0 T hT g hk; exact ⟨this.w, this.x2, this.x3⟩
  · have := h.g1 T hT g hk; exact ⟨this.w, this.x2, this.x3⟩
  · have := h.f0 f; exact ⟨this.w, this.x2, this.x3⟩
  · have := h.f1 f; exact ⟨this.w, this.x2, this.x3⟩
/-- While it isn't done, one is on. -/
theorem RI.on {k : Int} {z y : KS} (h : RI k z y) (hp : RP k z) (hk : y.now < k) : y.o0 = true ∨ y.o1 = true := by
  obtain ⟨_, ⟨T, hT, g, h2⟩ | ⟨T, hT, g, h2⟩ | f | f⟩ := hp
  · exact .inl ((h.g0 T hT g h2).a (by omega))
  · exact .inr ((h.g1 T hT g h2).a (by omega))
  · exact .inl (h.f0 f).a
  · exact .inr (h.f1 f).a
def mv (s : KS) (n : Int) : KS := ⟨n, s.l0, s.l1, s.s0, s.s1, s.sw, s.o0, s.o1, s.o2, s.o3, s.c0, s.c1⟩
theorem G0.step {T n : Int} {s : KS} (hT : T ≤ 64) (h : G0 T s) (h1 : s.now < n) (h2 : n ≤ (s.now / 32768 + 1) * 32768) (h3 : n ≤ 65536 * T) :
    (n % 32768 = 0 → G0 T (bt (n / 32768) (mv s n))) ∧ (n % 32768 ≠ 0 → G0 T (mv s n)) := by
  have ha := h.a (by omega)
  have hl := h.l
  have hn := h.n0
  refine ⟨fun h0 => ?_, fun h0 => ⟨h.c, h.x, h.x2, h.x3, h.w, h.st, by show 0 ≤ n; omega, h3, fun _ => ha, fun e => ?_, ?_⟩⟩
  · have hn2 : n = (s.now / 32768 + 1) * 32768 := by omega
    unfold bt
    have hm : (n / 32768).tmod 2 = n / 32768 % 2 := Int.tmod_eq_emod_of_nonneg (by omega)
    rw [hm]
    by_cases hp : n / 32768 % 2 = 0
    · rw [if_pos hp]
      have hj : ¬ ((mv s n).o1 = true ∧ (mv s n).c1 = true) := fun q => by have := h.x; rw [show (mv s n).o1 = s.o1 from rfl, this] at q; exact absurd q.1 (by decide)
      have hi : (mv s n).o0 = true ∧ (mv s n).c0 = true := ⟨ha, h.c⟩
      have hw : IntKind.i64.wrap ((mv s n).l0 - 1) = T - n / 65536 := by
        rw [show (mv s n).l0 = s.l0 from rfl, hl, wi64]; omega
      
      have e0 : sh0 (mv s n) = ⟨n, T - n / 65536, s.l1, s.s0, s.s1, s.sw, !(T - n / 65536 == 0), s.o1, s.o2, s.o3, s.c0, s.c1⟩ := by unfold sh0; rw [if_pos hi, hw]; rfl
      have e1 : ∀ s1 : KS, s1.o1 = s.o1 → sh1 s1 = s1 := fun s1 e => by unfold sh1; rw [if_neg (fun q => by have := h.x; rw [e, this] at q; cases q.1)]
      rw [e0, e1 ⟨n, T - n / 65536, s.l1, s.s0, s.s1, s.sw, !(T - n / 65536 == 0), s.o1, s.o2, s.o3, s.c0, s.c1⟩ rfl]
      refine ⟨h.c, h.x, h.x2, h.x3, h.w, h.st, by show 0 ≤ n; omega, h3, fun e => ?_, fun e => ?_, rfl⟩
      · replace e : n < 65536 * T := e
        show (!(T - n / 65536 == 0)) = true
        simp; omega
      · replace e : n = 65536 * T := e
        show (!(T - n / 65536 == 0)) = false
        simp; omega
    · rw [if_neg hp]
      refine ⟨h.c, h.x, h.x2, h.x3, h.w, h.st, by show 0 ≤ n; omega, h3, fun _ => ha, fun e => ?_, ?_⟩
      · replace e : n = 65536 * T := e
        omega
      · show s.l0 = T - n / 65536; omega
  · replace e : n = 65536 * T := e
    omega
  · show s.l0 = T - n / 65536; omega
theorem F0.step {n : Int} {s : KS} (h : F0 s) (h1 : s.now < n) : F0 (bt (n / 32768) (mv s n)) ∧ F0 (mv s n) := by
  have hm : F0 (mv s n) := ⟨h.c, h.x, h.x2, h.x3, h.w, by have := h.n0; show 0 ≤ n; omega, h.a⟩
  refine ⟨?_, hm⟩
  unfold bt
  have e0 : sh0 (mv s n) = mv s n := by unfold sh0; rw [if_neg (fun q => by have := hm.c; rw [q.2] at this; cases this)]
  have e1 : sh1 (mv s n) = mv s n := by unfold sh1; rw [if_neg (fun q => by have := hm.x; rw [q.1] at this; cases this)]
  split
  · rw [e0, e1]; exact hm
  · exact hm
theorem G1.step {T n : Int} {s : KS} (hT : T ≤ 64) (h : G1 T s) (h1 : s.now < n) (h2 : n ≤ (s.now / 32768 + 1) * 32768) (h3 : n ≤ 65536 * T) :
    (n % 32768 = 0 → G1 T (bt (n / 32768) (mv s n))) ∧ (n % 32768 ≠ 0 → G1 T (mv s n)) := by
  have ha := h.a (by omega)
  have hl := h.l
  have hn := h.n0
  refine ⟨fun h0 => ?_, fun h0 => ⟨h.c, h.x, h.x2, h.x3, h.w, h.st, by show 0 ≤ n; omega, h3, fun _ => ha, fun e => ?_, ?_⟩⟩
  · have hn2 : n = (s.now / 32768 + 1) * 32768 := by omega
    unfold bt
    have hm : (n / 32768).tmod 2 = n / 32768 % 2 := Int.tmod_eq_emod_of_nonneg (by omega)
    rw [hm]
    by_cases hp : n / 32768 % 2 = 0
    · rw [if_pos hp]
      have hj : ¬ ((mv s n).o0 = true ∧ (mv s n).c0 = true) := fun q => by have := h.x; rw [show (mv s n).o0 = s.o0 from rfl, this] at q; exact absurd q.1 (by decide)
      have hi : (mv s n).o1 = true ∧ (mv s n).c1 = true := ⟨ha, h.c⟩
      have hw : IntKind.i64.wrap ((mv s n).l1 - 1) = T - n / 65536 := by
        rw [show (mv s n).l1 = s.l1 from rfl, hl, wi64]; omega
      have e0 : sh0 (mv s n) = mv s n := by unfold sh0; rw [if_neg hj]
      rw [e0]; unfold sh1; rw [if_pos hi, hw]
      
      
      refine ⟨h.c, h.x, h.x2, h.x3, h.w, h.st, by show 0 ≤ n; omega, h3, fun e => ?_, fun e => ?_, rfl⟩
      · replace e : n < 65536 * T := e
        show (!(T - n / 65536 == 0)) = true
        simp; omega
      · replace e : n = 65536 * T := e
        show (!(T - n / 65536 == 0)) = false
        simp; omega
    · rw [if_neg hp]
      refine ⟨h.c, h.x, h.x2, h.x3, h.w, h.st, by show 0 ≤ n; omega, h3, fun _ => ha, fun e => ?_, ?_⟩
      · replace e : n = 65536 * T := e
        omega
      · show s.l1 = T - n / 65536; omega
  · replace e : n = 65536 * T := e
    omega
  · show s.l1 = T - n / 65536; omega
theorem F1.step {n : Int} {s : KS} (h : F1 s) (h1 : s.now < n) : F1 (bt (n / 32768) (mv s n)) ∧ F1 (mv s n) := by
  have hm : F1 (mv s n) := ⟨h.c, h.x, h.x2, h.x3, h.w, by have := h.n0; show 0 ≤ n; omega, h.a⟩
  refine ⟨?_, hm⟩
  unfold bt
  have e0 : sh0 (mv s n) = mv s n := by unfold sh0; rw [if_neg (fun q => by have := hm.x; rw [q.1] at this; cases this)]
  have e1 : sh1 (mv s n) = mv s n := by unfold sh1; rw [if_neg (fun q => by have := hm.c; rw [q.2] at this; cases this)]
  split
  · rw [e0, e1]; exact hm
  · exact hm
theorem RI.step {k n : Int} {z y : KS} (h : RI k z y) (hp : RP k z) (h1 : y.now < n) (h2 : n ≤ (y.now / 32768 + 1) * 32768) (h3 : n ≤ k) :
    (n % 32768 = 0 → RI k z (bt (n / 32768) (mv y n))) ∧ (n % 32768 ≠ 0 → RI k z (mv y n)) :=
  ⟨fun e => ⟨fun T hT g hk => ((h.g0 T hT g hk).step hT h1 h2 (by omega)).1 e, fun T hT g hk => ((h.g1 T hT g hk).step hT h1 h2 (by omega)).1 e, fun f => ((h.f0 f).step h1).1, fun f => ((h.f1 f).step h1).1⟩,
   fun e => ⟨fun T hT g hk => ((h.g0 T hT g hk).step hT h1 h2 (by omega)).2 e, fun T hT g hk => ((h.g1 T hT g hk).step hT h1 h2 (by omega)).2 e, fun f => ((h.f0 f).step h1).2, fun f => ((h.f1 f).step h1).2⟩⟩
theorem RI.refl {k : Int} {z : KS} : RI k z z := ⟨fun _ _ g _ => g, fun _ _ g _ => g, id, id⟩
theorem bt_now (n : Int) (k : KS) : (bt n k).now = k.now := by unfold bt sh0 sh1; split <;> (try split) <;> (try split) <;> rfl
end Go.Proofs.Ytcegofobcjimlaa

