import Derived.Test.YtabklphoccicmaaX
set_option linter.unusedVariables false
set_option linter.unusedSimpArgs false
namespace Go.Proofs.Ytabklphoccicmaa
open Go Go.Proofs Go.Proofs.Ytabklphoccicmaa.Ev Go.Proofs.Ytabklphoccicmaa.Ev.Ho Go.IntKind
set_option maxRecDepth 100000
noncomputable def mS (o : Nat) : MB := .o [.c (.ifc 36 1 0), .i .u32, .i .u32, .r .i64 0 65535, .v o 1] 68
noncomputable def mN (b n : Nat) : MB := .o [.i .u32, .v b 1, .v n 3] 44
noncomputable def mO' (m o : Nat) : MB := .o [.c (.p m 0), .i .u32, .r .i64 0 65535, .v o 1] 76
noncomputable def rowI : MB := .row [.r .i64 0 255] 3
noncomputable def vals (l : List C) : List Int := (List.range l.length).map (rI l)
structure OU where
  m : Mm
  o : List Int
noncomputable def gvF (E : World) (to sz x : Int) (s : OU) : OU :=
  if (s.o.length : Int) = sz then s
  else if (s.o.length : Int) % 2 = 1 then ⟨wrm2 E (IntKind.u32.wrap (to + ((s.o.length : Int) - 1))) (s.o.getD (s.o.length - 1) 0 + 256 * x) s.m, s.o ++ [x]⟩
  else ⟨s.m, s.o ++ [x]⟩
theorem vals_len (l : List C) : (vals l).length = l.length := by simp [vals]
theorem vals_get (l : List C) (i : Nat) (h : i < l.length) : (vals l).getD i 0 = rI l i := by simp [vals, List.getD, h]
theorem vals_app {l : List C} {m : Nat} {k : IntKind} {b : Bool} {x : Int} (hm : m = l.length) : vals (rApp l m [C.i b k x]) = vals l ++ [x] := by
  subst hm
  have hl : (rApp l l.length [C.i b k x]).length = l.length + 1 := by rw [len_app (Nat.le_refl _)]; rfl
  have h1 : rI (rApp l l.length [C.i b k x]) l.length = x := by
    rw [rI_app_ge (Nat.le_refl _) (Nat.le_refl _), Nat.sub_self]; rfl
  have h2 : (List.range l.length).map (rI (rApp l l.length [C.i b k x])) = (List.range l.length).map (rI l) :=
    List.map_congr_left fun i hi => rI_app_lt (List.mem_range.1 hi) (Nat.le_refl _)
  unfold vals
  rw [hl, List.range_succ, List.map_append, h2, List.map_cons, List.map_nil, h1]
theorem gvF_len {E : World} {to sz x : Int} {s : OU} (h : (s.o.length : Int) ≠ sz) : (gvF E to sz x s).o.length = s.o.length + 1 := by
  unfold gvF; rw [if_neg h]; split <;> simp
noncomputable def agX (k : Int) (o : List Int) : Int := if k ≤ (o.length : Int) then o.getD ((o.length : Int) - k).toNat 0 else 0
noncomputable def agF (E : World) (to sz k : Int) : Nat → OU → OU
  | 0, s => s
  | n + 1, s => agF E to sz k n (gvF E to sz (agX k s.o) s)
theorem agF_s {E : World} {to sz k n i : Int} {s R : OU} (h : agF E to sz k (n - i).toNat s = R) (hi : i < n) : agF E to sz k (n - (i + 1)).toNat (gvF E to sz (agX k s.o) s) = R := by
  have e : (n - i).toNat = (n - (i + 1)).toNat + 1 := by omega
  rw [e] at h; exact h
structure AU where
  a : Int
  u : OU
noncomputable def dfF (E : World) (to sz : Int) : Nat → Int → Int → OU → AU
  | 0, _, at_, s => ⟨at_, s⟩
  | k + 1, last, at_, s => if (s.o.length : Int) = sz then ⟨at_, s⟩ else dfF E to sz k ((last + rdv1 E at_ s.m) % 256) (IntKind.u32.wrap (at_ + 1)) (gvF E to sz ((last + rdv1 E at_ s.m) % 256) s)
structure DfH (E : World) (to sz last at_ : Int) (s : OU) (R : AU) : Prop where
  h : ∃ k : Nat, sz ≤ s.o.length + k ∧ dfF E to sz k last at_ s = R
theorem DfH.fin {E : World} {to sz last at_ : Int} {s : OU} {R : AU} (h : DfH E to sz last at_ s R) (hf : (s.o.length : Int) = sz) : AU.mk at_ s = R := by
  obtain ⟨k, _, hk⟩ := h.h
  rw [← hk]
  cases k with
  | zero => rfl
  | succ k => unfold dfF; rw [if_pos hf]
theorem DfH.step {E : World} {to sz last at_ : Int} {s : OU} {R : AU} (h : DfH E to sz last at_ s R) (hf : (s.o.length : Int) < sz) : DfH E to sz ((last + rdv1 E at_ s.m) % 256) (IntKind.u32.wrap (at_ + 1)) (gvF E to sz ((last + rdv1 E at_ s.m) % 256) s) R := by
  obtain ⟨k, h1, hk⟩ := h.h
  have hne : (s.o.length : Int) ≠ sz := by omega
  cases k with
  | zero => omega
  | succ k =>
    unfold dfF at hk; rw [if_neg hne] at hk
    exact ⟨k, by rw [gvF_len hne]; omega, hk⟩
theorem ua (a b : Int) : IntKind.u32.wrap (a + IntKind.u32.wrap b) = IntKind.u32.wrap (a + b) := by rw [wu32, wu32, wu32]; omega
theorem or_ab (a x : Int) (ha : 0 ≤ a ∧ a ≤ 255) (hx : 0 ≤ x ∧ x ≤ 255) : bits .or .u32 (IntKind.u32.wrap a) (IntKind.u32.wrap (IntKind.u32.wrap x * 256)) = a + 256 * x := by
  have e1 : IntKind.u32.wrap a = ((a.toNat : Nat) : Int) := by rw [wu32]; omega
  have e2 : IntKind.u32.wrap (IntKind.u32.wrap x * 256) = ((2 ^ 8 * x.toNat : Nat) : Int) := by rw [wu32, wu32]; omega
  rw [e1, e2, bits_or_n .u32 rfl _ _ (by show a.toNat < 2 ^ 32; omega) (by show 2 ^ 8 * x.toNat < 2 ^ 32; omega), Nat.or_comm, ← Nat.two_pow_add_eq_or_of_lt (show a.toNat < 2 ^ 8 by omega)]
  omega
theorem su_ab (a x : Int) (ha : 0 ≤ a ∧ a ≤ 255) (hx : 0 ≤ x ∧ x ≤ 255) : IntKind.u32.wrap (IntKind.i64.wrap (a + IntKind.i64.wrap (256 * x))) = a + 256 * x := by
  rw [wu32, wi64, wi64]; omega
theorem gv1 {E : World} {to sz x : Int} {m : Mm} {l : List C} (h : (l.length : Int) = sz) : OU.mk m (vals l) = gvF E to sz x (OU.mk m (vals l)) := by
  unfold gvF; rw [if_pos (by rw [vals_len]; exact h)]
theorem gv3 {E : World} {to sz x : Int} {m : Mm} {l : List C} {n : Nat} {k : IntKind} {b : Bool} (h : (l.length : Int) ≠ sz) (ho : (l.length : Int) % 2 ≠ 1) (hn : n = l.length) : OU.mk m (vals (rApp l n [C.i b k x])) = gvF E to sz x (OU.mk m (vals l)) := by
  unfold gvF; rw [if_neg (by rw [vals_len]; exact h), if_neg (by rw [vals_len]; exact ho), vals_app hn]
theorem gv2 {E : World} {to sz x : Int} {m m' : Mm} {l : List C} {n : Nat} {k : IntKind} {b : Bool} (h : (l.length : Int) ≠ sz) (ho : (l.length : Int) % 2 = 1) (hn : n = l.length) (hm : m' = wrm2 E (IntKind.u32.wrap (to + ((l.length : Int) - 1))) (rI l (l.length - 1) + 256 * x) m) : OU.mk m' (vals (rApp l n [C.i b k x])) = gvF E to sz x (OU.mk m (vals l)) := by
  unfold gvF; rw [if_neg (by rw [vals_len]; exact h), if_pos (by rw [vals_len]; exact ho), vals_app hn, hm, vals_len, vals_get _ _ (by omega)]
end Go.Proofs.Ytabklphoccicmaa

