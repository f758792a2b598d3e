import Derived.Test.YtabklphoccicmaaNH
set_option linter.unusedVariables false
set_option linter.unusedSimpArgs false
namespace Go.Proofs.Ytabklphoccicmaa
open Go Go.Proofs Go.Proofs.Ytabklphoccicmaa.Ev Go.Proofs.Ytabklphoccicmaa.Ev.Ho Go.IntKind
set_option maxRecDepth 100000
theorem gvF_le {E : World} {to sz x : Int} {s : OU} (h : (s.o.length : Int) ≤ sz) : ((gvF E to sz x s).o.length : Int) ≤ sz := by
  by_cases he : (s.o.length : Int) = sz
  · unfold gvF; rw [if_pos he]; exact h
  · rw [gvF_len he]; omega
theorem agF_le {E : World} {to sz k : Int} : ∀ (n : Nat) {s : OU}, (s.o.length : Int) ≤ sz → ((agF E to sz k n s).o.length : Int) ≤ sz
  | 0, _, h => h
  | n + 1, _, h => agF_le n (gvF_le h)
theorem inF_le {E : World} {to sz fl : Int} : ∀ (j : Nat) {s : AU}, (s.u.o.length : Int) ≤ sz → ((inF E to sz fl j s).u.o.length : Int) ≤ sz
  | 0, _, h => h
  | j + 1, s, h => by
    by_cases he : (s.u.o.length : Int) = sz
    · rw [inF_full he]; exact h
    · by_cases hb : fl / (2 : Int) ^ j % 2 = 0
      · rw [inF_0 he hb]; exact inF_le j (gvF_le h)
      · rw [inF_1 he hb]; exact inF_le j (agF_le _ h)
theorem inF_ge {E : World} {to sz fl : Int} : ∀ (j : Nat) {s : AU}, s.u.o.length ≤ (inF E to sz fl j s).u.o.length
  | 0, _ => Nat.le_refl _
  | j + 1, s => by
    by_cases he : (s.u.o.length : Int) = sz
    · rw [inF_full he]; exact Nat.le_refl _
    · by_cases hb : fl / (2 : Int) ^ j % 2 = 0
      · rw [inF_0 he hb]; exact Nat.le_trans gvF_ge (inF_ge j (s := ⟨_, gvF E to sz (rdb E s.a s.u.m) s.u⟩))
      · rw [inF_1 he hb]; exact Nat.le_trans (agF_ge _ _) (inF_ge j (s := ⟨_, agF E to sz (rdb E s.a s.u.m % 16 * 256 + rdb E (IntKind.u32.wrap (s.a + 1)) s.u.m + 1) (rdb E s.a s.u.m / 16 + 3).toNat s.u⟩))
theorem inF_gt {E : World} {to sz fl : Int} {j : Nat} {s : AU} (he : (s.u.o.length : Int) ≠ sz) : s.u.o.length < (inF E to sz fl (j + 1) s).u.o.length := by
  by_cases hb : fl / (2 : Int) ^ j % 2 = 0
  · rw [inF_0 he hb]
    refine Nat.lt_of_lt_of_le ?_ (inF_ge j (s := ⟨_, gvF E to sz (rdb E s.a s.u.m) s.u⟩))
    show _ < (gvF E to sz (rdb E s.a s.u.m) s.u).o.length
    rw [gvF_len he]; exact Nat.lt_succ_self _
  · rw [inF_1 he hb]
    have h0 := rdb_0 (E := E) (a := s.a) (m := s.u.m)
    exact Nat.lt_of_lt_of_le (agF_gt (by omega) he) (inF_ge j (s := ⟨_, agF E to sz (rdb E s.a s.u.m % 16 * 256 + rdb E (IntKind.u32.wrap (s.a + 1)) s.u.m + 1) (rdb E s.a s.u.m / 16 + 3).toNat s.u⟩))
theorem PcI.ex {E : World} {to sz : Int} : ∀ (n : Nat) (s : AU), (s.u.o.length : Int) ≤ sz → sz - s.u.o.length ≤ n → ∃ R, PcI E to sz s R
  | n, s, h1, h2 => by
    by_cases he : (s.u.o.length : Int) = sz
    · exact ⟨s, .full he⟩
    · cases n with
      | zero => omega
      | succ n =>
        have hg := inF_gt (E := E) (to := to) (sz := sz) (fl := rdb E s.a s.u.m) (j := 7) (s := ⟨IntKind.u32.wrap (s.a + 1), s.u⟩) he
        have hl := inF_le (E := E) (to := to) (sz := sz) (fl := rdb E s.a s.u.m) 8 (s := ⟨IntKind.u32.wrap (s.a + 1), s.u⟩) h1
        obtain ⟨R, hR⟩ := PcI.ex n _ hl (by
          have hg : s.u.o.length < (inF E to sz (rdb E s.a s.u.m) 8 ⟨IntKind.u32.wrap (s.a + 1), s.u⟩).u.o.length := hg
          omega)
        exact ⟨R, .step he hR⟩
theorem PcI.det {E : World} {to sz : Int} {s R R' : AU} (h : PcI E to sz s R) (h' : PcI E to sz s R') : R = R' := by
  induction h with
  | full hf => exact h'.fin hf
  | step hn _ ih => exact ih (h'.inv hn)
end Go.Proofs.Ytabklphoccicmaa

