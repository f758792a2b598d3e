import Derived.Test.YtabklphoccicmaaRJ
import Derived.Test.YtabklphoccicmaaRK
import Derived.Test.YtabklphoccicmaaR
set_option linter.unusedVariables false
set_option linter.unusedSimpArgs false
namespace Go.Proofs.Ytabklphoccicmaa
open Go Go.Proofs Go.Proofs.Ytabklphoccicmaa.Ev Go.Proofs.Ytabklphoccicmaa.Ev.Ho Go.IntKind
set_option maxRecDepth 100000
theorem gvN_le {E : World} {to sz x : Int} : ∀ (n : Nat) {s : OU}, (s.o.length : Int) ≤ sz → ((gvN E to sz x n s).o.length : Int) ≤ sz
  | 0, _, h => h
  | n + 1, _, h => gvN_le n (gvF_le h)
theorem gvN_ge {E : World} {to sz x : Int} : ∀ (n : Nat) {s : OU}, s.o.length ≤ (gvN E to sz x n s).o.length
  | 0, _ => Nat.le_refl _
  | n + 1, _ => Nat.le_trans gvF_ge (gvN_ge n)
theorem gvN_gt {E : World} {to sz x : Int} {n : Nat} {s : OU} (hn : 0 < n) (h : (s.o.length : Int) ≠ sz) : s.o.length < (gvN E to sz x n s).o.length := by
  cases n with
  | zero => omega
  | succ n => exact Nat.lt_of_lt_of_le (by rw [gvF_len h]; omega) (gvN_ge n)
theorem ltF_le {E : World} {to sz : Int} : ∀ (n : Nat) {s : AU}, (s.u.o.length : Int) ≤ sz → ((ltF E to sz n s).u.o.length : Int) ≤ sz
  | 0, _, h => h
  | n + 1, s, h => by
    unfold ltF; split
    · exact h
    · exact ltF_le n (s := ⟨IntKind.u32.wrap (s.a + 1), gvF E to sz (rdb E s.a s.u.m) s.u⟩) (gvF_le h)
theorem ltF_ge {E : World} {to sz : Int} : ∀ (n : Nat) {s : AU}, s.u.o.length ≤ (ltF E to sz n s).u.o.length
  | 0, _ => Nat.le_refl _
  | n + 1, s => by
    unfold ltF; split
    · exact Nat.le_refl _
    · exact Nat.le_trans gvF_ge (ltF_ge n (s := ⟨IntKind.u32.wrap (s.a + 1), gvF E to sz (rdb E s.a s.u.m) s.u⟩))
theorem ltF_gt {E : World} {to sz : Int} {n : Nat} {s : AU} (hn : 0 < n) (h : (s.u.o.length : Int) ≠ sz) : s.u.o.length < (ltF E to sz n s).u.o.length := by
  cases n with
  | zero => omega
  | succ n =>
    unfold ltF; rw [if_neg h]
    exact Nat.lt_of_lt_of_le (by rw [gvF_len h]; omega) (ltF_ge n (s := ⟨IntKind.u32.wrap (s.a + 1), gvF E to sz (rdb E s.a s.u.m) s.u⟩))
theorem ruF_le {E : World} {to sz : Int} {s : AU} (h : (s.u.o.length : Int) ≤ sz) : ((ruF E to sz s).u.o.length : Int) ≤ sz := by
  unfold ruF; split
  · exact gvN_le _ h
  · exact ltF_le _ h
theorem ruF_gt {E : World} {to sz : Int} {s : AU} (h : (s.u.o.length : Int) ≠ sz) : s.u.o.length < (ruF E to sz s).u.o.length := by
  have h0 := rdb_0 (E := E) (a := s.a) (m := s.u.m)
  unfold ruF; split
  · exact gvN_gt (by omega) h
  · exact ltF_gt (s := ⟨IntKind.u32.wrap (s.a + 1), s.u⟩) (by omega) h
theorem RuI.ex {E : World} {to sz : Int} : ∀ (n : Nat) (s : AU), (s.u.o.length : Int) ≤ sz → sz - s.u.o.length ≤ n → ∃ R, RuI E to sz s R
  | n, s, h1, h2 => by
    by_cases he : (s.u.o.length : Int) = sz
    · exact ⟨s, .full he⟩
    · cases n with
      | zero => omega
      | succ n =>
        have hg := ruF_gt (E := E) (to := to) he
        have hl := ruF_le (E := E) (to := to) h1
        obtain ⟨R, hR⟩ := RuI.ex n _ hl (by omega)
        exact ⟨R, .step he hR⟩
theorem UpI.ex (E : World) (f t : Int) (m : Mm) : ∃ R, UpI E f t m R := by
  have hs : 0 ≤ upS E f m := by unfold upS; omega
  have hl : ((upA f m).u.o.length : Int) = 0 := rfl
  by_cases h : upS E f m = 0
  · exact ⟨⟨0, ⟨m, []⟩⟩, fun _ => rfl, fun g => absurd h g, fun g => absurd h g, fun g => absurd h g, fun g => absurd h g, fun g => absurd h g, fun g => absurd h g⟩
  by_cases k16 : upK E f m = 16
  · obtain ⟨R, hR⟩ := PcI.ex (E := E) (to := alF 2 t) (sz := upS E f m) (upS E f m).toNat (upA f m) (by omega) (by omega)
    exact ⟨R, fun g => absurd g h, fun _ _ => hR, fun _ _ => by omega, fun _ _ => by omega, fun _ _ => by omega, fun _ _ => by omega, fun _ _ => by omega⟩
  by_cases k48 : upK E f m = 48
  · obtain ⟨R, hR⟩ := RuI.ex (E := E) (to := alF 2 t) (sz := upS E f m) (upS E f m).toNat (upA f m) (by omega) (by omega)
    exact ⟨R, fun g => absurd g h, fun _ _ => by omega, fun _ _ => hR, fun _ _ => by omega, fun _ _ => by omega, fun _ _ => by omega, fun _ _ _ => by omega⟩
  by_cases k36 : upK E f m = 36
  · exact ⟨⟨0, _⟩, fun g => absurd g h, fun _ _ => by omega, fun _ _ => by omega, fun _ _ => ⟨⟨rfl⟩⟩, fun _ _ => by omega, fun _ _ => by omega, fun _ _ _ _ => by omega⟩
  by_cases k40 : upK E f m = 40
  · exact ⟨⟨0, _⟩, fun g => absurd g h, fun _ _ => by omega, fun _ _ => by omega, fun _ _ => by omega, fun _ _ => ⟨⟨rfl⟩⟩, fun _ _ => by omega, fun _ _ _ _ _ => by omega⟩
  by_cases k129 : upK E f m = 129
  · exact ⟨_, fun g => absurd g h, fun _ _ => by omega, fun _ _ => by omega, fun _ _ => by omega, fun _ _ => by omega, fun _ _ => rfl, fun _ _ _ _ _ _ => by omega⟩
  · exact ⟨⟨0, ⟨m, []⟩⟩, fun g => absurd g h, fun _ _ => by omega, fun _ _ => by omega, fun _ _ => by omega, fun _ _ => by omega, fun _ _ => by omega, fun _ _ _ _ _ _ => rfl⟩
noncomputable def upR (E : World) (f t : Int) (m : Mm) : AU := Classical.choose (UpI.ex E f t m)
theorem upR_s (E : World) (f t : Int) (m : Mm) : UpI E f t m (upR E f t m) := Classical.choose_spec (UpI.ex E f t m)
theorem up2_c (E : World) (f t : Int) (z : PX) (hz : rgM z [mB 2, rowB, rowN] 0) (hp : (fun z => okM (Mm.mk (z.n 0) (z.n 1) (z.n 2) (z.l 1) (z.l 2)) ∧ z.n 2 = 0 ∧ (0 ≤ f ∧ f ≤ 4294967295) ∧ (0 ≤ t ∧ t ≤ 4294967295)) z) : HD (pe E) 25 [.c (.ifc 36 0 0), .c (.i false .u32 f), .c (.i false .u32 t)] [mB 2, rowB, rowN] [mB 3, rowB, .g HOLE, rowN] (.c (.r .i64 0 65535)) (fun z y => ((Mm.mk (y.n 0) (y.n 1) (y.n 2) (y.l 1) (y.l 3)) = fiF E (alF 2 t) (upR E f t (Mm.mk (z.n 0) (z.n 1) (z.n 2) (z.l 1) (z.l 2))).u ∧ y.n 90000 = (upR E f t (Mm.mk (z.n 0) (z.n 1) (z.n 2) (z.l 1) (z.l 2))).u.o.length) ∧ okM (Mm.mk (y.n 0) (y.n 1) (y.n 2) (y.l 1) (y.l 3))) z :=
  (up_c E f t (upR E f t (Mm.mk (z.n 0) (z.n 1) (z.n 2) (z.l 1) (z.l 2))) z hz ⟨hp.1, hp.2.1, hp.2.2.1, hp.2.2.2, upR_s E f t (Mm.mk (z.n 0) (z.n 1) (z.n 2) (z.l 1) (z.l 2))⟩).imp (fun y _ _ h => h)
theorem ud2_c (E : World) (f t : Int) (z : PX) (hz : rgM z [mB 2, rowB, rowN] 0) (hp : (fun z => okM (Mm.mk (z.n 0) (z.n 1) (z.n 2) (z.l 1) (z.l 2)) ∧ z.n 2 = 0 ∧ (0 ≤ f ∧ f ≤ 4294967295) ∧ (0 ≤ t ∧ t ≤ 4294967295)) z) : HD (pe E) 26 [.c (.p 0 0), .c (.i false .u32 f), .c (.i false .u32 t)] [mB 2, rowB, rowN] [mB 3, rowB, .g HOLE, rowN] (.c (.r .i64 0 65535)) (fun z y => ((Mm.mk (y.n 0) (y.n 1) (y.n 2) (y.l 1) (y.l 3)) = fiF E (alF 2 t) (upR E f t (Mm.mk (z.n 0) (z.n 1) (z.n 2) (z.l 1) (z.l 2))).u ∧ y.n 90000 = (upR E f t (Mm.mk (z.n 0) (z.n 1) (z.n 2) (z.l 1) (z.l 2))).u.o.length) ∧ okM (Mm.mk (y.n 0) (y.n 1) (y.n 2) (y.l 1) (y.l 3))) z :=
  (ud_c E f t (upR E f t (Mm.mk (z.n 0) (z.n 1) (z.n 2) (z.l 1) (z.l 2))) z hz ⟨hp.1, hp.2.1, hp.2.2.1, hp.2.2.2, upR_s E f t (Mm.mk (z.n 0) (z.n 1) (z.n 2) (z.l 1) (z.l 2))⟩).imp (fun y _ _ h => h)
noncomputable def orcW (E : World) : Orc := fun g vs s => match g with
  | 21 => (match frGo [] vs s (fun vs0 π s1 s0 => match vs0 with
      | [.a [.es a n m, .i l1 .u32 f, .i l2 .u32 t, .i l3 .u32 c, .b l4 fast, .i l5 .i64 k, .i l6 .u32 p]] => some (hdG (pre := fun _ => n ≤ 10000 ∧ eRows E a n 1 [.i .u8] = true) (fun z hz hp => HD.args (vs := [.a [.es a n m, .i l1 .u32 f, .i l2 .u32 t, .i l3 .u32 c, .b l4 fast, .i l5 .i64 k, .i l6 .u32 p]]) (by simp [simL, SV.sim, C.sim]) (two_c E a n m f t c k p fast z hz hp)) (by rfl) π s1 s0)
      | _ => none) with
    | some t => some t
    | none => (orcN E) g vs s)
  | 25 => (match frGo [mB 2, rowB, rowN] vs s (fun vs0 π s1 s0 => match vs0 with
      | [.c (.ifc 36 0 0), .c (.i l1 .u32 f), .c (.i l2 .u32 t)] => some (hdG (pre := fun z => okM (Mm.mk (z.n 0) (z.n 1) (z.n 2) (z.l 1) (z.l 2)) ∧ z.n 2 = 0 ∧ (0 ≤ f ∧ f ≤ 4294967295) ∧ (0 ≤ t ∧ t ≤ 4294967295)) (fun z hz hp => HD.args (vs := [.c (.ifc 36 0 0), .c (.i l1 .u32 f), .c (.i l2 .u32 t)]) (by simp [simL, SV.sim, C.sim]) (up2_c E f t z hz hp)) (by rfl) π s1 s0)
      | _ => none) with
    | some t => some t
    | none => (orcN E) g vs s)
  | 26 => (match frGo [mB 2, rowB, rowN] vs s (fun vs0 π s1 s0 => match vs0 with
      | [.c (.p 0 0), .c (.i l1 .u32 f), .c (.i l2 .u32 t)] => some (hdG (pre := fun z => okM (Mm.mk (z.n 0) (z.n 1) (z.n 2) (z.l 1) (z.l 2)) ∧ z.n 2 = 0 ∧ (0 ≤ f ∧ f ≤ 4294967295) ∧ (0 ≤ t ∧ t ≤ 4294967295)) (fun z hz hp => HD.args (vs := [.c (.p 0 0), .c (.i l1 .u32 f), .c (.i l2 .u32 t)]) (by simp [simL, SV.sim, C.sim]) (ud2_c E f t z hz hp)) (by rfl) π s1 s0)
      | _ => none) with
    | some t => some t
    | none => (orcN E) g vs s)
  | 24 => (match frGo [rowN, rowN] vs s (fun vs0 π s1 s0 => match vs0 with
      | [.c (.rn 0 3 n1), .c (.rn 1 3 n2)] => some (hdG (pre := fun z => (n1 = n2 ∧ EqL (z.l 0) (z.l 1)) ∧ (z.l 0).length = n1 * 3 ∧ n1 ≤ 1000000) (fun z hz hp => HD.args (vs := [.c (.rn 0 3 n1), .c (.rn 1 3 n2)]) (by simp [simL, SV.sim, C.sim]) (same_c E n1 n2 z hz hp)) (by rfl) π s1 s0)
      | _ => none) with
    | some t => some t
    | none => (orcN E) g vs s)
  | g => (orcN E) g vs s
theorem orcW_ok {E : World} : OrcOK (pe E) (orcW E) := by
  intro g vs s t h
  unfold orcW at h
  split at h
  · split at h
    · rename_i hfr; cases h
      obtain ⟨π, s1, hq, hK, hv, hok, hpd⟩ := frGo_spec (P := pe E) hfr
      split at hK
      · rename_i heq; cases hK
        rw [heq] at hv hok
        exact hpd _ _ (hdG_ok _ _ π s1 hq hv hok)
      · cases hK
    · exact orcN_ok _ _ _ _ h
  · split at h
    · rename_i hfr; cases h
      obtain ⟨π, s1, hq, hK, hv, hok, hpd⟩ := frGo_spec (P := pe E) hfr
      split at hK
      · rename_i heq; cases hK
        rw [heq] at hv hok
        exact hpd _ _ (hdG_ok _ _ π s1 hq hv hok)
      · cases hK
    · exact orcN_ok _ _ _ _ h
  · split at h
    · rename_i hfr; cases h
      obtain ⟨π, s1, hq, hK, hv, hok, hpd⟩ := frGo_spec (P := pe E) hfr
      split at hK
      · rename_i heq; cases hK
        rw [heq] at hv hok
        exact hpd _ _ (hdG_ok _ _ π s1 hq hv hok)
      · cases hK
    · exact orcN_ok _ _ _ _ h
  · split at h
    · rename_i hfr; cases h
      obtain ⟨π, s1, hq, hK, hv, hok, hpd⟩ := frGo_spec (P := pe E) hfr
      split at hK
      · rename_i heq; cases hK
        rw [heq] at hv hok
        exact hpd _ _ (hdG_ok _ _ π s1 hq hv hok)
      · cases hK
    · exact orcN_ok _ _ _ _ h
  · exact orcN_ok _ _ _ _ h
end Go.Proofs.Ytabklphoccicmaa

