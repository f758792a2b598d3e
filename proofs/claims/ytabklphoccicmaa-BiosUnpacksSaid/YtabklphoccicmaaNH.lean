import Derived.Test.YtabklphoccicmaaNG
import Derived.Test.YtabklphoccicmaaNE
set_option linter.unusedVariables false
set_option linter.unusedSimpArgs false
namespace Go.Proofs.Ytabklphoccicmaa
open Go Go.Proofs Go.Proofs.Ytabklphoccicmaa.Ev Go.Proofs.Ytabklphoccicmaa.Ev.Ho Go.IntKind
set_option maxRecDepth 100000
noncomputable def rdb (E : World) (a : Int) (m : Mm) : Int := rdv1 E a m % 256
theorem rdb_v {E : World} {a v : Int} {m : Mm} (h : v = rdv1 E a m) (hv : 0 ≤ v ∧ v ≤ 255) : rdb E a m = v := by unfold rdb; rw [← h]; omega
theorem rdb_0 {E : World} {a : Int} {m : Mm} : 0 ≤ rdb E a m := by unfold rdb; omega
noncomputable def inF (E : World) (to sz fl : Int) : Nat → AU → AU
  | 0, s => s
  | j + 1, s => if (s.u.o.length : Int) = sz then s
    else if fl / (2 : Int) ^ j % 2 = 0 then inF E to sz fl j ⟨IntKind.u32.wrap (s.a + 1), gvF E to sz (rdb E s.a s.u.m) s.u⟩
    else inF E to sz fl j ⟨IntKind.u32.wrap (s.a + 2), agF E to sz (rdb E s.a s.u.m % 16 * 256 + rdb E (IntKind.u32.wrap (s.a + 1)) s.u.m + 1) (rdb E s.a s.u.m / 16 + 3).toNat s.u⟩
inductive PcI (E : World) (to sz : Int) : AU → AU → Prop
  | full {s : AU} (h : (s.u.o.length : Int) = sz) : PcI E to sz s s
  | step {s R : AU} (h : (s.u.o.length : Int) ≠ sz) (r : PcI E to sz (inF E to sz (rdb E s.a s.u.m) 8 ⟨IntKind.u32.wrap (s.a + 1), s.u⟩) R) : PcI E to sz s R
theorem PcI.inv {E : World} {to sz : Int} {s R : AU} (h : PcI E to sz s R) (hn : (s.u.o.length : Int) ≠ sz) : PcI E to sz (inF E to sz (rdb E s.a s.u.m) 8 ⟨IntKind.u32.wrap (s.a + 1), s.u⟩) R := by
  cases h with
  | full h => exact absurd h hn
  | step _ r => exact r
theorem PcI.fin {E : World} {to sz : Int} {s R : AU} (h : PcI E to sz s R) (hf : (s.u.o.length : Int) = sz) : s = R := by
  cases h with
  | full h => rfl
  | step hn _ => exact absurd hf hn
theorem inF_full {E : World} {to sz fl : Int} {j : Nat} {s : AU} (h : (s.u.o.length : Int) = sz) : inF E to sz fl j s = s := by
  cases j with
  | zero => rfl
  | succ j => unfold inF; rw [if_pos h]
theorem inF_0 {E : World} {to sz fl : Int} {j : Nat} {s : AU} (h : (s.u.o.length : Int) ≠ sz) (hb : fl / (2 : Int) ^ j % 2 = 0) : inF E to sz fl (j + 1) s = inF E to sz fl j ⟨IntKind.u32.wrap (s.a + 1), gvF E to sz (rdb E s.a s.u.m) s.u⟩ := by
  rw [inF, if_neg h, if_pos hb]
theorem inF_1 {E : World} {to sz fl : Int} {j : Nat} {s : AU} (h : (s.u.o.length : Int) ≠ sz) (hb : fl / (2 : Int) ^ j % 2 ≠ 0) : inF E to sz fl (j + 1) s = inF E to sz fl j ⟨IntKind.u32.wrap (s.a + 2), agF E to sz (rdb E s.a s.u.m % 16 * 256 + rdb E (IntKind.u32.wrap (s.a + 1)) s.u.m + 1) (rdb E s.a s.u.m / 16 + 3).toNat s.u⟩ := by
  rw [inF, if_neg h, if_neg hb]
theorem gvF_ge {E : World} {to sz x : Int} {s : OU} : s.o.length ≤ (gvF E to sz x s).o.length := by
  by_cases h : (s.o.length : Int) = sz
  · unfold gvF; rw [if_pos h]; exact Nat.le_refl _
  · rw [gvF_len h]; omega
theorem agF_ge {E : World} {to sz k : Int} : ∀ (n : Nat) (s : OU), s.o.length ≤ (agF E to sz k n s).o.length
  | 0, _ => Nat.le_refl _
  | n + 1, s => Nat.le_trans gvF_ge (agF_ge n _)
theorem agF_gt {E : World} {to sz k : Int} {n : Nat} {s : OU} (hn : 0 < n) (h : (s.o.length : Int) ≠ sz) : s.o.length < (agF E to sz k n s).o.length := by
  cases n with
  | zero => omega
  | succ n =>
    have h1 := agF_ge (E := E) (to := to) (sz := sz) (k := k) n (gvF E to sz (agX k s.o) s)
    rw [gvF_len h] at h1
    show _ < (agF E to sz k n (gvF E to sz (agX k s.o) s)).o.length
    omega
theorem bitP (fl b : Int) (h0 : 0 ≤ b) (h1 : b ≤ 7) : bits .and .u8 (fl.fdiv (2 ^ min b.toNat 8)) 1 = fl / (2 : Int) ^ b.toNat % 2 := by
  have e : min b.toNat 8 = b.toNat := by omega
  rw [e, and_m1 .u8 _ (.inl (by decide)), Int.fdiv_eq_ediv_of_nonneg _ (Int.le_of_lt (Int.pow_pos (by decide)))]
noncomputable def orcH (E : World) : Orc := fun g vs s => match g with
  | 58 => (match frGo [mS 2, mN 3 4, rowB, rowB, rowN] vs s (fun vs0 π s1 s0 => match vs0 with
      | [.c (.p 0 0), .c (.i l1 .i64 c), .c (.i l2 .i64 k)] => some (hdG (pre := fun z => okM (Mm.mk (z.n 100000) (z.n 100001) (z.n 100002) (z.l 3) (z.l 4)) ∧ z.n 100002 ≤ 200000 + z.n 4 ∧ (z.l 2).length = (z.n 4).toNat ∧ z.n 4 ≤ z.n 3 ∧ 0 ≤ z.n 4 ∧ (1 ≤ k ∧ k ≤ 5000) ∧ 0 ≤ c ∧ c ≤ 100) (fun z hz hp => HD.args (vs := [.c (.p 0 0), .c (.i l1 .i64 c), .c (.i l2 .i64 k)]) (by simp [simL, SV.sim, C.sim]) (ag_c E c k z hz hp)) (by rfl) π s1 s0)
      | _ => none) with
    | some t => some t
    | none => (orcG E) g vs s)
  | g => (orcG E) g vs s
theorem orcH_ok {E : World} : OrcOK (pe E) (orcH E) := by
  intro g vs s t h
  unfold orcH at h
  split at h
  · split at h
    · rename_i hfr; cases h
      obtain ⟨π, s1, hq, hK, hv, hok, hpd⟩ := frGo_spec (P := pe E) hfr
      split at hK
      · rename_i heq; cases hK
        rw [heq] at hv hok
        exact hpd _ _ (hdG_ok _ _ π s1 hq hv hok)
      · cases hK
    · exact orcG_ok _ _ _ _ h
  · exact orcG_ok _ _ _ _ h
noncomputable def pc_td (E : World) : List Item := headOf (run (pe E) (orcH E) (tabL fns) 20000 (2 ^ 200 - 1) [.code (Try.f39.body.getD .skip)] ⟨Try.f39.ntmps, mkFrGo (Tr.mk 12) 0 [.c (.p 0 0)]⟩ (mkM default [] [mS 2, mN 3 4, rowB, rowB, rowN] 0))
noncomputable def noT (t : Nat) : Tr → SW → Bool := fun tr _ => match tr.get t with | .t [] => true | .any => true | _ => false
noncomputable def pc2_td (E : World) : List Item := headOf (run (pe E) (orcH E) (tabL fns) 20000 (2 ^ 200 - 1) (pc_td E) (mkL Try.f39.ntmps (slC default ([(0, .c (.p 0 0))]))) (mkM default [] [mS 5, mN 3 6, .g HOLE, rowB, .g HOLE, rowB, rowN] 0))
theorem lnp (E : World) :
    ((pc_td E).length = 0 ∧ (pc2_td E).length = 0) =
     ((3 : Nat) = (0 : Nat) ∧ (6 : Nat) = (0 : Nat)) := by kernel_rfl
theorem agk (a b : Int) (ha : 0 ≤ a ∧ a ≤ 255) (hb : 0 ≤ b ∧ b ≤ 255) : IntKind.i64.wrap (IntKind.i64.wrap (IntKind.i64.wrap (IntKind.i64.wrap (bits .and .u8 (IntKind.u8.wrap a) 15) * 256) + IntKind.i64.wrap (IntKind.u8.wrap b)) + 1) = a % 16 * 256 + b + 1 := by
  have e1 : IntKind.u8.wrap a = a := by rw [wu8]; omega
  have e2 : IntKind.u8.wrap b = b := by rw [wu8]; omega
  rw [e1, e2, and_m4 .u8 _ (.inl (by decide)), wi64, wi64, wi64, wi64, wi64]; omega
theorem agc (a : Int) (ha : 0 ≤ a ∧ a ≤ 255) : IntKind.i64.wrap (IntKind.i64.wrap ((IntKind.u8.wrap a).fdiv 16) + 3) = a / 16 + 3 := by
  have e1 : IntKind.u8.wrap a = a := by rw [wu8]; omega
  rw [e1, fdiv_lit _ _ (by decide), wi64, wi64]; omega
noncomputable def pc_h0 (E : World) (R : AU) (z : PX) : Hd := ⟨3, anyH, (pc_td E), [(0, .c (.p 0 0))], [mS 5, mN 3 6, .g HOLE, rowB, .g HOLE, rowB, rowN], fun y => PcI E (z.n 2) (z.n 3) (AU.mk (y.n 1) (OU.mk (Mm.mk (y.n 100000) (y.n 100001) (y.n 100002) (y.l 3) (y.l 6)) (vals (y.l 5)))) R ∧ (y.n 2 = z.n 2 ∧ y.n 3 = z.n 3) ∧ okM (Mm.mk (y.n 100000) (y.n 100001) (y.n 100002) (y.l 3) (y.l 6)) ∧ y.n 100002 + z.n 4 ≤ z.n 100002 + y.n 4 ∧ (y.l 5).length = (y.n 4).toNat ∧ y.n 4 ≤ y.n 3, fun y => ((y.n 3 - y.n 4) * 20 + 9).toNat⟩
noncomputable def pc_h1 (E : World) (R : AU) (z : PX) : Hd := ⟨6, anyH, (pc2_td E), [(0, .c (.p 0 0)), (2, .r .u8 (0) (255)), (3, .r .i64 ((-1)) (7))], [mS 5, mN 3 6, .g HOLE, rowB, .g HOLE, rowB, rowN], fun y => (PcI E (z.n 2) (z.n 3) (inF E (z.n 2) (z.n 3) (y.n 91002) (y.n 91003 + 1).toNat (AU.mk (y.n 1) (OU.mk (Mm.mk (y.n 100000) (y.n 100001) (y.n 100002) (y.l 3) (y.l 6)) (vals (y.l 5))))) R ∧ (y.n 91003 = 7 → y.n 4 < y.n 3)) ∧ (y.n 2 = z.n 2 ∧ y.n 3 = z.n 3) ∧ okM (Mm.mk (y.n 100000) (y.n 100001) (y.n 100002) (y.l 3) (y.l 6)) ∧ y.n 100002 + z.n 4 ≤ z.n 100002 + y.n 4 ∧ (y.l 5).length = (y.n 4).toNat ∧ y.n 4 ≤ y.n 3, fun y => (if y.n 91003 = 7 then (y.n 3 - y.n 4) * 20 + 8 else (y.n 3 - y.n 4) * 20 + 11 + y.n 91003).toNat⟩
noncomputable def pc_hs (E : World) (R : AU) (z : PX) : List Hd := [pc_h0 E R z, pc_h1 E R z]
end Go.Proofs.Ytabklphoccicmaa

