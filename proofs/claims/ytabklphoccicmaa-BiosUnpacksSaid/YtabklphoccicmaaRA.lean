import Derived.Test.YtabklphoccicmaaNK
import Derived.Test.YtabklphoccicmaaNC
import Derived.Test.YtabklphoccicmaaNL
set_option linter.unusedVariables false
set_option linter.unusedSimpArgs false
namespace Go.Proofs.Ytabklphoccicmaa
open Go Go.Proofs Go.Proofs.Ytabklphoccicmaa.Ev Go.Proofs.Ytabklphoccicmaa.Ev.Ho Go.IntKind
set_option maxRecDepth 100000
noncomputable def mSt (m : Nat) : MB := .o [.c (.p m 0), .i .u32] 72
noncomputable def headP : List Bool → Tree Lf → List Item
  | _, .leaf lf => cond lf.ended [] lf.todo
  | [], .node _ _ _ => []
  | b :: p, .node _ t f => cond b (headP p t) (headP p f)
  | p, .need _ t => headP p t
  | p, .pin _ _ _ k => headP p (k default)
  | _, .fail => []
noncomputable def gvN (E : World) (to sz x : Int) : Nat → OU → OU
  | 0, s => s
  | n + 1, s => gvN E to sz x n (gvF E to sz x s)
noncomputable def ltF (E : World) (to sz : Int) : Nat → AU → AU
  | 0, s => s
  | n + 1, s => if (s.u.o.length : Int) = sz then s else ltF E to sz n ⟨IntKind.u32.wrap (s.a + 1), gvF E to sz (rdb E s.a s.u.m) s.u⟩
noncomputable def ruF (E : World) (to sz : Int) (s : AU) : AU :=
  if 128 ≤ rdb E s.a s.u.m then ⟨IntKind.u32.wrap (s.a + 2), gvN E to sz (rdb E (IntKind.u32.wrap (s.a + 1)) s.u.m) (rdb E s.a s.u.m - 125).toNat s.u⟩
  else ltF E to sz (rdb E s.a s.u.m + 1).toNat ⟨IntKind.u32.wrap (s.a + 1), s.u⟩
inductive RuI (E : World) (to sz : Int) : AU → AU → Prop
  | full {s : AU} (h : (s.u.o.length : Int) = sz) : RuI E to sz s s
  | step {s R : AU} (h : (s.u.o.length : Int) ≠ sz) (r : RuI E to sz (ruF E to sz s) R) : RuI E to sz s R
theorem RuI.inv {E : World} {to sz : Int} {s R : AU} (h : RuI E to sz s R) (hn : (s.u.o.length : Int) ≠ sz) : RuI E to sz (ruF E to sz s) R := by
  cases h with
  | full h => exact absurd h hn
  | step _ r => exact r
theorem RuI.fin {E : World} {to sz : Int} {s R : AU} (h : RuI E to sz s R) (hf : (s.u.o.length : Int) = sz) : s = R := by
  cases h with
  | full h => rfl
  | step hn _ => exact absurd hf hn
theorem gvN_s {E : World} {to sz x : Int} {n : Int} {s : OU} (h : 0 < n) : gvN E to sz x n.toNat s = gvN E to sz x (n - 1).toNat (gvF E to sz x s) := by
  have e : n.toNat = (n - 1).toNat + 1 := by omega
  rw [e]; rfl
theorem gvN_0 {E : World} {to sz x : Int} {n : Int} {s : OU} (h : n ≤ 0) : gvN E to sz x n.toNat s = s := by
  have e : n.toNat = 0 := by omega
  rw [e]; rfl
theorem ltF_full {E : World} {to sz : Int} {n : Nat} {s : AU} (h : (s.u.o.length : Int) = sz) : ltF E to sz n s = s := by
  cases n with
  | zero => rfl
  | succ n => unfold ltF; rw [if_pos h]
theorem ltF_s {E : World} {to sz : Int} {n : Int} {s : AU} (h : (s.u.o.length : Int) ≠ sz) (hn : 0 < n) : ltF E to sz n.toNat s = ltF E to sz (n - 1).toNat ⟨IntKind.u32.wrap (s.a + 1), gvF E to sz (rdb E s.a s.u.m) s.u⟩ := by
  have e : n.toNat = (n - 1).toNat + 1 := by omega
  rw [e, ltF, if_neg h]
theorem ltF_0 {E : World} {to sz : Int} {n : Int} {s : AU} (h : n ≤ 0) : ltF E to sz n.toNat s = s := by
  have e : n.toNat = 0 := by omega
  rw [e]; rfl
theorem ruF_hi {E : World} {to sz a v w : Int} {s : OU} (h1 : rdb E a s.m = v) (h2 : rdb E (IntKind.u32.wrap (a + 1)) s.m = w) (h : 128 ≤ v) : ruF E to sz ⟨a, s⟩ = ⟨IntKind.u32.wrap (a + 2), gvN E to sz w (v - 125).toNat s⟩ := by
  unfold ruF; rw [if_pos (by rw [h1]; exact h), h1, h2]
theorem ruF_lo {E : World} {to sz a v : Int} {s : OU} (h1 : rdb E a s.m = v) (h : ¬ 128 ≤ v) : ruF E to sz ⟨a, s⟩ = ltF E to sz (v + 1).toNat ⟨IntKind.u32.wrap (a + 1), s⟩ := by
  unfold ruF; rw [if_neg (by rw [h1]; exact h), h1]
noncomputable def orcD (E : World) : Orc := fun g vs s => match g with
  | 49 => (match frGo [mO' 1 2, mN 3 4, rowI, rowB, rowN] vs s (fun vs0 π s1 s0 => match vs0 with
      | [.c (.p 0 0), .c (.i l1 .i64 x)] => some (hdG (pre := fun z => okM (Mm.mk (z.n 100000) (z.n 100001) (z.n 100002) (z.l 3) (z.l 4)) ∧ z.n 100002 ≤ 400000 ∧ (z.l 2).length = (z.n 3).toNat ∧ z.n 3 ≤ z.n 2 ∧ 0 ≤ x ∧ x ≤ 255) (fun z hz hp => HD.args (vs := [.c (.p 0 0), .c (.i l1 .i64 x)]) (by simp [simL, SV.sim, C.sim]) (pu_c E x z hz hp)) (by rfl) π s1 s0)
      | _ => none) with
    | some t => some t
    | none => (orcN E) g vs s)
  | g => (orcN E) g vs s
theorem orcD_ok {E : World} : OrcOK (pe E) (orcD E) := by
  intro g vs s t h
  unfold orcD at h
  split at h
  · split at h
    · rename_i hfr; cases h
      obtain ⟨π, s1, hq, hK, hv, hok, hpd⟩ := frGo_spec (P := pe E) hfr
      split at hK
      · rename_i heq; cases hK
        rw [heq] at hv hok
        exact hpd _ _ (hdG_ok _ _ π s1 hq hv hok)
      · cases hK
    · exact orcN_ok _ _ _ _ h
  · exact orcN_ok _ _ _ _ h
noncomputable def ru_td (E : World) : List Item := headP [] (run (pe E) (orcG E) (tabL fns) 20000 (2 ^ 200 - 1) [.code (Try.f40.body.getD .skip)] ⟨Try.f40.ntmps, mkFrGo (Tr.mk 12) 0 [.c (.p 0 0)]⟩ (mkM default [] [mS 2, mN 3 4, rowB, rowB, rowN] 0))
noncomputable def rd_td (E : World) : List Item := headP [] (run (pe E) (orcD E) (tabL fns) 20000 (2 ^ 200 - 1) [.code (Try.f45.body.getD .skip)] ⟨Try.f45.ntmps, mkFrGo (Tr.mk 12) 0 [.c (.p 0 0), .c (.p 1 0)]⟩ (mkM default [] [mSt 2, mO' 2 3, mN 4 5, rowI, rowB, rowN] 0))
noncomputable def rutt (E : World) : List Item := headP [true, true] (run (pe E) (orcG E) (tabL fns) 20000 (2 ^ 200 - 1) (ru_td E) (mkL Try.f40.ntmps (slC default ([(0, .c (.p 0 0))]))) (mkM default [] [mS 5, mN 3 6, .g HOLE, rowB, .g HOLE, rowB, rowN] 0))
noncomputable def rutf (E : World) : List Item := headP [true, false] (run (pe E) (orcG E) (tabL fns) 20000 (2 ^ 200 - 1) (ru_td E) (mkL Try.f40.ntmps (slC default ([(0, .c (.p 0 0))]))) (mkM default [] [mS 5, mN 3 6, .g HOLE, rowB, .g HOLE, rowB, rowN] 0))
noncomputable def rdtt (E : World) : List Item := headP [true, true] (run (pe E) (orcD E) (tabL fns) 20000 (2 ^ 200 - 1) (rd_td E) (mkL Try.f45.ntmps (slC default ([(0, .c (.p 0 0)), (1, .c (.p 1 0))]))) (mkM default [] [mSt 2, mO' 2 6, mN 4 7, .g HOLE, rowB, .g HOLE, rowI, rowN] 0))
noncomputable def rdtf (E : World) : List Item := headP [true, false] (run (pe E) (orcD E) (tabL fns) 20000 (2 ^ 200 - 1) (rd_td E) (mkL Try.f45.ntmps (slC default ([(0, .c (.p 0 0)), (1, .c (.p 1 0))]))) (mkM default [] [mSt 2, mO' 2 6, mN 4 7, .g HOLE, rowB, .g HOLE, rowI, rowN] 0))
end Go.Proofs.Ytabklphoccicmaa

