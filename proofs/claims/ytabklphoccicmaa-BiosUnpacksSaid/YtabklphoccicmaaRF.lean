import Derived.Test.YtabklphoccicmaaRA
set_option linter.unusedVariables false
set_option linter.unusedSimpArgs false
namespace Go.Proofs.Ytabklphoccicmaa
open Go Go.Proofs Go.Proofs.Ytabklphoccicmaa.Ev Go.Proofs.Ytabklphoccicmaa.Ev.Ho Go.IntKind
set_option maxRecDepth 100000
structure CU where
  c : Int
  f : Int
  u : OU
noncomputable def stF (E : World) (to sz root : Int) (e8 : Bool) (r : Int) (s : CU) : CU :=
  if rdb E s.c s.u.m / (2 : Int) ^ (7 - r).toNat % 2 = 0 then ⟨IntKind.u32.wrap (s.c - s.c % 2 + 2 * (rdb E s.c s.u.m % 64) + 2 + r), s.f, s.u⟩
  else if e8 = true then ⟨root, s.f, gvF E to sz (rdb E (IntKind.u32.wrap (s.c - s.c % 2 + 2 * (rdb E s.c s.u.m % 64) + 2 + r)) s.u.m) s.u⟩
  else if s.f < 0 then ⟨root, rdb E (IntKind.u32.wrap (s.c - s.c % 2 + 2 * (rdb E s.c s.u.m % 64) + 2 + r)) s.u.m % 16, s.u⟩
  else ⟨root, -1, gvF E to sz ((s.f + 16 * rdb E (IntKind.u32.wrap (s.c - s.c % 2 + 2 * (rdb E s.c s.u.m % 64) + 2 + r)) s.u.m) % 256) s.u⟩
noncomputable def btF (E : World) (to sz root : Int) (e8 : Bool) (w : Int) : Nat → CU → CU
  | 0, s => s
  | j + 1, s => if (s.u.o.length : Int) = sz then s else btF E to sz root e8 w j (stF E to sz root e8 (w / (2 : Int) ^ j % 2) s)
noncomputable def wdF (E : World) (to sz root : Int) (e8 : Bool) : Nat → Int → CU → CU
  | 0, _, s => s
  | n + 1, a, s => if (s.u.o.length : Int) = sz then s else wdF E to sz root e8 n (IntKind.u32.wrap (a + 4)) (btF E to sz root e8 (rdv4 E a s.u.m) 32 s)
def rup4 (a : Int) : Int := IntKind.u32.wrap ((a + 3) / 4 * 4)
structure CbH (E : World) (to sz root : Int) (e8 : Bool) (n : Int) (a w k : Int) (s : CU) (R : OU) : Prop where
  h : (wdF E to sz root e8 n.toNat a (btF E to sz root e8 w k.toNat s)).u = R
structure CdH (E : World) (to sz root : Int) (e8 : Bool) (n : Int) (a : Int) (s : CU) (R : OU) : Prop where
  h : (wdF E to sz root e8 n.toNat a s).u = R
structure CdI (E : World) (to sz : Int) (e8 : Bool) (s : AU) (R : OU) : Prop where
  h : CdH E to sz (IntKind.u32.wrap (s.a + 1)) e8 65536 (rup4 (IntKind.u32.wrap (s.a + (2 * rdb E s.a s.u.m + 2)))) ⟨IntKind.u32.wrap (s.a + 1), -1, s.u⟩ R
def fsV (b : Bool) (l : Int) : Int := if b = true then l else -1
noncomputable def mWk (m : Nat) : MB := .o [.c (.ifc 36 m 0), .i .u32, .i .u32] 95
theorem shr32 (w j : Int) (h0 : 0 ≤ j) (h1 : j ≤ 31) : w.fdiv (2 ^ min j.toNat 32) = w / (2 : Int) ^ j.toNat := by
  have e : min j.toNat 32 = j.toNat := by omega
  rw [e]; exact Int.fdiv_eq_ediv_of_nonneg _ (Int.le_of_lt (Int.pow_pos (by decide)))
theorem shrN (w : Int) (j : Nat) (h : 0 ≤ w) : 0 ≤ w / (2 : Int) ^ j := Int.ediv_nonneg h (Int.le_of_lt (Int.pow_pos (by decide)))
theorem rDl (w j : Int) (h0 : 0 ≤ j) (h1 : j ≤ 31) (hw : 0 ≤ w) : (w.fdiv (2 ^ min j.toNat 32)).tmod 2 = w / (2 : Int) ^ j.toNat % 2 := by
  rw [shr32 w j h0 h1, tmod_n _ _ (shrN w _ hw)]
theorem rPl (w j : Int) (h0 : 0 ≤ j) (h1 : j ≤ 31) : bits .and .u32 (w.fdiv (2 ^ min j.toNat 32)) 1 = w / (2 : Int) ^ j.toNat % 2 := by
  rw [shr32 w j h0 h1]; exact and_mask .u32 _ 1 (.inl (by decide))
theorem m2 (x : Int) : 0 ≤ x % 2 ∧ x % 2 ≤ 1 := by omega
theorem wr7 (r : Int) (h : 0 ≤ r ∧ r ≤ 1) : IntKind.u32.wrap (7 - r) = 7 - r := by rw [wu32]; omega
theorem adD (a v r : Int) (ha : 0 ≤ a) (hv : 0 ≤ v) : IntKind.u32.wrap (IntKind.u32.wrap (IntKind.u32.wrap (IntKind.u32.wrap (a - a.tmod 2) + IntKind.u32.wrap (2 * v.tmod 64)) + 2) + r) = IntKind.u32.wrap (a - a % 2 + 2 * (v % 64) + 2 + r) := by
  rw [tmod_n _ _ ha, tmod_n _ _ hv, wu32, wu32, wu32, wu32, wu32, wu32]; omega
theorem adP (a v r : Int) (ha : 0 ≤ a ∧ a ≤ 4294967295) : IntKind.u32.wrap (IntKind.u32.wrap (IntKind.u32.wrap (bits .andNot .u32 a 1 + IntKind.u32.wrap (2 * bits .and .u32 v 63)) + 2) + r) = IntKind.u32.wrap (a - a % 2 + 2 * (v % 64) + 2 + r) := by
  rw [al2 _ ha.1 (by omega), show bits .and .u32 v 63 = v % 64 from and_mask .u32 _ 6 (.inl (by decide)), wu32, wu32, wu32, wu32, wu32]; unfold alF; omega
theorem a255u (v : Int) (h : 0 ≤ v ∧ v ≤ 255) : bits .and .u32 v 255 = v := by
  rw [show bits .and .u32 v 255 = v % 256 from and_mask .u32 _ 8 (.inl (by decide))]; omega
theorem a15 (v : Int) : bits .and .u8 v 15 = v % 16 := and_mask .u8 _ 4 (.inl (by decide))
theorem fD (f x : Int) (hf : 0 ≤ f ∧ f ≤ 15) (hx : 0 ≤ x ∧ x ≤ 255) : (IntKind.i64.wrap (f + IntKind.i64.wrap (16 * x))).tmod 256 = (f + 16 * x) % 256 := by
  have e : IntKind.i64.wrap (f + IntKind.i64.wrap (16 * x)) = f + 16 * x := by rw [wi64, wi64]; omega
  rw [e, tmod_n _ _ (by omega)]
theorem fP (f x : Int) : IntKind.u8.wrap (f + IntKind.u8.wrap (x * 16)) = (f + 16 * x) % 256 := by rw [wu8, wu8]; omega
theorem rup_s (a : Int) (h0 : 0 ≤ a ∧ a ≤ 4294967295) (h : a % 4 ≠ 0) : rup4 (IntKind.u32.wrap (a + 1)) = rup4 a := by unfold rup4; rw [wu32, wu32, wu32]; omega
theorem rup_0 (a : Int) (h0 : 0 ≤ a ∧ a ≤ 4294967295) (h : a % 4 = 0) : rup4 a = a := by unfold rup4; rw [wu32]; omega
theorem rupP (a v : Int) (hv : 0 ≤ v ∧ v ≤ 255) : bits .andNot .u32 (IntKind.u32.wrap (IntKind.u32.wrap (IntKind.u32.wrap (IntKind.u32.wrap (a + 1) + IntKind.u32.wrap (2 * IntKind.u32.wrap v)) + 1) + 3)) 3 = rup4 (IntKind.u32.wrap (a + (2 * v + 2))) := by
  rw [al4 _ (ur _).1 (by have := (ur (IntKind.u32.wrap (IntKind.u32.wrap (IntKind.u32.wrap (a + 1) + IntKind.u32.wrap (2 * IntKind.u32.wrap v)) + 1) + 3)).2; omega)]
  unfold alF rup4; rw [wu32, wu32, wu32, wu32, wu32, wu32, wu32, wu32]; omega
theorem wdP (a v : Int) (hv : 0 ≤ v ∧ v ≤ 255) : IntKind.u32.wrap (a + IntKind.u32.wrap (IntKind.i64.wrap (IntKind.i64.wrap (2 * v) + 2))) = IntKind.u32.wrap (a + (2 * v + 2)) := by
  rw [wi64, wi64, wu32, wu32, wu32]; omega
section
variable {E : World} {to sz root : Int} {e8 : Bool}
theorem stF_0 {r c f v : Int} {u : OU} (hv : rdb E c u.m = v) (h0 : v / (2 : Int) ^ (7 - r).toNat % 2 = 0) : stF E to sz root e8 r ⟨c, f, u⟩ = ⟨IntKind.u32.wrap (c - c % 2 + 2 * (v % 64) + 2 + r), f, u⟩ := by
  subst hv; unfold stF; rw [if_pos h0]
theorem stF_8 {r c f v x : Int} {u : OU} (hv : rdb E c u.m = v) (h0 : v / (2 : Int) ^ (7 - r).toNat % 2 ≠ 0) (hx : rdb E (IntKind.u32.wrap (c - c % 2 + 2 * (v % 64) + 2 + r)) u.m = x) (h : e8 = true) : stF E to sz root e8 r ⟨c, f, u⟩ = ⟨root, f, gvF E to sz x u⟩ := by
  subst hv; subst hx; unfold stF; rw [if_neg h0, if_pos h]
theorem stF_l {r c f v x : Int} {u : OU} (hv : rdb E c u.m = v) (h0 : v / (2 : Int) ^ (7 - r).toNat % 2 ≠ 0) (hx : rdb E (IntKind.u32.wrap (c - c % 2 + 2 * (v % 64) + 2 + r)) u.m = x) (h : e8 = false) (hf : f < 0) : stF E to sz root e8 r ⟨c, f, u⟩ = ⟨root, x % 16, u⟩ := by
  subst hv; subst hx; unfold stF; rw [if_neg h0, if_neg (by rw [h]; decide), if_pos hf]
theorem stF_h {r c f v x : Int} {u : OU} (hv : rdb E c u.m = v) (h0 : v / (2 : Int) ^ (7 - r).toNat % 2 ≠ 0) (hx : rdb E (IntKind.u32.wrap (c - c % 2 + 2 * (v % 64) + 2 + r)) u.m = x) (h : e8 = false) (hf : ¬ f < 0) : stF E to sz root e8 r ⟨c, f, u⟩ = ⟨root, -1, gvF E to sz ((f + 16 * x) % 256) u⟩ := by
  subst hv; subst hx; unfold stF; rw [if_neg h0, if_neg (by rw [h]; decide), if_neg hf]
theorem btF_full {w : Int} {n : Nat} {s : CU} (h : (s.u.o.length : Int) = sz) : btF E to sz root e8 w n s = s := by
  cases n with
  | zero => rfl
  | succ n => unfold btF; rw [if_pos h]
theorem wdF_full {a : Int} {n : Nat} {s : CU} (h : (s.u.o.length : Int) = sz) : wdF E to sz root e8 n a s = s := by
  cases n with
  | zero => rfl
  | succ n => unfold wdF; rw [if_pos h]
variable {n a w k : Int} {s : CU} {R : OU}
theorem CbH.fin (h : CbH E to sz root e8 n a w k s R) (hf : (s.u.o.length : Int) = sz) : s.u = R := by
  have := h.h; rw [btF_full hf, wdF_full hf] at this; exact this
theorem CbH.step (h : CbH E to sz root e8 n a w k s R) (hf : (s.u.o.length : Int) ≠ sz) (hk : 0 < k) : CbH E to sz root e8 n a w (k - 1) (stF E to sz root e8 (w / (2 : Int) ^ (k - 1).toNat % 2) s) R := by
  have e : k.toNat = (k - 1).toNat + 1 := by omega
  have := h.h; rw [e, btF, if_neg hf] at this; exact ⟨this⟩
theorem CbH.out (h : CbH E to sz root e8 n a w k s R) (hk : k ≤ 0) : CdH E to sz root e8 n a s R := by
  have e : k.toNat = 0 := by omega
  have := h.h; rw [e] at this; exact ⟨this⟩
theorem CbH.full (h : CbH E to sz root e8 n a w k s R) (hf : (s.u.o.length : Int) = sz) : CdH E to sz root e8 n a s R := by
  have := h.h; rw [btF_full hf] at this; exact ⟨this⟩
theorem CdH.fin (h : CdH E to sz root e8 n a s R) (hf : (s.u.o.length : Int) = sz) : s.u = R := by
  have := h.h; rw [wdF_full hf] at this; exact this
theorem CdH.out (h : CdH E to sz root e8 n a s R) (hn : n ≤ 0) : s.u = R := by
  have e : n.toNat = 0 := by omega
  have := h.h; rw [e] at this; exact this
theorem CdH.step (h : CdH E to sz root e8 n a s R) (hf : (s.u.o.length : Int) ≠ sz) (hn : 0 < n) : CbH E to sz root e8 (n - 1) (IntKind.u32.wrap (a + 4)) (rdv4 E a s.u.m) 32 s R := by
  have e : n.toNat = (n - 1).toNat + 1 := by omega
  have := h.h; rw [e, wdF, if_neg hf] at this; exact ⟨this⟩
end
noncomputable def cd_td (E : World) : List Item := headP [] (run (pe E) (orcD E) (tabL fns) 20000 (2 ^ 200 - 1) [.code (Try.f46.body.getD .skip)] ⟨Try.f46.ntmps, mkFrGo (Tr.mk 12) 0 [.c (.p 0 0), .c (.p 1 0), .c (.b false false)]⟩ (mkM default [] [mSt 2, mO' 2 3, mN 4 5, rowI, rowB, rowN] 0))
noncomputable def cdo_td (E : World) : List Item := headP [false] (run (pe E) (orcD E) (tabL fns) 20000 (2 ^ 200 - 1) (cd_td E) (mkL Try.f46.ntmps (slC default ([(0, .c (.p 0 0)), (1, .c (.p 1 0)), (2, .q (.b false false)), (8, .r .u32 (0) (4294967295)), (9, .r .u32 (0) (4294967295))]))) (mkM default [] [mSt 2, mO' 2 6, mN 4 7, .g HOLE, rowB, .g HOLE, rowI, rowN] 0))
noncomputable def cdi_td (E : World) : List Item := headP [true, true] (run (pe E) (orcD E) (tabL fns) 20000 (2 ^ 200 - 1) (cdo_td E) (mkL Try.f46.ntmps (slC default ([(0, .c (.p 0 0)), (1, .c (.p 1 0)), (2, .q (.b false false)), (8, .r .u32 (0) (4294967295)), (9, .r .u32 (0) (4294967295)), (10, .r .u32 (0) (4294967295)), (11, .r .i64 ((-1)) (15)), (12, .r .i64 (0) (65536))]))) (mkM default [] [mSt 2, mO' 2 6, mN 4 7, .g HOLE, rowB, .g HOLE, rowI, rowN] 0))
noncomputable def tr_td (E : World) : List Item := headP [] (run (pe E) (orcG E) (tabL fns) 20000 (2 ^ 200 - 1) [.code (Try.f41.body.getD .skip)] ⟨Try.f41.ntmps, mkFrGo (Tr.mk 12) 0 [.c (.p 0 0), .c (.b false false)]⟩ (mkM default [] [mS 2, mN 3 4, rowB, rowB, rowN] 0))
noncomputable def tri_td (E : World) : List Item := headP [true] (run (pe E) (orcG E) (tabL fns) 20000 (2 ^ 200 - 1) (tr_td E) (mkL Try.f41.ntmps (slC default ([(0, .c (.p 0 0)), (1, .q (.b false false)), (5, .c (.p 5 0)), (6, .r .u32 (0) (4294967295)), (7, .r .u8 (0) (15)), (8, .b), (40, .r .i64 (0) (65536))]))) (mkM default [] [mS 6, mN 3 7, .g HOLE, rowB, .g HOLE, mWk 1, rowB, rowN] 0))
end Go.Proofs.Ytabklphoccicmaa

