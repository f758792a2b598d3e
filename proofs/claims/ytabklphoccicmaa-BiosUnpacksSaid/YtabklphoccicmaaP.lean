import Derived.Test.YtabklphoccicmaaX
set_option linter.unusedVariables false
set_option linter.unusedSimpArgs false
namespace Go.Proofs.Ytabklphoccicmaa
open Go Go.Proofs Go.Proofs.Ytabklphoccicmaa.Ev Go.Proofs.Ytabklphoccicmaa.Ev.Ho Go.IntKind
set_option maxRecDepth 100000

theorem rE8_get {E : World} {a : Option Addr} {n p : Nat} {c : C} (h : (rEs E a n 1 [.i .u8])[p]? = some c) : p < n ∧ c = .i false .u8 (eI E a p) := by
  obtain ⟨h1, h2⟩ := rEs_get (ks := [.i .u8]) (by decide) h
  have e1 : p / [EK.i IntKind.u8].length = p := Nat.div_one p
  have e2 : p % [EK.i IntKind.u8].length = 0 := Nat.mod_one p
  rw [e1] at h1
  rw [e1, e2] at h2
  refine ⟨h1, ?_⟩
  have h3 : some (C.i false .u8 (eI E a (p * 1 + 0))) = some c := h2
  cases h3
  rw [Nat.mul_one, Nat.add_zero]
theorem rE8 {E : World} {a : Option Addr} {n : Nat} (h : eRows E a n 1 [.i .u8] = true) : Row [.r .u8 0 255] (rEs E a n 1 [.i .u8]) ∧ okL 0 (rEs E a n 1 [.i .u8]) = true ∧ (rEs E a n 1 [.i .u8]).length = n := by
  refine ⟨⟨Nat.mod_one _, fun p c hc => ?_⟩, List.all_eq_true.2 fun c hc => ?_, by simpa using rEs_len E a n [.i .u8]⟩
  · obtain ⟨h1, rfl⟩ := rE8_get hc
    refine ⟨.r .u8 0 255, by simp [Nat.mod_one], ?_, trivial⟩
    have hr : eRow E a (p * 1) [.i .u8] = true := List.all_eq_true.1 h p (List.mem_range.2 h1)
    have ho : eOk E a p (.i .u8) = true := by simpa [eRow] using hr
    exact bounds_u8 (eOk_int ho)
  · obtain ⟨p, hp⟩ := List.mem_iff_getElem?.1 hc
    obtain ⟨_, rfl⟩ := rE8_get hp
    rfl
theorem smR {l : List C} {t t' : TypeId} (h : okL 0 l = true) : sameR ⟨l, t⟩ ⟨l, t'⟩ = true := by
  simp only [sameR, Bool.and_eq_true, decide_eq_true_eq]; exact ⟨trivial, h⟩
structure EqL (a b : List C) : Prop where
  e : a = b
theorem rRow3 {l : List C} {k : Nat} (h : Row [.i .u32, .i .i64, .i .u32] l) (hl : k * 3 + 2 < l.length) : rRow l (k * 3 + 0) ([EK.i IntKind.u32] ++ ([EK.i IntKind.i64] ++ ([EK.i IntKind.u32] ++ []))) = true := by
  have key : ∀ (r : Nat) (q : Sp) (e : EK), r < 3 → [Sp.i .u32, Sp.i .i64, Sp.i .u32][r]? = some q → okS q e = true → rOk l (k * 3 + r) e = true := by
    intro r q e hr hq he
    refine h.rOk (by omega) ?_ he
    have e1 : (k * 3 + r) % [Sp.i .u32, Sp.i .i64, Sp.i .u32].length = r := by show (k * 3 + r) % 3 = r; omega
    rw [e1]; exact hq
  show (rOk l (k * 3) _ && (rOk l (k * 3 + 1) _ && (rOk l (k * 3 + 2) _ && true))) = true
  have k0 := key 0 _ (.i .u32) (by decide) rfl rfl
  rw [Nat.add_zero] at k0
  rw [k0, key 1 _ (.i .i64) (by decide) rfl rfl, key 2 _ (.i .u32) (by decide) rfl rfl]
  rfl
noncomputable def mW : MB := .o [.i .u32, .v 2 1, .v 3 3] 44
noncomputable def mX : MB := .o [.i .u32, .v 4 1, .v 5 3] 44
theorem two_p (E : World) (z : PX) (a : Option Addr) (n m : Nat) (f t c k p : Int) (fast : Bool) :
    (hdP ([] : List MB).length [mW, mX, rowB, rowN, rowB, rowN] (.t [.c (.p 0 0), .c (.p 1 0)]) (fun z y => ((Mm.mk (y.n 0) (y.n 1) (y.n 2) (y.l 2) (y.l 3)) = (Mm.mk (y.n 100000) (y.n 100001) (y.n 100002) (y.l 4) (y.l 5)) ∧ okM (Mm.mk (y.n 0) (y.n 1) (y.n 2) (y.l 2) (y.l 3))) ∧ y.n 2 = 0) z (fnTree (pe E) (orcM E) (tabL fns) 20000 Try.f21 [.a [.es a n m, .i false .u32 f, .i false .u32 t, .i false .u32 c, .b false fast, .i false .i64 k, .i false .u32 p]] (mkM z [] [] 0))) =
     (decide (n ≤ (1099511627776 : Nat)) = true ∧ decide (n * (1 : Nat) ≤ (1099511627776 : Nat)) = true ∧ eRows E a n (1 : Nat) [EK.i u8] = true ∧ decide (n ≤ (1099511627776 : Nat)) = true ∧ decide (n * (1 : Nat) ≤ (1099511627776 : Nat)) = true ∧ eRows E a n (1 : Nat) [EK.i u8] = true ∧ decide (n ≤ (1099511627776 : Nat)) = true ∧ decide (n * (1 : Nat) ≤ (1099511627776 : Nat)) = true ∧ eRows E a n (1 : Nat) [EK.i u8] = true ∧ decide (a = a) = true ∧ decide (n = n) = true ∧ decide (m = m) = true ∧ decide (n = n) = true ∧ decide (n = n) = true ∧ decide (a = a) = true ∧ decide (n = n) = true ∧ decide (m = m) = true ∧ decide (n = n) = true ∧ decide (n = n) = true ∧ decide (n = n) = true ∧ sameR (Bl.mk (rEs E a n (1 : Nat) [EK.i u8]) (5 : Nat)) (Bl.mk (rEs E a n (1 : Nat) [EK.i u8]) (5 : Nat)) = true ∧ decide (n = n) = true ∧ decide (a = a) = true ∧ decide (n = n) = true ∧ decide (m = m) = true ∧ decide (n = n) = true ∧ decide (n = n) = true ∧ decide (a = a) = true ∧ decide (n = n) = true ∧ decide (m = m) = true ∧ decide (n = n) = true ∧ decide (n = n) = true ∧ decide (n = n) = true ∧ sameR (Bl.mk (rEs E a n (1 : Nat) [EK.i u8]) (5 : Nat)) (Bl.mk (rEs E a n (1 : Nat) [EK.i u8]) (5 : Nat)) = true ∧ decide (n = n) = true ∧ decide (a = a) = true ∧ decide (n = n) = true ∧ decide (m = m) = true ∧ decide (n = n) = true ∧ decide (n = n) = true ∧ decide (a = a) = true ∧ decide (n = n) = true ∧ decide (m = m) = true ∧ decide (n = n) = true ∧ decide (n = n) = true ∧ decide (n = n) = true ∧ sameR (Bl.mk (rEs E a n (1 : Nat) [EK.i u8]) (5 : Nat)) (Bl.mk (rEs E a n (1 : Nat) [EK.i u8]) (5 : Nat)) = true ∧ decide (n = n) = true ∧ decide (a = a) = true ∧ decide (n = n) = true ∧ decide (m = m) = true ∧ decide (n = n) = true ∧ decide (n = n) = true ∧ decide (a = a) = true ∧ decide (n = n) = true ∧ decide (m = m) = true ∧ decide (n = n) = true ∧ decide (n = n) = true ∧ decide (n = n) = true ∧ sameR (Bl.mk (rEs E a n (1 : Nat) [EK.i u8]) (5 : Nat)) (Bl.mk (rEs E a n (1 : Nat) [EK.i u8]) (5 : Nat)) = true ∧ decide (n = n) = true ∧ decide (a = a) = true ∧ decide (n = n) = true ∧ decide (m = m) = true ∧ decide (n = n) = true ∧ decide (n = n) = true ∧ decide (a = a) = true ∧ decide (n = n) = true ∧ decide (m = m) = true ∧ decide (n = n) = true ∧ decide (n = n) = true ∧ decide (n = n) = true ∧ sameR (Bl.mk (rEs E a n (1 : Nat) [EK.i u8]) (5 : Nat)) (Bl.mk (rEs E a n (1 : Nat) [EK.i u8]) (5 : Nat)) = true ∧ decide (n = n) = true ∧ decide (a = a) = true ∧ decide (n = n) = true ∧ decide (m = m) = true ∧ decide (n = n) = true ∧ decide (n = n) = true ∧ decide (a = a) = true ∧ decide (n = n) = true ∧ decide (m = m) = true ∧ decide (n = n) = true ∧ decide (n = n) = true ∧ decide (n = n) = true ∧ sameR (Bl.mk (rEs E a n (1 : Nat) [EK.i u8]) (5 : Nat)) (Bl.mk (rEs E a n (1 : Nat) [EK.i u8]) (5 : Nat)) = true ∧ decide (n = n) = true ∧ decide (a = a) = true ∧ decide (n = n) = true ∧ decide (m = m) = true ∧ decide (n = n) = true ∧ decide (n = n) = true ∧ decide (a = a) = true ∧ decide (n = n) = true ∧ decide (m = m) = true ∧ decide (n = n) = true ∧ decide (n = n) = true ∧ decide (n = n) = true ∧ sameR (Bl.mk (rEs E a n (1 : Nat) [EK.i u8]) (5 : Nat)) (Bl.mk (rEs E a n (1 : Nat) [EK.i u8]) (5 : Nat)) = true ∧ decide (n = n) = true ∧ decide (a = a) = true ∧ decide (n = n) = true ∧ decide (m = m) = true ∧ decide (n = n) = true ∧ decide (n = n) = true ∧ decide (a = a) = true ∧ decide (n = n) = true ∧ decide (m = m) = true ∧ decide (n = n) = true ∧ decide (n = n) = true ∧ decide (n = n) = true ∧ sameR (Bl.mk (rEs E a n (1 : Nat) [EK.i u8]) (5 : Nat)) (Bl.mk (rEs E a n (1 : Nat) [EK.i u8]) (5 : Nat)) = true ∧ decide (n = n) = true ∧ decide (a = a) = true ∧ decide (n = n) = true ∧ decide (m = m) = true ∧ decide (n = n) = true ∧ decide (n = n) = true ∧ decide (a = a) = true ∧ decide (n = n) = true ∧ decide (m = m) = true ∧ decide (n = n) = true ∧ decide (n = n) = true ∧ decide (n = n) = true ∧ sameR (Bl.mk (rEs E a n (1 : Nat) [EK.i u8]) (5 : Nat)) (Bl.mk (rEs E a n (1 : Nat) [EK.i u8]) (5 : Nat)) = true ∧ decide (n = n) = true ∧ (44 = 44 ∧ True ∧ 44 = 44 ∧ True ∧ 5 = 5 ∧ (flat [Sp.r u8 0 255] = true ∧ Row [Sp.r u8 0 255] (rEs E a n (1 : Nat) [EK.i u8])) ∧ 59 = 59 ∧ (flat [Sp.i u32, Sp.i i64, Sp.i u32] = true ∧ Row [Sp.i u32, Sp.i i64, Sp.i u32] []) ∧ 5 = 5 ∧ (flat [Sp.r u8 0 255] = true ∧ Row [Sp.r u8 0 255] (rEs E a n (1 : Nat) [EK.i u8])) ∧ 59 = 59 ∧ (flat [Sp.i u32, Sp.i i64, Sp.i u32] = true ∧ Row [Sp.i u32, Sp.i i64, Sp.i u32] []) ∧ ([] : SW) = []) ∧ True ∧ (Mm.mk 33554432 (↑n : Int) 0 (rEs E a n (1 : Nat) [EK.i u8]) [] = Mm.mk 33554432 (↑n : Int) 0 (rEs E a n (1 : Nat) [EK.i u8]) [] ∧ okM (Mm.mk 33554432 (↑n : Int) 0 (rEs E a n (1 : Nat) [EK.i u8]) [])) ∧ (0 : Int) = 0) := by kernel_rfl
set_option maxHeartbeats 4000000 in
theorem two_c (E : World) (a : Option Addr) (n m : Nat) (f t c k p : Int) (fast : Bool) (z : PX) (hz : rgM z [] 0) (hp : (fun _ => n ≤ 10000 ∧ eRows E a n 1 [.i .u8] = true) z) : HD (pe E) 21 [.a [.es a n m, .i false .u32 f, .i false .u32 t, .i false .u32 c, .b false fast, .i false .i64 k, .i false .u32 p]] [] [mW, mX, rowB, rowN, rowB, rowN] (.t [.c (.p 0 0), .c (.p 1 0)]) (fun z y => ((Mm.mk (y.n 0) (y.n 1) (y.n 2) (y.l 2) (y.l 3)) = (Mm.mk (y.n 100000) (y.n 100001) (y.n 100002) (y.l 4) (y.l 5)) ∧ okM (Mm.mk (y.n 0) (y.n 1) (y.n 2) (y.l 2) (y.l 3))) ∧ y.n 2 = 0) z := by
  refine HD.mk (by rfl) (fnTree_sound (P := pe E) orcM_ok tab_ok tab_sz mixed 20000 Try.func21 (by decide) [.a [.es a n m, .i false .u32 f, .i false .u32 t, .i false .u32 c, .b false fast, .i false .i64 k, .i false .u32 p]] _) ⟨?_⟩
  rw [two_p]
  obtain ⟨hn, hr⟩ := hp
  obtain ⟨hR, hO, hL⟩ := rE8 hr
  have hf1 : flat [Sp.r .u8 0 255] = true := rfl
  have hf2 : flat [Sp.i .u32, Sp.i .i64, Sp.i .u32] = true := rfl
  have hN : Row [.i .u32, .i .i64, .i .u32] [] := Row.nil
  have d1 : decide (n ≤ 1099511627776) = true := decide_eq_true (by omega)
  have d2 : decide (n * 1 ≤ 1099511627776) = true := decide_eq_true (by omega)
  have d3 := smR (t := 5) (t' := 5) hO
  have hk : okM (Mm.mk 33554432 (n : Int) 0 (rEs E a n 1 [EK.i IntKind.u8]) []) := ⟨Int.natCast_nonneg _, Int.le_refl _, by show (0 : Int) ≤ 1000000; decide, by show _ = ((n : Int)).toNat; rw [hL]; simp, rfl⟩
  have e : ((n : Int)).toNat = n := rfl
  repeat' (first | exact trivial | with_reducible rfl | assumption | exact decide_eq_true rfl | exact Int.natCast_nonneg _ | exact ⟨rfl, rfl⟩ | apply And.intro | exact rfl)
end Go.Proofs.Ytabklphoccicmaa

