import Derived.Test.YtabklphoccicmaaRL
set_option linter.unusedVariables false
set_option linter.unusedSimpArgs false
namespace Go.Proofs.Ytabklphoccicmaa
open Go Go.Proofs Go.Proofs.Ytabklphoccicmaa.Ev Go.Proofs.Ytabklphoccicmaa.Ev.Ho Go.IntKind
set_option maxRecDepth 100000
theorem unp_p (E : World) (z : PX) (a : Option Addr) (n m : Nat) (f t c k p : Int) (fast : Bool) :
    (hdP ([] : List MB).length [] (.c .b) (fun z y => y.b 90000 = true) z (fnTree (pe E) (orcW E) (tabL fns) 20000 Try.f6 [.a [.es a n m, .i false .u32 f, .i false .u32 t, .i false .u32 c, .b false fast, .i false .i64 k, .i false .u32 p]] (mkM z [] [] 0))) =
     ((decide ((↑n : Int) > 10000) = true → ([] : SW) = [] ∧ True ∧ true = true) ∧ (decide ((↑n : Int) > 10000) = false → (([] : SW) = [] ∧ n ≤ (10000 : Nat) ∧ eRows E a n (1 : Nat) [EK.i u8] = true) ∧ ∀ (y : PX), ((0 ≤ y.n 1 ∧ 0 ≤ y.n 2 ∧ True) ∧ (0 ≤ y.n 100001 ∧ 0 ≤ y.n 100002 ∧ True) ∧ rwB (y.l 2) ∧ rwN (y.l 3) ∧ rwB (y.l 4) ∧ rwN (y.l 5) ∧ True) ∧ True ∧ (Mm.mk (y.n 0) (y.n 1) (y.n 2) (y.l 2) (y.l 3) = Mm.mk (y.n 100000) (y.n 100001) (y.n 100002) (y.l 4) (y.l 5) ∧ okM (Mm.mk (y.n 0) (y.n 1) (y.n 2) (y.l 2) (y.l 3))) ∧ y.n 2 = 0 → ((eM (y.l 2) (y.l 3)) ∧ okM (Mm.mk (y.n 0) (↑(y.n 1).toNat : Int) (↑(y.n 2).toNat : Int) (y.l 2) (y.l 3)) ∧ (↑(y.n 2).toNat : Int) = 0 ∧ (0 ≤ f ∧ f ≤ 4294967295) ∧ 0 ≤ t ∧ t ≤ 4294967295) ∧ ∀ (y_1 : PX), aM y_1 3 ∧ ((0 ≤ y_1.n 90000 ∧ y_1.n 90000 ≤ 65535) ∧ True) ∧ (Mm.mk (y_1.n 0) (y_1.n 1) (y_1.n 2) (y_1.l 1) (y_1.l 3) = fiF E (alF 2 t) (upR E f t (Mm.mk (y.n 0) (↑(y.n 1).toNat : Int) (↑(y.n 2).toNat : Int) (y.l 2) (y.l 3))).u ∧ y_1.n 90000 = (↑(upR E f t (Mm.mk (y.n 0) (↑(y.n 1).toNat : Int) (↑(y.n 2).toNat : Int) (y.l 2) (y.l 3))).u.o.length : Int)) ∧ okM (Mm.mk (y_1.n 0) (y_1.n 1) (y_1.n 2) (y_1.l 1) (y_1.l 3)) → decide (a = a) = true ∧ decide (n = n) = true ∧ decide (m = m) = true ∧ decide (f = f) = true ∧ decide (t = t) = true ∧ decide (c = c) = true ∧ decide (fast = fast) = true ∧ decide (k = k) = true ∧ decide (p = p) = true ∧ ((eM (y.l 4) (y.l 5)) ∧ okM (Mm.mk (y.n 100000) (↑(y.n 100001).toNat : Int) (↑(y.n 100002).toNat : Int) (y.l 4) (y.l 5)) ∧ (↑(y.n 100002).toNat : Int) = 0 ∧ (0 ≤ f ∧ f ≤ 4294967295) ∧ 0 ≤ t ∧ t ≤ 4294967295) ∧ ∀ (y_2 : PX), aM y_2 3 ∧ ((0 ≤ y_2.n 90000 ∧ y_2.n 90000 ≤ 65535) ∧ True) ∧ (Mm.mk (y_2.n 0) (y_2.n 1) (y_2.n 2) (y_2.l 1) (y_2.l 3) = fiF E (alF 2 t) (upR E f t (Mm.mk (y.n 100000) (↑(y.n 100001).toNat : Int) (↑(y.n 100002).toNat : Int) (y.l 4) (y.l 5))).u ∧ y_2.n 90000 = (↑(upR E f t (Mm.mk (y.n 100000) (↑(y.n 100001).toNat : Int) (↑(y.n 100002).toNat : Int) (y.l 4) (y.l 5))).u.o.length : Int)) ∧ okM (Mm.mk (y_2.n 0) (y_2.n 1) (y_2.n 2) (y_2.l 1) (y_2.l 3)) → decide (a = a) = true ∧ decide (n = n) = true ∧ decide (m = m) = true ∧ decide (f = f) = true ∧ decide (t = t) = true ∧ decide (c = c) = true ∧ decide (fast = fast) = true ∧ decide (k = k) = true ∧ decide (p = p) = true ∧ ((y_1.n 90000 == y_2.n 90000) = true → ((59 = 59 ∧ rwN (y_1.l 3) ∧ 59 = 59 ∧ rwN (y_2.l 3) ∧ ([] : SW) = []) ∧ ((y_1.n 2).toNat = (y_2.n 2).toNat ∧ EqL (y_1.l 3) (y_2.l 3)) ∧ (y_1.l 3).length = (y_1.n 2).toNat * (3 : Nat) ∧ (y_1.n 2).toNat ≤ (1000000 : Nat)) ∧ ∀ (y : PX), (rwN (y.l 0) ∧ rwN (y.l 1) ∧ True) ∧ True ∧ y.b 90000 = true → ([] : SW) = [] ∧ True ∧ y.b 90000 = true) ∧ ((y_1.n 90000 == y_2.n 90000) = false → ([] : SW) = [] ∧ True ∧ false = true))) := by kernel_rfl
set_option maxHeartbeats 8000000 in
theorem unp_c (E : World) (a : Option Addr) (n m : Nat) (f t c k p : Int) (fast : Bool) (z : PX) (hz : rgM z [] 0) (hp : (fun _ => eRows E a n 1 [.i .u8] = true ∧ (0 ≤ f ∧ f ≤ 4294967295) ∧ (0 ≤ t ∧ t ≤ 4294967295) ∧ (0 ≤ p ∧ p ≤ 4294967295)) z) : HD (pe E) 6 [.a [.es a n m, .i false .u32 f, .i false .u32 t, .i false .u32 c, .b false fast, .i false .i64 k, .i false .u32 p]] [] [] (.c .b) (fun z y => y.b 90000 = true) z := by
  refine HD.mk (by rfl) (fnTree_sound (P := pe E) orcW_ok tab_ok tab_sz mixed 20000 Try.func6 (by decide) [.a [.es a n m, .i false .u32 f, .i false .u32 t, .i false .u32 c, .b false fast, .i false .i64 k, .i false .u32 p]] _) ⟨?_⟩
  rw [unp_p]
  obtain ⟨hr, hf0, ht0, hp0⟩ := hp
  have hf1 : flat [Sp.r .u8 0 255] = true := rfl
  have hf2 : flat [Sp.i .u32, Sp.i .i64, Sp.i .u32] = true := rfl
  refine ⟨fun _ => ⟨rfl, trivial, rfl⟩, fun hn => ?_⟩
  have hn := of_decide_eq_false hn
  refine ⟨⟨rfl, by omega, hr⟩, ?_⟩
  rintro y ⟨⟨⟨p1, p2, _⟩, ⟨s1, s2, _⟩, ⟨_, r2⟩, ⟨_, r3⟩, ⟨_, r4⟩, ⟨_, r5⟩, _⟩, _, ⟨hM, hK⟩, h0⟩
  have T1y1 : ((y.n 1).toNat : Int) = y.n 1 := Int.toNat_of_nonneg (by assumption)
  have T2y1 : ((y.n 2).toNat : Int) = y.n 2 := Int.toNat_of_nonneg (by assumption)
  have T3y1 : ((y.n 100001).toNat : Int) = y.n 100001 := Int.toNat_of_nonneg (by assumption)
  have T4y1 : ((y.n 100002).toNat : Int) = y.n 100002 := Int.toNat_of_nonneg (by assumption)
  have hK2 : okM (Mm.mk (y.n 100000) (y.n 100001) (y.n 100002) (y.l 4) (y.l 5)) := by rw [← hM]; exact hK
  have h02 : y.n 100002 = 0 := by rw [← h0]; exact (congrArg Mm.nn hM).symm
  simp only [T1y1, T2y1, T3y1, T4y1]
  refine ⟨by ((repeat' (first | exact trivial | with_reducible rfl | assumption | exact rfl | apply And.intro)) <;> omega), ?_⟩
  rintro y1 ⟨⟨⟨a1, a2, _⟩, ⟨_, a3⟩, ⟨_, a4⟩, _⟩, _, ⟨hq1, hq2⟩, hk1⟩
  repeat (refine ⟨decide_eq_true trivial, ?_⟩)
  refine ⟨by ((repeat' (first | exact trivial | with_reducible rfl | assumption | exact rfl | apply And.intro)) <;> omega), ?_⟩
  rintro y2 ⟨⟨⟨b1, b2, _⟩, ⟨_, b3⟩, ⟨_, b4⟩, _⟩, _, ⟨hv1, hv2⟩, hk2⟩
  have hE : (Mm.mk (y1.n 0) (y1.n 1) (y1.n 2) (y1.l 1) (y1.l 3)) = (Mm.mk (y2.n 0) (y2.n 1) (y2.n 2) (y2.l 1) (y2.l 3)) := by rw [hq1, hv1, hM]
  have e2 : y1.n 2 = y2.n 2 := congrArg Mm.nn hE
  have e5 : EqL (y1.l 3) (y2.l 3) := ⟨congrArg Mm.n hE⟩
  have hl : (y1.l 3).length = (y1.n 2).toNat * 3 := hk1.nl
  have hm : y1.n 2 ≤ 1000000 := hk1.n1
  have hb : (y1.n 90000 == y2.n 90000) = true := by rw [hq2, hv2, hM]; exact beq_self_eq_true _
  have hb2 : (y1.n 90000 != y2.n 90000) = false := by rw [hq2, hv2, hM]; exact bne_self_eq_false _
  have e6 : (y1.n 2).toNat = (y2.n 2).toNat := by rw [e2]
  repeat (refine ⟨decide_eq_true trivial, ?_⟩)
  refine ⟨fun _ => ⟨by ((repeat' (first | exact trivial | with_reducible rfl | assumption | exact rfl | apply And.intro)) <;> omega), ?_⟩, fun h => (by rw [hb] at h; cases h)⟩
  rintro x2 ⟨_, _, hx2⟩
  exact ⟨trivial, trivial, hx2⟩
end Go.Proofs.Ytabklphoccicmaa

