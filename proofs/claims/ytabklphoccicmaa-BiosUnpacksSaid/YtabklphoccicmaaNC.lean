import Derived.Test.YtabklphoccicmaaNA
set_option linter.unusedVariables false
set_option linter.unusedSimpArgs false
namespace Go.Proofs.Ytabklphoccicmaa
open Go Go.Proofs Go.Proofs.Ytabklphoccicmaa.Ev Go.Proofs.Ytabklphoccicmaa.Ev.Ho Go.IntKind
set_option maxRecDepth 100000
theorem pu_p (E : World) (z : PX) (x : Int) :
    (hdP ([mO' 1 2, mN 3 4, rowI, rowB, rowN] : List MB).length [mO' 1 5, mN 3 6, .g HOLE, rowB, .g HOLE, rowI, rowN] (.t []) (fun z y => OU.mk (Mm.mk (y.n 100000) (y.n 100001) (y.n 100002) (y.l 3) (y.l 6)) (vals (y.l 5)) = gvF E (z.n 1) (z.n 2) x (OU.mk (Mm.mk (z.n 100000) (z.n 100001) (z.n 100002) (z.l 3) (z.l 4)) (vals (z.l 2))) ∧ (y.n 1 = z.n 1 ∧ y.n 2 = z.n 2) ∧ okM (Mm.mk (y.n 100000) (y.n 100001) (y.n 100002) (y.l 3) (y.l 6)) ∧ y.n 100002 + z.n 3 ≤ z.n 100002 + y.n 3 ∧ (y.l 5).length = (y.n 3).toNat ∧ y.n 3 ≤ y.n 2) z (fnTree (pe E) (orcN E) (tabL fns) 20000 Try.f49 [.c (.p 0 0), .c (.i false .i64 x)] (mkM z [] [mO' 1 2, mN 3 4, rowI, rowB, rowN] 0))) =
     ((decide ((↑(z.n 3).toNat : Int) ≥ z.n 2) = true → (76 = 76 ∧ ((0 ≤ z.n 2 ∧ z.n 2 ≤ 65535) ∧ True) ∧ 44 = 44 ∧ True ∧ 4294967295 = 4294967295 ∧ 5 = 5 ∧ rwB (z.l 3) ∧ 4294967295 = 4294967295 ∧ 3 = 3 ∧ rwI (z.l 2) ∧ 59 = 59 ∧ rwN (z.l 4) ∧ ([] : SW) = []) ∧ True ∧ OU.mk (Mm.mk (z.n 100000) (↑(z.n 100001).toNat : Int) (↑(z.n 100002).toNat : Int) (z.l 3) (z.l 4)) (vals (z.l 2)) = gvF E (z.n 1) (z.n 2) x (OU.mk (Mm.mk (z.n 100000) (z.n 100001) (z.n 100002) (z.l 3) (z.l 4)) (vals (z.l 2))) ∧ (z.n 1 = z.n 1 ∧ z.n 2 = z.n 2) ∧ okM (Mm.mk (z.n 100000) (↑(z.n 100001).toNat : Int) (↑(z.n 100002).toNat : Int) (z.l 3) (z.l 4)) ∧ (↑(z.n 100002).toNat : Int) + z.n 3 ≤ z.n 100002 + (↑(z.n 3).toNat : Int) ∧ (z.l 2).length = (↑(z.n 3).toNat : Int).toNat ∧ (↑(z.n 3).toNat : Int) ≤ z.n 2) ∧ (decide ((↑(z.n 3).toNat : Int) ≥ z.n 2) = false → decide ((z.n 3).toNat * (1 : Nat) ≤ (z.l 2).length) = true ∧ decide ((z.n 3).toNat + (1 : Nat) ≤ (1099511627776 : Nat)) = true ∧ decide (((z.n 3).toNat + (1 : Nat)) * (8 : Nat) ≤ (1099511627776 : Nat)) = true ∧ (((↑((z.n 3).toNat + (1 : Nat)) : Int).tmod (2 : Int) == 0) = true → inB (i64.wrap ((↑((z.n 3).toNat + (1 : Nat)) : Int) - 2)) ((z.n 3).toNat + (1 : Nat)) = true ∧ rOk (rApp (z.l 2) ((z.n 3).toNat * (1 : Nat)) [C.i false i64 x]) (i64.wrap ((↑((z.n 3).toNat + (1 : Nat)) : Int) - 2)).toNat (EK.i i64) = true ∧ ((eM (z.l 3) (z.l 4)) ∧ okM (Mm.mk (z.n 100000) (↑(z.n 100001).toNat : Int) (↑(z.n 100002).toNat : Int) (z.l 3) (z.l 4))) ∧ ∀ (y : PX), aM y 3 ∧ True ∧ grM (Mm.mk (z.n 100000) (↑(z.n 100001).toNat : Int) (↑(z.n 100002).toNat : Int) (z.l 3) (z.l 4)) (Mm.mk (y.n 0) (y.n 1) (y.n 2) (y.l 1) (y.l 3)) ∧ Mm.mk (y.n 0) (y.n 1) (y.n 2) (y.l 1) (y.l 3) = wrm2 E (u32.wrap (z.n 1 + u32.wrap (i64.wrap ((↑((z.n 3).toNat + (1 : Nat)) : Int) - 2)))) (u32.wrap (i64.wrap (rI (rApp (z.l 2) ((z.n 3).toNat * (1 : Nat)) [C.i false i64 x]) (i64.wrap ((↑((z.n 3).toNat + (1 : Nat)) : Int) - 2)).toNat + i64.wrap (256 * x)))) (Mm.mk (z.n 100000) (↑(z.n 100001).toNat : Int) (↑(z.n 100002).toNat : Int) (z.l 3) (z.l 4)) → (76 = 76 ∧ ((0 ≤ z.n 2 ∧ z.n 2 ≤ 65535) ∧ True) ∧ 44 = 44 ∧ True ∧ 4294967295 = 4294967295 ∧ 5 = 5 ∧ rwB (y.l 1) ∧ 4294967295 = 4294967295 ∧ 3 = 3 ∧ rwI (rApp (z.l 2) ((z.n 3).toNat * (1 : Nat)) [C.i false i64 x]) ∧ 59 = 59 ∧ rwN (y.l 3) ∧ ([] : SW) = []) ∧ True ∧ OU.mk (Mm.mk (y.n 0) (↑(y.n 1).toNat : Int) (↑(y.n 2).toNat : Int) (y.l 1) (y.l 3)) (vals (rApp (z.l 2) ((z.n 3).toNat * (1 : Nat)) [C.i false i64 x])) = gvF E (z.n 1) (z.n 2) x (OU.mk (Mm.mk (z.n 100000) (z.n 100001) (z.n 100002) (z.l 3) (z.l 4)) (vals (z.l 2))) ∧ (z.n 1 = z.n 1 ∧ z.n 2 = z.n 2) ∧ okM (Mm.mk (y.n 0) (↑(y.n 1).toNat : Int) (↑(y.n 2).toNat : Int) (y.l 1) (y.l 3)) ∧ (↑(y.n 2).toNat : Int) + z.n 3 ≤ z.n 100002 + (↑((z.n 3).toNat + (1 : Nat)) : Int) ∧ (rApp (z.l 2) ((z.n 3).toNat * (1 : Nat)) [C.i false i64 x]).length = (↑((z.n 3).toNat + (1 : Nat)) : Int).toNat ∧ (↑((z.n 3).toNat + (1 : Nat)) : Int) ≤ z.n 2) ∧ (((↑((z.n 3).toNat + (1 : Nat)) : Int).tmod (2 : Int) == 0) = false → (76 = 76 ∧ ((0 ≤ z.n 2 ∧ z.n 2 ≤ 65535) ∧ True) ∧ 44 = 44 ∧ True ∧ 4294967295 = 4294967295 ∧ 5 = 5 ∧ rwB (z.l 3) ∧ 4294967295 = 4294967295 ∧ 3 = 3 ∧ rwI (rApp (z.l 2) ((z.n 3).toNat * (1 : Nat)) [C.i false i64 x]) ∧ 59 = 59 ∧ rwN (z.l 4) ∧ ([] : SW) = []) ∧ True ∧ OU.mk (Mm.mk (z.n 100000) (↑(z.n 100001).toNat : Int) (↑(z.n 100002).toNat : Int) (z.l 3) (z.l 4)) (vals (rApp (z.l 2) ((z.n 3).toNat * (1 : Nat)) [C.i false i64 x])) = gvF E (z.n 1) (z.n 2) x (OU.mk (Mm.mk (z.n 100000) (z.n 100001) (z.n 100002) (z.l 3) (z.l 4)) (vals (z.l 2))) ∧ (z.n 1 = z.n 1 ∧ z.n 2 = z.n 2) ∧ okM (Mm.mk (z.n 100000) (↑(z.n 100001).toNat : Int) (↑(z.n 100002).toNat : Int) (z.l 3) (z.l 4)) ∧ (↑(z.n 100002).toNat : Int) + z.n 3 ≤ z.n 100002 + (↑((z.n 3).toNat + (1 : Nat)) : Int) ∧ (rApp (z.l 2) ((z.n 3).toNat * (1 : Nat)) [C.i false i64 x]).length = (↑((z.n 3).toNat + (1 : Nat)) : Int).toNat ∧ (↑((z.n 3).toNat + (1 : Nat)) : Int) ≤ z.n 2))) := by kernel_rfl
set_option maxHeartbeats 4000000 in
theorem pu_c (E : World) (x : Int) (z : PX) (hz : rgM z [mO' 1 2, mN 3 4, rowI, rowB, rowN] 0) (hp : (fun z => okM (Mm.mk (z.n 100000) (z.n 100001) (z.n 100002) (z.l 3) (z.l 4)) ∧ z.n 100002 ≤ 400000 ∧ (z.l 2).length = (z.n 3).toNat ∧ z.n 3 ≤ z.n 2 ∧ 0 ≤ x ∧ x ≤ 255) z) : HD (pe E) 49 [.c (.p 0 0), .c (.i false .i64 x)] [mO' 1 2, mN 3 4, rowI, rowB, rowN] [mO' 1 5, mN 3 6, .g HOLE, rowB, .g HOLE, rowI, rowN] (.t []) (fun z y => OU.mk (Mm.mk (y.n 100000) (y.n 100001) (y.n 100002) (y.l 3) (y.l 6)) (vals (y.l 5)) = gvF E (z.n 1) (z.n 2) x (OU.mk (Mm.mk (z.n 100000) (z.n 100001) (z.n 100002) (z.l 3) (z.l 4)) (vals (z.l 2))) ∧ (y.n 1 = z.n 1 ∧ y.n 2 = z.n 2) ∧ okM (Mm.mk (y.n 100000) (y.n 100001) (y.n 100002) (y.l 3) (y.l 6)) ∧ y.n 100002 + z.n 3 ≤ z.n 100002 + y.n 3 ∧ (y.l 5).length = (y.n 3).toNat ∧ y.n 3 ≤ y.n 2) z := by
  refine HD.mk (by rfl) (fnTree_sound (P := pe E) orcN_ok tab_ok tab_sz mixed 20000 Try.func49 (by decide) [.c (.p 0 0), .c (.i false .i64 x)] _) ⟨?_⟩
  rw [pu_p]
  obtain ⟨hK, hnn, hl, hle, hx⟩ := hp
  obtain ⟨us, u4, _⟩ : (0 ≤ z.n 2 ∧ z.n 2 ≤ 65535) ∧ 0 ≤ z.n 3 ∧ True := hz.1
  have hRO : Row [.r .i64 0 255] (z.l 2) := hz.2.2.1.2
  have hRB : Row [.r .u8 0 255] (z.l 3) := hz.2.2.2.1.2
  have hRN : Row [.i .u32, .i .i64, .i .u32] (z.l 4) := hz.2.2.2.2.1.2
  have hf1 : flat [Sp.r .u8 0 255] = true := rfl
  have hf2 : flat [Sp.i .u32, Sp.i .i64, Sp.i .u32] = true := rfl
  have hf3 : flat [Sp.r .i64 0 255] = true := rfl
  have T1 : ((z.n 100001).toNat : Int) = z.n 100001 := Int.toNat_of_nonneg hK.b0
  have T2 : ((z.n 100002).toNat : Int) = z.n 100002 := Int.toNat_of_nonneg hK.n0
  have T4 : ((z.n 3).toNat : Int) = z.n 3 := Int.toNat_of_nonneg u4
  have T5 : (((z.n 3).toNat + 1 : Nat) : Int) = z.n 3 + 1 := by omega
  have tm : (z.n 3 + 1).tmod 2 = (z.n 3 + 1) % 2 := tmod_n _ _ (by omega)
  have w1 : IntKind.i64.wrap (z.n 3 + 1 - 2) = z.n 3 - 1 := by rw [wi64]; omega
  have M1 : (z.n 3).toNat * 1 = (z.l 2).length := by omega
  have hA := Row.app (vs := [C.i false .i64 x]) (m := (z.n 3).toNat * 1) hRO (Row.one ⟨hx, trivial⟩) (by omega) (Nat.mod_one _)
  have hAl : (rApp (z.l 2) ((z.n 3).toNat * 1) [C.i false .i64 x]).length = (z.n 3 + 1).toNat := by rw [len_app (by omega)]; show _ + 1 = _; omega
  simp only [T1, T2, T4, T5, tm, w1, ua]
  refine ⟨fun h => ?_, fun h => ?_⟩
  · have h : z.n 3 = z.n 2 := by have := of_decide_eq_true h; omega
    have hG := gv1 (E := E) (to := z.n 1) (sz := z.n 2) (x := x) (m := (Mm.mk (z.n 100000) (z.n 100001) (z.n 100002) (z.l 3) (z.l 4))) (l := z.l 2) (by omega)
    ((repeat' (first | exact trivial | with_reducible rfl | assumption | exact rfl | apply And.intro)) <;> omega)
  · have h : z.n 3 ≠ z.n 2 := by have := of_decide_eq_false h; omega
    have d1 : decide ((z.n 3).toNat * 1 ≤ (z.l 2).length) = true := decide_eq_true (by omega)
    have d2 : decide ((z.n 3).toNat + 1 ≤ 1099511627776) = true := decide_eq_true (by omega)
    have d3 : decide (((z.n 3).toNat + 1) * 8 ≤ 1099511627776) = true := decide_eq_true (by omega)
    refine ⟨d1, d2, d3, fun ho => ?_, fun ho => ?_⟩
    · have ho : (z.n 3 + 1) % 2 = 0 := by simpa using ho
      have hin : inB (z.n 3 - 1) ((z.n 3).toNat + 1) = true := by simp only [inB, Bool.and_eq_true, decide_eq_true_eq]; omega
      have hro := hA.rOk (p := (z.n 3 - 1).toNat) (q := .r .i64 0 255) (k := EK.i .i64) (by omega) (by simp [Nat.mod_one]) rfl
      have hri : rI (rApp (z.l 2) ((z.n 3).toNat * 1) [C.i false .i64 x]) (z.n 3 - 1).toNat = rI (z.l 2) (z.n 3 - 1).toNat := rI_app_lt (by omega) (by omega)
      have hrg := hRO.rg (p := (z.n 3 - 1).toNat) (k := .i64) (lo := 0) (hi := 255) (by omega) (by simp [Nat.mod_one])
      rw [hri] at *
      refine ⟨hin, hro, ⟨by ((repeat' (first | exact trivial | with_reducible rfl | assumption | exact rfl | apply And.intro)) <;> omega), hK⟩, ?_⟩
      rintro y ⟨⟨⟨p1, p2, _⟩, ⟨_, r1⟩, ⟨_, r2⟩, _⟩, _, hg, hq⟩
      have S1 : ((y.n 1).toNat : Int) = y.n 1 := Int.toNat_of_nonneg p1
      have S2 : ((y.n 2).toNat : Int) = y.n 2 := Int.toNat_of_nonneg p2
      have hK2 := hK.gr hg (show z.n 100002 < 1000000 by omega)
      have hn2 : y.n 2 = z.n 100002 + 1 := hg.1
      rw [su_ab _ _ hrg hx] at hq
      have en : (z.n 3 - 1).toNat = (z.l 2).length - 1 := by omega
      have ez : z.n 3 - 1 = ((z.l 2).length : Int) - 1 := by omega
      rw [en, ez] at hq
      have hG := gv2 (E := E) (to := z.n 1) (sz := z.n 2) (x := x) (m := (Mm.mk (z.n 100000) (z.n 100001) (z.n 100002) (z.l 3) (z.l 4))) (l := z.l 2) (n := (z.n 3).toNat * 1) (k := .i64) (b := false) (by omega) (by omega) M1 hq
      simp only [S1, S2]
      ((repeat' (first | exact trivial | with_reducible rfl | assumption | exact rfl | apply And.intro)) <;> omega)
    · have ho : (z.n 3 + 1) % 2 ≠ 0 := by simpa using ho
      have hG := gv3 (E := E) (to := z.n 1) (sz := z.n 2) (x := x) (m := (Mm.mk (z.n 100000) (z.n 100001) (z.n 100002) (z.l 3) (z.l 4))) (l := z.l 2) (n := (z.n 3).toNat * 1) (k := .i64) (b := false) (by omega) (by omega) M1
      ((repeat' (first | exact trivial | with_reducible rfl | assumption | exact rfl | apply And.intro)) <;> omega)
end Go.Proofs.Ytabklphoccicmaa

