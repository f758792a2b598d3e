import Derived.Test.YthgcieloijmgdaaXb
import Derived.Test.YthgcieloijmgdaaXL
set_option linter.unusedVariables false
set_option linter.unusedSimpArgs false
namespace Go.Proofs.Ythgcieloijmgdaa
open Go Go.Proofs Go.Proofs.Ythgcieloijmgdaa.Ev Go.Proofs.Ythgcieloijmgdaa.Ev.Ho
set_option maxRecDepth 100000
set_option maxHeartbeats 8000000 in
theorem bk_q1 (E : World) (g : Bool) (u d : Int) (z : PX) (hp : (fun _ => (-9223372036854775808 ≤ u ∧ u ≤ 9223372036854775807) ∧ (0 ≤ d ∧ d ≤ 18446744073709551615)) z) (y : PX) (hy1 : rgM y [mW 6] 0) (hy2 : rgF y [(1, .r .i64 (0) (63)), (2, .r .u64 (0) (18446744073709551615)), (7, .c (.i true .i64 6)), (8, .c (.i true .i64 512)), (10, .c (.p 0 0)), (12, .s), (18, .s), (129, .r .i64 (0) (68))]) (hy3 : (fun y => ((SO (y.s 91018) (y.s 91012) (y.n 91129) ∧ OO (y.n 6) (y.s 91012)) ∧ Im (y.s 0) 512) ∧ y.n 7 = 68 - y.n 91129) y) : Holds ((run (pe E) (orcW E) (tabL fns) 20000 (2 ^ 200 - 1) (bb_td E) (mkL Try.f4.ntmps (slC y [(1, .r .i64 (0) (63)), (2, .r .u64 (0) (18446744073709551615)), (7, .c (.i true .i64 6)), (8, .c (.i true .i64 512)), (10, .c (.p 0 0)), (12, .s), (18, .s), (129, .r .i64 (0) (68))])) (mkM y [] [mW 6] 0)).OK (lfP (pe E) Try.f4 (endR ([] : List MB).length [] (.c .b) (fun z y => y.b 90000 = true) z) (headR ([] : List MB).length Try.f4.ntmps (some ((fun y => (68 - y.n 91129).toNat) y)) (bk_hs E g u d z)))) := by
  refine loopP_lfH ⟨?_⟩
  rw [bk_r1]
  have hf : (((0) ≤ y.n 91001 ∧ y.n 91001 ≤ (63)) ∧ True) ∧ (((0) ≤ y.n 91002 ∧ y.n 91002 ≤ (18446744073709551615)) ∧ True) ∧ True ∧ True ∧ True ∧ True ∧ True ∧ (((0) ≤ y.n 91129 ∧ y.n 91129 ≤ (68)) ∧ True) ∧ True := hy2
  obtain ⟨⟨g1, _⟩, ⟨g2, _⟩, _, _, _, _, _, ⟨g129, _⟩, _⟩ := hf
  obtain ⟨⟨⟨hS, hO⟩, hI⟩, h7⟩ := hy3
  have hsz := hI.e
  have hl := hO.l
  have hss := SO_size hS hl
  have hbs : (y.s 91012).size = 64 := by rw [size_txt]; exact hl
  have hne : (y.s 0 == ByteArray.mk #[]) = false := by
    cases hq : (y.s 0 == ByteArray.mk #[])
    · rfl
    · have h9 := beqB hq
      rw [h9] at hsz; exact absurd hsz (by decide)
  have r7 : 0 ≤ y.n 7 ∧ y.n 7 ≤ 68 := hy1.1.2.1
  have r2 : 0 ≤ y.n 2 ∧ y.n 2 ≤ 80 := hy1.1.1
  simp only [hne, h7]
  refine ⟨fun h => ?_, fun h => ?_⟩
  · have hi := of_decide_eq_true h
    clear h
    have i1 : IntKind.i64.wrap (y.n 91129 + 1) = y.n 91129 + 1 := by rw [wi64]; omega
    have i2 : IntKind.i64.wrap (68 - y.n 91129 - 1) = 67 - y.n 91129 := by rw [wi64]; omega
    have hbl : (Nat.ble ((y.s 91018).size + 1) (2 ^ 62)) = true := Nat.ble_eq_true_of_le (by have : (2 : Nat) ^ 62 = 4611686018427387904 := rfl; omega)
    simp only [i1, i2, size_bytesN, List.length_cons, List.length_nil]
    by_cases hc : y.n 91129 < 4
    · have hn := SO_next (x := 48) hS (by omega) (by
        rw [List.getElem?_append_left (by simp; omega)]
        have h4 : (y.n 91129).toNat < 4 := by omega
        generalize (y.n 91129).toNat = k at h4
        match k, h4 with
        | 0, _ => rfl
        | 1, _ => rfl
        | 2, _ => rfl
        | 3, _ => rfl)
      simp only [decide_eq_true_eq, decide_eq_false_iff_not, beq_iff_eq, beq_eq_false_iff_ne, ne_eq, ge_iff_le, Bool.false_xor, Bool.false_eq_true, false_implies, true_implies]
      (repeat' (first | exact trivial | with_reducible rfl | exact (rfl : renC _ _ = _) | with_reducible assumption | intro h | apply And.intro)) <;> first | omega | exact hn | (exfalso; simp_all; omega) | (exfalso; omega)
    · obtain ⟨k, hk⟩ : ∃ k : Nat, 67 - y.n 91129 = k := ⟨(67 - y.n 91129).toNat, by omega⟩
      have hg := hO.h (63 - k) (by omega)
      rw [show 63 - (63 - k) = k by omega] at hg
      have hxv : IntKind.u8.wrap (48 + bits .and .u8 (IntKind.u8.wrap ((y.n 6).fdiv (2 ^ min (67 - y.n 91129).toNat 64))) 1) = 48 + y.n 6 / 2 ^ k % 2 := by
        rw [hk, show min ((k : Int).toNat) 64 = k by rw [Int.toNat_natCast]; omega, fdiv_lit _ _ (Int.pow_nonneg (by decide)), show bits .and .u8 (IntKind.u8.wrap (y.n 6 / 2 ^ k)) 1 = IntKind.u8.wrap (y.n 6 / 2 ^ k) % 2 from and_mask .u8 _ 1 (.inl (by decide)), wu8, wu8]
        generalize y.n 6 / 2 ^ k = q
        omega
      have hn := SO_next (x := 48 + y.n 6 / 2 ^ k % 2) hS (by omega) (by
        rw [List.getElem?_append_right (by simp; omega), show (y.n 91129).toNat - ([48, 48, 48, 48] : List UInt8).length = 63 - k by show (y.n 91129).toNat - 4 = _; omega]
        exact hg)
      rw [hxv]
      simp only [decide_eq_true_eq, decide_eq_false_iff_not, beq_iff_eq, beq_eq_false_iff_ne, ne_eq, ge_iff_le, Bool.false_xor, Bool.false_eq_true, false_implies, true_implies]
      (repeat' (first | exact trivial | with_reducible rfl | exact (rfl : renC _ _ = _) | with_reducible assumption | intro h | apply And.intro)) <;> first | omega | exact hn | (exfalso; simp_all; omega) | (exfalso; omega)
  · have hi := of_decide_eq_false h
    have i68 : y.n 91129 = 68 := by have := hy2; simp only [rgF] at this; omega
    have hEq : y.s 91018 = ByteArray.mk #[(48 : UInt8), (48 : UInt8), (48 : UInt8), (48 : UInt8)] ++ y.s 91012 := txt_ext (by
      rw [hS.e, txt_append, i68]
      exact List.take_of_length_le (by rw [List.length_append, hl]; decide))
    have hb : (y.s 91018 == ByteArray.mk #[(48 : UInt8), (48 : UInt8), (48 : UInt8), (48 : UInt8)] ++ y.s 91012) = true := by rw [← hEq]; exact beqS _
    have hbl : (Nat.ble (4 + (y.s 91012).size) (2 ^ 62)) = true := Nat.ble_eq_true_of_le (by have : (2 : Nat) ^ 62 = 4611686018427387904 := rfl; omega)
    simp only [hb, i68]
    simp only [decide_eq_true_eq, decide_eq_false_iff_not, beq_iff_eq, beq_eq_false_iff_ne, ne_eq, ge_iff_le, Bool.false_xor, Bool.false_eq_true, false_implies, true_implies]
    (repeat' (first | exact trivial | with_reducible rfl | exact (rfl : renC _ _ = _) | with_reducible assumption | intro h | apply And.intro)) <;> first | omega | (exfalso; simp_all; done) | (exfalso; omega)
end Go.Proofs.Ythgcieloijmgdaa

