import Derived.Test.YthgcieloijmgdaaU3b
import Derived.Test.YthgcieloijmgdaaUM
set_option linter.unusedVariables false
set_option linter.unusedSimpArgs false
namespace Go.Proofs.Ythgcieloijmgdaa
open Go Go.Proofs Go.Proofs.Ythgcieloijmgdaa.Ev Go.Proofs.Ythgcieloijmgdaa.Ev.Ho
set_option maxRecDepth 100000
set_option maxHeartbeats 8000000 in
theorem law_q7 (E : World) (g : Bool) (sd : Int) (z : PX) (hp : (fun _ => 0 ≤ sd ∧ sd ≤ 4294967295) z) (y : PX) (hy1 : rgM y [rowB, mC 6 true] 0) (hy2 : rgF y [(5, .c (.i true .i64 6)), (6, .c (.i true .i64 512)), (7, .q (.rs 0 1 512)), (9, .c (.p 1 0)), (11, .r .i64 (0) (63)), (73, .r .i64 (0) (64))]) (hy3 : (fun y => (Ln (y.l 0) 512 ∧ EqT (y.s 100000) (y.l 0) 512) ∧ O8 (y.n 100006) (y.l 0) (y.n 91011) ∧ y.n 100007 = 64 - y.n 91073) y) : Holds ((run (pe E) (orcA E) (tabL fns) 20000 (2 ^ 2 + 2 ^ 6) (t3b_td E) (mkL Try.f6.ntmps (slC y [(5, .c (.i true .i64 6)), (6, .c (.i true .i64 512)), (7, .q (.rs 0 1 512)), (9, .c (.p 1 0)), (11, .r .i64 (0) (63)), (73, .r .i64 (0) (64))])) (mkM y [] [rowB, mC 6 true] 0)).OK (lfP (pe E) Try.f6 (endR ([] : List MB).length [] (.c .b) (fun z y => y.b 90000 = true) z) (headR ([] : List MB).length Try.f6.ntmps (some ((fun y => ((2000 - y.n 91011) * 100 + (64 - y.n 91073)).toNat) y)) (law_hs E g sd z)))) := by
  refine loopP_lfH ⟨?_⟩
  rw [law_r7]
  have hf : True ∧ True ∧ True ∧ True ∧ (((0) ≤ y.n 91011 ∧ y.n 91011 ≤ (63)) ∧ True) ∧ (((0) ≤ y.n 91073 ∧ y.n 91073 ≤ (64)) ∧ True) ∧ True := hy2
  obtain ⟨_, _, _, _, ⟨g11, _⟩, ⟨g73, _⟩, _⟩ := hf
  obtain ⟨⟨hLn, hT⟩, hO, hc⟩ := hy3
  have hR : Row [.r .u8 0 255] (y.l 0) := hy1.1.2
  have hf : flat [Sp.r .u8 0 255] = true := rfl
  have hl := hLn.e
  have hsz : (y.s 100000).size = 512 := by rw [hT.e]; exact size_rowT _ _
  have hm : (y.s 100000 == ByteArray.mk #[]) = false := by
    cases hq : (y.s 100000 == ByteArray.mk #[])
    · rfl
    · have h9 := beqB hq
      rw [h9] at hsz; exact absurd hsz (by decide)
  have hm2 : (false ^^ y.s 100000 == ByteArray.mk #[]) = false := by rw [hm]; rfl
  refine ⟨fun h => ?_, fun h => ?_⟩
  · have h := of_decide_eq_true h
    have g0 := hR.rg (p := (8 * y.n 91011).toNat) (k := .u8) (lo := 0) (hi := 255) (by omega) (by simp [Nat.mod_one])
    have g1 := hR.rg (p := (8 * y.n 91011 + 1).toNat) (k := .u8) (lo := 0) (hi := 255) (by omega) (by simp [Nat.mod_one])
    have g2 := hR.rg (p := (8 * y.n 91011 + 2).toNat) (k := .u8) (lo := 0) (hi := 255) (by omega) (by simp [Nat.mod_one])
    have g3 := hR.rg (p := (8 * y.n 91011 + 3).toNat) (k := .u8) (lo := 0) (hi := 255) (by omega) (by simp [Nat.mod_one])
    have g4 := hR.rg (p := (8 * y.n 91011 + 4).toNat) (k := .u8) (lo := 0) (hi := 255) (by omega) (by simp [Nat.mod_one])
    have g5 := hR.rg (p := (8 * y.n 91011 + 5).toNat) (k := .u8) (lo := 0) (hi := 255) (by omega) (by simp [Nat.mod_one])
    have g6 := hR.rg (p := (8 * y.n 91011 + 6).toNat) (k := .u8) (lo := 0) (hi := 255) (by omega) (by simp [Nat.mod_one])
    have g7 := hR.rg (p := (8 * y.n 91011 + 7).toNat) (k := .u8) (lo := 0) (hi := 255) (by omega) (by simp [Nat.mod_one])
    have e0 : (y.n 91073).tdiv 8 = y.n 91073 / 8 := Int.tdiv_eq_ediv_of_nonneg (by omega)
    have e1 : IntKind.i64.wrap (IntKind.i64.wrap (8 * y.n 91011) + IntKind.i64.wrap ((y.n 91073).tdiv 8)) = 8 * y.n 91011 + y.n 91073 / 8 := by rw [e0, wi64, wi64, wi64]; omega
    have e2 : IntKind.i64.wrap (7 - (y.n 91073).tmod 8) = 7 - y.n 91073 % 8 := by rw [Int.tmod_eq_emod_of_nonneg (by omega), wi64]; omega
    have e3 : IntKind.i64.wrap (y.n 100007 - 1) = 63 - y.n 91073 := by rw [wi64]; omega
    have e4 : IntKind.i64.wrap (y.n 91073 + 1) = y.n 91073 + 1 := by rw [wi64]; omega
    have bl := bitM (y.l 0) (y.n 100006) (y.n 91011) hO g0 g1 g2 g3 g4 g5 g6 g7 (y.n 91073).toNat (by omega)
    rw [show (((y.n 91073).toNat : Nat) : Int) = y.n 91073 from by omega] at bl
    have b1 : inB (8 * y.n 91011 + y.n 91073 / 8) 512 = true := by simp only [inB, Bool.and_eq_true, decide_eq_true_eq]; omega
    have hro : rOk (y.l 0) (8 * y.n 91011 + y.n 91073 / 8).toNat (EK.i .u8) = true := hR.rOk (q := .r .u8 0 255) (by omega) (by simp [Nat.mod_one]) rfl
    simp only [e1, e2, e3, e4, bl, hm2]
    refine ⟨b1, hro, decide_eq_true (by omega), fun hq => (Bool.noConfusion hq), fun _ => ⟨fun hq => absurd (eq_of_beq hq) (by omega), fun _ => ⟨fun hq => absurd (of_decide_eq_true hq) (by omega), fun _ => ⟨decide_eq_true (by omega), sameB_self _, fun hq => ?_, fun _ => ?_⟩⟩⟩⟩
    · rw [bne_self_eq_false] at hq; cases hq
    · (repeat' (first | exact trivial | with_reducible rfl | assumption | exact decide_eq_true rfl | exact sameB_self _ | exact decide_eq_true (by simp only [size_append, size_bytesN]; rfl) | exact rfl | apply And.intro)) <;> omega
  · have h := of_decide_eq_false h
    have e4 : IntKind.i64.wrap (y.n 91011 + 1) = y.n 91011 + 1 := by rw [wi64]; omega
    simp only [e4]
    (repeat' (first | exact trivial | with_reducible rfl | assumption | exact decide_eq_true rfl | exact sameB_self _ | exact decide_eq_true (by simp only [size_append, size_bytesN]; rfl) | exact rfl | apply And.intro)) <;> omega
end Go.Proofs.Ythgcieloijmgdaa

