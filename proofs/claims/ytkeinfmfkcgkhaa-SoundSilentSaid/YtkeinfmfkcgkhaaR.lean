import Derived.Test.YtkeinfmfkcgkhaaO
set_option linter.unusedVariables false
set_option linter.unusedSimpArgs false
namespace Go.Proofs.Ytkeinfmfkcgkhaa
open Go Go.Proofs Go.Proofs.Ytkeinfmfkcgkhaa.Ev Go.Proofs.Ytkeinfmfkcgkhaa.Ev.Ho
set_option maxRecDepth 100000
theorem law_r1 (E : World) (a : Option Addr) (n m : Nat) (b : Int) (z : PX) (y : PX) :
    (loopP (pe E) Try.f6 (endR ([] : List MB).length [] (.c .b) (fun z y => y.b 90000 = true) z) (headR ([] : List MB).length Try.f6.ntmps (some ((fun y => (1000000 - y.n 91098).toNat) y)) (law_hs E a n m b z))  (run (pe E) (orcT E) (tabL fns) 20000 (2 ^ 200 - 1) (l2_td E) (mkL Try.f6.ntmps (slC y [(96, .v 0 2), (97, .r .i64 (0) (1000000)), (98, .r .i64 (0) (1000000))])) (mkM y [] [rowS] 0))) =
    ((decide (y.n (91098 : Nat) < y.n (91097 : Nat)) = true → inB (y.n (91098 : Nat)) (y.n (91096 : Nat)).toNat = true ∧ rRow (y.l (0 : Nat)) ((y.n (91098 : Nat)).toNat * (2 :
      Nat) + (0 : Nat)) ([EK.i IntKind.i16] ++ ([EK.i IntKind.i16] ++ [])) = true ∧ ((true ^^ rI (y.l (0 : Nat)) ((y.n (91098 : Nat)).toNat * (2 : Nat) + (0 : Nat)) == (0 : Int)
      && (rI (y.l (0 : Nat)) ((y.n (91098 : Nat)).toNat * (2 : Nat) + (1 : Nat)) == (0 : Int) && true)) = true → ([] : SW) = [] ∧ True ∧ false = true) ∧ ((true ^^ rI (y.l (0 :
      Nat)) ((y.n (91098 : Nat)).toNat * (2 : Nat) + (0 : Nat)) == (0 : Int) && (rI (y.l (0 : Nat)) ((y.n (91098 : Nat)).toNat * (2 : Nat) + (1 : Nat)) == (0 : Int) && true)) =
      false → l2_td E = l2_td E ∧ (106 : Nat) = (106 : Nat) ∧ (True ∧ (((0 : Int) ≤ y.n (91097 : Nat) ∧ y.n (91097 : Nat) ≤ (1000000 : Int)) ∧ True) ∧ (((0 : Int) ≤
      IntKind.i64.wrap (y.n (91098 : Nat) + (1 : Int)) ∧ IntKind.i64.wrap (y.n (91098 : Nat) + (1 : Int)) ≤ (1000000 : Int)) ∧ True) ∧ True) ∧ ((60 : Nat) = (60 : Nat) ∧ (flat
      [Sp.r IntKind.i16 (0 : Int) (0 : Int), Sp.r IntKind.i16 (0 : Int) (0 : Int)] = true ∧ Row [Sp.r IntKind.i16 (0 : Int) (0 : Int), Sp.r IntKind.i16 (0 : Int) (0 : Int)] (y.l
      (0 : Nat))) ∧ ([] : SW) = []) ∧ (Len2 (y.l (0 : Nat)) (↑(y.n (91096 : Nat)).toNat : Int) ∧ y.n (91097 : Nat) = (↑(y.n (91096 : Nat)).toNat : Int) ∧ IntKind.i64.wrap (y.n
      (91098 : Nat) + (1 : Int)) ≤ y.n (91097 : Nat)) ∧ ((1000000 : Int) - IntKind.i64.wrap (y.n (91098 : Nat) + (1 : Int))).toNat < ((1000000 : Int) - y.n (91098 : Nat)).toNat
      ∧ True)) ∧ (decide (y.n (91098 : Nat) < y.n (91097 : Nat)) = false → ([] : SW) = [] ∧ True ∧ true = true)) := by kernel_rfl
set_option maxHeartbeats 8000000 in
theorem law_q1 (E : World) (a : Option Addr) (n m : Nat) (b : Int) (z : PX) (hp : (fun _ => eRows E a n 4 [.i .i64, .i .i64, .i .i64, .i .u32] = true ∧ (n = 0 ∨ a.isSome = true) ∧ 0 ≤ b ∧ b ≤ 65535) z) (y : PX) (hy1 : rgM y [rowS] 0) (hy2 : rgF y [(96, .v 0 2), (97, .r .i64 (0) (1000000)), (98, .r .i64 (0) (1000000))]) (hy3 : (fun y => Len2 (y.l 0) (y.n 91096) ∧ y.n 91097 = y.n 91096 ∧ y.n 91098 ≤ y.n 91097) y) : Holds ((run (pe E) (orcT E) (tabL fns) 20000 (2 ^ 200 - 1) (l2_td E) (mkL Try.f6.ntmps (slC y [(96, .v 0 2), (97, .r .i64 (0) (1000000)), (98, .r .i64 (0) (1000000))])) (mkM y [] [rowS] 0)).OK (lfP (pe E) Try.f6 (endR ([] : List MB).length [] (.c .b) (fun z y => y.b 90000 = true) z) (headR ([] : List MB).length Try.f6.ntmps (some ((fun y => (1000000 - y.n 91098).toNat) y)) (law_hs E a n m b z)))) := by
  refine loopP_lfH ⟨?_⟩
  rw [law_r1]
  have hf : (0 ≤ y.n 91096 ∧ True) ∧ (((0) ≤ y.n 91097 ∧ y.n 91097 ≤ (1000000)) ∧ True) ∧ (((0) ≤ y.n 91098 ∧ y.n 91098 ≤ (1000000)) ∧ True) ∧ True := hy2
  obtain ⟨⟨g96, _⟩, ⟨g97, _⟩, ⟨g98, _⟩, _⟩ := hf
  obtain ⟨hL, he, hle⟩ := hy3
  have hR : Row [.r .i16 0 0, .r .i16 0 0] (y.l 0) := hy1.1.2
  have hf : flat [Sp.r .i16 0 0, Sp.r .i16 0 0] = true := rfl
  have T1 : ((y.n 91096).toNat : Int) = y.n 91096 := Int.toNat_of_nonneg g96
  have w1 : IntKind.i64.wrap (y.n 91098 + 1) = y.n 91098 + 1 := by rw [wi64]; omega
  simp only [T1, w1]
  refine ⟨fun hl => ?_, fun hl => ⟨by trivial, by trivial, by trivial⟩⟩
  have hl := of_decide_eq_true hl
  have hin : inB (y.n 91098) (y.n 91096).toNat = true := by simp only [inB, Bool.and_eq_true, decide_eq_true_eq]; omega
  have hlen := hL.e
  have kq : ∀ r, r < 2 → [Sp.r .i16 0 0, Sp.r .i16 0 0][((y.n 91098).toNat * 2 + r) % [Sp.r .i16 0 0, Sp.r .i16 0 0].length]? = some (.r .i16 0 0) := by
    intro r hr
    have e1 : ((y.n 91098).toNat * 2 + r) % [Sp.r .i16 0 0, Sp.r .i16 0 0].length = r := by show ((y.n 91098).toNat * 2 + r) % 2 = r; omega
    rw [e1]
    match r with
    | 0 => rfl
    | 1 => rfl
  have key : ∀ r, r < 2 → rOk (y.l 0) ((y.n 91098).toNat * 2 + r) (EK.i .i16) = true := fun r hr => hR.rOk (q := .r .i16 0 0) (by omega) (kq r hr) rfl
  have k0 := key 0 (by decide)
  have k1 := key 1 (by decide)
  have hr : rRow (y.l 0) ((y.n 91098).toNat * 2 + 0) ([EK.i .i16] ++ ([EK.i .i16] ++ [])) = true := by
    show (rOk _ ((y.n 91098).toNat * 2 + 0) _ && (rOk _ ((y.n 91098).toNat * 2 + 0 + 1) _ && true)) = true
    rw [k0, show (y.n 91098).toNat * 2 + 0 + 1 = (y.n 91098).toNat * 2 + 1 from rfl, k1]; rfl
  have i0 : rI (y.l 0) ((y.n 91098).toNat * 2 + 0) = 0 := by have := hR.rg (p := (y.n 91098).toNat * 2 + 0) (by omega) (k := .i16) (kq 0 (by decide)); omega
  have i1 : rI (y.l 0) ((y.n 91098).toNat * 2 + 1) = 0 := by have := hR.rg (p := (y.n 91098).toNat * 2 + 1) (by omega) (k := .i16) (kq 1 (by decide)); omega
  rw [i0, i1]
  refine ⟨hin, hr, fun h => absurd h (by decide), fun _ => ?_⟩
  ((repeat' (first | exact trivial | with_reducible rfl | assumption | exact decide_eq_true rfl | exact sameB_self _ | exact rfl | apply And.intro | intro _)) <;> omega)
end Go.Proofs.Ytkeinfmfkcgkhaa

