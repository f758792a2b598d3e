import Derived.Test.YthgcieloijmgdaaU1b
import Derived.Test.YthgcieloijmgdaaUM
set_option linter.unusedVariables false
set_option linter.unusedSimpArgs false
namespace Go.Proofs.Ythgcieloijmgdaa
open Go Go.Proofs Go.Proofs.Ythgcieloijmgdaa.Ev Go.Proofs.Ythgcieloijmgdaa.Ev.Ho
set_option maxRecDepth 100000
set_option maxHeartbeats 8000000 in
theorem law_q4 (E : World) (g : Bool) (sd : Int) (z : PX) (hp : (fun _ => 0 ≤ sd ∧ sd ≤ 4294967295) z) (y : PX) (hy1 : rgM y [rowB] 0) (hy2 : rgF y [(1, .r .u32 (0) (4294967295)), (5, .c (.i true .i64 6)), (6, .c (.i true .i64 512)), (7, .q (.rs 0 1 512)), (25, .q (.i false .i64 512)), (26, .r .i64 (0) (512))]) (hy3 : (fun y => Ln (y.l 0) 512 ∧ True) y) : Holds ((run (pe E) (orcA E) (tabL fns) 20000 (2 ^ 2 + 2 ^ 6) (t1b_td E) (mkL Try.f6.ntmps (slC y [(1, .r .u32 (0) (4294967295)), (5, .c (.i true .i64 6)), (6, .c (.i true .i64 512)), (7, .q (.rs 0 1 512)), (25, .q (.i false .i64 512)), (26, .r .i64 (0) (512))])) (mkM y [] [rowB] 0)).OK (lfP (pe E) Try.f6 (endR ([] : List MB).length [] (.c .b) (fun z y => y.b 90000 = true) z) (headR ([] : List MB).length Try.f6.ntmps (some ((fun y => (20000 - y.n 91026).toNat + 300000) y)) (law_hs E g sd z)))) := by
  refine loopP_lfH ⟨?_⟩
  rw [law_r4]
  have hf : (((0) ≤ y.n 91001 ∧ y.n 91001 ≤ (4294967295)) ∧ True) ∧ True ∧ True ∧ True ∧ True ∧ (((0) ≤ y.n 91026 ∧ y.n 91026 ≤ (512)) ∧ True) ∧ True := hy2
  obtain ⟨⟨g1, _⟩, _, _, _, _, ⟨g26, _⟩, _⟩ := hf
  obtain ⟨hLn, _⟩ := hy3
  have hR : Row [.r .u8 0 255] (y.l 0) := hy1.1.2
  have hf : flat [Sp.r .u8 0 255] = true := rfl
  have hl := hLn.e
  have hu8 := rowOK hR (n := 512) (by omega)
  have hsz := size_rowT (y.l 0) 512
  simp only [hsz]
  refine ⟨fun h => ?_, fun h => ?_⟩
  · have h := of_decide_eq_true h
    have i1 : IntKind.i64.wrap (y.n 91026 + 1) = y.n 91026 + 1 := by rw [wi64]; omega
    simp only [i1]
    have b1 : inB (y.n 91026) 512 = true := by simp only [inB, Bool.and_eq_true, decide_eq_true_eq]; omega
    have hv := fun x : Int => hR.set1 (p := (y.n 91026).toNat) (v := .i false .u8 (IntKind.u8.wrap x)) (q := .r .u8 0 255) (by omega) (by simp [Nat.mod_one]) ⟨(by rw [wu8]; omega : 0 ≤ IntKind.u8.wrap x ∧ IntKind.u8.wrap x ≤ 255), trivial⟩
    have hn := fun x : Int => (Ln.mk (by rw [len_set]; exact hl) : Ln (rSet (y.l 0) (y.n 91026).toNat [.i false .u8 x]) 512)
    have w32 := fun x : Int => (by rw [wu32]; omega : 0 ≤ IntKind.u32.wrap x ∧ IntKind.u32.wrap x ≤ 4294967295)
    (repeat' (first | exact trivial | with_reducible rfl | exact hv _ | exact hn _ | exact (w32 _).1 | exact (w32 _).2 | assumption | exact decide_eq_true (by omega) | exact rfl | apply And.intro)) <;> omega
  · have h := of_decide_eq_false h
    have hT : EqT (rowT (y.l 0) 512) (y.l 0) 512 := ⟨rfl⟩
    refine ⟨hu8, fun _ => ?_, fun hq => ?_⟩
    all_goals first | (exfalso; revert hq; decide) | skip
    (repeat' (first | exact trivial | with_reducible rfl | assumption | exact decide_eq_true rfl | exact sameB_self _ | exact decide_eq_true (by simp only [size_append, size_bytesN]; rfl) | exact rfl | apply And.intro)) <;> omega
end Go.Proofs.Ythgcieloijmgdaa

