import Derived.Test.YthgcieloijmgdaaSaf
set_option linter.unusedVariables false
set_option linter.unusedSimpArgs false
namespace Go.Proofs.Ythgcieloijmgdaa
open Go Go.Proofs Go.Proofs.Ythgcieloijmgdaa.Ev Go.Proofs.Ythgcieloijmgdaa.Ev.Ho
set_option maxRecDepth 100000
set_option maxHeartbeats 8000000 in
theorem law_q1 (E : World) (g : Bool) (sd : Int) (z : PX) (hp : (fun _ => 0 ≤ sd ∧ sd ≤ 4294967295) z) (y : PX) (hy1 : rgM y [rowB, mC 14 false] 0) (hy2 : rgF y [(5, .c (.i true .i64 14)), (6, .c (.i true .i64 8192)), (7, .q (.rs 0 1 8192)), (9, .c (.p 1 0)), (11, .r .i64 (0) (1029))]) (hy3 : (fun y => (Ln (y.l 0) 8192 ∧ EqT (y.s 100000) (y.l 0) 8192) ∧ y.n 91011 ≤ 1028) y) : Holds ((run (pe E) (orcA E) (tabL fns) 20000 (2 ^ 2 + 2 ^ 6) (t2a_td E) (mkL Try.f6.ntmps (slC y [(5, .c (.i true .i64 14)), (6, .c (.i true .i64 8192)), (7, .q (.rs 0 1 8192)), (9, .c (.p 1 0)), (11, .r .i64 (0) (1029))])) (mkM y [] [rowB, mC 14 false] 0)).OK (lfP (pe E) Try.f6 (endR ([] : List MB).length [] (.c .b) (fun z y => y.b 90000 = true) z) (headR ([] : List MB).length Try.f6.ntmps (some ((fun y => ((2000 - y.n 91011) * 100 + 90).toNat) y)) (law_hs E g sd z)))) := by
  refine loopW_lfH [none, some false, some false, some false, some true, some false, some false, some false, some false, some false, some false, some false, some false, some false, some false, some false, some false, some false, some false, some false, some false, some false, some false, some false] ⟨?_⟩
  rw [law_r1]
  have hf : True ∧ True ∧ True ∧ True ∧ (((0) ≤ y.n 91011 ∧ y.n 91011 ≤ (1029)) ∧ True) ∧ True := hy2
  obtain ⟨_, _, _, _, ⟨g11, _⟩, _⟩ := hf
  obtain ⟨⟨hLn, hT⟩, hu⟩ := hy3
  have hR : Row [.r .u8 0 255] (y.l 0) := hy1.1.2
  have hf : flat [Sp.r .u8 0 255] = true := rfl
  have hl := hLn.e
  have hsz : (y.s 100000).size = 8192 := by rw [hT.e]; exact size_rowT _ _
  have hm : (y.s 100000 == ByteArray.mk #[]) = false := by
    cases hq : (y.s 100000 == ByteArray.mk #[])
    · rfl
    · have h9 := beqB hq
      rw [h9] at hsz; exact absurd hsz (by decide)
  have hm2 : (false ^^ y.s 100000 == ByteArray.mk #[]) = false := by rw [hm]; rfl
  have z0 : bits .and .u8 (IntKind.u8.wrap (49 - 48)) 1 = 1 := by rfl
  simp only [rqa_0, rqa_1, rqa_2, rqa_3, rqa_4, rqa_5, rqa_6, rqa_7, rqa_8, rqa_9, rqa_10, rqa_11, rqa_12, rqa_13, rqa_14, rqa_15, rqa_16, z0, bt, hm2]
  refine ⟨fun h => ?_, fun h => ?_⟩
  · have h := of_decide_eq_true h
    have o0 : bits .or .i64 0 (IntKind.i64.wrap (y.n 91011 / 8192 % 2)) = y.n 91011 / 8192 := by rw [orz _ (by omega)]; omega
    have o1 : bits .or .i64 (IntKind.i64.wrap (y.n 91011 / 8192 * 2)) (IntKind.i64.wrap (y.n 91011 / 4096 % 2)) = y.n 91011 / 4096 := by rw [or2 _ _ (by omega) (by omega) (by omega)]; omega
    have o2 : bits .or .i64 (IntKind.i64.wrap (y.n 91011 / 4096 * 2)) (IntKind.i64.wrap (y.n 91011 / 2048 % 2)) = y.n 91011 / 2048 := by rw [or2 _ _ (by omega) (by omega) (by omega)]; omega
    have o3 : bits .or .i64 (IntKind.i64.wrap (y.n 91011 / 2048 * 2)) (IntKind.i64.wrap (y.n 91011 / 1024 % 2)) = y.n 91011 / 1024 := by rw [or2 _ _ (by omega) (by omega) (by omega)]; omega
    have o4 : bits .or .i64 (IntKind.i64.wrap (y.n 91011 / 1024 * 2)) (IntKind.i64.wrap (y.n 91011 / 512 % 2)) = y.n 91011 / 512 := by rw [or2 _ _ (by omega) (by omega) (by omega)]; omega
    have o5 : bits .or .i64 (IntKind.i64.wrap (y.n 91011 / 512 * 2)) (IntKind.i64.wrap (y.n 91011 / 256 % 2)) = y.n 91011 / 256 := by rw [or2 _ _ (by omega) (by omega) (by omega)]; omega
    have o6 : bits .or .i64 (IntKind.i64.wrap (y.n 91011 / 256 * 2)) (IntKind.i64.wrap (y.n 91011 / 128 % 2)) = y.n 91011 / 128 := by rw [or2 _ _ (by omega) (by omega) (by omega)]; omega
    have o7 : bits .or .i64 (IntKind.i64.wrap (y.n 91011 / 128 * 2)) (IntKind.i64.wrap (y.n 91011 / 64 % 2)) = y.n 91011 / 64 := by rw [or2 _ _ (by omega) (by omega) (by omega)]; omega
    have o8 : bits .or .i64 (IntKind.i64.wrap (y.n 91011 / 64 * 2)) (IntKind.i64.wrap (y.n 91011 / 32 % 2)) = y.n 91011 / 32 := by rw [or2 _ _ (by omega) (by omega) (by omega)]; omega
    have o9 : bits .or .i64 (IntKind.i64.wrap (y.n 91011 / 32 * 2)) (IntKind.i64.wrap (y.n 91011 / 16 % 2)) = y.n 91011 / 16 := by rw [or2 _ _ (by omega) (by omega) (by omega)]; omega
    have o10 : bits .or .i64 (IntKind.i64.wrap (y.n 91011 / 16 * 2)) (IntKind.i64.wrap (y.n 91011 / 8 % 2)) = y.n 91011 / 8 := by rw [or2 _ _ (by omega) (by omega) (by omega)]; omega
    have o11 : bits .or .i64 (IntKind.i64.wrap (y.n 91011 / 8 * 2)) (IntKind.i64.wrap (y.n 91011 / 4 % 2)) = y.n 91011 / 4 := by rw [or2 _ _ (by omega) (by omega) (by omega)]; omega
    have o12 : bits .or .i64 (IntKind.i64.wrap (y.n 91011 / 4 * 2)) (IntKind.i64.wrap (y.n 91011 / 2 % 2)) = y.n 91011 / 2 := by rw [or2 _ _ (by omega) (by omega) (by omega)]; omega
    have o13 : bits .or .i64 (IntKind.i64.wrap (y.n 91011 / 2 * 2)) (IntKind.i64.wrap (y.n 91011 / 1 % 2)) = y.n 91011 := by rw [or2 _ _ (by omega) (by omega) (by omega)]; omega
    have a1 : IntKind.i64.wrap (y.n 91011 * 8) = y.n 91011 * 8 := by rw [wi64]; omega
    have a2 : (y.n 91011 * 8).tmod ((8192 : Nat) : Int) = y.n 91011 * 8 := by rw [tmod_n _ _ (by omega)]; omega
    have g0 := hR.rg (p := (8 * y.n 91011).toNat) (k := .u8) (lo := 0) (hi := 255) (by omega) (by simp [Nat.mod_one])
    have i0 : IntKind.i64.wrap (y.n 91011 * 8 + 0) = 8 * y.n 91011 := by rw [wi64]; omega
    have v0 : strB (y.s 100000) (8 * y.n 91011) = rI (y.l 0) (8 * y.n 91011).toNat := by rw [hT.e]; exact strB_rowT (by omega) (by omega) g0
    have b0 : inB (8 * y.n 91011) 8192 = true := by simp only [inB, Bool.and_eq_true, decide_eq_true_eq]; omega
    have g1 := hR.rg (p := (8 * y.n 91011 + 1).toNat) (k := .u8) (lo := 0) (hi := 255) (by omega) (by simp [Nat.mod_one])
    have i1 : IntKind.i64.wrap (y.n 91011 * 8 + 1) = 8 * y.n 91011 + 1 := by rw [wi64]; omega
    have v1 : strB (y.s 100000) (8 * y.n 91011 + 1) = rI (y.l 0) (8 * y.n 91011 + 1).toNat := by rw [hT.e]; exact strB_rowT (by omega) (by omega) g1
    have b1 : inB (8 * y.n 91011 + 1) 8192 = true := by simp only [inB, Bool.and_eq_true, decide_eq_true_eq]; omega
    have g2 := hR.rg (p := (8 * y.n 91011 + 2).toNat) (k := .u8) (lo := 0) (hi := 255) (by omega) (by simp [Nat.mod_one])
    have i2 : IntKind.i64.wrap (y.n 91011 * 8 + 2) = 8 * y.n 91011 + 2 := by rw [wi64]; omega
    have v2 : strB (y.s 100000) (8 * y.n 91011 + 2) = rI (y.l 0) (8 * y.n 91011 + 2).toNat := by rw [hT.e]; exact strB_rowT (by omega) (by omega) g2
    have b2 : inB (8 * y.n 91011 + 2) 8192 = true := by simp only [inB, Bool.and_eq_true, decide_eq_true_eq]; omega
    have g3 := hR.rg (p := (8 * y.n 91011 + 3).toNat) (k := .u8) (lo := 0) (hi := 255) (by omega) (by simp [Nat.mod_one])
    have i3 : IntKind.i64.wrap (y.n 91011 * 8 + 3) = 8 * y.n 91011 + 3 := by rw [wi64]; omega
    have v3 : strB (y.s 100000) (8 * y.n 91011 + 3) = rI (y.l 0) (8 * y.n 91011 + 3).toNat := by rw [hT.e]; exact strB_rowT (by omega) (by omega) g3
    have b3 : inB (8 * y.n 91011 + 3) 8192 = true := by simp only [inB, Bool.and_eq_true, decide_eq_true_eq]; omega
    have g4 := hR.rg (p := (8 * y.n 91011 + 4).toNat) (k := .u8) (lo := 0) (hi := 255) (by omega) (by simp [Nat.mod_one])
    have i4 : IntKind.i64.wrap (y.n 91011 * 8 + 4) = 8 * y.n 91011 + 4 := by rw [wi64]; omega
    have v4 : strB (y.s 100000) (8 * y.n 91011 + 4) = rI (y.l 0) (8 * y.n 91011 + 4).toNat := by rw [hT.e]; exact strB_rowT (by omega) (by omega) g4
    have b4 : inB (8 * y.n 91011 + 4) 8192 = true := by simp only [inB, Bool.and_eq_true, decide_eq_true_eq]; omega
    have g5 := hR.rg (p := (8 * y.n 91011 + 5).toNat) (k := .u8) (lo := 0) (hi := 255) (by omega) (by simp [Nat.mod_one])
    have i5 : IntKind.i64.wrap (y.n 91011 * 8 + 5) = 8 * y.n 91011 + 5 := by rw [wi64]; omega
    have v5 : strB (y.s 100000) (8 * y.n 91011 + 5) = rI (y.l 0) (8 * y.n 91011 + 5).toNat := by rw [hT.e]; exact strB_rowT (by omega) (by omega) g5
    have b5 : inB (8 * y.n 91011 + 5) 8192 = true := by simp only [inB, Bool.and_eq_true, decide_eq_true_eq]; omega
    have g6 := hR.rg (p := (8 * y.n 91011 + 6).toNat) (k := .u8) (lo := 0) (hi := 255) (by omega) (by simp [Nat.mod_one])
    have i6 : IntKind.i64.wrap (y.n 91011 * 8 + 6) = 8 * y.n 91011 + 6 := by rw [wi64]; omega
    have v6 : strB (y.s 100000) (8 * y.n 91011 + 6) = rI (y.l 0) (8 * y.n 91011 + 6).toNat := by rw [hT.e]; exact strB_rowT (by omega) (by omega) g6
    have b6 : inB (8 * y.n 91011 + 6) 8192 = true := by simp only [inB, Bool.and_eq_true, decide_eq_true_eq]; omega
    have g7 := hR.rg (p := (8 * y.n 91011 + 7).toNat) (k := .u8) (lo := 0) (hi := 255) (by omega) (by simp [Nat.mod_one])
    have i7 : IntKind.i64.wrap (y.n 91011 * 8 + 7) = 8 * y.n 91011 + 7 := by rw [wi64]; omega
    have v7 : strB (y.s 100000) (8 * y.n 91011 + 7) = rI (y.l 0) (8 * y.n 91011 + 7).toNat := by rw [hT.e]; exact strB_rowT (by omega) (by omega) g7
    have b7 : inB (8 * y.n 91011 + 7) 8192 = true := by simp only [inB, Bool.and_eq_true, decide_eq_true_eq]; omega
    have q0 : bits .or .u64 0 (IntKind.u64.wrap (rI (y.l 0) (8 * y.n 91011).toNat)) = rI (y.l 0) (8 * y.n 91011).toNat := orz8 _ g0
    have q1 : bits .or .u64 (IntKind.u64.wrap ((rI (y.l 0) (8 * y.n 91011).toNat) * 256)) (IntKind.u64.wrap (rI (y.l 0) (8 * y.n 91011 + 1).toNat)) = (rI (y.l 0) (8 * y.n 91011).toNat) * 256 + rI (y.l 0) (8 * y.n 91011 + 1).toNat := or256 _ _ (by omega) (by omega) g1
    have q2 : bits .or .u64 (IntKind.u64.wrap (((rI (y.l 0) (8 * y.n 91011).toNat) * 256 + rI (y.l 0) (8 * y.n 91011 + 1).toNat) * 256)) (IntKind.u64.wrap (rI (y.l 0) (8 * y.n 91011 + 2).toNat)) = ((rI (y.l 0) (8 * y.n 91011).toNat) * 256 + rI (y.l 0) (8 * y.n 91011 + 1).toNat) * 256 + rI (y.l 0) (8 * y.n 91011 + 2).toNat := or256 _ _ (by omega) (by omega) g2
    have q3 : bits .or .u64 (IntKind.u64.wrap ((((rI (y.l 0) (8 * y.n 91011).toNat) * 256 + rI (y.l 0) (8 * y.n 91011 + 1).toNat) * 256 + rI (y.l 0) (8 * y.n 91011 + 2).toNat) * 256)) (IntKind.u64.wrap (rI (y.l 0) (8 * y.n 91011 + 3).toNat)) = (((rI (y.l 0) (8 * y.n 91011).toNat) * 256 + rI (y.l 0) (8 * y.n 91011 + 1).toNat) * 256 + rI (y.l 0) (8 * y.n 91011 + 2).toNat) * 256 + rI (y.l 0) (8 * y.n 91011 + 3).toNat := or256 _ _ (by omega) (by omega) g3
    have q4 : bits .or .u64 (IntKind.u64.wrap (((((rI (y.l 0) (8 * y.n 91011).toNat) * 256 + rI (y.l 0) (8 * y.n 91011 + 1).toNat) * 256 + rI (y.l 0) (8 * y.n 91011 + 2).toNat) * 256 + rI (y.l 0) (8 * y.n 91011 + 3).toNat) * 256)) (IntKind.u64.wrap (rI (y.l 0) (8 * y.n 91011 + 4).toNat)) = ((((rI (y.l 0) (8 * y.n 91011).toNat) * 256 + rI (y.l 0) (8 * y.n 91011 + 1).toNat) * 256 + rI (y.l 0) (8 * y.n 91011 + 2).toNat) * 256 + rI (y.l 0) (8 * y.n 91011 + 3).toNat) * 256 + rI (y.l 0) (8 * y.n 91011 + 4).toNat := or256 _ _ (by omega) (by omega) g4
    have q5 : bits .or .u64 (IntKind.u64.wrap ((((((rI (y.l 0) (8 * y.n 91011).toNat) * 256 + rI (y.l 0) (8 * y.n 91011 + 1).toNat) * 256 + rI (y.l 0) (8 * y.n 91011 + 2).toNat) * 256 + rI (y.l 0) (8 * y.n 91011 + 3).toNat) * 256 + rI (y.l 0) (8 * y.n 91011 + 4).toNat) * 256)) (IntKind.u64.wrap (rI (y.l 0) (8 * y.n 91011 + 5).toNat)) = (((((rI (y.l 0) (8 * y.n 91011).toNat) * 256 + rI (y.l 0) (8 * y.n 91011 + 1).toNat) * 256 + rI (y.l 0) (8 * y.n 91011 + 2).toNat) * 256 + rI (y.l 0) (8 * y.n 91011 + 3).toNat) * 256 + rI (y.l 0) (8 * y.n 91011 + 4).toNat) * 256 + rI (y.l 0) (8 * y.n 91011 + 5).toNat := or256 _ _ (by omega) (by omega) g5
    have q6 : bits .or .u64 (IntKind.u64.wrap (((((((rI (y.l 0) (8 * y.n 91011).toNat) * 256 + rI (y.l 0) (8 * y.n 91011 + 1).toNat) * 256 + rI (y.l 0) (8 * y.n 91011 + 2).toNat) * 256 + rI (y.l 0) (8 * y.n 91011 + 3).toNat) * 256 + rI (y.l 0) (8 * y.n 91011 + 4).toNat) * 256 + rI (y.l 0) (8 * y.n 91011 + 5).toNat) * 256)) (IntKind.u64.wrap (rI (y.l 0) (8 * y.n 91011 + 6).toNat)) = ((((((rI (y.l 0) (8 * y.n 91011).toNat) * 256 + rI (y.l 0) (8 * y.n 91011 + 1).toNat) * 256 + rI (y.l 0) (8 * y.n 91011 + 2).toNat) * 256 + rI (y.l 0) (8 * y.n 91011 + 3).toNat) * 256 + rI (y.l 0) (8 * y.n 91011 + 4).toNat) * 256 + rI (y.l 0) (8 * y.n 91011 + 5).toNat) * 256 + rI (y.l 0) (8 * y.n 91011 + 6).toNat := or256 _ _ (by omega) (by omega) g6
    have q7 : bits .or .u64 (IntKind.u64.wrap ((((((((rI (y.l 0) (8 * y.n 91011).toNat) * 256 + rI (y.l 0) (8 * y.n 91011 + 1).toNat) * 256 + rI (y.l 0) (8 * y.n 91011 + 2).toNat) * 256 + rI (y.l 0) (8 * y.n 91011 + 3).toNat) * 256 + rI (y.l 0) (8 * y.n 91011 + 4).toNat) * 256 + rI (y.l 0) (8 * y.n 91011 + 5).toNat) * 256 + rI (y.l 0) (8 * y.n 91011 + 6).toNat) * 256)) (IntKind.u64.wrap (rI (y.l 0) (8 * y.n 91011 + 7).toNat)) = (((((((rI (y.l 0) (8 * y.n 91011).toNat) * 256 + rI (y.l 0) (8 * y.n 91011 + 1).toNat) * 256 + rI (y.l 0) (8 * y.n 91011 + 2).toNat) * 256 + rI (y.l 0) (8 * y.n 91011 + 3).toNat) * 256 + rI (y.l 0) (8 * y.n 91011 + 4).toNat) * 256 + rI (y.l 0) (8 * y.n 91011 + 5).toNat) * 256 + rI (y.l 0) (8 * y.n 91011 + 6).toNat) * 256 + rI (y.l 0) (8 * y.n 91011 + 7).toNat := or256 _ _ (by omega) (by omega) g7
    have hO : O8 ((((((((rI (y.l 0) (8 * y.n 91011).toNat) * 256 + rI (y.l 0) (8 * y.n 91011 + 1).toNat) * 256 + rI (y.l 0) (8 * y.n 91011 + 2).toNat) * 256 + rI (y.l 0) (8 * y.n 91011 + 3).toNat) * 256 + rI (y.l 0) (8 * y.n 91011 + 4).toNat) * 256 + rI (y.l 0) (8 * y.n 91011 + 5).toNat) * 256 + rI (y.l 0) (8 * y.n 91011 + 6).toNat) * 256 + rI (y.l 0) (8 * y.n 91011 + 7).toNat) (y.l 0) (y.n 91011) := ⟨by omega⟩
    simp only [o0, o1, o2, o3, o4, o5, o6, o7, o8, o9, o10, o11, o12, o13, hsz, a1, a2, i0, i1, i2, i3, i4, i5, i6, i7, v0, v1, v2, v3, v4, v5, v6, v7, q0, q1, q2, q3, q4, q5, q6, q7]
    (repeat' (first | exact trivial | with_reducible rfl | with_reducible assumption | exact decide_eq_true rfl | exact sameB_self _ | exact decide_eq_true (by simp only [size_append, size_bytesN, rqa_size]; rfl) | exact rfl | apply And.intro)) <;> omega
  · have h := of_decide_eq_false h
    have hu8 := rowOK hR (n := 8192) (by omega)
    have hq : (false ^^ y.s 100000 == rowT (y.l 0) 8192) = true := by rw [hT.e, beqS]; rfl
    (repeat' (first | exact trivial | with_reducible rfl | with_reducible assumption | exact decide_eq_true rfl | exact sameB_self _ | exact decide_eq_true (by simp only [size_append, size_bytesN, rqa_size]; rfl) | exact rfl | apply And.intro))
end Go.Proofs.Ythgcieloijmgdaa
