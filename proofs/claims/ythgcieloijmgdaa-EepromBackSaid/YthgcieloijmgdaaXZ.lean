import Derived.Test.YthgcieloijmgdaaXP
import Derived.Test.YthgcieloijmgdaaXaq
import Derived.Test.YthgcieloijmgdaaXbq
set_option linter.unusedVariables false
set_option linter.unusedSimpArgs false
namespace Go.Proofs.Ythgcieloijmgdaa
open Go Go.Proofs Go.Proofs.Ythgcieloijmgdaa.Ev Go.Proofs.Ythgcieloijmgdaa.Ev.Ho
set_option maxRecDepth 100000
set_option maxHeartbeats 8000000 in
theorem bk_c (E : World) (g : Bool) (u d : Int) (z : PX) (hz : rgM z [] 0) (hp : (fun _ => (-9223372036854775808 ≤ u ∧ u ≤ 9223372036854775807) ∧ (0 ≤ d ∧ d ≤ 18446744073709551615)) z) : HD (pe E) 4 [.c (.b false g), .c (.i false .i64 u), .c (.i false .u64 d)] [] [] (.c .b) (fun z y => y.b 90000 = true) z := by
  refine HD.loop (P := pe E) orcW_ok tab_ok tab_sz mixed Try.func4 (c := Try.f4.body.getD .skip) rfl (by decide) (Nat.le_of_ble_eq_true rfl) (by rfl) 20000 (2 ^ 200 - 1) (bk_hs E g u d z) (by rfl) (loopP_lfH ⟨?_⟩) ?_
  · rw [bk_pro]
    refine ⟨fun hg => ?_, fun hg => ?_⟩
    · have hn := umod u 1024 (by decide) (by decide)
      generalize hU : (IntKind.i64.wrap (u.tmod 1024 + 1024)).tmod 1024 = U at hn
      have hhi : IntKind.i64.wrap (d.fdiv 4294967296) = d / 4294967296 := by rw [fdiv_lit _ _ (by decide), wi64]; omega
      have hlo : IntKind.i64.wrap (bits .and .u64 d 4294967295) = d % 4294967296 := by rw [am32, wi64]; omega
      have w8 : IntKind.i64.wrap (8 * U) = 8 * U := by rw [wi64]; omega
      have w9 : IntKind.i64.wrap (8 * U + 8) = 8 * U + 8 := by rw [wi64]; omega
      have wa : IntKind.i64.wrap (8192 - 8 * U) = 8192 - 8 * U := by rw [wi64]; omega
      have wb : IntKind.i64.wrap (8192 - 8 * U - 8) = 8192 - 8 * U - 8 := by rw [wi64]; omega
      simp only [hU, hhi, hlo, w8, w9, wa, wb]
      have hB : txt (numT32 (d / 4294967296) ++ numT32 (d % 4294967296)) = dl 64 d := by rw [txt_append, numT32_dl, numT32_dl, dl_app d hp.2.1]
      have t1 : txt (ByteArray.mk #[(49 : UInt8), (48 : UInt8)] ++ numT14 U ++ (numT32 (d / 4294967296) ++ numT32 (d % 4294967296)) ++ ByteArray.mk #[(48 : UInt8)]) = 49 :: cond false 49 48 :: (dl 14 U ++ (dl 64 d ++ [48])) := by
        rw [txt_append, txt_append, txt_append, hB, numT14_dl, show txt (ByteArray.mk #[(49 : UInt8), (48 : UInt8)]) = [49, 48] from rfl, show txt (ByteArray.mk #[(48 : UInt8)]) = [48] from rfl]
        simp only [List.append_assoc, List.cons_append, List.nil_append, cond_false]
      have t2 : txt (ByteArray.mk #[(49 : UInt8), (49 : UInt8)] ++ numT14 U ++ ByteArray.mk #[(48 : UInt8)]) = 49 :: cond true 49 48 :: (dl 14 U ++ ([] ++ [48])) := by
        rw [txt_append, txt_append, numT14_dl, show txt (ByteArray.mk #[(49 : UInt8), (49 : UInt8)]) = [49, 49] from rfl, show txt (ByteArray.mk #[(48 : UInt8)]) = [48] from rfl]
        simp only [List.append_assoc, List.cons_append, List.nil_append, cond_true]
      have s1 := tm_st (L := 81) (fun b hb => dl_mem hb) t1 (by rw [dl_len])
      have s2 := tm_st (L := 17) (fun b hb => absurd hb List.not_mem_nil) t2 rfl
      have v1 := tm_u t1 hn.1 (by omega)
      have v2 := tm_u t2 hn.1 (by omega)
      have v3 := tm_d t1 hp.2.1 (by omega)
      have rs : (repV E (ByteArray.mk #[(255 : UInt8)]) 8192).size = 8192 := by rw [size_repV]; rfl
      have rs2 : (repB (ByteArray.mk #[(255 : UInt8)]) 8192).size = 8192 := by rw [size_repB]; rfl
      have z1 := numT14_size U
      have z2 := numT32_size (d / 4294967296)
      have z3 := numT32_size (d % 4294967296)
      have rk : ∀ c : Int, 0 ≤ c → c ≤ 10000 → repOK (ByteArray.mk #[(255 : UInt8)]) c = true := fun c h0 h1 => by
        simp only [repOK, Bool.and_eq_true, decide_eq_true_eq]
        exact ⟨⟨h0, Nat.ble_eq_true_of_le (by show 1 * c.toNat ≤ _; omega)⟩, by omega⟩
      have hsz : ∀ p : Prop, [Decidable p] → p → decide p = true := fun p _ h => decide_eq_true h
      (repeat' apply And.intro) <;> try (first | exact trivial | with_reducible rfl | exact rk _ (by omega) (by omega) | with_reducible exact decide_eq_true z1 | with_reducible exact decide_eq_true z2 | with_reducible exact decide_eq_true z3 | with_reducible exact decide_eq_true rs | with_reducible exact decide_eq_true rs2 | (simp only [size_append, z1, z2, z3]; exact rfl) | (simp only [size_append, z1, z2, z3, decide_true]; done) | exact (decide_eq_true trivial) | with_reducible exact rs | with_reducible exact rs2 | with_reducible exact s1 | omega)
      intro y1 h1
      obtain ⟨⟨⟨⟨r20, r21⟩, ⟨r70, r71⟩, _⟩, _⟩, _, hP⟩ := h1
      have p1 := hP.a
      have p2 := hP.d
      have p3 := hP.g
      rw [v1] at p1 p3
      rw [v3] at p2 p3
      have e8 : U * 8 % ((8192 : Nat) : Int) = 8 * U := by omega
      rw [e8] at p1 p3
      have hi : y1.s 0 = apT (repV E (ByteArray.mk #[(255 : UInt8)]) 8192) (8 * U) d := by first | exact p3 | (rw [repV_eq]; exact p3)
      have a0 : (8 : Int) ≤ ((8192 : Nat) : Int) := by decide
      have a1 : 8 * U + 8 ≤ ((8192 : Nat) : Int) := by omega
      have q1 : strSl (y1.s 0) 0 (8 * U) = repV E (ByteArray.mk #[(255 : UInt8)]) (8 * U) := by rw [hi]; exact ap_l (n := 8192) a0 (by omega) a1
      have q2 : strSl (y1.s 0) (8 * U + 8) 8192 = repV E (ByteArray.mk #[(255 : UInt8)]) (8192 - 8 * U - 8) := by rw [hi]; exact ap_r (n := 8192) a0 (by omega) a1
      have q3 : strSl (y1.s 0) (8 * U) (8 * U + 8) = byT d := by rw [hi]; exact ap_m (n := 8192) a0 (by omega) a1
      have q4 : (y1.s 0).size = 8192 := by rw [hi]; exact ap_size (n := 8192) a0 (by omega) a1
      have q5 : oF (y1.s 0) (8 * U) = d := by rw [hi]; exact ap_o (n := 8192) a0 (by omega) a1 hp.2.1 hp.2.2
      have q6 := byT_size d
      have sz4 : (((y1.s 0).size : Nat) : Int) = 8192 := by rw [q4]; rfl
      simp only [hP.ok, hP.k, p1, p2, sz4, q6, q1, q2, q3, beqS, bne_self_eq_false, Bool.not_true, Bool.not_false, Bool.true_xor, Bool.false_eq_true, false_implies, true_implies, true_and, and_true, and_self]
      have b8 : ((((8 : Nat) : Int)) != 8) = false := rfl
      simp only [b8, Bool.false_eq_true, false_implies, true_implies, true_and, and_true]
      (repeat' apply And.intro) <;> try (first | exact trivial | with_reducible rfl | exact rk _ (by omega) (by omega) | with_reducible exact decide_eq_true z1 | with_reducible exact decide_eq_true z2 | with_reducible exact decide_eq_true z3 | with_reducible exact decide_eq_true rs | with_reducible exact decide_eq_true rs2 | (simp only [size_append, z1, z2, z3]; exact rfl) | (simp only [size_append, z1, z2, z3, decide_true]; done) | exact (decide_eq_true trivial) | exact hsz _ (by omega) | with_reducible exact q4 | with_reducible exact s2 | with_reducible exact hP.tk | omega)
      intro y2 h2
      obtain ⟨⟨⟨t20, t21⟩, ⟨t70, t71⟩⟩, hR⟩ := h2
      have o1 := hR.out
      rw [v2, e8, q5] at o1
      have l7 := hR.lf
      have i2 : (y2.s 0).size = 8192 := by rw [hR.g]; exact q4
      simp only [hR.ok, Bool.false_eq_true, false_implies, true_implies, true_and, and_true]
      (repeat' apply And.intro) <;> try (first | exact trivial | with_reducible rfl | exact SO_0 | exact OO_of hB o1 | exact ⟨i2⟩ | omega)
    · have hn := umod u 64 (by decide) (by decide)
      generalize hU : (IntKind.i64.wrap (u.tmod 64 + 64)).tmod 64 = U at hn
      have hhi : IntKind.i64.wrap (d.fdiv 4294967296) = d / 4294967296 := by rw [fdiv_lit _ _ (by decide), wi64]; omega
      have hlo : IntKind.i64.wrap (bits .and .u64 d 4294967295) = d % 4294967296 := by rw [am32, wi64]; omega
      have w8 : IntKind.i64.wrap (8 * U) = 8 * U := by rw [wi64]; omega
      have w9 : IntKind.i64.wrap (8 * U + 8) = 8 * U + 8 := by rw [wi64]; omega
      have wa : IntKind.i64.wrap (512 - 8 * U) = 512 - 8 * U := by rw [wi64]; omega
      have wb : IntKind.i64.wrap (512 - 8 * U - 8) = 512 - 8 * U - 8 := by rw [wi64]; omega
      simp only [hU, hhi, hlo, w8, w9, wa, wb]
      have hB : txt (numT32 (d / 4294967296) ++ numT32 (d % 4294967296)) = dl 64 d := by rw [txt_append, numT32_dl, numT32_dl, dl_app d hp.2.1]
      have t1 : txt (ByteArray.mk #[(49 : UInt8), (48 : UInt8)] ++ numT6 U ++ (numT32 (d / 4294967296) ++ numT32 (d % 4294967296)) ++ ByteArray.mk #[(48 : UInt8)]) = 49 :: cond false 49 48 :: (dl 6 U ++ (dl 64 d ++ [48])) := by
        rw [txt_append, txt_append, txt_append, hB, numT6_dl, show txt (ByteArray.mk #[(49 : UInt8), (48 : UInt8)]) = [49, 48] from rfl, show txt (ByteArray.mk #[(48 : UInt8)]) = [48] from rfl]
        simp only [List.append_assoc, List.cons_append, List.nil_append, cond_false]
      have t2 : txt (ByteArray.mk #[(49 : UInt8), (49 : UInt8)] ++ numT6 U ++ ByteArray.mk #[(48 : UInt8)]) = 49 :: cond true 49 48 :: (dl 6 U ++ ([] ++ [48])) := by
        rw [txt_append, txt_append, numT6_dl, show txt (ByteArray.mk #[(49 : UInt8), (49 : UInt8)]) = [49, 49] from rfl, show txt (ByteArray.mk #[(48 : UInt8)]) = [48] from rfl]
        simp only [List.append_assoc, List.cons_append, List.nil_append, cond_true]
      have s1 := tm_st (L := 73) (fun b hb => dl_mem hb) t1 (by rw [dl_len])
      have s2 := tm_st (L := 9) (fun b hb => absurd hb List.not_mem_nil) t2 rfl
      have v1 := tm_u t1 hn.1 (by omega)
      have v2 := tm_u t2 hn.1 (by omega)
      have v3 := tm_d t1 hp.2.1 (by omega)
      have rs : (repV E (ByteArray.mk #[(255 : UInt8)]) 512).size = 512 := by rw [size_repV]; rfl
      have rs2 : (repB (ByteArray.mk #[(255 : UInt8)]) 512).size = 512 := by rw [size_repB]; rfl
      have z1 := numT6_size U
      have z2 := numT32_size (d / 4294967296)
      have z3 := numT32_size (d % 4294967296)
      have rk : ∀ c : Int, 0 ≤ c → c ≤ 10000 → repOK (ByteArray.mk #[(255 : UInt8)]) c = true := fun c h0 h1 => by
        simp only [repOK, Bool.and_eq_true, decide_eq_true_eq]
        exact ⟨⟨h0, Nat.ble_eq_true_of_le (by show 1 * c.toNat ≤ _; omega)⟩, by omega⟩
      have hsz : ∀ p : Prop, [Decidable p] → p → decide p = true := fun p _ h => decide_eq_true h
      (repeat' apply And.intro) <;> try (first | exact trivial | with_reducible rfl | exact rk _ (by omega) (by omega) | with_reducible exact decide_eq_true z1 | with_reducible exact decide_eq_true z2 | with_reducible exact decide_eq_true z3 | with_reducible exact decide_eq_true rs | with_reducible exact decide_eq_true rs2 | (simp only [size_append, z1, z2, z3]; exact rfl) | (simp only [size_append, z1, z2, z3, decide_true]; done) | exact (decide_eq_true trivial) | with_reducible exact rs | with_reducible exact rs2 | with_reducible exact s1 | omega)
      intro y1 h1
      obtain ⟨⟨⟨⟨r20, r21⟩, ⟨r70, r71⟩, _⟩, _⟩, _, hP⟩ := h1
      have p1 := hP.a
      have p2 := hP.d
      have p3 := hP.g
      rw [v1] at p1 p3
      rw [v3] at p2 p3
      have e8 : U * 8 % ((512 : Nat) : Int) = 8 * U := by omega
      rw [e8] at p1 p3
      have hi : y1.s 0 = apT (repV E (ByteArray.mk #[(255 : UInt8)]) 512) (8 * U) d := by first | exact p3 | (rw [repV_eq]; exact p3)
      have a0 : (8 : Int) ≤ ((512 : Nat) : Int) := by decide
      have a1 : 8 * U + 8 ≤ ((512 : Nat) : Int) := by omega
      have q1 : strSl (y1.s 0) 0 (8 * U) = repV E (ByteArray.mk #[(255 : UInt8)]) (8 * U) := by rw [hi]; exact ap_l (n := 512) a0 (by omega) a1
      have q2 : strSl (y1.s 0) (8 * U + 8) 512 = repV E (ByteArray.mk #[(255 : UInt8)]) (512 - 8 * U - 8) := by rw [hi]; exact ap_r (n := 512) a0 (by omega) a1
      have q3 : strSl (y1.s 0) (8 * U) (8 * U + 8) = byT d := by rw [hi]; exact ap_m (n := 512) a0 (by omega) a1
      have q4 : (y1.s 0).size = 512 := by rw [hi]; exact ap_size (n := 512) a0 (by omega) a1
      have q5 : oF (y1.s 0) (8 * U) = d := by rw [hi]; exact ap_o (n := 512) a0 (by omega) a1 hp.2.1 hp.2.2
      have q6 := byT_size d
      have sz4 : (((y1.s 0).size : Nat) : Int) = 512 := by rw [q4]; rfl
      simp only [hP.ok, hP.k, p1, p2, sz4, q6, q1, q2, q3, beqS, bne_self_eq_false, Bool.not_true, Bool.not_false, Bool.true_xor, Bool.false_eq_true, false_implies, true_implies, true_and, and_true, and_self]
      have b8 : ((((8 : Nat) : Int)) != 8) = false := rfl
      simp only [b8, Bool.false_eq_true, false_implies, true_implies, true_and, and_true]
      (repeat' apply And.intro) <;> try (first | exact trivial | with_reducible rfl | exact rk _ (by omega) (by omega) | with_reducible exact decide_eq_true z1 | with_reducible exact decide_eq_true z2 | with_reducible exact decide_eq_true z3 | with_reducible exact decide_eq_true rs | with_reducible exact decide_eq_true rs2 | (simp only [size_append, z1, z2, z3]; exact rfl) | (simp only [size_append, z1, z2, z3, decide_true]; done) | exact (decide_eq_true trivial) | exact hsz _ (by omega) | with_reducible exact q4 | with_reducible exact s2 | with_reducible exact hP.tk | omega)
      intro y2 h2
      obtain ⟨⟨⟨t20, t21⟩, ⟨t70, t71⟩⟩, hR⟩ := h2
      have o1 := hR.out
      rw [v2, e8, q5] at o1
      have l7 := hR.lf
      have i2 : (y2.s 0).size = 512 := by rw [hR.g]; exact q4
      simp only [hR.ok, Bool.false_eq_true, false_implies, true_implies, true_and, and_true]
      (repeat' apply And.intro) <;> try (first | exact trivial | with_reducible rfl | exact SO_0 | exact OO_of hB o1 | exact ⟨i2⟩ | omega)
  · intro h hmem y hy1 hy2 hy3
    simp only [bk_hs, List.mem_cons, List.not_mem_nil, or_false] at hmem
    rcases hmem with hmem | hmem
    · have e1 : h.td = (ba_td E) := by rw [hmem]; unfold bk_h0; with_reducible rfl
      have e2 : h.fs = [(1, .r .i64 (0) (1023)), (2, .r .u64 (0) (18446744073709551615)), (7, .c (.i true .i64 14)), (8, .c (.i true .i64 8192)), (10, .c (.p 0 0)), (12, .s), (18, .s), (129, .r .i64 (0) (68))] := by rw [hmem]; unfold bk_h0; with_reducible rfl
      have e3 : h.ms = [mW 14] := by rw [hmem]; unfold bk_h0; with_reducible rfl
      have e4 : h.mu = (fun y => (68 - y.n 91129).toNat) := by rw [hmem]; unfold bk_h0; with_reducible rfl
      have e5 : h.H = (fun y => ((SO (y.s 91018) (y.s 91012) (y.n 91129) ∧ OO (y.n 6) (y.s 91012)) ∧ Im (y.s 0) 8192) ∧ y.n 7 = 68 - y.n 91129) := by rw [hmem]; unfold bk_h0; with_reducible rfl
      rw [e3] at hy1
      rw [e2] at hy2
      rw [e5] at hy3
      rw [e1, e2, e3, e4]
      exact bk_q0 E g u d z hp y hy1 hy2 hy3
    · have e1 : h.td = (bb_td E) := by rw [hmem]; unfold bk_h1; with_reducible rfl
      have e2 : h.fs = [(1, .r .i64 (0) (63)), (2, .r .u64 (0) (18446744073709551615)), (7, .c (.i true .i64 6)), (8, .c (.i true .i64 512)), (10, .c (.p 0 0)), (12, .s), (18, .s), (129, .r .i64 (0) (68))] := by rw [hmem]; unfold bk_h1; with_reducible rfl
      have e3 : h.ms = [mW 6] := by rw [hmem]; unfold bk_h1; with_reducible rfl
      have e4 : h.mu = (fun y => (68 - y.n 91129).toNat) := by rw [hmem]; unfold bk_h1; with_reducible rfl
      have e5 : h.H = (fun y => ((SO (y.s 91018) (y.s 91012) (y.n 91129) ∧ OO (y.n 6) (y.s 91012)) ∧ Im (y.s 0) 512) ∧ y.n 7 = 68 - y.n 91129) := by rw [hmem]; unfold bk_h1; with_reducible rfl
      rw [e3] at hy1
      rw [e2] at hy2
      rw [e5] at hy3
      rw [e1, e2, e3, e4]
      exact bk_q1 E g u d z hp y hy1 hy2 hy3
end Go.Proofs.Ythgcieloijmgdaa

