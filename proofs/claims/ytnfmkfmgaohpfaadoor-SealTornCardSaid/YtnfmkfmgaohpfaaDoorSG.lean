import Derived.Test.YtnfmkfmgaohpfaaDoorSF
set_option linter.unusedVariables false
set_option linter.unusedSimpArgs false
namespace Go.Proofs.YtnfmkfmgaohpfaaDoor
open Go Go.Proofs Go.Proofs.YtnfmkfmgaohpfaaDoor.Ev Go.Proofs.YtnfmkfmgaohpfaaDoor.Ev.Ho
set_option maxRecDepth 100000
theorem torn_list {S T w1 w2 : List UInt8} (hS : S.length = 64) (hT : T.length = 64) (s1 : S.take 4 = w1) (s2 : S.drop 60 = w1) (t1 : T.take 4 = w2) (t2 : T.drop 60 = w2) {N : Nat} (hN : N ≤ 64)
    (h : (S.take N ++ T.drop N).take 4 = (S.take N ++ T.drop N).drop 60) : S.take N ++ T.drop N = S ∨ S.take N ++ T.drop N = T ∨ w1 = w2 := by
  have hl : (S.take N).length = N := by rw [List.length_take]; omega
  by_cases h1 : N < 4
  · right; left
    have d60 : (S.take N ++ T.drop N).drop 60 = T.drop 60 := by
      rw [List.drop_append, hl, List.drop_of_length_le (by omega), List.nil_append, List.drop_drop]; congr 1; omega
    have d4 : (S.take N ++ T.drop N).drop 4 = T.drop 4 := by
      rw [List.drop_append, hl, List.drop_of_length_le (by omega), List.nil_append, List.drop_drop]; congr 1; omega
    rw [← List.take_append_drop 4 (S.take N ++ T.drop N), h, d60, d4, t2, ← t1, List.take_append_drop]
  · by_cases h2 : 60 < N
    · left
      have k4 : (S.take N ++ T.drop N).take 4 = S.take 4 := by
        rw [List.take_append_of_le_length (by omega), List.take_take]; congr 1; omega
      have k60 : (S.take N ++ T.drop N).take 60 = S.take 60 := by
        rw [List.take_append_of_le_length (by omega), List.take_take]; congr 1; omega
      rw [← List.take_append_drop 60 (S.take N ++ T.drop N), ← h, k4, k60, s1, ← s2, List.take_append_drop]
    · right; right
      have k4 : (S.take N ++ T.drop N).take 4 = S.take 4 := by
        rw [List.take_append_of_le_length (by omega), List.take_take]; congr 1; omega
      have d60 : (S.take N ++ T.drop N).drop 60 = T.drop 60 := by
        rw [List.drop_append, hl, List.drop_of_length_le (by omega), List.nil_append, List.drop_drop]; congr 1; omega
      rw [k4, d60, s1, t2] at h
      exact h
theorem txt_04 {x : ByteArray} : txt (strSl x 0 4) = (txt x).take 4 := by rw [txt_strSl]; rfl
theorem txt_60 {x : ByteArray} (h : x.size = 64) : txt (strSl x 60 64) = (txt x).drop 60 := by
  rw [size_txt] at h
  rw [txt_strSl, List.take_of_length_le (by show _ ≤ 64; omega)]; rfl
theorem wd_inj {x y : Int} (h : wdT x = wdT y) (hx : 0 ≤ x ∧ x ≤ 4294967295) (hy : 0 ≤ y ∧ y ≤ 4294967295) : x = y := by
  rw [← nm_wd (t := wdT x) (C := []) (by rw [List.append_nil]) hx, h, nm_wd (t := wdT y) (C := []) (by rw [List.append_nil]) hy]
theorem xFT {a b : ByteArray} : ((false ^^ a == b) = true) ↔ a = b := by
  rw [← beqE]; cases (a == b) <;> simp
theorem xFF {a b : ByteArray} : ((false ^^ a == b) = false) ↔ a ≠ b := by
  rw [Ne, ← beqE]; cases (a == b) <;> simp
theorem torn_txt {E : World} {q q2 N : Int} {b b2 : ByteArray} (hb : b.size ≤ 51) (hb2 : b2.size ≤ 51) (hq : 0 ≤ q ∧ q ≤ 4294967295) (hq2 : 0 ≤ q2 ∧ q2 ≤ 4294967295) (hne : q ≠ q2) (h0 : 0 ≤ N) (h1 : N ≤ 64)
    {X : ByteArray} (hX : X = strSl (wrapT E q b) 0 N ++ strSl (wrapT E q2 b2) N 64) : X.size = 64 ∧ (X ≠ wrapT E q b → X ≠ wrapT E q2 b2 → strSl X 0 4 ≠ strSl X 60 64) := by
  have z1 := wrap_size E q b hb
  have z2 := wrap_size E q2 b2 hb2
  have l1 : (txt (wrapT E q b)).length = 64 := by rw [← size_txt]; exact z1
  have l2 : (txt (wrapT E q2 b2)).length = 64 := by rw [← size_txt]; exact z2
  obtain ⟨n, rfl⟩ := Int.eq_ofNat_of_zero_le h0
  have ht : txt X = (txt (wrapT E q b)).take n ++ (txt (wrapT E q2 b2)).drop n := by
    rw [hX, txt_append, txt_strSl, txt_strSl, List.take_of_length_le (l := txt (wrapT E q2 b2)) (by show _ ≤ 64; omega)]; rfl
  have hs : X.size = 64 := by rw [size_txt, ht, List.length_append, List.length_take, List.length_drop]; omega
  refine ⟨hs, fun n1 n2 he => ?_⟩
  have he := congrArg txt he
  rw [txt_04, txt_60 hs, ht] at he
  have a1 : (txt (wrapT E q b)).take 4 = txt (wdT q) := by rw [← txt_04, w_04 E q b hb]
  have a2 : (txt (wrapT E q b)).drop 60 = txt (wdT q) := by rw [← txt_60 z1, w_60 E q b hb]
  have a3 : (txt (wrapT E q2 b2)).take 4 = txt (wdT q2) := by rw [← txt_04, w_04 E q2 b2 hb2]
  have a4 : (txt (wrapT E q2 b2)).drop 60 = txt (wdT q2) := by rw [← txt_60 z2, w_60 E q2 b2 hb2]
  rcases torn_list l1 l2 a1 a2 a3 a4 (by omega) he with h | h | h
  · exact n1 (txt_ext (ht.trans h))
  · exact n2 (txt_ext (ht.trans h))
  · exact hne (wd_inj (txt_ext h) hq hq2)
theorem torn_p (E : World) (z : PX) (q k a : Int) (d : ByteArray) (q2 k2 a2 : Int) (d2 : ByteArray) (n : Int) :
    (hdP ([] : List MB).length [] (.c .b) (fun z y => y.b 90000 = true) z (fnTree (pe E) (orcA E) (tabL fns) 20000 Tryd.f6 [.a [.i false .u32 q, .i false .i64 k, .i false .i64 a, .str false d], .a [.i false .u32 q2, .i false .i64 k2, .i false .i64 a2, .str false d2], .c (.i false .i64 n)] (mkM z [] [] 0))) =
    ((([] : SW) = [] ∧ GOK E) ∧ ∀ (y : PX), True ∧ True ∧ True → (([] : SW) = [] ∧ GOK E ∧ (0 : Int) ≤ q ∧ q ≤ (4294967295 : Int)) ∧ ∀ (y : PX), True ∧ True ∧ RcQ E q k a d
      (y.s (90000 : Nat)) (y.n (90001 : Nat)) → (([] : SW) = [] ∧ GOK E ∧ (0 : Int) ≤ q2 ∧ q2 ≤ (4294967295 : Int)) ∧ ∀ (y_1 : PX), True ∧ True ∧ RcQ E q2 k2 a2 d2 (y_1.s (90000
      : Nat)) (y_1.n (90001 : Nat)) → ((y.n (90001 : Nat) != (0 : Int)) = true → ([] : SW) = [] ∧ True ∧ true = true) ∧ ((y.n (90001 : Nat) != (0 : Int)) = false → ((y_1.n
      (90001 : Nat) != (0 : Int)) = true → ([] : SW) = [] ∧ True ∧ true = true) ∧ ((y_1.n (90001 : Nat) != (0 : Int)) = false → ((q == q2) = true → ([] : SW) = [] ∧ True ∧ true
      = true) ∧ ((q == q2) = false → decide ((0 : Int) ≤ if (if (64 : Int) < n then (64 : Int) else n) > (0 : Int) then if (64 : Int) < n then (64 : Int) else n else (0 : Int))
      = true ∧ decide ((if (if (64 : Int) < n then (64 : Int) else n) > (0 : Int) then if (64 : Int) < n then (64 : Int) else n else (0 : Int)) ≤ (↑(y.s (90000 : Nat)).size :
      Int)) = true ∧ decide ((0 : Int) ≤ if (if (64 : Int) < n then (64 : Int) else n) > (0 : Int) then if (64 : Int) < n then (64 : Int) else n else (0 : Int)) = true ∧ decide
      ((if (if (64 : Int) < n then (64 : Int) else n) > (0 : Int) then if (64 : Int) < n then (64 : Int) else n else (0 : Int)) ≤ (↑(y_1.s (90000 : Nat)).size : Int)) = true ∧
      ((strSl (y.s (90000 : Nat)) (0 : Int) (if (if (64 : Int) < n then (64 : Int) else n) > (0 : Int) then if (64 : Int) < n then (64 : Int) else n else (0 : Int))).size +
      (strSl (y_1.s (90000 : Nat)) (if (if (64 : Int) < n then (64 : Int) else n) > (0 : Int) then if (64 : Int) < n then (64 : Int) else n else (0 : Int)) (↑(y_1.s (90000 :
      Nat)).size : Int)).size).ble ((2 : Nat) ^ (62 : Nat)) = true ∧ (([] : SW) = [] ∧ GOK E ∧ (strSl (y.s (90000 : Nat)) (0 : Int) (if (if (64 : Int) < n then (64 : Int) else
      n) > (0 : Int) then if (64 : Int) < n then (64 : Int) else n else (0 : Int)) ++ strSl (y_1.s (90000 : Nat)) (if (if (64 : Int) < n then (64 : Int) else n) > (0 : Int) then
      if (64 : Int) < n then (64 : Int) else n else (0 : Int)) (↑(y_1.s (90000 : Nat)).size : Int)).size ≤ (4611686018427387904 : Nat)) ∧ ∀ (y_2 : PX), True ∧ True ∧ RdQ E
      (strSl (y.s (90000 : Nat)) (0 : Int) (if (if (64 : Int) < n then (64 : Int) else n) > (0 : Int) then if (64 : Int) < n then (64 : Int) else n else (0 : Int)) ++ strSl
      (y_1.s (90000 : Nat)) (if (if (64 : Int) < n then (64 : Int) else n) > (0 : Int) then if (64 : Int) < n then (64 : Int) else n else (0 : Int)) (↑(y_1.s (90000 : Nat)).size
      : Int)) (y_2.n (90000 : Nat)) (y_2.n (90001 : Nat)) (y_2.n (90002 : Nat)) (y_2.s (90003 : Nat)) (y_2.n (90004 : Nat)) → ((false ^^ strSl (y.s (90000 : Nat)) (0 : Int) (if
      (if (64 : Int) < n then (64 : Int) else n) > (0 : Int) then if (64 : Int) < n then (64 : Int) else n else (0 : Int)) ++ strSl (y_1.s (90000 : Nat)) (if (if (64 : Int) < n
      then (64 : Int) else n) > (0 : Int) then if (64 : Int) < n then (64 : Int) else n else (0 : Int)) (↑(y_1.s (90000 : Nat)).size : Int) == y.s (90000 : Nat)) = true → ([] :
      SW) = [] ∧ True ∧ true = true) ∧ ((false ^^ strSl (y.s (90000 : Nat)) (0 : Int) (if (if (64 : Int) < n then (64 : Int) else n) > (0 : Int) then if (64 : Int) < n then (64
      : Int) else n else (0 : Int)) ++ strSl (y_1.s (90000 : Nat)) (if (if (64 : Int) < n then (64 : Int) else n) > (0 : Int) then if (64 : Int) < n then (64 : Int) else n else
      (0 : Int)) (↑(y_1.s (90000 : Nat)).size : Int) == y.s (90000 : Nat)) = false → ((false ^^ strSl (y.s (90000 : Nat)) (0 : Int) (if (if (64 : Int) < n then (64 : Int) else
      n) > (0 : Int) then if (64 : Int) < n then (64 : Int) else n else (0 : Int)) ++ strSl (y_1.s (90000 : Nat)) (if (if (64 : Int) < n then (64 : Int) else n) > (0 : Int) then
      if (64 : Int) < n then (64 : Int) else n else (0 : Int)) (↑(y_1.s (90000 : Nat)).size : Int) == y_1.s (90000 : Nat)) = true → ([] : SW) = [] ∧ True ∧ true = true) ∧
      ((false ^^ strSl (y.s (90000 : Nat)) (0 : Int) (if (if (64 : Int) < n then (64 : Int) else n) > (0 : Int) then if (64 : Int) < n then (64 : Int) else n else (0 : Int)) ++
      strSl (y_1.s (90000 : Nat)) (if (if (64 : Int) < n then (64 : Int) else n) > (0 : Int) then if (64 : Int) < n then (64 : Int) else n else (0 : Int)) (↑(y_1.s (90000 :
      Nat)).size : Int) == y_1.s (90000 : Nat)) = false → ([] : SW) = [] ∧ True ∧ (y_2.n (90004 : Nat) == (20 : Int)) = true)))))) := by kernel_rfl
theorem torn_c (E : World) (q k a : Int) (d : ByteArray) (q2 k2 a2 : Int) (d2 : ByteArray) (n : Int) (z : PX) (hz : rgM z [] 0) (hp : (fun _ => GOK E ∧ (0 ≤ q ∧ q ≤ 4294967295) ∧ (0 ≤ q2 ∧ q2 ≤ 4294967295)) z) : HD (pe E) 6 [.a [.i false .u32 q, .i false .i64 k, .i false .i64 a, .str false d], .a [.i false .u32 q2, .i false .i64 k2, .i false .i64 a2, .str false d2], .c (.i false .i64 n)] [] [] (.c .b) (fun z y => y.b 90000 = true) z := by
  refine HD.mk (by rfl) (fnTree_sound (P := pe E) orcA_ok tab_ok tab_sz mixed 20000 Tryd.func6 (by decide) [.a [.i false .u32 q, .i false .i64 k, .i false .i64 a, .str false d], .a [.i false .u32 q2, .i false .i64 k2, .i false .i64 a2, .str false d2], .c (.i false .i64 n)] _) ⟨?_⟩
  rw [torn_p]
  obtain ⟨hG, hq, hq2⟩ := hp
  (repeat' apply And.intro) <;> try (first | exact trivial | with_reducible rfl | exact hG | omega)
  intro y0 hy0
  (repeat' apply And.intro) <;> try (first | exact trivial | with_reducible rfl | exact hG | omega)
  intro y hy
  have hr := hy.2.2
  (repeat' apply And.intro) <;> try (first | exact trivial | with_reducible rfl | exact hG | omega)
  intro y1 hy1
  have hr1 := hy1.2.2
  have hN : ∃ N : Int, (if (if 64 < n then (64 : Int) else n) > 0 then (if 64 < n then (64 : Int) else n) else 0) = N ∧ 0 ≤ N ∧ N ≤ 64 := ⟨_, rfl, by split <;> split <;> omega, by split <;> split <;> omega⟩
  obtain ⟨N, hN, n0, n1⟩ := hN
  simp only [hN, xFT, xFF]
  simp only [bne_iff_ne, ne_eq, bne_eq_false_iff_eq, beq_iff_eq, beq_eq_false_iff_ne]
  refine ⟨fun _ => ⟨trivial, trivial, trivial⟩, fun h1 => ⟨fun _ => ⟨trivial, trivial, trivial⟩, fun h2 => ⟨fun _ => ⟨trivial, trivial, trivial⟩, fun h3 => ?_⟩⟩⟩
  have hv : vlF k a d = true := by
    cases hv : vlF k a d
    · have := (hr.no hv).2; omega
    · rfl
  have hv2 : vlF k2 a2 d2 = true := by
    cases hv : vlF k2 a2 d2
    · have := (hr1.no hv).2; omega
    · rfl
  have e1 := (hr.ok hv).1
  have e2 := (hr1.ok hv2).1
  have s1 := vl_rg hv
  have s2 := vl_rg hv2
  have c1 := cm_size (k := k) (a := a) (d := d)
  have c2 := cm_size (k := k2) (a := a2) (d := d2)
  have b1 : (cmT k a d).size ≤ 51 := by omega
  have b2 : (cmT k2 a2 d2).size ≤ 51 := by omega
  have z1 := wrap_size E q _ b1
  have z2 := wrap_size E q2 _ b2
  rw [e1, e2]
  simp only [z1, z2]
  have ht := torn_txt (E := E) (X := strSl (wrapT E q (cmT k a d)) 0 N ++ strSl (wrapT E q2 (cmT k2 a2 d2)) N 64) b1 b2 hq hq2 h3 n0 n1 rfl
  have y1s := size_strSl (wrapT E q (cmT k a d)) 0 N (by omega) n0 (by omega)
  have y2s := size_strSl (wrapT E q2 (cmT k2 a2 d2)) N 64 n0 n1 (by omega)
  have y2s2 : ((strSl (wrapT E q2 (cmT k2 a2 d2)) N ((64 : Nat) : Int)).size : Int) = 64 - N := y2s
  generalize hX : strSl (wrapT E q (cmT k a d)) 0 N ++ strSl (wrapT E q2 (cmT k2 a2 d2)) N 64 = X at ht
  have hX2 : strSl (wrapT E q (cmT k a d)) 0 N ++ strSl (wrapT E q2 (cmT k2 a2 d2)) N (((64 : Nat) : Int)) = X := hX
  try simp only [hX2]
  refine ⟨decide_eq_true n0, decide_eq_true (by omega), decide_eq_true n0, decide_eq_true (by omega), Nat.ble_eq_true_of_le (by have : (2 : Nat) ^ 62 = 4611686018427387904 := rfl; have : (((64 : Nat) : Int)) = 64 := rfl; omega), ⟨trivial, hG, by omega⟩, fun y2 hy2 => ?_⟩
  obtain ⟨n9, b9, e9, ho, hoe, _⟩ := hy2.2.2.x
  refine ⟨fun _ => ⟨trivial, trivial, trivial⟩, fun h4 => ⟨fun _ => ⟨trivial, trivial, trivial⟩, fun h5 => ⟨trivial, trivial, ?_⟩⟩⟩
  have h6 := ho.torn ht.1 (ht.2 h4 h5)
  rw [hoe (by omega), h6]
end Go.Proofs.YtnfmkfmgaohpfaaDoor

