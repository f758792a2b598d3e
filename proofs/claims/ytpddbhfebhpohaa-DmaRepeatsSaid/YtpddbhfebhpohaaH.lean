import Derived.Test.YtpddbhfebhpohaaG
set_option linter.unusedVariables false
set_option linter.unusedSimpArgs false
namespace Go.Proofs.Ytpddbhfebhpohaa
open Go Go.Proofs Go.Proofs.Ytpddbhfebhpohaa.Ev Go.Proofs.Ytpddbhfebhpohaa.Ev.Ho
set_option maxRecDepth 100000

theorem al2 (x : Int) (h0 : 0 ≤ x) (h1 : x < 4294967296) (h : x % 2 = 0) : bits .andNot .u32 x 1 = x := by
  rw [andNot_u32 _ _ (by decide) (by decide)]
  have := and_sh .u32 rfl x h0 h1 1 31 (by decide)
  have e : ((2 ^ 31 - 1) * 2 ^ 1 : Int) = 4294967295 - 1 := by decide
  rw [e] at this
  rw [this]; omega
section
variable {l m : List C} {k : Nat} {n kk i q a b v : Int}
theorem ap_len (hl : l.length = k * 6) : (rApp l (k * 6) [C.i true IntKind.i64 3, ofCell (Value.bool true), C.i false IntKind.u32 a, C.i true IntKind.u32 0, ofCell (Value.int IntKind.i64 2), ofCell (Value.int IntKind.i64 q)]).length = k * 6 + 6 := by rw [len_app (by omega)]; rfl
theorem ap_get (hl : l.length = k * 6) (r : Nat) : (rApp l (k * 6) [C.i true IntKind.i64 3, ofCell (Value.bool true), C.i false IntKind.u32 a, C.i true IntKind.u32 0, ofCell (Value.int IntKind.i64 2), ofCell (Value.int IntKind.i64 q)])[k * 6 + r]? = [C.i true IntKind.i64 3, ofCell (Value.bool true), C.i false IntKind.u32 a, C.i true IntKind.u32 0, ofCell (Value.int IntKind.i64 2), ofCell (Value.int IntKind.i64 q)][r]? := by rw [get_app_ge (by omega) (by omega), Nat.add_sub_cancel_left]
theorem ap0 (hl : l.length = k * 6) : rI (rApp l (k * 6) [C.i true IntKind.i64 3, ofCell (Value.bool true), C.i false IntKind.u32 a, C.i true IntKind.u32 0, ofCell (Value.int IntKind.i64 2), ofCell (Value.int IntKind.i64 q)]) (k * 6) = 3 := rI_congr (l' := [C.i true IntKind.i64 3, ofCell (Value.bool true), C.i false IntKind.u32 a, C.i true IntKind.u32 0, ofCell (Value.int IntKind.i64 2), ofCell (Value.int IntKind.i64 q)]) (q := 0) (ap_get hl 0)
theorem ap4 (hl : l.length = k * 6) : rI (rApp l (k * 6) [C.i true IntKind.i64 3, ofCell (Value.bool true), C.i false IntKind.u32 a, C.i true IntKind.u32 0, ofCell (Value.int IntKind.i64 2), ofCell (Value.int IntKind.i64 q)]) (k * 6 + 4) = 2 := rI_congr (l' := [C.i true IntKind.i64 3, ofCell (Value.bool true), C.i false IntKind.u32 a, C.i true IntKind.u32 0, ofCell (Value.int IntKind.i64 2), ofCell (Value.int IntKind.i64 q)]) (q := 4) (ap_get hl 4)
theorem ap5 (hl : l.length = k * 6) : rI (rApp l (k * 6) [C.i true IntKind.i64 3, ofCell (Value.bool true), C.i false IntKind.u32 a, C.i true IntKind.u32 0, ofCell (Value.int IntKind.i64 2), ofCell (Value.int IntKind.i64 q)]) (k * 6 + 5) = q := rI_congr (l' := [C.i true IntKind.i64 3, ofCell (Value.bool true), C.i false IntKind.u32 a, C.i true IntKind.u32 0, ofCell (Value.int IntKind.i64 2), ofCell (Value.int IntKind.i64 q)]) (q := 5) (ap_get hl 5)
theorem ao0 (hl : l.length = k * 6) : rOk (rApp l (k * 6) [C.i true IntKind.i64 3, ofCell (Value.bool true), C.i false IntKind.u32 a, C.i true IntKind.u32 0, ofCell (Value.int IntKind.i64 2), ofCell (Value.int IntKind.i64 q)]) (k * 6) (.i .i64) = true := rOk_congr (l' := [C.i true IntKind.i64 3, ofCell (Value.bool true), C.i false IntKind.u32 a, C.i true IntKind.u32 0, ofCell (Value.int IntKind.i64 2), ofCell (Value.int IntKind.i64 q)]) (q := 0) (ap_get hl 0)
theorem ao4 (hl : l.length = k * 6) : rOk (rApp l (k * 6) [C.i true IntKind.i64 3, ofCell (Value.bool true), C.i false IntKind.u32 a, C.i true IntKind.u32 0, ofCell (Value.int IntKind.i64 2), ofCell (Value.int IntKind.i64 q)]) (k * 6 + 4) (.i .i64) = true := rOk_congr (l' := [C.i true IntKind.i64 3, ofCell (Value.bool true), C.i false IntKind.u32 a, C.i true IntKind.u32 0, ofCell (Value.int IntKind.i64 2), ofCell (Value.int IntKind.i64 q)]) (q := 4) (ap_get hl 4)
theorem ao5 (hl : l.length = k * 6) : rOk (rApp l (k * 6) [C.i true IntKind.i64 3, ofCell (Value.bool true), C.i false IntKind.u32 a, C.i true IntKind.u32 0, ofCell (Value.int IntKind.i64 2), ofCell (Value.int IntKind.i64 q)]) (k * 6 + 5) (.i .i64) = true := rOk_congr (l' := [C.i true IntKind.i64 3, ofCell (Value.bool true), C.i false IntKind.u32 a, C.i true IntKind.u32 0, ofCell (Value.int IntKind.i64 2), ofCell (Value.int IntKind.i64 q)]) (q := 5) (ap_get hl 5)
theorem row2 (h : Row plS l) (hl : l.length = k * 6) : Row plS (rSet (rApp l (k * 6) [C.i true IntKind.i64 3, ofCell (Value.bool true), C.i false IntKind.u32 a, C.i true IntKind.u32 0, ofCell (Value.int IntKind.i64 2), ofCell (Value.int IntKind.i64 q)]) (k * 6 + 3) [C.i false IntKind.u32 b]) := by
  have h1 : Row plS (rApp l (k * 6) [C.i true IntKind.i64 3, ofCell (Value.bool true), C.i false IntKind.u32 a, C.i true IntKind.u32 0, ofCell (Value.int IntKind.i64 2), ofCell (Value.int IntKind.i64 q)]) := h.app (Row.one trivial) (by omega) (Nat.mul_mod_left _ _)
  refine h1.set1 (q := .i .u32) (by rw [ap_len hl]; omega) ?_ trivial
  have e : (k * 6 + 3) % plS.length = 3 := by show (k * 6 + 3) % 6 = 3; omega
  rw [e]; rfl
theorem row3 (h : Row [.i .u32] m) (hm : m.length = k) : Row [.i .u32] (rApp m (k * 1) [C.i false IntKind.u32 v]) :=
  h.app (Row.one trivial) (by omega) (by show k * 1 % 1 = 0; omega)
theorem pln_step {n0 n1 : Int} (h : PLN n k l m n0 n1) (ha : a = 33554432 + 2 * (k : Int)) (hb : b = 50331648 + 2 * ((k : Int) % n)) :
    PLN n (k + 1) (rSet (rApp l (k * 6) [C.i true IntKind.i64 3, ofCell (Value.bool true), C.i false IntKind.u32 a, C.i true IntKind.u32 0, ofCell (Value.int IntKind.i64 2), ofCell (Value.int IntKind.i64 q)]) (k * 6 + 3) [C.i false IntKind.u32 b]) (rApp m (k * 1) [C.i false IntKind.u32 v]) ((k + 1 : Nat) : Int) ((k + 1 : Nat) : Int) := by
  obtain ⟨hl, hm, _, _, hE⟩ := h
  refine ⟨by rw [len_set, ap_len hl]; omega, by rw [len_app (by omega)]; simp, rfl, rfl, fun j hj => ?_⟩
  have g2 : ∀ p, (rSet (rApp l (k * 6) [C.i true IntKind.i64 3, ofCell (Value.bool true), C.i false IntKind.u32 a, C.i true IntKind.u32 0, ofCell (Value.int IntKind.i64 2), ofCell (Value.int IntKind.i64 q)]) (k * 6 + 3) [C.i false IntKind.u32 b])[p]? = if p = k * 6 + 3 then some (C.i false IntKind.u32 b) else (rApp l (k * 6) [C.i true IntKind.i64 3, ofCell (Value.bool true), C.i false IntKind.u32 a, C.i true IntKind.u32 0, ofCell (Value.int IntKind.i64 2), ofCell (Value.int IntKind.i64 q)])[p]? := fun p => get_set1 (by rw [ap_len hl]; omega)
  by_cases hjk : j < k
  · obtain ⟨x2, x3⟩ := hE j hjk
    have g3 : ∀ r, r < 6 → (rSet (rApp l (k * 6) [C.i true IntKind.i64 3, ofCell (Value.bool true), C.i false IntKind.u32 a, C.i true IntKind.u32 0, ofCell (Value.int IntKind.i64 2), ofCell (Value.int IntKind.i64 q)]) (k * 6 + 3) [C.i false IntKind.u32 b])[j * 6 + r]? = l[j * 6 + r]? := by
      intro r hr
      rw [g2, if_neg (by omega), get_app_lt' (by omega) (by omega)]
    refine ⟨?_, ?_⟩
    · rw [rI_congr (g3 2 (by decide))]; exact x2
    · rw [rI_congr (g3 3 (by decide))]; exact x3
  · obtain rfl : j = k := by omega
    refine ⟨?_, ?_⟩
    · rw [rI_congr (l' := [C.i true IntKind.i64 3, ofCell (Value.bool true), C.i false IntKind.u32 a, C.i true IntKind.u32 0, ofCell (Value.int IntKind.i64 2), ofCell (Value.int IntKind.i64 q)]) (q := 2) (by rw [g2, if_neg (by omega), ap_get hl])]; exact ha
    · rw [rI_congr (l' := [C.i false IntKind.u32 b]) (q := 0) (by rw [g2, if_pos rfl]; rfl)]; exact hb
theorem pln_one (hn : 1 ≤ n) : PLN n (1 : Int).toNat [C.i true IntKind.i64 3, ofCell (Value.bool true), C.i false IntKind.u32 33554432, C.i false IntKind.u32 50331648, ofCell (Value.int IntKind.i64 2), ofCell (Value.int IntKind.i64 0)] [C.i false IntKind.u32 v] (1 : Int) (1 : Int) := by
  refine ⟨rfl, rfl, rfl, rfl, fun j hj => ?_⟩
  have hj : j < 1 := hj
  obtain rfl : j = 0 := by omega
  refine ⟨?_, ?_⟩
  · show (33554432 : Int) = 33554432 + 2 * ((0 : Nat) : Int); simp
  · show (50331648 : Int) = 50331648 + 2 * (((0 : Nat) : Int) % n); simp
theorem r1p : Row plS [C.i true IntKind.i64 3, ofCell (Value.bool true), C.i false IntKind.u32 a, C.i false IntKind.u32 b, ofCell (Value.int IntKind.i64 2), ofCell (Value.int IntKind.i64 q)] := Row.one trivial
theorem r1w : Row [.i .u32] [C.i false IntKind.u32 v] := Row.one trivial
theorem mn_bnd {m : Int} (h : MN m kk n i) (h1 : 0 ≤ kk) (h2 : kk ≤ 5) (h3 : 1 ≤ n) (h4 : n ≤ 20) (h5 : 0 ≤ i) (h6 : i ≤ 20) : i ≤ m ∧ m ≤ 120 := by
  obtain ⟨e⟩ := h
  have hc : kk = 0 ∨ kk = 1 ∨ kk = 2 ∨ kk = 3 ∨ kk = 4 ∨ kk = 5 := by omega
  rcases hc with rfl | rfl | rfl | rfl | rfl | rfl <;> omega
theorem mn_pos {m : Int} (h : MN m kk n i) (h1 : 1 ≤ kk) (h2 : kk ≤ 5) (h3 : 1 ≤ n) (h5 : 0 ≤ i) : 1 ≤ m := by
  obtain ⟨e⟩ := h
  have hc : kk = 1 ∨ kk = 2 ∨ kk = 3 ∨ kk = 4 ∨ kk = 5 := by omega
  rcases hc with rfl | rfl | rfl | rfl | rfl <;> omega
theorem mn_mod {m : Int} (h : MN m kk n i) (h3 : 0 ≤ i) (h4 : i < n) : m % n = i := by
  obtain ⟨rfl⟩ := h
  rw [Int.add_comm, Int.add_mul_emod_self_right, Int.emod_eq_of_lt h3 h4]
theorem mn_step {m : Int} (h : MN m kk n i) : MN (m + 1) kk n (i + 1) := ⟨by rw [h.e]; omega⟩
theorem mn_end {m : Int} (h : MN m kk n n) : MN m (kk + 1) n 0 := ⟨by rw [h.e, Int.add_mul]; omega⟩
theorem mn_end' {m : Int} (h : MN m kk n i) (hi : i = n) : MN m kk n n := hi ▸ h
theorem mn_zero {m : Int} (h : MN m 0 n i) : m = i := by rw [h.e]; omega
theorem mn_of_zero : MN i 0 n i := ⟨by omega⟩
end
theorem rRow6 {l : List C} {k : Nat} (h : Row plS l) (hl : k * 6 + 5 < l.length) : rRow l (k * 6 + 0) ([EK.i IntKind.i64] ++ ([EK.b] ++ ([EK.i IntKind.u32] ++ ([EK.i IntKind.u32] ++ ([EK.i IntKind.i64] ++ ([EK.i IntKind.i64] ++ [])))))) = true := by
  have key : ∀ (r : Nat) (q : Sp) (e : EK), r < 6 → plS[r]? = some q → okS q e = true → rOk l (k * 6 + r) e = true := by
    intro r q e hr hq he
    refine h.rOk (by omega) ?_ he
    have e1 : (k * 6 + r) % plS.length = r := by show (k * 6 + r) % 6 = r; omega
    rw [e1]; exact hq
  show (rOk l (k * 6) _ && (rOk l (k * 6 + 1) _ && (rOk l (k * 6 + 2) _ && (rOk l (k * 6 + 3) _ && (rOk l (k * 6 + 4) _ && (rOk l (k * 6 + 5) _ && true)))))) = true
  have k0 := key 0 _ (.i .i64) (by decide) rfl rfl
  rw [Nat.add_zero] at k0
  rw [k0, key 1 _ .b (by decide) rfl rfl, key 2 _ (.i .u32) (by decide) rfl rfl, key 3 _ (.i .u32) (by decide) rfl rfl, key 4 _ (.i .i64) (by decide) rfl rfl, key 5 _ (.i .i64) (by decide) rfl rfl]
  rfl
end Go.Proofs.Ytpddbhfebhpohaa

