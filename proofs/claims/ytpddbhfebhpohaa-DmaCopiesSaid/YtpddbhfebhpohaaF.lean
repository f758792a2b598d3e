import Derived.Test.YtpddbhfebhpohaaD
set_option linter.unusedVariables false
set_option linter.unusedSimpArgs false
namespace Go.Proofs.Ytpddbhfebhpohaa
open Go Go.Proofs Go.Proofs.Ytpddbhfebhpohaa.Ev Go.Proofs.Ytpddbhfebhpohaa.Ev.Ho
set_option maxRecDepth 100000

theorem al4 (x : Int) (h0 : 0 ≤ x) (h1 : x < 4294967296) (h : x % 4 = 0) : bits .andNot .u32 x 3 = x := by
  rw [andNot_u32 _ _ (by decide) (by decide)]
  have := and_sh .u32 rfl x h0 h1 2 30 (by decide)
  have e : ((2 ^ 30 - 1) * 2 ^ 2 : Int) = 4294967295 - 3 := by decide
  rw [e] at this
  rw [this]; omega
theorem al2 (x : Int) (h0 : 0 ≤ x) (h1 : x < 4294967296) (h : x % 2 = 0) : bits .andNot .u32 x 1 = x := by
  rw [andNot_u32 _ _ (by decide) (by decide)]
  have := and_sh .u32 rfl x h0 h1 1 31 (by decide)
  have e : ((2 ^ 31 - 1) * 2 ^ 1 : Int) = 4294967295 - 1 := by decide
  rw [e] at this
  rw [this]; omega
section
variable {l m : List C} {k : Nat} {c w a b v : Int}
theorem ap_len (hl : l.length = k * 6) : (rApp l (k * 6) [C.i true IntKind.i64 c, ofCell (Value.bool true), C.i false IntKind.u32 a, C.i true IntKind.u32 0, ofCell (Value.int IntKind.i64 w), ofCell (Value.int IntKind.i64 1)]).length = k * 6 + 6 := by rw [len_app (by omega)]; rfl
theorem ap_get (hl : l.length = k * 6) (r : Nat) : (rApp l (k * 6) [C.i true IntKind.i64 c, ofCell (Value.bool true), C.i false IntKind.u32 a, C.i true IntKind.u32 0, ofCell (Value.int IntKind.i64 w), ofCell (Value.int IntKind.i64 1)])[k * 6 + r]? = [C.i true IntKind.i64 c, ofCell (Value.bool true), C.i false IntKind.u32 a, C.i true IntKind.u32 0, ofCell (Value.int IntKind.i64 w), ofCell (Value.int IntKind.i64 1)][r]? := by rw [get_app_ge (by omega) (by omega), Nat.add_sub_cancel_left]
theorem ap0 (hl : l.length = k * 6) : rI (rApp l (k * 6) [C.i true IntKind.i64 c, ofCell (Value.bool true), C.i false IntKind.u32 a, C.i true IntKind.u32 0, ofCell (Value.int IntKind.i64 w), ofCell (Value.int IntKind.i64 1)]) (k * 6) = c := rI_congr (l' := [C.i true IntKind.i64 c, ofCell (Value.bool true), C.i false IntKind.u32 a, C.i true IntKind.u32 0, ofCell (Value.int IntKind.i64 w), ofCell (Value.int IntKind.i64 1)]) (q := 0) (ap_get hl 0)
theorem ap4 (hl : l.length = k * 6) : rI (rApp l (k * 6) [C.i true IntKind.i64 c, ofCell (Value.bool true), C.i false IntKind.u32 a, C.i true IntKind.u32 0, ofCell (Value.int IntKind.i64 w), ofCell (Value.int IntKind.i64 1)]) (k * 6 + 4) = w := rI_congr (l' := [C.i true IntKind.i64 c, ofCell (Value.bool true), C.i false IntKind.u32 a, C.i true IntKind.u32 0, ofCell (Value.int IntKind.i64 w), ofCell (Value.int IntKind.i64 1)]) (q := 4) (ap_get hl 4)
theorem ap5 (hl : l.length = k * 6) : rI (rApp l (k * 6) [C.i true IntKind.i64 c, ofCell (Value.bool true), C.i false IntKind.u32 a, C.i true IntKind.u32 0, ofCell (Value.int IntKind.i64 w), ofCell (Value.int IntKind.i64 1)]) (k * 6 + 5) = 1 := rI_congr (l' := [C.i true IntKind.i64 c, ofCell (Value.bool true), C.i false IntKind.u32 a, C.i true IntKind.u32 0, ofCell (Value.int IntKind.i64 w), ofCell (Value.int IntKind.i64 1)]) (q := 5) (ap_get hl 5)
theorem ao0 (hl : l.length = k * 6) : rOk (rApp l (k * 6) [C.i true IntKind.i64 c, ofCell (Value.bool true), C.i false IntKind.u32 a, C.i true IntKind.u32 0, ofCell (Value.int IntKind.i64 w), ofCell (Value.int IntKind.i64 1)]) (k * 6) (.i .i64) = true := rOk_congr (l' := [C.i true IntKind.i64 c, ofCell (Value.bool true), C.i false IntKind.u32 a, C.i true IntKind.u32 0, ofCell (Value.int IntKind.i64 w), ofCell (Value.int IntKind.i64 1)]) (q := 0) (ap_get hl 0)
theorem ao4 (hl : l.length = k * 6) : rOk (rApp l (k * 6) [C.i true IntKind.i64 c, ofCell (Value.bool true), C.i false IntKind.u32 a, C.i true IntKind.u32 0, ofCell (Value.int IntKind.i64 w), ofCell (Value.int IntKind.i64 1)]) (k * 6 + 4) (.i .i64) = true := rOk_congr (l' := [C.i true IntKind.i64 c, ofCell (Value.bool true), C.i false IntKind.u32 a, C.i true IntKind.u32 0, ofCell (Value.int IntKind.i64 w), ofCell (Value.int IntKind.i64 1)]) (q := 4) (ap_get hl 4)
theorem ao5 (hl : l.length = k * 6) : rOk (rApp l (k * 6) [C.i true IntKind.i64 c, ofCell (Value.bool true), C.i false IntKind.u32 a, C.i true IntKind.u32 0, ofCell (Value.int IntKind.i64 w), ofCell (Value.int IntKind.i64 1)]) (k * 6 + 5) (.i .i64) = true := rOk_congr (l' := [C.i true IntKind.i64 c, ofCell (Value.bool true), C.i false IntKind.u32 a, C.i true IntKind.u32 0, ofCell (Value.int IntKind.i64 w), ofCell (Value.int IntKind.i64 1)]) (q := 5) (ap_get hl 5)
theorem row2 (h : Row plS l) (hl : l.length = k * 6) : Row plS (rSet (rApp l (k * 6) [C.i true IntKind.i64 c, ofCell (Value.bool true), C.i false IntKind.u32 a, C.i true IntKind.u32 0, ofCell (Value.int IntKind.i64 w), ofCell (Value.int IntKind.i64 1)]) (k * 6 + 3) [C.i false IntKind.u32 b]) := by
  have h1 : Row plS (rApp l (k * 6) [C.i true IntKind.i64 c, ofCell (Value.bool true), C.i false IntKind.u32 a, C.i true IntKind.u32 0, ofCell (Value.int IntKind.i64 w), ofCell (Value.int IntKind.i64 1)]) := h.app (Row.one trivial) (by omega) (Nat.mul_mod_left _ _)
  refine h1.set1 (q := .i .u32) (by rw [ap_len hl]; omega) ?_ trivial
  have e : (k * 6 + 3) % plS.length = 3 := by show (k * 6 + 3) % 6 = 3; omega
  rw [e]; rfl
theorem row3 (h : Row [.i .u32] m) (hm : m.length = k) : Row [.i .u32] (rApp m (k * 1) [C.i false IntKind.u32 v]) :=
  h.app (Row.one trivial) (by omega) (by show k * 1 % 1 = 0; omega)
theorem pln_step {n0 n1 : Int} (h : PLN c w k l m n0 n1) (hk : 0 < k) (ha : a = 33619968 + k * w) (hb : b = 50462720 + k * w) (hv : v = vw w a) :
    PLN c w (k + 1) (rSet (rApp l (k * 6) [C.i true IntKind.i64 c, ofCell (Value.bool true), C.i false IntKind.u32 a, C.i true IntKind.u32 0, ofCell (Value.int IntKind.i64 w), ofCell (Value.int IntKind.i64 1)]) (k * 6 + 3) [C.i false IntKind.u32 b]) (rApp m (k * 1) [C.i false IntKind.u32 v]) ((k + 1 : Nat) : Int) ((k + 1 : Nat) : Int) := by
  obtain ⟨hl, hm, _, _, hE⟩ := h
  refine ⟨by rw [len_set, ap_len hl]; omega, by rw [len_app (by omega)]; simp, rfl, rfl, fun j hj => ?_⟩
  have g2 : ∀ q, (rSet (rApp l (k * 6) [C.i true IntKind.i64 c, ofCell (Value.bool true), C.i false IntKind.u32 a, C.i true IntKind.u32 0, ofCell (Value.int IntKind.i64 w), ofCell (Value.int IntKind.i64 1)]) (k * 6 + 3) [C.i false IntKind.u32 b])[q]? = if q = k * 6 + 3 then some (C.i false IntKind.u32 b) else (rApp l (k * 6) [C.i true IntKind.i64 c, ofCell (Value.bool true), C.i false IntKind.u32 a, C.i true IntKind.u32 0, ofCell (Value.int IntKind.i64 w), ofCell (Value.int IntKind.i64 1)])[q]? := fun q => get_set1 (by rw [ap_len hl]; omega)
  by_cases hjk : j < k
  · obtain ⟨⟨x0, x1, x2, x3, x4, x5⟩, x6⟩ := hE j hjk
    have g3 : ∀ r, r < 6 → (rSet (rApp l (k * 6) [C.i true IntKind.i64 c, ofCell (Value.bool true), C.i false IntKind.u32 a, C.i true IntKind.u32 0, ofCell (Value.int IntKind.i64 w), ofCell (Value.int IntKind.i64 1)]) (k * 6 + 3) [C.i false IntKind.u32 b])[j * 6 + r]? = l[j * 6 + r]? := by
      intro r hr
      rw [g2, if_neg (by omega), get_app_lt' (by omega) (by omega)]
    have g4 : (rApp m (k * 1) [C.i false IntKind.u32 v])[j]? = m[j]? := get_app_lt' (by omega) (by omega)
    refine ⟨⟨?_, ?_, ?_, ?_, ?_, ?_⟩, ?_⟩
    · exact (rI_congr (g3 0 (by decide))).trans x0
    · rw [rB_congr (g3 1 (by decide))]; exact x1
    · rw [rI_congr (g3 2 (by decide))]; exact x2
    · rw [rI_congr (g3 3 (by decide))]; exact x3
    · rw [rI_congr (g3 4 (by decide))]; exact x4
    · rw [rI_congr (g3 5 (by decide))]; exact x5
    · rw [rI_congr g4]; exact x6
  · obtain rfl : j = k := by omega
    have g3 : ∀ r, r < 6 → r ≠ 3 → (rSet (rApp l (j * 6) [C.i true IntKind.i64 c, ofCell (Value.bool true), C.i false IntKind.u32 a, C.i true IntKind.u32 0, ofCell (Value.int IntKind.i64 w), ofCell (Value.int IntKind.i64 1)]) (j * 6 + 3) [C.i false IntKind.u32 b])[j * 6 + r]? = [C.i true IntKind.i64 c, ofCell (Value.bool true), C.i false IntKind.u32 a, C.i true IntKind.u32 0, ofCell (Value.int IntKind.i64 w), ofCell (Value.int IntKind.i64 1)][r]? := by
      intro r hr hr3
      rw [g2, if_neg (by omega), ap_get hl]
    refine ⟨⟨?_, ?_, ?_, ?_, ?_, ?_⟩, ?_⟩
    · exact rI_congr (l' := [C.i true IntKind.i64 c, ofCell (Value.bool true), C.i false IntKind.u32 a, C.i true IntKind.u32 0, ofCell (Value.int IntKind.i64 w), ofCell (Value.int IntKind.i64 1)]) (q := 0) (g3 0 (by decide) (by decide))
    · rw [rB_congr (l' := [C.i true IntKind.i64 c, ofCell (Value.bool true), C.i false IntKind.u32 a, C.i true IntKind.u32 0, ofCell (Value.int IntKind.i64 w), ofCell (Value.int IntKind.i64 1)]) (q := 1) (g3 1 (by decide) (by decide))]; rfl
    · rw [rI_congr (l' := [C.i true IntKind.i64 c, ofCell (Value.bool true), C.i false IntKind.u32 a, C.i true IntKind.u32 0, ofCell (Value.int IntKind.i64 w), ofCell (Value.int IntKind.i64 1)]) (q := 2) (g3 2 (by decide) (by decide))]; exact ha
    · rw [rI_congr (l' := [C.i false IntKind.u32 b]) (q := 0) (by rw [g2, if_pos rfl]; rfl)]; exact hb
    · rw [rI_congr (l' := [C.i true IntKind.i64 c, ofCell (Value.bool true), C.i false IntKind.u32 a, C.i true IntKind.u32 0, ofCell (Value.int IntKind.i64 w), ofCell (Value.int IntKind.i64 1)]) (q := 4) (g3 4 (by decide) (by decide))]; rfl
    · rw [rI_congr (l' := [C.i true IntKind.i64 c, ofCell (Value.bool true), C.i false IntKind.u32 a, C.i true IntKind.u32 0, ofCell (Value.int IntKind.i64 w), ofCell (Value.int IntKind.i64 1)]) (q := 5) (g3 5 (by decide) (by decide)), if_neg (by omega)]; rfl
    · rw [rI_congr (l' := [C.i false IntKind.u32 v]) (q := 0) (by rw [get_app_ge (by omega) (by omega)]; congr 1; omega)]
      rw [← ha]; exact hv
end
theorem rRow6 {l : List C} {k : Nat} (h : Row plS l) (hl : k * 6 + 5 < l.length) : rRow l (k * 6 + 0) ([EK.i IntKind.i64] ++ ([EK.b] ++ ([EK.i IntKind.u32] ++ ([EK.i IntKind.u32] ++ ([EK.i IntKind.i64] ++ ([EK.i IntKind.i64] ++ [])))))) = true := by
  have key : ∀ (r : Nat) (q : Sp) (e : EK), r < 6 → plS[r]? = some q → okS q e = true → rOk l (k * 6 + r) e = true := by
    intro r q e hr hq he
    refine h.rOk (by omega) ?_ he
    have e1 : (k * 6 + r) % plS.length = r := by show (k * 6 + r) % 6 = r; omega
    rw [e1]; exact hq
  show (rOk l (k * 6) _ && (rOk l (k * 6 + 1) _ && (rOk l (k * 6 + 2) _ && (rOk l (k * 6 + 3) _ && (rOk l (k * 6 + 4) _ && (rOk l (k * 6 + 5) _ && true)))))) = true
  have k0 := key 0 _ (.i .i64) (by decide) rfl rfl
  rw [Nat.add_zero] at k0
  rw [k0, key 1 _ .b (by decide) rfl rfl, key 2 _ (.i .u32) (by decide) rfl rfl, key 3 _ (.i .u32) (by decide) rfl rfl, key 4 _ (.i .i64) (by decide) rfl rfl, key 5 _ (.i .i64) (by decide) rfl rfl]
  rfl
theorem vwT (x : Int) : bits .xor .u32 (IntKind.u32.wrap (x * 2654435761)) (x.fdiv 128) = vw 4 x := by unfold vw vl; rw [if_pos rfl]
theorem vwF (x : Int) : bits .or .u32 (bits .and .u32 (bits .xor .u32 (IntKind.u32.wrap (x * 2654435761)) (x.fdiv 128)) 65535) (IntKind.u32.wrap (bits .xor .u32 (IntKind.u32.wrap (x * 2654435761)) (x.fdiv 128) * 65536)) = vw 2 x := by unfold vw vl; rw [if_neg (by decide)]
theorem pln_one {c w v : Int} (hv : v = vw w 33619968) : PLN c w (1 : Int).toNat [C.i true IntKind.i64 c, ofCell (Value.bool true), C.i false IntKind.u32 33619968, C.i false IntKind.u32 50462720, ofCell (Value.int IntKind.i64 w), ofCell (Value.int IntKind.i64 0)] [C.i false IntKind.u32 v] (1 : Int) (1 : Int) := by
  refine ⟨rfl, rfl, rfl, rfl, fun j hj => ?_⟩
  have hj : j < 1 := hj
  obtain rfl : j = 0 := by omega
  refine ⟨⟨rfl, rfl, ?_, ?_, rfl, rfl⟩, ?_⟩
  · show (33619968 : Int) = 33619968 + ((0 : Nat) : Int) * w; simp
  · show (50462720 : Int) = 50462720 + ((0 : Nat) : Int) * w; simp
  · have e : (33619968 : Int) + ((0 : Nat) : Int) * w = 33619968 := by simp
    rw [e]; exact hv
end Go.Proofs.Ytpddbhfebhpohaa

