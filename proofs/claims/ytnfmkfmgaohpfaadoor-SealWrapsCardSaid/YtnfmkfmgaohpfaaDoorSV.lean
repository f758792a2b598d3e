import Derived.Test.YtnfmkfmgaohpfaaDoorSR
import Derived.Test.YtnfmkfmgaohpfaaDoorSKl
set_option linter.unusedVariables false
set_option linter.unusedSimpArgs false
namespace Go.Proofs.YtnfmkfmgaohpfaaDoor
open Go Go.Proofs Go.Proofs.YtnfmkfmgaohpfaaDoor.Ev Go.Proofs.YtnfmkfmgaohpfaaDoor.Ev.Ho
set_option maxRecDepth 100000
noncomputable def v15_td (E : World) : List Item := headOf (run (pe E) (orcR E) (tabL fns) 20000 (2 ^ 200 - 1) [.code (Tryd.f15.body.getD .skip)] ⟨Tryd.f15.ntmps, mkFrGo (Tr.mk 12) 0 [.c (.str false default)]⟩ [])
noncomputable def v15b_td (E : World) : List Item := headOf (run (pe E) (orcR E) (tabL fns) 20000 (2 ^ 200 - 1) (v15_td E) (mkL Tryd.f15.ntmps (slC default [(0, .q (.str false default)), (3, .r .u32 (0) (4294967295)), (4, .r .i64 (0) (4611686018427387904))])) [])
/-- One bit's step. -/
noncomputable def bS (x : Nat) : Nat := if x % 2 = 1 then x / 2 ^^^ 3988292384 else x / 2
noncomputable def bSn : Nat → Nat → Nat
  | 0, x => x
  | n + 1, x => bS (bSn n x)
structure VH (E : World) (s : ByteArray) (c i : Int) : Prop where
  e : c = cF E s i.toNat
  l : i ≤ s.size
structure VI (E : World) (s : ByteArray) (c i k : Int) : Prop where
  e : c = ((bSn k.toNat (cN E s i.toNat ^^^ (strB s i).toNat) : Nat) : Int)
  l : i < s.size
theorem bS_x (x y : Nat) (hy : y % 2 = 0) : bS (x ^^^ y) = bS x ^^^ (y / 2) := by
  have e1 : (x ^^^ y) % 2 = x % 2 := by
    have := Nat.xor_mod_two_pow (a := x) (b := y) (n := 1)
    have e4 : (2 : Nat) ^ 1 = 2 := rfl
    rw [e4, hy, Nat.xor_zero] at this; exact this
  have e2 : (x ^^^ y) / 2 = x / 2 ^^^ y / 2 := by
    have := Nat.shiftRight_xor_distrib (a := x) (b := y) (i := 1)
    simpa [Nat.shiftRight_eq_div_pow] using this
  unfold bS
  rw [e1, e2]
  split
  · rw [Nat.xor_assoc, Nat.xor_assoc, Nat.xor_comm (y / 2)]
  · rfl
theorem bS4_x (x y : Nat) (hy : y % 16 = 0) : bSn 4 (x ^^^ y) = bSn 4 x ^^^ (y / 16) := by
  show bS (bS (bS (bS (x ^^^ y)))) = bS (bS (bS (bS x))) ^^^ (y / 16)
  rw [bS_x x y (by omega), bS_x _ (y / 2) (by omega), bS_x _ (y / 2 / 2) (by omega), bS_x _ (y / 2 / 2 / 2) (by omega), Nat.div_div_eq_div_mul, Nat.div_div_eq_div_mul, Nat.div_div_eq_div_mul]
theorem bS_tab : ∀ j : Nat, j < 16 → bSn 4 j = hbN.getD j 0 := by decide
theorem bS_h {E : World} (h : HOK E) (x : Nat) : bSn 4 x = hN E x := by
  have e4 : (2 : Nat) ^ 4 = 16 := rfl
  have m : (x ^^^ x % 16) % 16 = 0 := by
    have := Nat.xor_mod_two_pow (a := x) (b := x % 16) (n := 4)
    rw [e4, Nat.mod_mod, Nat.xor_self] at this; exact this
  have d : (x ^^^ x % 16) / 16 = x / 16 := by
    have := Nat.shiftRight_xor_distrib (a := x) (b := x % 16) (i := 4)
    simp only [Nat.shiftRight_eq_div_pow, e4] at this
    rw [this, Nat.div_eq_of_lt (a := x % 16) (by omega), Nat.xor_zero]
  have e : x = x % 16 ^^^ (x ^^^ x % 16) := by
    rw [Nat.xor_comm x, ← Nat.xor_assoc, Nat.xor_self, Nat.zero_xor]
  conv => lhs; rw [e]
  rw [bS4_x _ _ m, d, bS_tab _ (by omega), ← tN_hb h _ (by omega), Nat.xor_comm]
  rfl
theorem bS_t {E : World} (h : HOK E) (x : Nat) : bSn 8 x = tT E x := by
  show bSn 4 (bSn 4 x) = hN E (hN E x)
  rw [bS_h h, bS_h h]
theorem bS_lt (x : Nat) (hx : x < 4294967296) : bS x < 4294967296 := by
  unfold bS
  split
  · exact Nat.xor_lt_two_pow (n := 32) (by omega) (by omega)
  · omega
theorem bSn_lt (x : Nat) (hx : x < 4294967296) : ∀ n, bSn n x < 4294967296
  | 0 => hx
  | n + 1 => bS_lt _ (bSn_lt x hx n)
noncomputable def rs_h0 (E : World) (s : ByteArray) (z : PX) : Hd := ⟨4, anyH, (v15_td E), [(0, .q (.str false s)), (3, .r .u32 (0) (4294967295)), (4, .r .i64 (0) (4611686018427387904))], [], fun y => VH E s (y.n 91003) (y.n 91004), fun y => (20 * ((s.size : Int) - y.n 91004) + 10).toNat⟩
noncomputable def rs_h1 (E : World) (s : ByteArray) (z : PX) : Hd := ⟨8, anyH, (v15b_td E), [(0, .q (.str false s)), (3, .r .u32 (0) (4294967295)), (4, .r .i64 (0) (4611686018427387904)), (5, .r .i64 (0) (8))], [], fun y => VI E s (y.n 91003) (y.n 91004) (y.n 91005), fun y => (20 * ((s.size : Int) - y.n 91004) + 9 - y.n 91005).toNat⟩
noncomputable def rs_hs (E : World) (s : ByteArray) (z : PX) : List Hd := [rs_h0 E s z, rs_h1 E s z]
theorem rs_pro (E : World) (s : ByteArray) (z : PX) :
    (loopP (pe E) Tryd.f15 (endR ([] : List MB).length [] (.c (.r .u32 0 4294967295)) (fun z y => y.n 90000 = sumF E s) z) (headR ([] : List MB).length Tryd.f15.ntmps none (rs_hs E s z)) (run (pe E) (orcR E) (tabL fns) 20000 (2 ^ 200 - 1) [.code (Tryd.f15.body.getD .skip)] ⟨Tryd.f15.ntmps, mkFrGo (Tr.mk 12) 0 [.c (.str false s)]⟩ (mkM z [] [] 0))) =
    (v15_td E = v15_td E ∧ (33 : Nat) = (33 : Nat) ∧ ((renC (posN []) (C.str false s) = C.str false s ∧ True) ∧ (((0 : Int) ≤ (4294967295 : Int) ∧ (4294967295 : Int) ≤
      (4294967295 : Int)) ∧ True) ∧ (((0 : Int) ≤ (0 : Int) ∧ (0 : Int) ≤ (4611686018427387904 : Int)) ∧ True) ∧ True) ∧ ([] : SW) = [] ∧ VH E s (4294967295 : Int) (0 : Int) ∧
      True) := by kernel_rfl
theorem rs_r0 (E : World) (s : ByteArray) (z : PX) (y : PX) :
    (loopP (pe E) Tryd.f15 (endR ([] : List MB).length [] (.c (.r .u32 0 4294967295)) (fun z y => y.n 90000 = sumF E s) z) (headR ([] : List MB).length Tryd.f15.ntmps (some ((fun y => (20 * ((s.size : Int) - y.n 91004) + 10).toNat) y)) (rs_hs E s z))  (run (pe E) (orcR E) (tabL fns) 20000 (2 ^ 200 - 1) (v15_td E) (mkL Tryd.f15.ntmps (slC y [(0, .q (.str false s)), (3, .r .u32 (0) (4294967295)), (4, .r .i64 (0) (4611686018427387904))])) (mkM y [] [] 0))) =
    ((decide (y.n (91004 : Nat) < (↑s.size : Int)) = true → inB (y.n (91004 : Nat)) s.size = true ∧ v15b_td E = v15b_td E ∧ (33 : Nat) = (33 : Nat) ∧ ((renC (posN []) (C.str
      false s) = C.str false s ∧ True) ∧ (((0 : Int) ≤ bits BinOp.xor IntKind.u32 (y.n (91003 : Nat)) (IntKind.u32.wrap (strB s (y.n (91004 : Nat)))) ∧ bits BinOp.xor
      IntKind.u32 (y.n (91003 : Nat)) (IntKind.u32.wrap (strB s (y.n (91004 : Nat)))) ≤ (4294967295 : Int)) ∧ True) ∧ (((0 : Int) ≤ y.n (91004 : Nat) ∧ y.n (91004 : Nat) ≤
      (4611686018427387904 : Int)) ∧ True) ∧ (((0 : Int) ≤ (0 : Int) ∧ (0 : Int) ≤ (8 : Int)) ∧ True) ∧ True) ∧ ([] : SW) = [] ∧ VI E s (bits BinOp.xor IntKind.u32 (y.n (91003 :
      Nat)) (IntKind.u32.wrap (strB s (y.n (91004 : Nat))))) (y.n (91004 : Nat)) (0 : Int) ∧ ((20 : Int) * ((↑s.size : Int) - y.n (91004 : Nat)) + (9 : Int) - (0 : Int)).toNat <
      ((20 : Int) * ((↑s.size : Int) - y.n (91004 : Nat)) + (10 : Int)).toNat ∧ True) ∧ (decide (y.n (91004 : Nat) < (↑s.size : Int)) = false → ([] : SW) = [] ∧ (((0 : Int) ≤
      IntKind.u32.wrap ((4294967295 : Int) - y.n (91003 : Nat)) ∧ IntKind.u32.wrap ((4294967295 : Int) - y.n (91003 : Nat)) ≤ (4294967295 : Int)) ∧ True) ∧ IntKind.u32.wrap
      ((4294967295 : Int) - y.n (91003 : Nat)) = sumF E s)) := by kernel_rfl
set_option maxHeartbeats 8000000 in
theorem rs_q0 (E : World) (s : ByteArray) (z : PX) (hp : (fun _ => (GOK E ∧ HOK E) ∧ s.size ≤ 4611686018427387904) z) (y : PX) (hy1 : rgM y [] 0) (hy2 : rgF y [(0, .q (.str false s)), (3, .r .u32 (0) (4294967295)), (4, .r .i64 (0) (4611686018427387904))]) (hy3 : (fun y => VH E s (y.n 91003) (y.n 91004)) y) : Holds ((run (pe E) (orcR E) (tabL fns) 20000 (2 ^ 200 - 1) (v15_td E) (mkL Tryd.f15.ntmps (slC y [(0, .q (.str false s)), (3, .r .u32 (0) (4294967295)), (4, .r .i64 (0) (4611686018427387904))])) (mkM y [] [] 0)).OK (lfP (pe E) Tryd.f15 (endR ([] : List MB).length [] (.c (.r .u32 0 4294967295)) (fun z y => y.n 90000 = sumF E s) z) (headR ([] : List MB).length Tryd.f15.ntmps (some ((fun y => (20 * ((s.size : Int) - y.n 91004) + 10).toNat) y)) (rs_hs E s z)))) := by
  refine loopP_lfH ⟨?_⟩
  rw [rs_r0]
  have hf : True ∧ (((0) ≤ y.n 91003 ∧ y.n 91003 ≤ (4294967295)) ∧ True) ∧ (((0) ≤ y.n 91004 ∧ y.n 91004 ≤ (4611686018427387904)) ∧ True) ∧ True := hy2
  obtain ⟨_, ⟨g3, _⟩, ⟨g4, _⟩, _⟩ := hf
  obtain ⟨⟨hG, hH⟩, hs⟩ := hp
  have hy : VH E s (y.n 91003) (y.n 91004) := hy3
  have he := hy.e
  rw [cF_n hG] at he
  have cl := cN_lt hG s (y.n 91004).toNat
  have hb := strB_bd s (y.n 91004)
  refine ⟨fun h => ?_, fun h => ?_⟩
  · have hi := of_decide_eq_true h
    have hw : IntKind.u32.wrap (strB s (y.n 91004)) = ((strB s (y.n 91004)).toNat : Int) := by rw [wu32]; omega
    have hx : bits .xor .u32 (y.n 91003) (IntKind.u32.wrap (strB s (y.n 91004))) = ((cN E s (y.n 91004).toNat ^^^ (strB s (y.n 91004)).toNat : Nat) : Int) := by
      rw [hw, he]; exact bits_xor_n .u32 rfl _ _ cl (by show _ < 4294967296; omega)
    have xl : cN E s (y.n 91004).toNat ^^^ (strB s (y.n 91004)).toNat < 4294967296 := xb_lt cl
    rw [hx]
    exact ⟨by simp only [inB, Bool.and_eq_true, decide_eq_true_eq]; omega, rfl, rfl, ⟨⟨rfl, trivial⟩, ⟨⟨by omega, by omega⟩, trivial⟩, ⟨⟨by omega, by omega⟩, trivial⟩, ⟨⟨by omega, by omega⟩, trivial⟩, trivial⟩, rfl, ⟨rfl, hi⟩, by omega, trivial⟩
  · have hi := of_decide_eq_false h
    have hl := hy.l
    have e : (y.n 91004).toNat = s.size := by omega
    rw [e] at he cl
    have hw : IntKind.u32.wrap (4294967295 - y.n 91003) = 4294967295 - y.n 91003 := by rw [wu32]; omega
    rw [hw]
    refine ⟨rfl, ⟨⟨by omega, by omega⟩, trivial⟩, ?_⟩
    rw [sumF_eq, cF_n hG, ← he]
    exact (not_u32 (y.n 91003) (by omega) (by omega)).symm
theorem rs_r1 (E : World) (s : ByteArray) (z : PX) (y : PX) :
    (loopP (pe E) Tryd.f15 (endR ([] : List MB).length [] (.c (.r .u32 0 4294967295)) (fun z y => y.n 90000 = sumF E s) z) (headR ([] : List MB).length Tryd.f15.ntmps (some ((fun y => (20 * ((s.size : Int) - y.n 91004) + 9 - y.n 91005).toNat) y)) (rs_hs E s z))  (run (pe E) (orcR E) (tabL fns) 20000 (2 ^ 200 - 1) (v15b_td E) (mkL Tryd.f15.ntmps (slC y [(0, .q (.str false s)), (3, .r .u32 (0) (4294967295)), (4, .r .i64 (0) (4611686018427387904)), (5, .r .i64 (0) (8))])) (mkM y [] [] 0))) =
    ((decide (y.n (91005 : Nat) < (8 : Int)) = true → (((y.n (91003 : Nat)).tmod (2 : Int) == (1 : Int)) = true → v15b_td E = v15b_td E ∧ (33 : Nat) = (33 : Nat) ∧ ((renC (posN
      []) (C.str false s) = C.str false s ∧ True) ∧ (((0 : Int) ≤ bits BinOp.xor IntKind.u32 (IntKind.u32.wrap ((y.n (91003 : Nat)).tdiv (2 : Int))) (3988292384 : Int) ∧ bits
      BinOp.xor IntKind.u32 (IntKind.u32.wrap ((y.n (91003 : Nat)).tdiv (2 : Int))) (3988292384 : Int) ≤ (4294967295 : Int)) ∧ True) ∧ (((0 : Int) ≤ y.n (91004 : Nat) ∧ y.n
      (91004 : Nat) ≤ (4611686018427387904 : Int)) ∧ True) ∧ (((0 : Int) ≤ IntKind.i64.wrap (y.n (91005 : Nat) + (1 : Int)) ∧ IntKind.i64.wrap (y.n (91005 : Nat) + (1 : Int)) ≤
      (8 : Int)) ∧ True) ∧ True) ∧ ([] : SW) = [] ∧ VI E s (bits BinOp.xor IntKind.u32 (IntKind.u32.wrap ((y.n (91003 : Nat)).tdiv (2 : Int))) (3988292384 : Int)) (y.n (91004 :
      Nat)) (IntKind.i64.wrap (y.n (91005 : Nat) + (1 : Int))) ∧ ((20 : Int) * ((↑s.size : Int) - y.n (91004 : Nat)) + (9 : Int) - IntKind.i64.wrap (y.n (91005 : Nat) + (1 :
      Int))).toNat < ((20 : Int) * ((↑s.size : Int) - y.n (91004 : Nat)) + (9 : Int) - y.n (91005 : Nat)).toNat ∧ True) ∧ (((y.n (91003 : Nat)).tmod (2 : Int) == (1 : Int)) =
      false → v15b_td E = v15b_td E ∧ (33 : Nat) = (33 : Nat) ∧ ((renC (posN []) (C.str false s) = C.str false s ∧ True) ∧ (((0 : Int) ≤ IntKind.u32.wrap ((y.n (91003 :
      Nat)).tdiv (2 : Int)) ∧ IntKind.u32.wrap ((y.n (91003 : Nat)).tdiv (2 : Int)) ≤ (4294967295 : Int)) ∧ True) ∧ (((0 : Int) ≤ y.n (91004 : Nat) ∧ y.n (91004 : Nat) ≤
      (4611686018427387904 : Int)) ∧ True) ∧ (((0 : Int) ≤ IntKind.i64.wrap (y.n (91005 : Nat) + (1 : Int)) ∧ IntKind.i64.wrap (y.n (91005 : Nat) + (1 : Int)) ≤ (8 : Int)) ∧
      True) ∧ True) ∧ ([] : SW) = [] ∧ VI E s (IntKind.u32.wrap ((y.n (91003 : Nat)).tdiv (2 : Int))) (y.n (91004 : Nat)) (IntKind.i64.wrap (y.n (91005 : Nat) + (1 : Int))) ∧
      ((20 : Int) * ((↑s.size : Int) - y.n (91004 : Nat)) + (9 : Int) - IntKind.i64.wrap (y.n (91005 : Nat) + (1 : Int))).toNat < ((20 : Int) * ((↑s.size : Int) - y.n (91004 :
      Nat)) + (9 : Int) - y.n (91005 : Nat)).toNat ∧ True)) ∧ (decide (y.n (91005 : Nat) < (8 : Int)) = false → v15_td E = v15_td E ∧ (33 : Nat) = (33 : Nat) ∧ ((renC (posN [])
      (C.str false s) = C.str false s ∧ True) ∧ (((0 : Int) ≤ y.n (91003 : Nat) ∧ y.n (91003 : Nat) ≤ (4294967295 : Int)) ∧ True) ∧ (((0 : Int) ≤ IntKind.i64.wrap (y.n (91004 :
      Nat) + (1 : Int)) ∧ IntKind.i64.wrap (y.n (91004 : Nat) + (1 : Int)) ≤ (4611686018427387904 : Int)) ∧ True) ∧ True) ∧ ([] : SW) = [] ∧ VH E s (y.n (91003 : Nat))
      (IntKind.i64.wrap (y.n (91004 : Nat) + (1 : Int))) ∧ ((20 : Int) * ((↑s.size : Int) - IntKind.i64.wrap (y.n (91004 : Nat) + (1 : Int))) + (10 : Int)).toNat < ((20 : Int) *
      ((↑s.size : Int) - y.n (91004 : Nat)) + (9 : Int) - y.n (91005 : Nat)).toNat ∧ True)) := by kernel_rfl
set_option maxHeartbeats 8000000 in
theorem rs_q1 (E : World) (s : ByteArray) (z : PX) (hp : (fun _ => (GOK E ∧ HOK E) ∧ s.size ≤ 4611686018427387904) z) (y : PX) (hy1 : rgM y [] 0) (hy2 : rgF y [(0, .q (.str false s)), (3, .r .u32 (0) (4294967295)), (4, .r .i64 (0) (4611686018427387904)), (5, .r .i64 (0) (8))]) (hy3 : (fun y => VI E s (y.n 91003) (y.n 91004) (y.n 91005)) y) : Holds ((run (pe E) (orcR E) (tabL fns) 20000 (2 ^ 200 - 1) (v15b_td E) (mkL Tryd.f15.ntmps (slC y [(0, .q (.str false s)), (3, .r .u32 (0) (4294967295)), (4, .r .i64 (0) (4611686018427387904)), (5, .r .i64 (0) (8))])) (mkM y [] [] 0)).OK (lfP (pe E) Tryd.f15 (endR ([] : List MB).length [] (.c (.r .u32 0 4294967295)) (fun z y => y.n 90000 = sumF E s) z) (headR ([] : List MB).length Tryd.f15.ntmps (some ((fun y => (20 * ((s.size : Int) - y.n 91004) + 9 - y.n 91005).toNat) y)) (rs_hs E s z)))) := by
  refine loopP_lfH ⟨?_⟩
  rw [rs_r1]
  have hf : True ∧ (((0) ≤ y.n 91003 ∧ y.n 91003 ≤ (4294967295)) ∧ True) ∧ (((0) ≤ y.n 91004 ∧ y.n 91004 ≤ (4611686018427387904)) ∧ True) ∧ (((0) ≤ y.n 91005 ∧ y.n 91005 ≤ (8)) ∧ True) ∧ True := hy2
  obtain ⟨_, ⟨g3, _⟩, ⟨g4, _⟩, ⟨g5, _⟩, _⟩ := hf
  obtain ⟨⟨hG, hH⟩, hs⟩ := hp
  have hy : VI E s (y.n 91003) (y.n 91004) (y.n 91005) := hy3
  have he := hy.e
  have hi := hy.l
  have cl := cN_lt hG s (y.n 91004).toNat
  have xl : cN E s (y.n 91004).toNat ^^^ (strB s (y.n 91004)).toNat < 4294967296 := xb_lt cl
  have bl := bSn_lt _ xl (y.n 91005).toNat
  refine ⟨fun h => ?_, fun h => ?_⟩
  · have hk := of_decide_eq_true h
    have j1 : IntKind.i64.wrap (y.n 91005 + 1) = y.n 91005 + 1 := by rw [wi64]; omega
    have t1 : (y.n 91003).tmod 2 = y.n 91003 % 2 := Int.tmod_eq_emod_of_nonneg (by omega)
    have t2 : (y.n 91003).tdiv 2 = y.n 91003 / 2 := Int.tdiv_eq_ediv_of_nonneg (by omega)
    have t3 : IntKind.u32.wrap (y.n 91003 / 2) = y.n 91003 / 2 := by rw [wu32]; omega
    rw [j1, t1, t2, t3]
    generalize hX : bSn (y.n 91005).toNat (cN E s (y.n 91004).toNat ^^^ (strB s (y.n 91004)).toNat) = X at he bl
    have nx : bSn (y.n 91005 + 1).toNat (cN E s (y.n 91004).toNat ^^^ (strB s (y.n 91004)).toNat) = bS X := by
      rw [show (y.n 91005 + 1).toNat = (y.n 91005).toNat + 1 by omega]
      show bS (bSn _ _) = _
      rw [hX]
    have h2 : y.n 91003 / 2 = ((X / 2 : Nat) : Int) := by omega
    have hx : bits .xor .u32 (y.n 91003 / 2) 3988292384 = ((X / 2 ^^^ 3988292384 : Nat) : Int) := by
      rw [h2]; exact bits_xor_n .u32 rfl _ 3988292384 (by show _ < 4294967296; omega) (by show 3988292384 < 4294967296; omega)
    have xl2 : X / 2 ^^^ 3988292384 < 4294967296 := Nat.xor_lt_two_pow (n := 32) (by omega) (by omega)
    rw [hx]
    refine ⟨fun ho => ?_, fun ho => ?_⟩
    · have ho := eq_of_beq ho
      have hb : bS X = X / 2 ^^^ 3988292384 := by unfold bS; rw [if_pos (by omega)]
      exact ⟨rfl, rfl, ⟨⟨rfl, trivial⟩, ⟨⟨by omega, by omega⟩, trivial⟩, ⟨⟨by omega, by omega⟩, trivial⟩, ⟨⟨by omega, by omega⟩, trivial⟩, trivial⟩, rfl, ⟨by rw [nx, hb], hi⟩, by omega, trivial⟩
    · have ho : ¬ y.n 91003 % 2 = 1 := by simpa using ho
      have hb : bS X = X / 2 := by unfold bS; rw [if_neg (by omega)]
      exact ⟨rfl, rfl, ⟨⟨rfl, trivial⟩, ⟨⟨by omega, by omega⟩, trivial⟩, ⟨⟨by omega, by omega⟩, trivial⟩, ⟨⟨by omega, by omega⟩, trivial⟩, trivial⟩, rfl, ⟨by rw [nx, hb]; exact h2, hi⟩, by omega, trivial⟩
  · have hk := of_decide_eq_false h
    have j1 : IntKind.i64.wrap (y.n 91004 + 1) = y.n 91004 + 1 := by rw [wi64]; omega
    rw [j1]
    have e8 : (y.n 91005).toNat = 8 := by omega
    rw [e8, bS_t hH] at he
    have hc : y.n 91003 = cF E s (y.n 91004 + 1).toNat := by
      rw [cF_n hG, show (y.n 91004 + 1).toNat = (y.n 91004).toNat + 1 by omega]
      show _ = ((tT E (cN E s (y.n 91004).toNat ^^^ (strB s ((y.n 91004).toNat : Nat)).toNat) : Nat) : Int)
      rw [show (((y.n 91004).toNat : Nat) : Int) = y.n 91004 by omega]; exact he
    exact ⟨rfl, rfl, ⟨⟨rfl, trivial⟩, ⟨⟨by omega, by omega⟩, trivial⟩, ⟨⟨by omega, by omega⟩, trivial⟩, trivial⟩, rfl, ⟨hc, by omega⟩, by omega, trivial⟩
set_option maxHeartbeats 8000000 in
theorem rs_c (E : World) (s : ByteArray) (z : PX) (hz : rgM z [] 0) (hp : (fun _ => (GOK E ∧ HOK E) ∧ s.size ≤ 4611686018427387904) z) : HD (pe E) 15 [.c (.str false s)] [] [] (.c (.r .u32 0 4294967295)) (fun z y => y.n 90000 = sumF E s) z := by
  refine HD.loop (P := pe E) orcR_ok tab_ok tab_sz mixed Tryd.func15 (c := Tryd.f15.body.getD .skip) rfl (by decide) (Nat.le_of_ble_eq_true rfl) (by rfl) 20000 (2 ^ 200 - 1) (rs_hs E s z) (by rfl) (loopP_lfH ⟨?_⟩) ?_
  · rw [rs_pro]
    exact ⟨rfl, rfl, ⟨⟨rfl, trivial⟩, ⟨⟨by omega, by omega⟩, trivial⟩, ⟨⟨by omega, by omega⟩, trivial⟩, trivial⟩, rfl, ⟨rfl, by omega⟩, trivial⟩
  · intro h hmem y hy1 hy2 hy3
    simp only [rs_hs, List.mem_cons, List.not_mem_nil, or_false] at hmem
    rcases hmem with rfl | rfl
    · exact rs_q0 E s z hp y hy1 hy2 hy3
    · exact rs_q1 E s z hp y hy1 hy2 hy3
noncomputable def orcV (E : World) : Orc := fun g vs s => match g with
  | 15 => (match frGo [] vs s (fun vs0 π s1 s0 => match vs0 with
      | [.c (.str l0 s)] => some (hdG (pre := fun _ => (GOK E ∧ HOK E) ∧ s.size ≤ 4611686018427387904) (fun z hz hp => HD.args (vs := [.c (.str l0 s)]) (by simp [simL, SV.sim, C.sim]) (rs_c E s z hz hp)) (by rfl) π s1 s0)
      | [.c (.strn l0 s)] => some (hdG (pre := fun _ => (GOK E ∧ HOK E) ∧ s.size ≤ 4611686018427387904) (fun z hz hp => HD.args (vs := [.c (.strn l0 s)]) (by simp [simL, SV.sim, C.sim]) (rs_c E s z hz hp)) (by rfl) π s1 s0)
      | _ => none) with
    | some t => some t
    | none => (orcR E) g vs s)
  | g => (orcR E) g vs s
theorem orcV_ok {E : World} : OrcOK (pe E) (orcV E) := by
  intro g vs s t h
  unfold orcV at h
  split at h
  · split at h
    · rename_i hfr; cases h
      obtain ⟨π, s1, hq, hK, hv, hok, hpd⟩ := frGo_spec (P := pe E) hfr
      split at hK
      · rename_i heq; cases hK
        rw [heq] at hv hok
        exact hpd _ _ (hdG_ok _ _ π s1 hq hv hok)
      · rename_i heq; cases hK
        rw [heq] at hv hok
        exact hpd _ _ (hdG_ok _ _ π s1 hq hv hok)
      · cases hK
    · exact orcR_ok _ _ _ _ h
  · exact orcR_ok _ _ _ _ h
end Go.Proofs.YtnfmkfmgaohpfaaDoor

