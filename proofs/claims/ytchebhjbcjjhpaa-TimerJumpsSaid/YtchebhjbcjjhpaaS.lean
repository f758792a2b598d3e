import Derived.Test.YtchebhjbcjjhpaaM
set_option linter.unusedVariables false
set_option linter.unusedSimpArgs false
namespace Go.Proofs.Ytchebhjbcjjhpaa
open Go Go.Proofs Go.Proofs.Ytchebhjbcjjhpaa.Ev
set_option maxRecDepth 100000
theorem TR.rd {I : Bool} {w rl ct cn sn RL CT CN SN : Int} (h : TR I w rl ct cn sn RL CT CN SN) (hw : w ≤ 1000000) : cond (!I) cn (IntKind.u16.wrap (IntKind.i64.wrap (IntKind.i64.wrap cn + IntKind.i64.wrap ((IntKind.i64.wrap (w - sn)).tdiv (stp ct))))) = CN ∧ 0 ≤ CN ∧ CN < 65536 := by
  have n0 := h.n0
  have n1 := h.n1
  cases I with
  | false => have := h.hn rfl; subst this; exact ⟨rfl, n0, n1⟩
  | true =>
    obtain ⟨h1, h2, h3, _, h5⟩ := h.hi rfl
    simp only [Bool.not_true, cond_false]
    rw [wi64_in cn (by omega) (by omega), wi64_in (w - sn) (by omega) (by omega), Int.tdiv_eq_ediv_of_nonneg (by omega)]
    have d0 : 0 ≤ (w - sn) / stp ct := Int.ediv_nonneg (by omega) (by rcases stp_cases ct with e | e | e | e <;> omega)
    have d1 : (w - sn) / stp ct ≤ w - sn := Int.ediv_le_self _ (by omega)
    rw [wi64_in ((w - sn) / stp ct) (by omega) (by omega), wi64_in (cn + (w - sn) / stp ct) (by omega) (by omega), wu16_in (cn + (w - sn) / stp ct) (by omega) (by omega)]
    refine ⟨h3.symm, ?_, ?_⟩ <;> omega
theorem k_u (x : Int) (h0 : 0 ≤ x) (h1 : x < 65536) : 0 ≤ a1 x 199 ∧ a1 x 199 < 65536 := by
  obtain ⟨X, rfl⟩ := Int.eq_ofNat_of_zero_le h0
  have := an X 199 (by omega) (by decide)
  have h2 : X &&& 199 ≤ 199 := Nat.and_le_right
  have h3 : a1 (X : Int) 199 = ((X &&& 199 : Nat) : Int) := this
  rw [h3]; omega
theorem TR.setr {I : Bool} {w rl ct cn sn RL CT CN SN x : Int} (h : TR I w rl ct cn sn RL CT CN SN) (x0 : 0 ≤ x) (x1 : x < 65536) : TR I w x ct cn sn (IntKind.i64.wrap x) CT CN SN :=
  ⟨wi64_in x (by omega) (by omega), h.hct, x0, x1, h.c0, h.c1, h.n0, h.n1, h.hi, h.hn⟩
theorem TR.setc {I J : Bool} {w rl ct cn sn RL CT CN SN x : Int} (h : TR I w rl ct cn sn RL CT CN SN) (hw0 : 0 ≤ w) (hw : w ≤ 1000000) (x0 : 0 ≤ x) (x1 : x < 65536) :
    TR J w rl (a1 x 199) (cond (!(a1 ct 128 != 0)) (cond (cn1 x) rl (cond (!I) cn (IntKind.u16.wrap (IntKind.i64.wrap (IntKind.i64.wrap cn + IntKind.i64.wrap ((IntKind.i64.wrap (w - sn)).tdiv (stp ct))))))) (cond (!I) cn (IntKind.u16.wrap (IntKind.i64.wrap (IntKind.i64.wrap cn + IntKind.i64.wrap ((IntKind.i64.wrap (w - sn)).tdiv (stp ct))))))) w
      RL (a1 x 199) (cond (!(rnR CT)) (cond (rnR (a1 x 199)) RL CN) CN) 0 := by
  obtain ⟨e, c0, c1⟩ := h.rd hw
  obtain ⟨k0, k1⟩ := k_u x x0 x1
  rw [e, h.hct, h.hrl, rn_eq ct h.c0 h.c1, rn_eq _ k0 k1]
  have hc : 0 ≤ (cond (!(a1 ct 128 != 0)) (cond (a1 (a1 x 199) 128 != 0) rl CN) CN) ∧ (cond (!(a1 ct 128 != 0)) (cond (a1 (a1 x 199) 128 != 0) rl CN) CN) < 65536 := by
    have r0 := h.r0
    have r1 := h.r1
    cases (!(a1 ct 128 != 0)) <;> cases (a1 (a1 x 199) 128 != 0) <;> simp only [cond_true, cond_false] <;> omega
  unfold cn1
  generalize (cond (!(a1 ct 128 != 0)) (cond (a1 (a1 x 199) 128 != 0) rl CN) CN) = z at *
  refine ⟨rfl, rfl, h.r0, h.r1, k0, k1, hc.1, hc.2, fun _ => ⟨hw0, Int.le_refl _, ?_, ?_, ?_⟩, fun _ => rfl⟩
  · simp
  · simp
  · rw [Int.sub_self, Int.zero_ediv]; omega
theorem TR.ask {I : Bool} {w rl ct cn sn RL CT CN SN : Int} (h : TR I w rl ct cn sn RL CT CN SN) : ((a1 ct 64 != 0) == (bits .and .u16 (CT.fdiv 64) 1 == 1)) = true := by
  rw [h.hct]
  obtain ⟨X, e⟩ := Int.eq_ofNat_of_zero_le h.c0
  have hX : X < 65536 := by have := h.c1; omega
  subst e
  rw [bne, aB X 6 hX (by decide) 64 rfl, Bool.not_not, show (X : Int).fdiv 64 = ((X / 64 : Nat) : Int) from (Int.ofNat_fdiv X 64).symm]
  have h2 : bits .and .u16 ((X / 64 : Nat) : Int) 1 = ((X / 64 &&& 1 : Nat) : Int) := an (X / 64) 1 (Nat.lt_of_le_of_lt (Nat.div_le_self _ _) hX) (by decide)
  rw [h2, tb, Nat.and_one_is_mod]
  by_cases h : X / 2 ^ 6 % 2 = 1
  · have h' : X / 64 % 2 = 1 := h
    rw [h']; simp [h]
  · have h' : X / 64 % 2 = 0 := by have h : ¬ X / 64 % 2 = 1 := h; omega
    rw [h']; simp [h]
theorem Rel.nf {p q : Nat → Int} {w : Int} (h : Rel p q w) : Rel (iA (pk p)) (iA (rk q w)) w := ⟨h.w0, h.t0, h.t1, h.t2, h.t3⟩
def rlL (q : Nat → Int) (z x w : Int) : List C := [.i false .i64 (bif z == 0 then IntKind.i64.wrap x else q 0), .i false .u16 (q 1), .i false .i64 (q 2), .i false .i64 (q 3), .i false .i64 (bif z == 1 then IntKind.i64.wrap x else q 4), .i false .u16 (q 5), .i false .i64 (q 6), .i false .i64 (q 7), .i false .i64 (bif z == 2 then IntKind.i64.wrap x else q 8), .i false .u16 (q 9), .i false .i64 (q 10), .i false .i64 (q 11), .i false .i64 (bif z == 3 then IntKind.i64.wrap x else q 12), .i false .u16 (q 13), .i false .i64 (q 14), .i false .i64 (q 15), .i false .i64 w]
theorem four {z : Int} (h : inB z 4 = true) : z = 0 ∨ z = 1 ∨ z = 2 ∨ z = 3 := by
  simp only [inB, Bool.and_eq_true, decide_eq_true_eq] at h; omega
theorem rel_setr {p q : Nat → Int} {w z x : Int} (h : Rel p q w) (hz : inB z 4 = true) (x0 : 0 ≤ x) (x1 : x < 65536) : Rel (iA (pk (sel4 z (u1 p 0 x) (u1 p 4 x) (u1 p 8 x) (u1 p 12 x) p))) (iA (rlL q z x w)) w := by
  rcases four hz with rfl | rfl | rfl | rfl
  · exact ⟨h.w0, h.t0.setr x0 x1, h.t1, h.t2, h.t3⟩
  · exact ⟨h.w0, h.t0, h.t1.setr x0 x1, h.t2, h.t3⟩
  · exact ⟨h.w0, h.t0, h.t1, h.t2.setr x0 x1, h.t3⟩
  · exact ⟨h.w0, h.t0, h.t1, h.t2, h.t3.setr x0 x1⟩
theorem rel_setc {p q : Nat → Int} {w z x : Int} (h : Rel p q w) (hw : w ≤ 1000000) (hz : inB z 4 = true) (x0 : 0 ≤ x) (x1 : x < 65536) : Rel (iA (pk (sel4 z (scP p 0 w x) (scP p 1 w x) (scP p 2 w x) (scP p 3 w x) p))) (sel4 z (seR q 0 x) (seR q 1 x) (seR q 2 x) (seR q 3 x) q) w := by
  rcases four hz with rfl | rfl | rfl | rfl
  · exact ⟨h.w0, h.t0.setc h.w0 hw x0 x1, h.t1, h.t2, h.t3⟩
  · exact ⟨h.w0, h.t0, h.t1.setc h.w0 hw x0 x1, h.t2, h.t3⟩
  · exact ⟨h.w0, h.t0, h.t1, h.t2.setc h.w0 hw x0 x1, h.t3⟩
  · exact ⟨h.w0, h.t0, h.t1, h.t2, h.t3.setc h.w0 hw x0 x1⟩
theorem not_four {z : Int} (h : (bif decide (z ≥ 0) then decide (z < 4) else false) = false) : ¬ z = 0 ∧ ¬ z = 1 ∧ ¬ z = 2 ∧ ¬ z = 3 := by
  refine ⟨fun e => ?_, fun e => ?_, fun e => ?_, fun e => ?_⟩ <;> (subst e; cases h)
theorem is_four {z : Int} (h : (bif decide (z ≥ 0) then decide (z < 4) else false) = true) : inB z 4 = true := by
  cases h1 : decide (z ≥ 0) with
  | false => rw [h1] at h; cases h
  | true =>
    rw [h1] at h
    have h := of_decide_eq_true (show decide (z < 4) = true from h)
    have h1 := of_decide_eq_true h1
    simp only [inB, Bool.and_eq_true, decide_eq_true_eq]; omega
structure Chk (p q : Nat → Int) (w : Int) : Prop where
  r0 : (IntKind.i64.wrap (rdV p 0 w) != q 2) = false
  r1 : (IntKind.i64.wrap (rdV p 1 w) != q 6) = false
  r2 : (IntKind.i64.wrap (rdV p 2 w) != q 10) = false
  r3 : (IntKind.i64.wrap (rdV p 3 w) != q 14) = false
  c0 : (p 1 != q 1) = false
  c1 : (p 5 != q 5) = false
  c2 : (p 9 != q 9) = false
  c3 : (p 13 != q 13) = false
  b0 : (true ^^ (a1 (p 1) 64 != 0) == (bits .and .u16 ((q 1).fdiv 64) 1 == 1)) = false
  b1 : (true ^^ (a1 (p 5) 64 != 0) == (bits .and .u16 ((q 5).fdiv 64) 1 == 1)) = false
  b2 : (true ^^ (a1 (p 9) 64 != 0) == (bits .and .u16 ((q 9).fdiv 64) 1 == 1)) = false
  b3 : (true ^^ (a1 (p 13) 64 != 0) == (bits .and .u16 ((q 13).fdiv 64) 1 == 1)) = false
theorem rd_ok {p q : Nat → Int} {w : Int} {i : Nat} {RL CT SN CN : Int} (h : TR (ind p i) w (p (4 * i)) (p (4 * i + 1)) (p (4 * i + 2)) (p (4 * i + 3)) RL CT CN SN) (hw : w ≤ 1000000) : (IntKind.i64.wrap (rdV p i w) != CN) = false := by
  obtain ⟨e, h0, h1⟩ := h.rd hw
  have e : rdV p i w = CN := e
  rw [e, wi64_in _ (by omega) (by omega)]
  exact bne_self_eq_false _
theorem ct_ok {I : Bool} {w rl ct cn sn RL CT CN SN : Int} (h : TR I w rl ct cn sn RL CT CN SN) : (ct != CT) = false := by
  rw [h.hct]; exact bne_self_eq_false _
theorem ask_ok {I : Bool} {w rl ct cn sn RL CT CN SN : Int} (h : TR I w rl ct cn sn RL CT CN SN) : (true ^^ (a1 ct 64 != 0) == (bits .and .u16 (CT.fdiv 64) 1 == 1)) = false := by
  rw [h.ask]; rfl
theorem Rel.chk {p q : Nat → Int} {w : Int} (h : Rel p q w) (hw : w ≤ 1000000) : Chk p q w :=
  ⟨rd_ok (i := 0) (p := p) (q := q) h.t0 hw, rd_ok (i := 1) (p := p) (q := q) h.t1 hw, rd_ok (i := 2) (p := p) (q := q) h.t2 hw, rd_ok (i := 3) (p := p) (q := q) h.t3 hw, ct_ok h.t0, ct_ok h.t1, ct_ok h.t2, ct_ok h.t3, ask_ok h.t0, ask_ok h.t1, ask_ok h.t2, ask_ok h.t3⟩
theorem rel_0 : Rel (fun _ => 0) (fun _ => 0) 0 := by
  have z : ∀ i, TR (ind (fun _ => 0) i) 0 0 0 0 0 0 0 0 0 := fun i => ⟨rfl, rfl, by decide, by decide, by decide, by decide, by decide, by decide, fun _ => ⟨by decide, by decide, by decide, by decide, by decide⟩, fun _ => rfl⟩
  exact ⟨by decide, z 0, z 1, z 2, z 3⟩
end Go.Proofs.Ytchebhjbcjjhpaa

