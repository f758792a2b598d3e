import Derived.Test.YtchebhjbcjjhpaaY
import Derived.Test.YtchebhjbcjjhpaaS
import Derived.Test.YtchebhjbcjjhpaaO
set_option linter.unusedVariables false
set_option linter.unusedSimpArgs false
namespace Go.Proofs.Ytchebhjbcjjhpaa
open Go Go.Proofs Go.Proofs.Ytchebhjbcjjhpaa.Ev
set_option maxRecDepth 100000
structure RX (A : Prop) (K : Int) (p q : Nat → Int) (w : Int) : Prop where
  a : A
  r : Rel p q w
  k : w ≤ K
theorem wfP_pk (p : Nat → Int) : wfP 4 (pk p) = true := rfl
theorem wfR_rk (q : Nat → Int) (w : Int) : wfR 4 (rk q w) = true := rfl
theorem wfR_l (a0 a1 a2 a3 a4 a5 a6 a7 a8 a9 a10 a11 a12 a13 a14 a15 a16 : Int) : wfR 4 [.i false .i64 a0, .i false .u16 a1, .i false .i64 a2, .i false .i64 a3, .i false .i64 a4, .i false .u16 a5, .i false .i64 a6, .i false .i64 a7, .i false .i64 a8, .i false .u16 a9, .i false .i64 a10, .i false .i64 a11, .i false .i64 a12, .i false .u16 a13, .i false .i64 a14, .i false .i64 a15, .i false .i64 a16] = true := rfl
theorem round_o (E : World) (a : Option Addr) (n c : Nat) (hmx : n ≤ maxLen) (hz : a = none → n = 0) (he : ∀ j, j < n → eRow E a (j * 4) [.i .i64, .i .i64, .i .i64, .i .u16] = true)
    (i : Nat) (p q : Nat → Int) (w : Int) (hR : Rel p q w) (hwk : w ≤ 5000 * i) :
    loopP (pe E) Try.f3 (fun v _ => SV.sim v (.c (.b false true))) (fun todo fr s' => cond (Nat.beq todo.length 4) (Io E a n c (i + 1) (RX (i < n) (5000 * (i + 1))) todo fr s') (Ii E a n c i (rI E a i 0) (rI E a i 1) (rI E a i 2) (rI E a i 3) 0 (RX (i < n ∧ 0 ≤ rI E a i 0 ∧ rI E a i 0 ≤ 5000 ∧ 0 ≤ rI E a i 3 ∧ rI E a i 3 < 65536) (5000 * i)) todo fr s')) (run (pe E) (orcX E) (tabL fns) 20000 132 (hdo E) (mkL Try.f3.ntmps (lvo a n c i)) [⟨pk p, 56⟩, ⟨rk q w, 32⟩]) := by
  rw [outer]
  simp only [maxLen] at hmx
  have hr := hR.nf
  refine ⟨fun h => ?_, fun h => rfl⟩
  have h := of_decide_eq_true h
  have hlt : i < n := by omega
  have hrow := he i hlt
  have hwi : IntKind.i64.wrap ((i : Int) + 1) = ((i + 1 : Nat) : Int) := by rw [wi64_in _ (by omega) (by omega)]; simp
  have hx : 0 ≤ rI E a i 3 ∧ rI E a i 3 < 65536 := by
    have := bounds_u16 (eOk_int (eRow_get _ _ 3 (.i .u16) hrow rfl))
    exact ⟨this.1, Int.lt_of_le_of_lt this.2 (by decide)⟩
  refine ⟨by simp only [inB, Bool.and_eq_true, decide_eq_true_eq]; omega, some_of_lt hz hlt, by simpa using hrow, fun _ => ?_, fun hb => ?_⟩
  · exact ⟨rfl, rfl, rfl, rfl, ⟨⟨hlt, hr, by show w ≤ _; omega⟩⟩, rfl, rfl, rfl, rfl, rfl, ⟨rfl, rfl⟩, rfl, hwi⟩
  · have hb2 : 0 ≤ rI E a i 0 ∧ rI E a i 0 ≤ 5000 := by
      have hb : (bif decide (rI E a i 0 < 0) then true else decide (rI E a i 0 > 5000)) = false := hb
      cases h1 : decide (rI E a i 0 < 0) with
      | true => rw [h1] at hb; cases hb
      | false =>
        rw [h1] at hb
        have h1 := of_decide_eq_false h1
        have h2 := of_decide_eq_false (show decide (rI E a i 0 > 5000) = false from hb)
        omega
    exact ⟨rfl, rfl, rfl, rfl, rfl, rfl, rfl, rfl, rfl, ⟨⟨⟨hlt, hb2.1, hb2.2, hx.1, hx.2⟩, hr, hwk⟩⟩, rfl, rfl, rfl, rfl, rfl, ⟨rfl, rfl⟩, ⟨rfl, rfl⟩, rfl, ⟨rfl, rfl⟩, rfl, rfl⟩
set_option maxHeartbeats 16000000 in
theorem round_i (E : World) (a : Option Addr) (n c : Nat) (hmx : n ≤ 60)
    (i j : Nat) (p q : Nat → Int) (w z1 z2 z3 z4 : Int) (hR : Rel p q w) (hlt : i < n) (hz0 : 0 ≤ z1) (hz1 : z1 ≤ 5000) (hj : (j : Int) ≤ z1) (hx0 : 0 ≤ z4) (hx1 : z4 < 65536) (hwk : w ≤ 5000 * i + j) :
    loopP (pe E) Try.f3 (fun v _ => SV.sim v (.c (.b false true))) (fun todo fr s' => cond (Nat.beq todo.length 4) (Io E a n c (i + 1) (RX (i < n) (5000 * (i + 1))) todo fr s') (Ii E a n c i z1 z2 z3 z4 (j + 1) (RX ((j : Int) < z1) (5000 * i + (j + 1))) todo fr s')) (run (pe E) (orcX E) (tabL fns) 20000 132 (hdi E) (mkL Try.f3.ntmps (lvi a n c i z1 j)) [⟨pk p, 56⟩, ⟨rk q w, 32⟩, ⟨[.i false .i64 z1, .i false .i64 z2, .i false .i64 z3, .i false .u16 z4], 34⟩]) := by
  rw [inner]
  have hn := hR.nf
  have hw6 : w ≤ 1000000 := by omega
  have w0 := hR.w0
  have hk : w ≤ 5000 * (i + 1) := by omega
  have hwi : IntKind.i64.wrap ((i : Int) + 1) = ((i + 1 : Nat) : Int) := by rw [wi64_in _ (by omega) (by omega)]; simp
  have hwj : IntKind.i64.wrap ((j : Int) + 1) = ((j + 1 : Nat) : Int) := by rw [wi64_in _ (by omega) (by omega)]; simp
  refine ⟨fun hlj => ?_, fun _ => ⟨fun _ => ⟨fun hin => ?_, fun hout => ?_⟩, fun _ => ⟨fun _ => ⟨fun hin => ?_, fun hout => ?_⟩, fun _ => ?_⟩⟩⟩
  · have hlj := of_decide_eq_true hlj
    have hw1 : IntKind.i64.wrap (iA (rk q w) 16 + 1) = w + 1 := wi64_in (w + 1) (by omega) (by omega)
    obtain ⟨t1, t2, t3⟩ := tick_rel hn hw6
    rw [hw1, t1]
    have q0 : ∀ k, k = 1 ∨ k = 5 ∨ k = 9 ∨ k = 13 → decide (0 ≤ iA (rk q w) k) = true := by
      intro k hk
      apply decide_eq_true
      rcases hk with rfl | rfl | rfl | rfl
      · have e := hn.t0.hct; have := hn.t0.c0; rw [e]; exact this
      · have e := hn.t1.hct; have := hn.t1.c0; rw [e]; exact this
      · have e := hn.t2.hct; have := hn.t2.c0; rw [e]; exact this
      · have e := hn.t3.hct; have := hn.t3.c0; rw [e]; exact this
    refine ⟨q0 1 (by decide), q0 5 (by decide), q0 9 (by decide), q0 13 (by decide), fun e => ?_, fun _ => ⟨fun hne => ⟨fun e => ?_, fun _ => ?_⟩, fun _ => ?_⟩⟩
    · rw [bne_self_eq_false] at e; cases e
    · rw [t2 (by simpa using hne), bne_self_eq_false] at e; cases e
    · exact ⟨rfl, rfl, rfl, rfl, rfl, rfl, rfl, rfl, rfl, ⟨⟨hlj, t3.nf, by show w + 1 ≤ _; omega⟩⟩, rfl, rfl, rfl, rfl, rfl, ⟨rfl, rfl⟩, ⟨rfl, rfl⟩, rfl, ⟨rfl, rfl⟩, rfl, hwj⟩
    · exact ⟨rfl, rfl, rfl, rfl, rfl, rfl, rfl, rfl, rfl, ⟨⟨hlj, t3.nf, by show w + 1 ≤ _; omega⟩⟩, rfl, rfl, rfl, rfl, rfl, ⟨rfl, rfl⟩, ⟨rfl, rfl⟩, rfl, ⟨rfl, rfl⟩, rfl, hwj⟩
  · have hq := is_four hin
    refine ⟨hq, ?_⟩
    have hr : Rel (iA (pk (sel4 z3 (u1 (iA (pk p)) 0 z4) (u1 (iA (pk p)) 4 z4) (u1 (iA (pk p)) 8 z4) (u1 (iA (pk p)) 12 z4) (iA (pk p))))) (iA (rlL (iA (rk q w)) z3 z4 w)) w := rel_setr hn hq hx0 hx1
    have hc := hr.chk hw6
    have r0 : (IntKind.i64.wrap (rdV (iA (pk (sel4 z3 (u1 (iA (pk p)) 0 z4) (u1 (iA (pk p)) 4 z4) (u1 (iA (pk p)) 8 z4) (u1 (iA (pk p)) 12 z4) (iA (pk p))))) 0 w) != q 2) = false := hc.r0
    have c0 : ((iA (pk (sel4 z3 (u1 (iA (pk p)) 0 z4) (u1 (iA (pk p)) 4 z4) (u1 (iA (pk p)) 8 z4) (u1 (iA (pk p)) 12 z4) (iA (pk p))))) 1 != q 1) = false := hc.c0
    have b0 : (true ^^ (a1 ((iA (pk (sel4 z3 (u1 (iA (pk p)) 0 z4) (u1 (iA (pk p)) 4 z4) (u1 (iA (pk p)) 8 z4) (u1 (iA (pk p)) 12 z4) (iA (pk p))))) 1) 64 != 0) == (bits .and .u16 ((q 1).fdiv 64) 1 == 1)) = false := hc.b0
    have r1 : (IntKind.i64.wrap (rdV (iA (pk (sel4 z3 (u1 (iA (pk p)) 0 z4) (u1 (iA (pk p)) 4 z4) (u1 (iA (pk p)) 8 z4) (u1 (iA (pk p)) 12 z4) (iA (pk p))))) 1 w) != q 6) = false := hc.r1
    have c1 : ((iA (pk (sel4 z3 (u1 (iA (pk p)) 0 z4) (u1 (iA (pk p)) 4 z4) (u1 (iA (pk p)) 8 z4) (u1 (iA (pk p)) 12 z4) (iA (pk p))))) 5 != q 5) = false := hc.c1
    have b1 : (true ^^ (a1 ((iA (pk (sel4 z3 (u1 (iA (pk p)) 0 z4) (u1 (iA (pk p)) 4 z4) (u1 (iA (pk p)) 8 z4) (u1 (iA (pk p)) 12 z4) (iA (pk p))))) 5) 64 != 0) == (bits .and .u16 ((q 5).fdiv 64) 1 == 1)) = false := hc.b1
    have r2 : (IntKind.i64.wrap (rdV (iA (pk (sel4 z3 (u1 (iA (pk p)) 0 z4) (u1 (iA (pk p)) 4 z4) (u1 (iA (pk p)) 8 z4) (u1 (iA (pk p)) 12 z4) (iA (pk p))))) 2 w) != q 10) = false := hc.r2
    have c2 : ((iA (pk (sel4 z3 (u1 (iA (pk p)) 0 z4) (u1 (iA (pk p)) 4 z4) (u1 (iA (pk p)) 8 z4) (u1 (iA (pk p)) 12 z4) (iA (pk p))))) 9 != q 9) = false := hc.c2
    have b2 : (true ^^ (a1 ((iA (pk (sel4 z3 (u1 (iA (pk p)) 0 z4) (u1 (iA (pk p)) 4 z4) (u1 (iA (pk p)) 8 z4) (u1 (iA (pk p)) 12 z4) (iA (pk p))))) 9) 64 != 0) == (bits .and .u16 ((q 9).fdiv 64) 1 == 1)) = false := hc.b2
    have r3 : (IntKind.i64.wrap (rdV (iA (pk (sel4 z3 (u1 (iA (pk p)) 0 z4) (u1 (iA (pk p)) 4 z4) (u1 (iA (pk p)) 8 z4) (u1 (iA (pk p)) 12 z4) (iA (pk p))))) 3 w) != q 14) = false := hc.r3
    have c3 : ((iA (pk (sel4 z3 (u1 (iA (pk p)) 0 z4) (u1 (iA (pk p)) 4 z4) (u1 (iA (pk p)) 8 z4) (u1 (iA (pk p)) 12 z4) (iA (pk p))))) 13 != q 13) = false := hc.c3
    have b3 : (true ^^ (a1 ((iA (pk (sel4 z3 (u1 (iA (pk p)) 0 z4) (u1 (iA (pk p)) 4 z4) (u1 (iA (pk p)) 8 z4) (u1 (iA (pk p)) 12 z4) (iA (pk p))))) 13) 64 != 0) == (bits .and .u16 ((q 13).fdiv 64) 1 == 1)) = false := hc.b3
    have hop : Op2 (pk (sel4 z3 (u1 (iA (pk p)) 0 z4) (u1 (iA (pk p)) 4 z4) (u1 (iA (pk p)) 8 z4) (u1 (iA (pk p)) 12 z4) (iA (pk p)))) (rlL (iA (rk q w)) z3 z4 w) (RX (i < n) (5000 * (i + 1))) := ⟨⟨hlt, ⟨hr.w0, hr.t0, hr.t1, hr.t2, hr.t3⟩, hk⟩⟩
    simp only [kpN_eq, eq_self, decide_true, true_and, and_true, r0, c0, b0, r1, c1, b1, r2, c2, b2, r3, c3, b3, Bool.false_eq_true, false_implies, true_implies, wfP_pk, wfR_rk, wfR_l, hwi, implies_true, hop]
    try first | exact hop | exact ⟨rfl, hop⟩

  · obtain ⟨h0, h1, h2, h3⟩ := not_four hout
    have hr : Rel (iA (pk (sel4 z3 (u1 (iA (pk p)) 0 z4) (u1 (iA (pk p)) 4 z4) (u1 (iA (pk p)) 8 z4) (u1 (iA (pk p)) 12 z4) (iA (pk p))))) (iA (rk q w)) w := by rw [sel4_d h0 h1 h2 h3]; exact hn.nf
    have hc := hr.chk hw6
    have r0 : (IntKind.i64.wrap (rdV (iA (pk (sel4 z3 (u1 (iA (pk p)) 0 z4) (u1 (iA (pk p)) 4 z4) (u1 (iA (pk p)) 8 z4) (u1 (iA (pk p)) 12 z4) (iA (pk p))))) 0 w) != q 2) = false := hc.r0
    have c0 : ((iA (pk (sel4 z3 (u1 (iA (pk p)) 0 z4) (u1 (iA (pk p)) 4 z4) (u1 (iA (pk p)) 8 z4) (u1 (iA (pk p)) 12 z4) (iA (pk p))))) 1 != q 1) = false := hc.c0
    have b0 : (true ^^ (a1 ((iA (pk (sel4 z3 (u1 (iA (pk p)) 0 z4) (u1 (iA (pk p)) 4 z4) (u1 (iA (pk p)) 8 z4) (u1 (iA (pk p)) 12 z4) (iA (pk p))))) 1) 64 != 0) == (bits .and .u16 ((q 1).fdiv 64) 1 == 1)) = false := hc.b0
    have r1 : (IntKind.i64.wrap (rdV (iA (pk (sel4 z3 (u1 (iA (pk p)) 0 z4) (u1 (iA (pk p)) 4 z4) (u1 (iA (pk p)) 8 z4) (u1 (iA (pk p)) 12 z4) (iA (pk p))))) 1 w) != q 6) = false := hc.r1
    have c1 : ((iA (pk (sel4 z3 (u1 (iA (pk p)) 0 z4) (u1 (iA (pk p)) 4 z4) (u1 (iA (pk p)) 8 z4) (u1 (iA (pk p)) 12 z4) (iA (pk p))))) 5 != q 5) = false := hc.c1
    have b1 : (true ^^ (a1 ((iA (pk (sel4 z3 (u1 (iA (pk p)) 0 z4) (u1 (iA (pk p)) 4 z4) (u1 (iA (pk p)) 8 z4) (u1 (iA (pk p)) 12 z4) (iA (pk p))))) 5) 64 != 0) == (bits .and .u16 ((q 5).fdiv 64) 1 == 1)) = false := hc.b1
    have r2 : (IntKind.i64.wrap (rdV (iA (pk (sel4 z3 (u1 (iA (pk p)) 0 z4) (u1 (iA (pk p)) 4 z4) (u1 (iA (pk p)) 8 z4) (u1 (iA (pk p)) 12 z4) (iA (pk p))))) 2 w) != q 10) = false := hc.r2
    have c2 : ((iA (pk (sel4 z3 (u1 (iA (pk p)) 0 z4) (u1 (iA (pk p)) 4 z4) (u1 (iA (pk p)) 8 z4) (u1 (iA (pk p)) 12 z4) (iA (pk p))))) 9 != q 9) = false := hc.c2
    have b2 : (true ^^ (a1 ((iA (pk (sel4 z3 (u1 (iA (pk p)) 0 z4) (u1 (iA (pk p)) 4 z4) (u1 (iA (pk p)) 8 z4) (u1 (iA (pk p)) 12 z4) (iA (pk p))))) 9) 64 != 0) == (bits .and .u16 ((q 9).fdiv 64) 1 == 1)) = false := hc.b2
    have r3 : (IntKind.i64.wrap (rdV (iA (pk (sel4 z3 (u1 (iA (pk p)) 0 z4) (u1 (iA (pk p)) 4 z4) (u1 (iA (pk p)) 8 z4) (u1 (iA (pk p)) 12 z4) (iA (pk p))))) 3 w) != q 14) = false := hc.r3
    have c3 : ((iA (pk (sel4 z3 (u1 (iA (pk p)) 0 z4) (u1 (iA (pk p)) 4 z4) (u1 (iA (pk p)) 8 z4) (u1 (iA (pk p)) 12 z4) (iA (pk p))))) 13 != q 13) = false := hc.c3
    have b3 : (true ^^ (a1 ((iA (pk (sel4 z3 (u1 (iA (pk p)) 0 z4) (u1 (iA (pk p)) 4 z4) (u1 (iA (pk p)) 8 z4) (u1 (iA (pk p)) 12 z4) (iA (pk p))))) 13) 64 != 0) == (bits .and .u16 ((q 13).fdiv 64) 1 == 1)) = false := hc.b3
    have hop : Op2 (pk (sel4 z3 (u1 (iA (pk p)) 0 z4) (u1 (iA (pk p)) 4 z4) (u1 (iA (pk p)) 8 z4) (u1 (iA (pk p)) 12 z4) (iA (pk p)))) (rk q w) (RX (i < n) (5000 * (i + 1))) := ⟨⟨hlt, ⟨hr.w0, hr.t0, hr.t1, hr.t2, hr.t3⟩, hk⟩⟩
    simp only [kpN_eq, eq_self, decide_true, true_and, and_true, r0, c0, b0, r1, c1, b1, r2, c2, b2, r3, c3, b3, Bool.false_eq_true, false_implies, true_implies, wfP_pk, wfR_rk, wfR_l, hwi, implies_true, hop]
    try first | exact hop | exact ⟨rfl, hop⟩

  · have hq := is_four hin
    refine ⟨hq, ?_⟩
    have hr : Rel (iA (pk (sel4 z3 (scP (iA (pk p)) 0 w z4) (scP (iA (pk p)) 1 w z4) (scP (iA (pk p)) 2 w z4) (scP (iA (pk p)) 3 w z4) (iA (pk p))))) (sel4 z3 (seR (iA (rk q w)) 0 z4) (seR (iA (rk q w)) 1 z4) (seR (iA (rk q w)) 2 z4) (seR (iA (rk q w)) 3 z4) (iA (rk q w))) w := rel_setc hn hw6 hq hx0 hx1
    have hc := hr.chk hw6
    have r0 : (IntKind.i64.wrap (rdV (iA (pk (sel4 z3 (scP (iA (pk p)) 0 w z4) (scP (iA (pk p)) 1 w z4) (scP (iA (pk p)) 2 w z4) (scP (iA (pk p)) 3 w z4) (iA (pk p))))) 0 (iA (rk q w) 16)) != (sel4 z3 (seR (iA (rk q w)) 0 z4) (seR (iA (rk q w)) 1 z4) (seR (iA (rk q w)) 2 z4) (seR (iA (rk q w)) 3 z4) (iA (rk q w))) 2) = false := hc.r0
    have c0 : ((iA (pk (sel4 z3 (scP (iA (pk p)) 0 w z4) (scP (iA (pk p)) 1 w z4) (scP (iA (pk p)) 2 w z4) (scP (iA (pk p)) 3 w z4) (iA (pk p))))) 1 != (sel4 z3 (seR (iA (rk q w)) 0 z4) (seR (iA (rk q w)) 1 z4) (seR (iA (rk q w)) 2 z4) (seR (iA (rk q w)) 3 z4) (iA (rk q w))) 1) = false := hc.c0
    have b0 : (true ^^ (a1 ((iA (pk (sel4 z3 (scP (iA (pk p)) 0 w z4) (scP (iA (pk p)) 1 w z4) (scP (iA (pk p)) 2 w z4) (scP (iA (pk p)) 3 w z4) (iA (pk p))))) 1) 64 != 0) == (bits .and .u16 (((sel4 z3 (seR (iA (rk q w)) 0 z4) (seR (iA (rk q w)) 1 z4) (seR (iA (rk q w)) 2 z4) (seR (iA (rk q w)) 3 z4) (iA (rk q w))) 1).fdiv 64) 1 == 1)) = false := hc.b0
    have r1 : (IntKind.i64.wrap (rdV (iA (pk (sel4 z3 (scP (iA (pk p)) 0 w z4) (scP (iA (pk p)) 1 w z4) (scP (iA (pk p)) 2 w z4) (scP (iA (pk p)) 3 w z4) (iA (pk p))))) 1 (iA (rk q w) 16)) != (sel4 z3 (seR (iA (rk q w)) 0 z4) (seR (iA (rk q w)) 1 z4) (seR (iA (rk q w)) 2 z4) (seR (iA (rk q w)) 3 z4) (iA (rk q w))) 6) = false := hc.r1
    have c1 : ((iA (pk (sel4 z3 (scP (iA (pk p)) 0 w z4) (scP (iA (pk p)) 1 w z4) (scP (iA (pk p)) 2 w z4) (scP (iA (pk p)) 3 w z4) (iA (pk p))))) 5 != (sel4 z3 (seR (iA (rk q w)) 0 z4) (seR (iA (rk q w)) 1 z4) (seR (iA (rk q w)) 2 z4) (seR (iA (rk q w)) 3 z4) (iA (rk q w))) 5) = false := hc.c1
    have b1 : (true ^^ (a1 ((iA (pk (sel4 z3 (scP (iA (pk p)) 0 w z4) (scP (iA (pk p)) 1 w z4) (scP (iA (pk p)) 2 w z4) (scP (iA (pk p)) 3 w z4) (iA (pk p))))) 5) 64 != 0) == (bits .and .u16 (((sel4 z3 (seR (iA (rk q w)) 0 z4) (seR (iA (rk q w)) 1 z4) (seR (iA (rk q w)) 2 z4) (seR (iA (rk q w)) 3 z4) (iA (rk q w))) 5).fdiv 64) 1 == 1)) = false := hc.b1
    have r2 : (IntKind.i64.wrap (rdV (iA (pk (sel4 z3 (scP (iA (pk p)) 0 w z4) (scP (iA (pk p)) 1 w z4) (scP (iA (pk p)) 2 w z4) (scP (iA (pk p)) 3 w z4) (iA (pk p))))) 2 (iA (rk q w) 16)) != (sel4 z3 (seR (iA (rk q w)) 0 z4) (seR (iA (rk q w)) 1 z4) (seR (iA (rk q w)) 2 z4) (seR (iA (rk q w)) 3 z4) (iA (rk q w))) 10) = false := hc.r2
    have c2 : ((iA (pk (sel4 z3 (scP (iA (pk p)) 0 w z4) (scP (iA (pk p)) 1 w z4) (scP (iA (pk p)) 2 w z4) (scP (iA (pk p)) 3 w z4) (iA (pk p))))) 9 != (sel4 z3 (seR (iA (rk q w)) 0 z4) (seR (iA (rk q w)) 1 z4) (seR (iA (rk q w)) 2 z4) (seR (iA (rk q w)) 3 z4) (iA (rk q w))) 9) = false := hc.c2
    have b2 : (true ^^ (a1 ((iA (pk (sel4 z3 (scP (iA (pk p)) 0 w z4) (scP (iA (pk p)) 1 w z4) (scP (iA (pk p)) 2 w z4) (scP (iA (pk p)) 3 w z4) (iA (pk p))))) 9) 64 != 0) == (bits .and .u16 (((sel4 z3 (seR (iA (rk q w)) 0 z4) (seR (iA (rk q w)) 1 z4) (seR (iA (rk q w)) 2 z4) (seR (iA (rk q w)) 3 z4) (iA (rk q w))) 9).fdiv 64) 1 == 1)) = false := hc.b2
    have r3 : (IntKind.i64.wrap (rdV (iA (pk (sel4 z3 (scP (iA (pk p)) 0 w z4) (scP (iA (pk p)) 1 w z4) (scP (iA (pk p)) 2 w z4) (scP (iA (pk p)) 3 w z4) (iA (pk p))))) 3 (iA (rk q w) 16)) != (sel4 z3 (seR (iA (rk q w)) 0 z4) (seR (iA (rk q w)) 1 z4) (seR (iA (rk q w)) 2 z4) (seR (iA (rk q w)) 3 z4) (iA (rk q w))) 14) = false := hc.r3
    have c3 : ((iA (pk (sel4 z3 (scP (iA (pk p)) 0 w z4) (scP (iA (pk p)) 1 w z4) (scP (iA (pk p)) 2 w z4) (scP (iA (pk p)) 3 w z4) (iA (pk p))))) 13 != (sel4 z3 (seR (iA (rk q w)) 0 z4) (seR (iA (rk q w)) 1 z4) (seR (iA (rk q w)) 2 z4) (seR (iA (rk q w)) 3 z4) (iA (rk q w))) 13) = false := hc.c3
    have b3 : (true ^^ (a1 ((iA (pk (sel4 z3 (scP (iA (pk p)) 0 w z4) (scP (iA (pk p)) 1 w z4) (scP (iA (pk p)) 2 w z4) (scP (iA (pk p)) 3 w z4) (iA (pk p))))) 13) 64 != 0) == (bits .and .u16 (((sel4 z3 (seR (iA (rk q w)) 0 z4) (seR (iA (rk q w)) 1 z4) (seR (iA (rk q w)) 2 z4) (seR (iA (rk q w)) 3 z4) (iA (rk q w))) 13).fdiv 64) 1 == 1)) = false := hc.b3
    have hop : Op2 (pk (sel4 z3 (scP (iA (pk p)) 0 w z4) (scP (iA (pk p)) 1 w z4) (scP (iA (pk p)) 2 w z4) (scP (iA (pk p)) 3 w z4) (iA (pk p)))) (rk (sel4 z3 (seR (iA (rk q w)) 0 z4) (seR (iA (rk q w)) 1 z4) (seR (iA (rk q w)) 2 z4) (seR (iA (rk q w)) 3 z4) (iA (rk q w))) (iA (rk q w) 16)) (RX (i < n) (5000 * (i + 1))) := ⟨⟨hlt, ⟨hr.w0, hr.t0, hr.t1, hr.t2, hr.t3⟩, hk⟩⟩
    simp only [kpN_eq, eq_self, decide_true, true_and, and_true, r0, c0, b0, r1, c1, b1, r2, c2, b2, r3, c3, b3, Bool.false_eq_true, false_implies, true_implies, wfP_pk, wfR_rk, wfR_l, hwi, implies_true, hop]
    try first | exact hop | exact ⟨rfl, hop⟩

  · obtain ⟨h0, h1, h2, h3⟩ := not_four hout
    have hr : Rel (iA (pk (sel4 z3 (scP (iA (pk p)) 0 w z4) (scP (iA (pk p)) 1 w z4) (scP (iA (pk p)) 2 w z4) (scP (iA (pk p)) 3 w z4) (iA (pk p))))) (iA (rk q w)) w := by rw [sel4_d h0 h1 h2 h3]; exact hn.nf
    have hc := hr.chk hw6
    have r0 : (IntKind.i64.wrap (rdV (iA (pk (sel4 z3 (scP (iA (pk p)) 0 w z4) (scP (iA (pk p)) 1 w z4) (scP (iA (pk p)) 2 w z4) (scP (iA (pk p)) 3 w z4) (iA (pk p))))) 0 w) != q 2) = false := hc.r0
    have c0 : ((iA (pk (sel4 z3 (scP (iA (pk p)) 0 w z4) (scP (iA (pk p)) 1 w z4) (scP (iA (pk p)) 2 w z4) (scP (iA (pk p)) 3 w z4) (iA (pk p))))) 1 != q 1) = false := hc.c0
    have b0 : (true ^^ (a1 ((iA (pk (sel4 z3 (scP (iA (pk p)) 0 w z4) (scP (iA (pk p)) 1 w z4) (scP (iA (pk p)) 2 w z4) (scP (iA (pk p)) 3 w z4) (iA (pk p))))) 1) 64 != 0) == (bits .and .u16 ((q 1).fdiv 64) 1 == 1)) = false := hc.b0
    have r1 : (IntKind.i64.wrap (rdV (iA (pk (sel4 z3 (scP (iA (pk p)) 0 w z4) (scP (iA (pk p)) 1 w z4) (scP (iA (pk p)) 2 w z4) (scP (iA (pk p)) 3 w z4) (iA (pk p))))) 1 w) != q 6) = false := hc.r1
    have c1 : ((iA (pk (sel4 z3 (scP (iA (pk p)) 0 w z4) (scP (iA (pk p)) 1 w z4) (scP (iA (pk p)) 2 w z4) (scP (iA (pk p)) 3 w z4) (iA (pk p))))) 5 != q 5) = false := hc.c1
    have b1 : (true ^^ (a1 ((iA (pk (sel4 z3 (scP (iA (pk p)) 0 w z4) (scP (iA (pk p)) 1 w z4) (scP (iA (pk p)) 2 w z4) (scP (iA (pk p)) 3 w z4) (iA (pk p))))) 5) 64 != 0) == (bits .and .u16 ((q 5).fdiv 64) 1 == 1)) = false := hc.b1
    have r2 : (IntKind.i64.wrap (rdV (iA (pk (sel4 z3 (scP (iA (pk p)) 0 w z4) (scP (iA (pk p)) 1 w z4) (scP (iA (pk p)) 2 w z4) (scP (iA (pk p)) 3 w z4) (iA (pk p))))) 2 w) != q 10) = false := hc.r2
    have c2 : ((iA (pk (sel4 z3 (scP (iA (pk p)) 0 w z4) (scP (iA (pk p)) 1 w z4) (scP (iA (pk p)) 2 w z4) (scP (iA (pk p)) 3 w z4) (iA (pk p))))) 9 != q 9) = false := hc.c2
    have b2 : (true ^^ (a1 ((iA (pk (sel4 z3 (scP (iA (pk p)) 0 w z4) (scP (iA (pk p)) 1 w z4) (scP (iA (pk p)) 2 w z4) (scP (iA (pk p)) 3 w z4) (iA (pk p))))) 9) 64 != 0) == (bits .and .u16 ((q 9).fdiv 64) 1 == 1)) = false := hc.b2
    have r3 : (IntKind.i64.wrap (rdV (iA (pk (sel4 z3 (scP (iA (pk p)) 0 w z4) (scP (iA (pk p)) 1 w z4) (scP (iA (pk p)) 2 w z4) (scP (iA (pk p)) 3 w z4) (iA (pk p))))) 3 w) != q 14) = false := hc.r3
    have c3 : ((iA (pk (sel4 z3 (scP (iA (pk p)) 0 w z4) (scP (iA (pk p)) 1 w z4) (scP (iA (pk p)) 2 w z4) (scP (iA (pk p)) 3 w z4) (iA (pk p))))) 13 != q 13) = false := hc.c3
    have b3 : (true ^^ (a1 ((iA (pk (sel4 z3 (scP (iA (pk p)) 0 w z4) (scP (iA (pk p)) 1 w z4) (scP (iA (pk p)) 2 w z4) (scP (iA (pk p)) 3 w z4) (iA (pk p))))) 13) 64 != 0) == (bits .and .u16 ((q 13).fdiv 64) 1 == 1)) = false := hc.b3
    have hop : Op2 (pk (sel4 z3 (scP (iA (pk p)) 0 w z4) (scP (iA (pk p)) 1 w z4) (scP (iA (pk p)) 2 w z4) (scP (iA (pk p)) 3 w z4) (iA (pk p)))) (rk q w) (RX (i < n) (5000 * (i + 1))) := ⟨⟨hlt, ⟨hr.w0, hr.t0, hr.t1, hr.t2, hr.t3⟩, hk⟩⟩
    simp only [kpN_eq, eq_self, decide_true, true_and, and_true, r0, c0, b0, r1, c1, b1, r2, c2, b2, r3, c3, b3, Bool.false_eq_true, false_implies, true_implies, wfP_pk, wfR_rk, wfR_l, hwi, implies_true, hop]
    try first | exact hop | exact ⟨rfl, hop⟩

  · skip
    have hr : Rel (iA (pk p)) (iA (rk q w)) w := hn
    have hc := hr.chk hw6
    have r0 : (IntKind.i64.wrap (rdV (iA (pk p)) 0 w) != q 2) = false := hc.r0
    have c0 : ((iA (pk p)) 1 != q 1) = false := hc.c0
    have b0 : (true ^^ (a1 ((iA (pk p)) 1) 64 != 0) == (bits .and .u16 ((q 1).fdiv 64) 1 == 1)) = false := hc.b0
    have r1 : (IntKind.i64.wrap (rdV (iA (pk p)) 1 w) != q 6) = false := hc.r1
    have c1 : ((iA (pk p)) 5 != q 5) = false := hc.c1
    have b1 : (true ^^ (a1 ((iA (pk p)) 5) 64 != 0) == (bits .and .u16 ((q 5).fdiv 64) 1 == 1)) = false := hc.b1
    have r2 : (IntKind.i64.wrap (rdV (iA (pk p)) 2 w) != q 10) = false := hc.r2
    have c2 : ((iA (pk p)) 9 != q 9) = false := hc.c2
    have b2 : (true ^^ (a1 ((iA (pk p)) 9) 64 != 0) == (bits .and .u16 ((q 9).fdiv 64) 1 == 1)) = false := hc.b2
    have r3 : (IntKind.i64.wrap (rdV (iA (pk p)) 3 w) != q 14) = false := hc.r3
    have c3 : ((iA (pk p)) 13 != q 13) = false := hc.c3
    have b3 : (true ^^ (a1 ((iA (pk p)) 13) 64 != 0) == (bits .and .u16 ((q 13).fdiv 64) 1 == 1)) = false := hc.b3
    have hop : Op2 (pk p) (rk q w) (RX (i < n) (5000 * (i + 1))) := ⟨⟨hlt, ⟨hr.w0, hr.t0, hr.t1, hr.t2, hr.t3⟩, hk⟩⟩
    simp only [kpN_eq, eq_self, decide_true, true_and, and_true, r0, c0, b0, r1, c1, b1, r2, c2, b2, r3, c3, b3, Bool.false_eq_true, false_implies, true_implies, wfP_pk, wfR_rk, wfR_l, hwi, implies_true, hop]
    try first | exact hop | exact ⟨rfl, hop⟩

theorem two_sm {s' : SW} {P : List C → List C → Prop} (h : TwoL s' P) : ∃ l l2, P l l2 ∧ refT s' [⟨pk (iA l), 56⟩, ⟨rk (iA l2) (iA l2 16), 32⟩] := by
  unfold TwoL at h
  split at h
  · rename_i l ty l2 ty2 rest
    obtain ⟨rfl, rfl, hl, hl2, hp⟩ := h
    refine ⟨l, l2, hp, ?_⟩
    have h2 : refS [⟨l, 56⟩, ⟨l2, 32⟩] [⟨pk (iA l), 56⟩, ⟨rk (iA l2) (iA l2 16), 32⟩] := by
      rw [← wfP_eq hl, ← wfR_eq hl2]
      exact refS_refl _
    exact h2
  · exact h.elim
theorem three_sm {s' : SW} {z1 z2 z3 z4 : Int} {P : List C → List C → Prop} (h : ThreeL s' z1 z2 z3 z4 P) : ∃ l l2, P l l2 ∧ refT s' [⟨pk (iA l), 56⟩, ⟨rk (iA l2) (iA l2 16), 32⟩, ⟨[.i false .i64 z1, .i false .i64 z2, .i false .i64 z3, .i false .u16 z4], 34⟩] := by
  unfold ThreeL at h
  split at h
  · rename_i l ty l2 ty2 y1 y2 y3 y4 ty3 rest
    obtain ⟨rfl, rfl, rfl, rfl, rfl, rfl, rfl, hl, hl2, hp⟩ := h
    refine ⟨l, l2, hp, ?_⟩
    have h2 : refS [⟨l, 56⟩, ⟨l2, 32⟩, ⟨[.i false .i64 y1, .i false .i64 y2, .i false .i64 y3, .i false .u16 y4], 34⟩] [⟨pk (iA l), 56⟩, ⟨rk (iA l2) (iA l2 16), 32⟩, ⟨[.i false .i64 y1, .i false .i64 y2, .i false .i64 y3, .i false .u16 y4], 34⟩] := by
      rw [← wfP_eq hl, ← wfR_eq hl2]
      exact refS_refl _
    exact h2
  · exact h.elim
inductive G4 where
  | o (i : Nat) (p q : Nat → Int) (w : Int)
  | n (i j : Nat) (p q : Nat → Int) (w : Int)
def gH (E : World) (a : Option Addr) (n : Nat) : G4 → Prop
  | .o i p q w => Rel p q w ∧ w ≤ 5000 * i ∧ n ≤ 60
  | .n i j p q w => Rel p q w ∧ i < n ∧ n ≤ 60 ∧ 0 ≤ rI E a i 0 ∧ rI E a i 0 ≤ 5000 ∧ (j : Int) ≤ rI E a i 0 ∧ 0 ≤ rI E a i 3 ∧ rI E a i 3 < 65536 ∧ w ≤ 5000 * i + j
def gM (n : Nat) : G4 → Nat
  | .o i _ _ _ => (n - i) * 6001
  | .n i j _ _ _ => (n - (i + 1)) * 6001 + (6000 - j)
noncomputable def gT (E : World) : G4 → List Item
  | .o _ _ _ _ => hdo E
  | .n _ _ _ _ _ => hdi E
def gL (E : World) (a : Option Addr) (n c : Nat) : G4 → List (Nat × SV)
  | .o i _ _ _ => lvo a n c i
  | .n i j _ _ _ => lvi a n c i (rI E a i 0) j
def gS (E : World) (a : Option Addr) : G4 → SW
  | .o _ p q w => [⟨pk p, 56⟩, ⟨rk q w, 32⟩]
  | .n i _ p q w => [⟨pk p, 56⟩, ⟨rk q w, 32⟩, ⟨[.i false .i64 (rI E a i 0), .i false .i64 (rI E a i 1), .i false .i64 (rI E a i 2), .i false .u16 (rI E a i 3)], 34⟩]
theorem runs_calls (W : World) (a : Option Addr) (n c : Nat) (hmx : n ≤ maxLen) (hz : a = none → n = 0) (he : ∀ j, j < n → eRow W a (j * 4) [.i .i64, .i .i64, .i .i64, .i .u16] = true) :
    Calls Try.prog 3 #[.slice a n c] W fun e w' => e = .returned (.bool true) ∧ Grew W w' := by
  have hE : ExtI W Rh0 0 W := ExtI.refl W _
  refine law_of_calls (P := pe W) (ρ := Rh0) ?_
  refine calls_loopT (c := c3) (P := pe W) orcX_ok tab_ok tab_sz mixed Try.func3 rfl (by decide) (vs := [.c (.es a n c)]) (s := []) (Nat.le_of_ble_eq_true rfl) 20000 132 (gH W a n) (gM n) (gT W) (gL W a n c) (gS W a)
    (fun x => by cases x <;> rfl) (fun x hx => by cases x <;> exact ⟨rfl, rfl, Nat.le_of_ble_eq_true rfl⟩)
    (fun v _ => SV.sim v (.c (.b false true))) ?_ ?_ W 0 _ W (Inv.start hE) (by simp [SV.ok, C.ok, okL])
  · refine loopP_mono (fun t f s h => ?_) _ (I := fun todo fr s' => n ≤ 60 ∧ todo = hdo W ∧ fr.nt = Try.f3.ntmps ∧ refP fr (lvo a n c 0) ∧ refT s' [⟨pk (fun _ => 0), 56⟩, ⟨rk (fun _ => 0) 0, 32⟩]) ?_
    · exact ⟨.o 0 (fun _ => 0) (fun _ => 0) 0, ⟨rel_0, by decide, h.1⟩, h.2⟩
    · rw [pro2]
      refine ⟨fun _ => rfl, fun h => ⟨by have := of_decide_eq_false h; omega, ?_⟩⟩
      repeat' first | exact rfl | exact trivial | apply And.intro
  · intro g hg
    cases g with
    | o i p q w =>
      obtain ⟨h1, h2, h3⟩ := hg
      refine loopP_mono (fun t f s h => ?_) _ (round_o W a n c hmx hz he i p q w h1 h2)
      cases hb : Nat.beq t.length 4 with
      | true =>
        rw [hb] at h
        obtain ⟨l, l2, ⟨⟨ho⟩, e1, e2, e3⟩, e4⟩ := two_sm h
        refine ⟨.o (i + 1) (iA l) (iA l2) (iA l2 16), ⟨ho.r, by have := ho.k; omega, h3⟩, ?_, e1, e2, e3, e4⟩
        have := ho.a
        show (n - (i + 1)) * 6001 < (n - i) * 6001
        omega
      | false =>
        rw [hb] at h
        obtain ⟨l, l2, ⟨⟨ho⟩, e1, e2, e3⟩, e4⟩ := three_sm h
        obtain ⟨a1, a2, a3, a4, a5⟩ := ho.a
        refine ⟨.n i 0 (iA l) (iA l2) (iA l2 16), ⟨ho.r, a1, h3, a2, a3, a2, a4, a5, by have := ho.k; omega⟩, ?_, e1, e2, e3, e4⟩
        show (n - (i + 1)) * 6001 + (6000 - 0) < (n - i) * 6001
        omega
    | n i j p q w =>
      obtain ⟨h1, h2, h3, h4, h5, h6, h7, h8, h9⟩ := hg
      simp only [gT, gL, gS]
      have hr := round_i W a n c h3 i j p q w (rI W a i 0) (rI W a i 1) (rI W a i 2) (rI W a i 3) h1 h2 h4 h5 h6 h7 h8 h9
      generalize run (pe W) (orcX W) (tabL fns) 20000 132 (hdi W) (mkL Try.f3.ntmps (lvi a n c i (rI W a i 0) j)) [⟨pk p, 56⟩, ⟨rk q w, 32⟩, ⟨[.i false .i64 (rI W a i 0), .i false .i64 (rI W a i 1), .i false .i64 (rI W a i 2), .i false .u16 (rI W a i 3)], 34⟩] = T at hr ⊢
      refine loopP_mono (fun t f s h => ?_) _ hr
      cases hb : Nat.beq t.length 4 with
      | true =>
        rw [hb] at h
        obtain ⟨l, l2, ⟨⟨ho⟩, e1, e2, e3⟩, e4⟩ := two_sm h
        refine ⟨.o (i + 1) (iA l) (iA l2) (iA l2 16), ⟨ho.r, by have := ho.k; omega, h3⟩, ?_, e1, e2, e3, e4⟩
        show (n - (i + 1)) * 6001 < (n - (i + 1)) * 6001 + (6000 - j)
        omega
      | false =>
        rw [hb] at h
        obtain ⟨l, l2, ⟨⟨ho⟩, e1, e2, e3⟩, e4⟩ := three_sm h
        have hj := ho.a
        refine ⟨.n i (j + 1) (iA l) (iA l2) (iA l2 16), ⟨ho.r, h2, h3, h4, h5, by omega, h7, h8, by have := ho.k; omega⟩, ?_, e1, e2, e3, e4⟩
        show (n - (i + 1)) * 6001 + (6000 - (j + 1)) < (n - (i + 1)) * 6001 + (6000 - j)
        omega
end Go.Proofs.Ytchebhjbcjjhpaa

