import Derived.Test.YtpddbhfebhpohaaQ
set_option linter.unusedVariables false
set_option linter.unusedSimpArgs false
namespace Go.Proofs.Ytpddbhfebhpohaa
open Go Go.Proofs Go.Proofs.Ytpddbhfebhpohaa.Ev Go.Proofs.Ytpddbhfebhpohaa.Ev.Ho
set_option maxRecDepth 100000
theorem can1_p (E : World) (z : PX) (w : Int) :
    (hdP ([uB, tN] : List MB).length [uB, tW 2 3, pR, wR] (.t []) (fun z y => (U4.mk (Ch.mk (y.n 1) (y.n 2) (y.n 3) (y.n 4) (y.n 5) (y.n 6) (y.n 7) (y.b 8) (y.b 9) (y.n 10)) (Ch.mk (y.n 12) (y.n 13) (y.n 14) (y.n 15) (y.n 16) (y.n 17) (y.n 18) (y.b 19) (y.b 20) (y.n 21)) (Ch.mk (y.n 23) (y.n 24) (y.n 25) (y.n 26) (y.n 27) (y.n 28) (y.n 29) (y.b 30) (y.b 31) (y.n 32)) (Ch.mk (y.n 34) (y.n 35) (y.n 36) (y.n 37) (y.n 38) (y.n 39) (y.n 40) (y.b 41) (y.b 42) (y.n 43))) = setC (U4.mk (Ch.mk (z.n 1) (z.n 2) (z.n 3) (z.n 4) (z.n 5) (z.n 6) (z.n 7) (z.b 8) (z.b 9) (z.n 10)) (Ch.mk (z.n 12) (z.n 13) (z.n 14) (z.n 15) (z.n 16) (z.n 17) (z.n 18) (z.b 19) (z.b 20) (z.n 21)) (Ch.mk (z.n 23) (z.n 24) (z.n 25) (z.n 26) (z.n 27) (z.n 28) (z.n 29) (z.b 30) (z.b 31) (z.n 32)) (Ch.mk (z.n 34) (z.n 35) (z.n 36) (z.n 37) (z.n 38) (z.n 39) (z.n 40) (z.b 41) (z.b 42) (z.n 43))) 1 (carC w) ∧ NX 1 w (Ch.mk (z.n 12) (z.n 13) (z.n 14) (z.n 15) (z.n 16) (z.n 17) (z.n 18) (z.b 19) (z.b 20) (z.n 21)) 0 (y.n 100000) (y.n 100001) (y.l 2) (y.l 3)) z (fnTree (pe E) (orcA E) (tabL fns) 20000 Try.f29 [.c (.p 0 11), .c (.ifc 34 1 0), .c (.i false .i64 w)] (mkM z [] [uB, tN] 0))) =
    ((decide (fw w (z.n 16) ≥ (33554432 : Int)) = true → ((bif w == w then (bif z.b 20 then (0 : Int) else (1 : Int)) == bif z.b 20 then (0 : Int) else (1 : Int) else false) =
      true → ((62 : Nat) = (62 : Nat) ∧ (tp13 z ((((0 : Int) ≤ lw w (vl (fw w (z.n 16)))) ∧ (lw w (vl (fw w (z.n 16)))) ≤ (4294967295 : Int)) ∧ tt14 z)) ∧ (38 : Nat) = (38 :
      Nat) ∧ True ∧ (48 : Nat) = (48 : Nat) ∧ (flat plS = true ∧ Row plS [C.i true IntKind.i64 (1 : Int), ofCell (Value.bool true), C.i false IntKind.u32 (fw w (z.n 16)), C.i
      false IntKind.u32 (fw w (z.n 17)), C.i false IntKind.i64 w, C.i false IntKind.i64 (bif z.b 20 then (0 : Int) else (1 : Int))]) ∧ (27 : Nat) = (27 : Nat) ∧ (flat [Sp.i
      IntKind.u32] = true ∧ Row [Sp.i IntKind.u32] [C.i false IntKind.u32 (lw w (vl (fw w (z.n 16))))]) ∧ ([] : SW) = []) ∧ True ∧ U4.mk (cu0 z) (Ch.mk (z.n 12) (z.n 13) (z.n
      14) (z.n 15) (z.n 16) (z.n 17) (z.n 18) (z.b 19) false (lw w (vl (fw w (z.n 16))))) (cu2 z) (cu3 z) = setC (TU z) (1 : Int) (carC w) ∧ NX (1 : Int) w (cu1 z) (0 : Int) (1
      : Int) (1 : Int) [C.i true IntKind.i64 (1 : Int), ofCell (Value.bool true), C.i false IntKind.u32 (fw w (z.n 16)), C.i false IntKind.u32 (fw w (z.n 17)), C.i false
      IntKind.i64 w, C.i false IntKind.i64 (bif z.b 20 then (0 : Int) else (1 : Int))] [C.i false IntKind.u32 (lw w (vl (fw w (z.n 16))))]) ∧ ((bif w == w then (bif z.b 20 then
      (0 : Int) else (1 : Int)) == bif z.b 20 then (0 : Int) else (1 : Int) else false) = false → ((62 : Nat) = (62 : Nat) ∧ (tp13 z ((((0 : Int) ≤ lw w (vl (fw w (z.n 16)))) ∧
      (lw w (vl (fw w (z.n 16)))) ≤ (4294967295 : Int)) ∧ tt14 z)) ∧ (38 : Nat) = (38 : Nat) ∧ True ∧ (48 : Nat) = (48 : Nat) ∧ (flat plS = true ∧ Row plS [C.i true IntKind.i64
      (1 : Int), ofCell (Value.bool true), C.i false IntKind.u32 (fw w (z.n 16)), C.i true IntKind.u32 (0 : Int), C.i false IntKind.i64 w, C.i false IntKind.i64 (bif z.b 20 then
      (0 : Int) else (1 : Int)), C.i true IntKind.i64 (1 : Int), C.b true false, C.i true IntKind.u32 (0 : Int), C.i false IntKind.u32 (fw w (z.n 17)), C.i false IntKind.i64 w,
      C.i false IntKind.i64 (bif z.b 20 then (0 : Int) else (1 : Int))]) ∧ (27 : Nat) = (27 : Nat) ∧ (flat [Sp.i IntKind.u32] = true ∧ Row [Sp.i IntKind.u32] [C.i false
      IntKind.u32 (lw w (vl (fw w (z.n 16))))]) ∧ ([] : SW) = []) ∧ True ∧ U4.mk (cu0 z) (Ch.mk (z.n 12) (z.n 13) (z.n 14) (z.n 15) (z.n 16) (z.n 17) (z.n 18) (z.b 19) false (lw
      w (vl (fw w (z.n 16))))) (cu2 z) (cu3 z) = setC (TU z) (1 : Int) (carC w) ∧ NX (1 : Int) w (cu1 z) (0 : Int) (2 : Int) (1 : Int) [C.i true IntKind.i64 (1 : Int), ofCell
      (Value.bool true), C.i false IntKind.u32 (fw w (z.n 16)), C.i true IntKind.u32 (0 : Int), C.i false IntKind.i64 w, C.i false IntKind.i64 (bif z.b 20 then (0 : Int) else (1
      : Int)), C.i true IntKind.i64 (1 : Int), C.b true false, C.i true IntKind.u32 (0 : Int), C.i false IntKind.u32 (fw w (z.n 17)), C.i false IntKind.i64 w, C.i false
      IntKind.i64 (bif z.b 20 then (0 : Int) else (1 : Int))] [C.i false IntKind.u32 (lw w (vl (fw w (z.n 16))))])) ∧ (decide (fw w (z.n 16) ≥ (33554432 : Int)) = false → ((62 :
      Nat) = (62 : Nat) ∧ (RGu z) ∧ (38 : Nat) = (38 : Nat) ∧ True ∧ (48 : Nat) = (48 : Nat) ∧ (flat plS = true ∧ Row plS [C.i true IntKind.i64 (1 : Int), C.b true false, C.i
      true IntKind.u32 (0 : Int), C.i false IntKind.u32 (fw w (z.n 17)), C.i false IntKind.i64 w, C.i false IntKind.i64 (bif z.b 20 then (0 : Int) else (1 : Int))]) ∧ (27 : Nat)
      = (27 : Nat) ∧ (flat [Sp.i IntKind.u32] = true ∧ Row [Sp.i IntKind.u32] [C.i false IntKind.u32 (z.n 21)]) ∧ ([] : SW) = []) ∧ True ∧ U4.mk (cu0 z) (Ch.mk (z.n 12) (z.n 13)
      (z.n 14) (z.n 15) (z.n 16) (z.n 17) (z.n 18) (z.b 19) false (z.n 21)) (cu2 z) (cu3 z) = setC (TU z) (1 : Int) (carC w) ∧ NX (1 : Int) w (cu1 z) (0 : Int) (1 : Int) (1 :
      Int) [C.i true IntKind.i64 (1 : Int), C.b true false, C.i true IntKind.u32 (0 : Int), C.i false IntKind.u32 (fw w (z.n 17)), C.i false IntKind.i64 w, C.i false IntKind.i64
      (bif z.b 20 then (0 : Int) else (1 : Int))] [C.i false IntKind.u32 (z.n 21)])) := by kernel_rfl
set_option maxHeartbeats 4000000 in
theorem can1_c (E : World) (w : Int) (z : PX) (hz : rgM z [uB, tN] 0) (hp : (fun z => (w = 2 ∨ w = 4)) z) : HD (pe E) 29 [.c (.p 0 11), .c (.ifc 34 1 0), .c (.i false .i64 w)] [uB, tN] [uB, tW 2 3, pR, wR] (.t []) (fun z y => (U4.mk (Ch.mk (y.n 1) (y.n 2) (y.n 3) (y.n 4) (y.n 5) (y.n 6) (y.n 7) (y.b 8) (y.b 9) (y.n 10)) (Ch.mk (y.n 12) (y.n 13) (y.n 14) (y.n 15) (y.n 16) (y.n 17) (y.n 18) (y.b 19) (y.b 20) (y.n 21)) (Ch.mk (y.n 23) (y.n 24) (y.n 25) (y.n 26) (y.n 27) (y.n 28) (y.n 29) (y.b 30) (y.b 31) (y.n 32)) (Ch.mk (y.n 34) (y.n 35) (y.n 36) (y.n 37) (y.n 38) (y.n 39) (y.n 40) (y.b 41) (y.b 42) (y.n 43))) = setC (U4.mk (Ch.mk (z.n 1) (z.n 2) (z.n 3) (z.n 4) (z.n 5) (z.n 6) (z.n 7) (z.b 8) (z.b 9) (z.n 10)) (Ch.mk (z.n 12) (z.n 13) (z.n 14) (z.n 15) (z.n 16) (z.n 17) (z.n 18) (z.b 19) (z.b 20) (z.n 21)) (Ch.mk (z.n 23) (z.n 24) (z.n 25) (z.n 26) (z.n 27) (z.n 28) (z.n 29) (z.b 30) (z.b 31) (z.n 32)) (Ch.mk (z.n 34) (z.n 35) (z.n 36) (z.n 37) (z.n 38) (z.n 39) (z.n 40) (z.b 41) (z.b 42) (z.n 43))) 1 (carC w) ∧ NX 1 w (Ch.mk (z.n 12) (z.n 13) (z.n 14) (z.n 15) (z.n 16) (z.n 17) (z.n 18) (z.b 19) (z.b 20) (z.n 21)) 0 (y.n 100000) (y.n 100001) (y.l 2) (y.l 3)) z := by
  refine HD.mk (by rfl) (fnTree_sound (P := pe E) orcA_ok tab_ok tab_sz mixed 20000 Try.func29 (by decide) [.c (.p 0 11), .c (.ifc 34 1 0), .c (.i false .i64 w)] _) ⟨?_⟩
  rw [can1_p]
  have h := rg_u (show rgM z uMs 0 from ⟨hz.1, trivial⟩)
  obtain ⟨h1, h2, h3, h4, h5, h6, h10, h12, h13, h14, h15, h16, h17, h21, h23, h24, h25, h26, h27, h28, h32, h34, h35, h36, h37, h38, h39, h43, _⟩ := h
  have hw : w = 2 ∨ w = 4 := hp
  have eF := alw w (z.n 16) hw h16.1 h16.2
  have eT := alw w (z.n 17) hw h17.1 h17.2
  obtain ⟨bF0, bF1, bF2⟩ := al_bd w (z.n 16) hw h16.1 h16.2
  have bw : w = 2 ∨ w = 4 := hw
  have eQ := qT (z.b 20)
  have bww : (w == w) = true := beq_self_eq_true w
  have bqq : ∀ q : Int, (q == q) = true := fun q => beq_self_eq_true q
  have hf : flat plS = true := rfl
  have hf2 : flat [Sp.i IntKind.u32] = true := rfl
  simp only [fw, lw, vsr, px, w3, wo, ro, r3, eF, eT, vlT, vrT w _ (vl_bd _).1 (vl_bd _).2, eQ, bww, bqq, cond_true, cond_false, Bool.and_self, Bool.and_true, Bool.true_eq_false, Bool.false_eq_true, false_implies, true_implies, forall_const, and_true, true_and]
  by_cases hr : 33554432 ≤ z.n 16
  · have hd : decide (al w (z.n 16) ≥ 33554432) = true := decide_eq_true (bF2.1 hr)
    have hv := vr_bd w (al w (z.n 16))
    have e1 : (if w = 2 then vl (al w (z.n 16)) % 65536 * 65536 + vl (al w (z.n 16)) % 65536 else vl (al w (z.n 16))) = vr w (al w (z.n 16)) := rfl
    have hS : U4.mk (cu0 z) (Ch.mk (z.n 12) (z.n 13) (z.n 14) (z.n 15) (z.n 16) (z.n 17) (z.n 18) (z.b 19) false (vr w (al w (z.n 16)))) (cu2 z) (cu3 z) = setC (TU z) 1 (carC w) := by
      show _ = setC _ _ _
      simp only [setC, carC, TU, TR, cu0, cu1, cu2, cu3, cr0, cr1, cr2, cr3, hr, Int.reduceEq, if_true, if_false]
    have hN := nx_r0 (c := (cu1 z)) (ch := 1) (w := w) hr rfl rfl rfl rfl
    simp only [hd, e1, hf, hf2, r1t, r1w, cond_true, cond_false, Bool.and_self, Bool.and_true, Bool.true_eq_false, Bool.false_eq_true, false_implies, true_implies, forall_const, and_true, true_and]
    rw [hS]
    (repeat' (first | exact trivial | with_reducible rfl | assumption | apply And.intro)) <;> omega
  · have hd : decide (al w (z.n 16) ≥ 33554432) = false := decide_eq_false (fun h => hr (bF2.2 h))
    have hS : U4.mk (cu0 z) (Ch.mk (z.n 12) (z.n 13) (z.n 14) (z.n 15) (z.n 16) (z.n 17) (z.n 18) (z.b 19) false (z.n 21)) (cu2 z) (cu3 z) = setC (TU z) 1 (carC w) := by
      show _ = setC _ _ _
      simp only [setC, carC, TU, TR, cu0, cu1, cu2, cu3, cr0, cr1, cr2, cr3, hr, Int.reduceEq, if_true, if_false]
    have hN := nx_n0 (c := (cu1 z)) (ch := 1) (w := w) hr rfl rfl rfl
    simp only [hd, hf, hf2, r1n, r1w, cond_true, cond_false, Bool.and_self, Bool.and_true, Bool.true_eq_false, Bool.false_eq_true, false_implies, true_implies, forall_const, and_true, true_and]
    rw [hS]
    (repeat' (first | exact trivial | with_reducible rfl | assumption | apply And.intro)) <;> omega
theorem caw1_p (E : World) (z : PX) (w : Int) :
    (hdP ([uB, tW 2 3, pR, wR] : List MB).length [uB, tW 4 5, .g 48, .g 27, pR, wR] (.t []) (fun z y => (U4.mk (Ch.mk (y.n 1) (y.n 2) (y.n 3) (y.n 4) (y.n 5) (y.n 6) (y.n 7) (y.b 8) (y.b 9) (y.n 10)) (Ch.mk (y.n 12) (y.n 13) (y.n 14) (y.n 15) (y.n 16) (y.n 17) (y.n 18) (y.b 19) (y.b 20) (y.n 21)) (Ch.mk (y.n 23) (y.n 24) (y.n 25) (y.n 26) (y.n 27) (y.n 28) (y.n 29) (y.b 30) (y.b 31) (y.n 32)) (Ch.mk (y.n 34) (y.n 35) (y.n 36) (y.n 37) (y.n 38) (y.n 39) (y.n 40) (y.b 41) (y.b 42) (y.n 43))) = setC (U4.mk (Ch.mk (z.n 1) (z.n 2) (z.n 3) (z.n 4) (z.n 5) (z.n 6) (z.n 7) (z.b 8) (z.b 9) (z.n 10)) (Ch.mk (z.n 12) (z.n 13) (z.n 14) (z.n 15) (z.n 16) (z.n 17) (z.n 18) (z.b 19) (z.b 20) (z.n 21)) (Ch.mk (z.n 23) (z.n 24) (z.n 25) (z.n 26) (z.n 27) (z.n 28) (z.n 29) (z.b 30) (z.b 31) (z.n 32)) (Ch.mk (z.n 34) (z.n 35) (z.n 36) (z.n 37) (z.n 38) (z.n 39) (z.n 40) (z.b 41) (z.b 42) (z.n 43))) 1 (carC w) ∧ NX 1 w (Ch.mk (z.n 12) (z.n 13) (z.n 14) (z.n 15) (z.n 16) (z.n 17) (z.n 18) (z.b 19) (z.b 20) (z.n 21)) (z.n 100000) (y.n 100000) (y.n 100001) (y.l 4) (y.l 5)) z (fnTree (pe E) (orcA E) (tabL fns) 20000 Try.f29 [.c (.p 0 11), .c (.ifc 34 1 0), .c (.i false .i64 w)] (mkM z [] [uB, tW 2 3, pR, wR] 0))) =
    ((decide (fw w (z.n 16) ≥ (33554432 : Int)) = true → decide ((0 : Nat) < (z.n 100000).toNat) = true ∧ decide ((z.n 100000).toNat * (6 : Nat) ≤ (z.l 2).length) = true ∧
      decide ((z.n 100000).toNat + (1 : Nat) ≤ (1099511627776 : Nat)) = true ∧ decide (((z.n 100000).toNat + (1 : Nat)) * (40 : Nat) ≤ (1099511627776 : Nat)) = true ∧ (bif
      decide ((↑((z.n 100000).toNat + (1 : Nat)) : Int) > (↑(z.n 100001).toNat : Int)) then inB (px z) ((z.n 100000).toNat + (1 : Nat)) && rOk (rApp (z.l 2) ((z.n 100000).toNat
      * (6 : Nat)) (vsr 1 (fw w (z.n 16)) w (z.b 20))) ((px z).toNat * (6 : Nat)) (EK.i IntKind.i64) else true) = true ∧ (bif bif decide ((↑((z.n 100000).toNat + (1 : Nat)) :
      Int) > (↑(z.n 100001).toNat : Int)) then rI (rApp (z.l 2) ((z.n 100000).toNat * (6 : Nat)) (vsr 1 (fw w (z.n 16)) w (z.b 20))) ((px z).toNat * (6 : Nat)) == (1 : Int) else
      false then inB (px z) ((z.n 100000).toNat + (1 : Nat)) && rOk (rApp (z.l 2) ((z.n 100000).toNat * (6 : Nat)) (vsr 1 (fw w (z.n 16)) w (z.b 20))) ((px z).toNat * (6 : Nat)
      + (4 : Nat)) (EK.i IntKind.i64) else true) = true ∧ (bif bif bif decide ((↑((z.n 100000).toNat + (1 : Nat)) : Int) > (↑(z.n 100001).toNat : Int)) then rI (rApp (z.l 2)
      ((z.n 100000).toNat * (6 : Nat)) (vsr 1 (fw w (z.n 16)) w (z.b 20))) ((px z).toNat * (6 : Nat)) == (1 : Int) else false then rI (rApp (z.l 2) ((z.n 100000).toNat * (6 :
      Nat)) (vsr 1 (fw w (z.n 16)) w (z.b 20))) ((px z).toNat * (6 : Nat) + (4 : Nat)) == w else false then inB (px z) ((z.n 100000).toNat + (1 : Nat)) && rOk (rApp (z.l 2)
      ((z.n 100000).toNat * (6 : Nat)) (vsr 1 (fw w (z.n 16)) w (z.b 20))) ((px z).toNat * (6 : Nat) + (5 : Nat)) (EK.i IntKind.i64) else true) = true ∧ ((bif bif bif decide
      ((↑((z.n 100000).toNat + (1 : Nat)) : Int) > (↑(z.n 100001).toNat : Int)) then rI (rApp (z.l 2) ((z.n 100000).toNat * (6 : Nat)) (vsr 1 (fw w (z.n 16)) w (z.b 20))) ((px
      z).toNat * (6 : Nat)) == (1 : Int) else false then rI (rApp (z.l 2) ((z.n 100000).toNat * (6 : Nat)) (vsr 1 (fw w (z.n 16)) w (z.b 20))) ((px z).toNat * (6 : Nat) + (4 :
      Nat)) == w else false then rI (rApp (z.l 2) ((z.n 100000).toNat * (6 : Nat)) (vsr 1 (fw w (z.n 16)) w (z.b 20))) ((px z).toNat * (6 : Nat) + (5 : Nat)) == bif z.b 20 then
      (0 : Int) else (1 : Int) else false) = true → inB (px z) ((z.n 100000).toNat + (1 : Nat)) = true ∧ decide ((px z).toNat * (6 : Nat) + (3 : Nat) + (1 : Nat) ≤ (rApp (z.l 2)
      ((z.n 100000).toNat * (6 : Nat)) (vsr 1 (fw w (z.n 16)) w (z.b 20))).length) = true ∧ decide ((0 : Nat) < (z.n 100001).toNat) = true ∧ decide ((z.n 100001).toNat * (1 :
      Nat) ≤ (z.l 3).length) = true ∧ decide ((z.n 100001).toNat + (1 : Nat) ≤ (1099511627776 : Nat)) = true ∧ decide (((z.n 100001).toNat + (1 : Nat)) * (4 : Nat) ≤
      (1099511627776 : Nat)) = true ∧ ((62 : Nat) = (62 : Nat) ∧ (tp13 z ((((0 : Int) ≤ lw w (vl (fw w (z.n 16)))) ∧ (lw w (vl (fw w (z.n 16)))) ≤ (4294967295 : Int)) ∧ tt14 z))
      ∧ (38 : Nat) = (38 : Nat) ∧ True ∧ (48 : Nat) = (48 : Nat) ∧ (27 : Nat) = (27 : Nat) ∧ (48 : Nat) = (48 : Nat) ∧ (flat plS = true ∧ Row plS (rSet (rApp (z.l 2) ((z.n
      100000).toNat * (6 : Nat)) (vsr 1 (fw w (z.n 16)) w (z.b 20))) ((px z).toNat * (6 : Nat) + (3 : Nat)) [C.i false IntKind.u32 (fw w (z.n 17))])) ∧ (27 : Nat) = (27 : Nat) ∧
      (flat [Sp.i IntKind.u32] = true ∧ Row [Sp.i IntKind.u32] (rApp (z.l 3) ((z.n 100001).toNat * (1 : Nat)) [C.i false IntKind.u32 (lw w (vl (fw w (z.n 16))))])) ∧ ([] : SW) =
      []) ∧ True ∧ U4.mk (cu0 z) (Ch.mk (z.n 12) (z.n 13) (z.n 14) (z.n 15) (z.n 16) (z.n 17) (z.n 18) (z.b 19) false (lw w (vl (fw w (z.n 16))))) (cu2 z) (cu3 z) = setC (TU z)
      (1 : Int) (carC w) ∧ NX (1 : Int) w (cu1 z) (z.n 100000) (↑((z.n 100000).toNat + (1 : Nat)) : Int) (↑((z.n 100001).toNat + (1 : Nat)) : Int) (rSet (rApp (z.l 2) ((z.n
      100000).toNat * (6 : Nat)) (vsr 1 (fw w (z.n 16)) w (z.b 20))) ((px z).toNat * (6 : Nat) + (3 : Nat)) [C.i false IntKind.u32 (fw w (z.n 17))]) (rApp (z.l 3) ((z.n
      100001).toNat * (1 : Nat)) [C.i false IntKind.u32 (lw w (vl (fw w (z.n 16))))])) ∧ ((bif bif bif decide ((↑((z.n 100000).toNat + (1 : Nat)) : Int) > (↑(z.n 100001).toNat :
      Int)) then rI (rApp (z.l 2) ((z.n 100000).toNat * (6 : Nat)) (vsr 1 (fw w (z.n 16)) w (z.b 20))) ((px z).toNat * (6 : Nat)) == (1 : Int) else false then rI (rApp (z.l 2)
      ((z.n 100000).toNat * (6 : Nat)) (vsr 1 (fw w (z.n 16)) w (z.b 20))) ((px z).toNat * (6 : Nat) + (4 : Nat)) == w else false then rI (rApp (z.l 2) ((z.n 100000).toNat * (6
      : Nat)) (vsr 1 (fw w (z.n 16)) w (z.b 20))) ((px z).toNat * (6 : Nat) + (5 : Nat)) == bif z.b 20 then (0 : Int) else (1 : Int) else false) = false → decide ((0 : Nat) <
      (z.n 100000).toNat + (1 : Nat)) = true ∧ decide (((z.n 100000).toNat + (1 : Nat)) * (6 : Nat) ≤ (rApp (z.l 2) ((z.n 100000).toNat * (6 : Nat)) (vsr 1 (fw w (z.n 16)) w
      (z.b 20))).length) = true ∧ decide ((z.n 100000).toNat + (1 : Nat) + (1 : Nat) ≤ (1099511627776 : Nat)) = true ∧ decide (((z.n 100000).toNat + (1 : Nat) + (1 : Nat)) * (40
      : Nat) ≤ (1099511627776 : Nat)) = true ∧ decide ((0 : Nat) < (z.n 100001).toNat) = true ∧ decide ((z.n 100001).toNat * (1 : Nat) ≤ (z.l 3).length) = true ∧ decide ((z.n
      100001).toNat + (1 : Nat) ≤ (1099511627776 : Nat)) = true ∧ decide (((z.n 100001).toNat + (1 : Nat)) * (4 : Nat) ≤ (1099511627776 : Nat)) = true ∧ ((62 : Nat) = (62 : Nat)
      ∧ (tp13 z ((((0 : Int) ≤ lw w (vl (fw w (z.n 16)))) ∧ (lw w (vl (fw w (z.n 16)))) ≤ (4294967295 : Int)) ∧ tt14 z)) ∧ (38 : Nat) = (38 : Nat) ∧ True ∧ (48 : Nat) = (48 :
      Nat) ∧ (27 : Nat) = (27 : Nat) ∧ (48 : Nat) = (48 : Nat) ∧ (flat plS = true ∧ Row plS (rApp (rApp (z.l 2) ((z.n 100000).toNat * (6 : Nat)) (vsr 1 (fw w (z.n 16)) w (z.b
      20))) (((z.n 100000).toNat + (1 : Nat)) * (6 : Nat)) [C.i true IntKind.i64 (1 : Int), C.b true false, C.i true IntKind.u32 (0 : Int), C.i false IntKind.u32 (fw w (z.n
      17)), C.i false IntKind.i64 w, C.i false IntKind.i64 (bif z.b 20 then (0 : Int) else (1 : Int))])) ∧ (27 : Nat) = (27 : Nat) ∧ (flat [Sp.i IntKind.u32] = true ∧ Row [Sp.i
      IntKind.u32] (rApp (z.l 3) ((z.n 100001).toNat * (1 : Nat)) [C.i false IntKind.u32 (lw w (vl (fw w (z.n 16))))])) ∧ ([] : SW) = []) ∧ True ∧ U4.mk (cu0 z) (Ch.mk (z.n 12)
      (z.n 13) (z.n 14) (z.n 15) (z.n 16) (z.n 17) (z.n 18) (z.b 19) false (lw w (vl (fw w (z.n 16))))) (cu2 z) (cu3 z) = setC (TU z) (1 : Int) (carC w) ∧ NX (1 : Int) w (cu1 z)
      (z.n 100000) (↑((z.n 100000).toNat + (1 : Nat) + (1 : Nat)) : Int) (↑((z.n 100001).toNat + (1 : Nat)) : Int) (rApp (rApp (z.l 2) ((z.n 100000).toNat * (6 : Nat)) (vsr 1
      (fw w (z.n 16)) w (z.b 20))) (((z.n 100000).toNat + (1 : Nat)) * (6 : Nat)) [C.i true IntKind.i64 (1 : Int), C.b true false, C.i true IntKind.u32 (0 : Int), C.i false
      IntKind.u32 (fw w (z.n 17)), C.i false IntKind.i64 w, C.i false IntKind.i64 (bif z.b 20 then (0 : Int) else (1 : Int))]) (rApp (z.l 3) ((z.n 100001).toNat * (1 : Nat))
      [C.i false IntKind.u32 (lw w (vl (fw w (z.n 16))))]))) ∧ (decide (fw w (z.n 16) ≥ (33554432 : Int)) = false → (bif decide ((↑(z.n 100000).toNat : Int) > (↑(z.n
      100001).toNat : Int)) then inB (IntKind.i64.wrap ((↑(z.n 100000).toNat : Int) - (1 : Int))) (z.n 100000).toNat && rOk (z.l 2) ((IntKind.i64.wrap ((↑(z.n 100000).toNat :
      Int) - (1 : Int))).toNat * (6 : Nat)) (EK.i IntKind.i64) else true) = true ∧ (bif bif decide ((↑(z.n 100000).toNat : Int) > (↑(z.n 100001).toNat : Int)) then rI (z.l 2)
      ((IntKind.i64.wrap ((↑(z.n 100000).toNat : Int) - (1 : Int))).toNat * (6 : Nat)) == (1 : Int) else false then inB (IntKind.i64.wrap ((↑(z.n 100000).toNat : Int) - (1 :
      Int))) (z.n 100000).toNat && rOk (z.l 2) ((IntKind.i64.wrap ((↑(z.n 100000).toNat : Int) - (1 : Int))).toNat * (6 : Nat) + (4 : Nat)) (EK.i IntKind.i64) else true) = true
      ∧ (bif bif bif decide ((↑(z.n 100000).toNat : Int) > (↑(z.n 100001).toNat : Int)) then rI (z.l 2) ((IntKind.i64.wrap ((↑(z.n 100000).toNat : Int) - (1 : Int))).toNat * (6
      : Nat)) == (1 : Int) else false then rI (z.l 2) ((IntKind.i64.wrap ((↑(z.n 100000).toNat : Int) - (1 : Int))).toNat * (6 : Nat) + (4 : Nat)) == w else false then inB
      (IntKind.i64.wrap ((↑(z.n 100000).toNat : Int) - (1 : Int))) (z.n 100000).toNat && rOk (z.l 2) ((IntKind.i64.wrap ((↑(z.n 100000).toNat : Int) - (1 : Int))).toNat * (6 :
      Nat) + (5 : Nat)) (EK.i IntKind.i64) else true) = true ∧ ((bif bif bif decide ((↑(z.n 100000).toNat : Int) > (↑(z.n 100001).toNat : Int)) then rI (z.l 2)
      ((IntKind.i64.wrap ((↑(z.n 100000).toNat : Int) - (1 : Int))).toNat * (6 : Nat)) == (1 : Int) else false then rI (z.l 2) ((IntKind.i64.wrap ((↑(z.n 100000).toNat : Int) -
      (1 : Int))).toNat * (6 : Nat) + (4 : Nat)) == w else false then rI (z.l 2) ((IntKind.i64.wrap ((↑(z.n 100000).toNat : Int) - (1 : Int))).toNat * (6 : Nat) + (5 : Nat)) ==
      bif z.b 20 then (0 : Int) else (1 : Int) else false) = true → inB (IntKind.i64.wrap ((↑(z.n 100000).toNat : Int) - (1 : Int))) (z.n 100000).toNat = true ∧ decide
      ((IntKind.i64.wrap ((↑(z.n 100000).toNat : Int) - (1 : Int))).toNat * (6 : Nat) + (3 : Nat) + (1 : Nat) ≤ (z.l 2).length) = true ∧ decide ((0 : Nat) < (z.n 100001).toNat)
      = true ∧ decide ((z.n 100001).toNat * (1 : Nat) ≤ (z.l 3).length) = true ∧ decide ((z.n 100001).toNat + (1 : Nat) ≤ (1099511627776 : Nat)) = true ∧ decide (((z.n
      100001).toNat + (1 : Nat)) * (4 : Nat) ≤ (1099511627776 : Nat)) = true ∧ False) ∧ ((bif bif bif decide ((↑(z.n 100000).toNat : Int) > (↑(z.n 100001).toNat : Int)) then rI
      (z.l 2) ((IntKind.i64.wrap ((↑(z.n 100000).toNat : Int) - (1 : Int))).toNat * (6 : Nat)) == (1 : Int) else false then rI (z.l 2) ((IntKind.i64.wrap ((↑(z.n 100000).toNat :
      Int) - (1 : Int))).toNat * (6 : Nat) + (4 : Nat)) == w else false then rI (z.l 2) ((IntKind.i64.wrap ((↑(z.n 100000).toNat : Int) - (1 : Int))).toNat * (6 : Nat) + (5 :
      Nat)) == bif z.b 20 then (0 : Int) else (1 : Int) else false) = false → decide ((0 : Nat) < (z.n 100000).toNat) = true ∧ decide ((z.n 100000).toNat * (6 : Nat) ≤ (z.l
      2).length) = true ∧ decide ((z.n 100000).toNat + (1 : Nat) ≤ (1099511627776 : Nat)) = true ∧ decide (((z.n 100000).toNat + (1 : Nat)) * (40 : Nat) ≤ (1099511627776 : Nat))
      = true ∧ decide ((0 : Nat) < (z.n 100001).toNat) = true ∧ decide ((z.n 100001).toNat * (1 : Nat) ≤ (z.l 3).length) = true ∧ decide ((z.n 100001).toNat + (1 : Nat) ≤
      (1099511627776 : Nat)) = true ∧ decide (((z.n 100001).toNat + (1 : Nat)) * (4 : Nat) ≤ (1099511627776 : Nat)) = true ∧ ((62 : Nat) = (62 : Nat) ∧ (RGu z) ∧ (38 : Nat) =
      (38 : Nat) ∧ True ∧ (48 : Nat) = (48 : Nat) ∧ (27 : Nat) = (27 : Nat) ∧ (48 : Nat) = (48 : Nat) ∧ (flat plS = true ∧ Row plS (rApp (z.l 2) ((z.n 100000).toNat * (6 : Nat))
      [C.i true IntKind.i64 (1 : Int), C.b true false, C.i true IntKind.u32 (0 : Int), C.i false IntKind.u32 (fw w (z.n 17)), C.i false IntKind.i64 w, C.i false IntKind.i64 (bif
      z.b 20 then (0 : Int) else (1 : Int))])) ∧ (27 : Nat) = (27 : Nat) ∧ (flat [Sp.i IntKind.u32] = true ∧ Row [Sp.i IntKind.u32] (rApp (z.l 3) ((z.n 100001).toNat * (1 :
      Nat)) [C.i false IntKind.u32 (z.n 21)])) ∧ ([] : SW) = []) ∧ True ∧ U4.mk (cu0 z) (Ch.mk (z.n 12) (z.n 13) (z.n 14) (z.n 15) (z.n 16) (z.n 17) (z.n 18) (z.b 19) false (z.n
      21)) (cu2 z) (cu3 z) = setC (TU z) (1 : Int) (carC w) ∧ NX (1 : Int) w (cu1 z) (z.n 100000) (↑((z.n 100000).toNat + (1 : Nat)) : Int) (↑((z.n 100001).toNat + (1 : Nat)) :
      Int) (rApp (z.l 2) ((z.n 100000).toNat * (6 : Nat)) [C.i true IntKind.i64 (1 : Int), C.b true false, C.i true IntKind.u32 (0 : Int), C.i false IntKind.u32 (fw w (z.n 17)),
      C.i false IntKind.i64 w, C.i false IntKind.i64 (bif z.b 20 then (0 : Int) else (1 : Int))]) (rApp (z.l 3) ((z.n 100001).toNat * (1 : Nat)) [C.i false IntKind.u32 (z.n
      21)])))) := by kernel_rfl
set_option maxHeartbeats 4000000 in
theorem caw1_c (E : World) (w : Int) (z : PX) (hz : rgM z [uB, tW 2 3, pR, wR] 0) (hp : (fun z => (w = 2 ∨ w = 4) ∧ TP (z.n 100000) (z.n 100001) (z.l 2) (z.l 3)) z) : HD (pe E) 29 [.c (.p 0 11), .c (.ifc 34 1 0), .c (.i false .i64 w)] [uB, tW 2 3, pR, wR] [uB, tW 4 5, .g 48, .g 27, pR, wR] (.t []) (fun z y => (U4.mk (Ch.mk (y.n 1) (y.n 2) (y.n 3) (y.n 4) (y.n 5) (y.n 6) (y.n 7) (y.b 8) (y.b 9) (y.n 10)) (Ch.mk (y.n 12) (y.n 13) (y.n 14) (y.n 15) (y.n 16) (y.n 17) (y.n 18) (y.b 19) (y.b 20) (y.n 21)) (Ch.mk (y.n 23) (y.n 24) (y.n 25) (y.n 26) (y.n 27) (y.n 28) (y.n 29) (y.b 30) (y.b 31) (y.n 32)) (Ch.mk (y.n 34) (y.n 35) (y.n 36) (y.n 37) (y.n 38) (y.n 39) (y.n 40) (y.b 41) (y.b 42) (y.n 43))) = setC (U4.mk (Ch.mk (z.n 1) (z.n 2) (z.n 3) (z.n 4) (z.n 5) (z.n 6) (z.n 7) (z.b 8) (z.b 9) (z.n 10)) (Ch.mk (z.n 12) (z.n 13) (z.n 14) (z.n 15) (z.n 16) (z.n 17) (z.n 18) (z.b 19) (z.b 20) (z.n 21)) (Ch.mk (z.n 23) (z.n 24) (z.n 25) (z.n 26) (z.n 27) (z.n 28) (z.n 29) (z.b 30) (z.b 31) (z.n 32)) (Ch.mk (z.n 34) (z.n 35) (z.n 36) (z.n 37) (z.n 38) (z.n 39) (z.n 40) (z.b 41) (z.b 42) (z.n 43))) 1 (carC w) ∧ NX 1 w (Ch.mk (z.n 12) (z.n 13) (z.n 14) (z.n 15) (z.n 16) (z.n 17) (z.n 18) (z.b 19) (z.b 20) (z.n 21)) (z.n 100000) (y.n 100000) (y.n 100001) (y.l 4) (y.l 5)) z := by
  refine HD.mk (by rfl) (fnTree_sound (P := pe E) orcA_ok tab_ok tab_sz mixed 20000 Try.func29 (by decide) [.c (.p 0 11), .c (.ifc 34 1 0), .c (.i false .i64 w)] _) ⟨?_⟩
  rw [caw1_p]
  have h := rg_u (show rgM z uMs 0 from ⟨hz.1, trivial⟩)
  obtain ⟨h1, h2, h3, h4, h5, h6, h10, h12, h13, h14, h15, h16, h17, h21, h23, h24, h25, h26, h27, h28, h32, h34, h35, h36, h37, h38, h39, h43, _⟩ := h
  obtain ⟨hw, hTP⟩ := hp
  have eF := alw w (z.n 16) hw h16.1 h16.2
  have eT := alw w (z.n 17) hw h17.1 h17.2
  obtain ⟨bF0, bF1, bF2⟩ := al_bd w (z.n 16) hw h16.1 h16.2
  have bw : w = 2 ∨ w = 4 := hw
  have eQ := qT (z.b 20)
  have bww : (w == w) = true := beq_self_eq_true w
  have bqq : ∀ q : Int, (q == q) = true := fun q => beq_self_eq_true q
  have hf : flat plS = true := rfl
  have hf2 : flat [Sp.i IntKind.u32] = true := rfl
  obtain ⟨tp, tq, te, tl, tm⟩ := hTP
  have hR2 : Row plS (z.l 2) := hz.2.2.1.2
  have hR3 : Row [.i .u32] (z.l 3) := hz.2.2.2.1.2
  obtain ⟨k, hk⟩ : ∃ k : Nat, z.n 100000 = (k : Int) := ⟨(z.n 100000).toNat, by omega⟩
  rw [hk] at te tl tm tp tq
  rw [Int.toNat_natCast] at tl tm
  have hk0 : 0 < k := by omega
  have t0 : (z.n 100000).toNat = k := by rw [hk]; exact Int.toNat_natCast k
  have t1 : (z.n 100001).toNat = k := by rw [te]; exact Int.toNat_natCast k
  have w1 : IntKind.i64.wrap (((k + 1 : Nat) : Int) - 1) = (k : Int) := by rw [wi64]; omega
  have d1 : decide (((k + 1 : Nat) : Int) > (k : Int)) = true := decide_eq_true (by omega)
  have d2 : decide ((k : Int) > (k : Int)) = false := decide_eq_false (by omega)
  have h4 : inB (k : Int) (k + 1) = true := by simp only [inB, Bool.and_eq_true, decide_eq_true_eq]; omega
  have n1 : decide (0 < k) = true := decide_eq_true hk0
  have n2 : decide (k * 6 ≤ (z.l 2).length) = true := decide_eq_true (by omega)
  have n3 : decide (k + 1 ≤ 1099511627776) = true := decide_eq_true (by omega)
  have n4 : decide ((k + 1) * 40 ≤ 1099511627776) = true := decide_eq_true (by omega)
  have n5 : decide (k * 1 ≤ (z.l 3).length) = true := decide_eq_true (by omega)
  have n6 : decide ((k + 1) * 4 ≤ 1099511627776) = true := decide_eq_true (by omega)
  have n7 : decide (k * 6 + 3 + 1 ≤ k * 6 + 6) = true := decide_eq_true (by omega)
  simp only [fw, lw, vsr, px, w3, wo, ro, r3, eF, eT, vlT, vrT w _ (vl_bd _).1 (vl_bd _).2, eQ, hk, te, t0, t1, Int.toNat_natCast, w1, d1, d2, cond_true, cond_false, Bool.and_self, Bool.and_true, Bool.true_eq_false, Bool.false_eq_true, false_implies, true_implies, forall_const, and_true, true_and]
  by_cases hr : 33554432 ≤ z.n 16
  · have hd : decide (al w (z.n 16) ≥ 33554432) = true := decide_eq_true (bF2.1 hr)
    have hv := vr_bd w (al w (z.n 16))
    have e1 : (if w = 2 then vl (al w (z.n 16)) % 65536 * 65536 + vl (al w (z.n 16)) % 65536 else vl (al w (z.n 16))) = vr w (al w (z.n 16)) := rfl
    have hS : U4.mk (cu0 z) (Ch.mk (z.n 12) (z.n 13) (z.n 14) (z.n 15) (z.n 16) (z.n 17) (z.n 18) (z.b 19) false (vr w (al w (z.n 16)))) (cu2 z) (cu3 z) = setC (TU z) 1 (carC w) := by
      show _ = setC _ _ _
      simp only [setC, carC, TU, TR, cu0, cu1, cu2, cu3, cr0, cr1, cr2, cr3, hr, Int.reduceEq, if_true, if_false]
    have hN := nx_r (c := (cu1 z)) (ch := 1) (w := w) tl tm hr rfl rfl rfl rfl
    simp only [hd, e1, hf, hf2, h4, n1, n2, n3, n4, n5, n6, n7, rq0 tl, rq4 tl, rq5 tl, ao0 tl, ao4 tl, ao5 tl, rq_len tl, row2 hR2 tl, row3 hR3 tm, bww, bqq, cond_true, cond_false, Bool.and_self, Bool.and_true, Bool.true_eq_false, Bool.false_eq_true, false_implies, true_implies, forall_const, and_true, true_and]
    rw [hS]
    (repeat' (first | exact trivial | with_reducible rfl | assumption | apply And.intro)) <;> omega
  · have hd : decide (al w (z.n 16) ≥ 33554432) = false := decide_eq_false (fun h => hr (bF2.2 h))
    have hS : U4.mk (cu0 z) (Ch.mk (z.n 12) (z.n 13) (z.n 14) (z.n 15) (z.n 16) (z.n 17) (z.n 18) (z.b 19) false (z.n 21)) (cu2 z) (cu3 z) = setC (TU z) 1 (carC w) := by
      show _ = setC _ _ _
      simp only [setC, carC, TU, TR, cu0, cu1, cu2, cu3, cr0, cr1, cr2, cr3, hr, Int.reduceEq, if_true, if_false]
    have hN := nx_n (c := (cu1 z)) (ch := 1) (w := w) tl tm hr rfl rfl rfl
    simp only [hd, hf, hf2, n1, n2, n3, n4, n5, n6, row2n hR2 tl, row3 hR3 tm, cond_true, cond_false, Bool.and_self, Bool.and_true, Bool.true_eq_false, Bool.false_eq_true, false_implies, true_implies, forall_const, and_true, true_and]
    rw [hS]
    (repeat' (first | exact trivial | with_reducible rfl | assumption | apply And.intro)) <;> omega
end Go.Proofs.Ytpddbhfebhpohaa

