import Derived.Test.YtpddbhfebhpohaaK
set_option linter.unusedVariables false
set_option linter.unusedSimpArgs false
namespace Go.Proofs.Ytpddbhfebhpohaa
open Go Go.Proofs Go.Proofs.Ytpddbhfebhpohaa.Ev Go.Proofs.Ytpddbhfebhpohaa.Ev.Ho
set_option maxRecDepth 100000
theorem rep_r0 (E : World) (n times how : Int) (z : PX) (y : PX) :
    (loopP (pe E) Try.f7 (endR ([] : List MB).length [] (.c .b) (fun _ y => y.b 90000 = true) z) (headR ([] : List MB).length Try.f7.ntmps (some ((fun y => (130 - y.n 91123).toNat) y)) (rep_hs E n times how z))  (run (pe E) (orcA E) (tabL fns) 20000 (2 ^ 200 - 1) (td3 E) (mkL Try.f7.ntmps (slC y [(0, .r .i64 (1) (20)), (121, .w 0 6), (122, .i .i64), (123, .r .i64 (0) (120))])) (mkM y [] [pR] 0))) =
    ((decide (y.n (91123 : Nat) < y.n (91122 : Nat)) = true → inB (y.n (91123 : Nat)) (y.n (91121 : Nat)).toNat = true ∧ rRow (y.l (0 : Nat)) ((y.n (91123 : Nat)).toNat * (6 :
      Nat) + (0 : Nat)) ([EK.i IntKind.i64] ++ ([EK.b] ++ ([EK.i IntKind.u32] ++ ([EK.i IntKind.u32] ++ ([EK.i IntKind.i64] ++ ([EK.i IntKind.i64] ++ [])))))) = true ∧ (bif rI
      (y.l (0 : Nat)) ((y.n (91123 : Nat)).toNat * (6 : Nat) + (2 : Nat)) != IntKind.u32.wrap (IntKind.i64.wrap ((33554432 : Int) + IntKind.i64.wrap ((2 : Int) * y.n (91123 :
      Nat)))) then true else !decide (y.n (91000 : Nat) = (0 : Int))) = true ∧ ((bif rI (y.l (0 : Nat)) ((y.n (91123 : Nat)).toNat * (6 : Nat) + (2 : Nat)) != IntKind.u32.wrap
      (IntKind.i64.wrap ((33554432 : Int) + IntKind.i64.wrap ((2 : Int) * y.n (91123 : Nat)))) then true else rI (y.l (0 : Nat)) ((y.n (91123 : Nat)).toNat * (6 : Nat) + (3 :
      Nat)) != IntKind.u32.wrap (IntKind.i64.wrap ((50331648 : Int) + IntKind.i64.wrap ((2 : Int) * (y.n (91123 : Nat)).tmod (y.n (91000 : Nat)))))) = true → ([] : SW) = [] ∧
      True ∧ false = true) ∧ ((bif rI (y.l (0 : Nat)) ((y.n (91123 : Nat)).toNat * (6 : Nat) + (2 : Nat)) != IntKind.u32.wrap (IntKind.i64.wrap ((33554432 : Int) +
      IntKind.i64.wrap ((2 : Int) * y.n (91123 : Nat)))) then true else rI (y.l (0 : Nat)) ((y.n (91123 : Nat)).toNat * (6 : Nat) + (3 : Nat)) != IntKind.u32.wrap
      (IntKind.i64.wrap ((50331648 : Int) + IntKind.i64.wrap ((2 : Int) * (y.n (91123 : Nat)).tmod (y.n (91000 : Nat)))))) = false → td3 E = td3 E ∧ (147 : Nat) = (147 : Nat) ∧
      ((((1 : Int) ≤ y.n (91000 : Nat) ∧ y.n (91000 : Nat) ≤ (20 : Int)) ∧ True) ∧ True ∧ True ∧ (((0 : Int) ≤ IntKind.i64.wrap (y.n (91123 : Nat) + (1 : Int)) ∧
      IntKind.i64.wrap (y.n (91123 : Nat) + (1 : Int)) ≤ (120 : Int)) ∧ True) ∧ True) ∧ ((48 : Nat) = (48 : Nat) ∧ (flat plS = true ∧ Row plS (y.l (0 : Nat))) ∧ ([] : SW) = [])
      ∧ (y.n (91122 : Nat) = (↑(y.n (91121 : Nat)).toNat : Int) ∧ IntKind.i64.wrap (y.n (91123 : Nat) + (1 : Int)) ≤ (↑(y.n (91121 : Nat)).toNat : Int) ∧ (↑(y.n (91121 :
      Nat)).toNat : Int) ≤ (120 : Int) ∧ PLD (y.n (91000 : Nat)) (↑(y.n (91121 : Nat)).toNat : Int).toNat (y.l (0 : Nat))) ∧ ((130 : Int) - IntKind.i64.wrap (y.n (91123 : Nat) +
      (1 : Int))).toNat < ((130 : Int) - y.n (91123 : Nat)).toNat ∧ True)) ∧ (decide (y.n (91123 : Nat) < y.n (91122 : Nat)) = false → ([] : SW) = [] ∧ True ∧ true = true)) := by kernel_rfl
set_option maxHeartbeats 8000000 in
theorem rep_q0 (E : World) (n times how : Int) (z : PX) (hp : (fun _ => True) z) (y : PX) (hy1 : rgM y [pR] 0) (hy2 : rgF y [(0, .r .i64 (1) (20)), (121, .w 0 6), (122, .i .i64), (123, .r .i64 (0) (120))]) (hy3 : (fun y => y.n 91122 = y.n 91121 ∧ y.n 91123 ≤ y.n 91121 ∧ y.n 91121 ≤ 120 ∧ PLD (y.n 91000) (y.n 91121).toNat (y.l 0)) y) : Holds ((run (pe E) (orcA E) (tabL fns) 20000 (2 ^ 200 - 1) (td3 E) (mkL Try.f7.ntmps (slC y [(0, .r .i64 (1) (20)), (121, .w 0 6), (122, .i .i64), (123, .r .i64 (0) (120))])) (mkM y [] [pR] 0)).OK (lfP (pe E) Try.f7 (endR ([] : List MB).length [] (.c .b) (fun _ y => y.b 90000 = true) z) (headR ([] : List MB).length Try.f7.ntmps (some ((fun y => (130 - y.n 91123).toNat) y)) (rep_hs E n times how z)))) := by
  refine loopP_lfH ⟨?_⟩
  rw [rep_r0]
  have hf : (((1) ≤ y.n 91000 ∧ y.n 91000 ≤ (20)) ∧ True) ∧ (0 ≤ y.n 91121 ∧ True) ∧ True ∧ (((0) ≤ y.n 91123 ∧ y.n 91123 ≤ (120)) ∧ True) ∧ True := hy2
  obtain ⟨⟨g0, _⟩, ⟨g121, _⟩, _, ⟨g123, _⟩, _⟩ := hf
  obtain ⟨e122, e123, le, hP⟩ := hy3
  have hR : Row plS (y.l 0) := hy1.1.2
  have hf : flat plS = true := rfl
  obtain ⟨m, hm⟩ : ∃ m : Nat, y.n 91121 = (m : Int) := ⟨(y.n 91121).toNat, by omega⟩
  obtain ⟨k, hk⟩ : ∃ k : Nat, y.n 91123 = (k : Int) := ⟨(y.n 91123).toNat, by omega⟩
  rw [hm, Int.toNat_natCast] at hP
  have t0 : (y.n 91121).toNat = m := by rw [hm]; exact Int.toNat_natCast m
  by_cases hlt : (k : Int) < y.n 91122
  · have h1 : decide ((k : Int) < y.n 91122) = true := decide_eq_true hlt
    obtain ⟨x2, x3⟩ := hP.he k (by omega)
    have L := hP.hl
    have h4 : inB (k : Int) m = true := by simp only [inB, Bool.and_eq_true, decide_eq_true_eq]; omega
    have h6 : rRow (y.l 0) (k * 6 + 0) ([EK.i IntKind.i64] ++ ([EK.b] ++ ([EK.i IntKind.u32] ++ ([EK.i IntKind.u32] ++ ([EK.i IntKind.i64] ++ ([EK.i IntKind.i64] ++ [])))))) = true := rRow6 hR (by omega)
    have w1 : IntKind.u32.wrap (IntKind.i64.wrap (33554432 + IntKind.i64.wrap (2 * (k : Int)))) = 33554432 + 2 * (k : Int) := by
      have a1 : IntKind.i64.wrap (2 * (k : Int)) = 2 * (k : Int) := by rw [wi64]; omega
      rw [a1]
      have a2 : IntKind.i64.wrap (33554432 + 2 * (k : Int)) = 33554432 + 2 * (k : Int) := by rw [wi64]; omega
      rw [a2, wu32]; omega
    have d0 := Int.emod_nonneg (k : Int) (b := y.n 91000) (by omega)
    have d1 := Int.emod_lt_of_pos (k : Int) (b := y.n 91000) (by omega)
    have et : (k : Int).tmod (y.n 91000) = (k : Int) % y.n 91000 := Int.tmod_eq_emod_of_nonneg (by omega)
    have w2 : IntKind.u32.wrap (IntKind.i64.wrap (50331648 + IntKind.i64.wrap (2 * ((k : Int).tmod (y.n 91000))))) = 50331648 + 2 * ((k : Int) % y.n 91000) := by
      rw [et]
      generalize (k : Int) % y.n 91000 = r at d0 d1
      have a1 : IntKind.i64.wrap (2 * r) = 2 * r := by rw [wi64]; omega
      rw [a1]
      have a2 : IntKind.i64.wrap (50331648 + 2 * r) = 50331648 + 2 * r := by rw [wi64]; omega
      rw [a2, wu32]; omega
    have w3 : IntKind.i64.wrap ((k : Int) + 1) = (k : Int) + 1 := by rw [wi64]; omega
    have hn : ∀ a : Int, (a != a) = false := fun a => bne_self_eq_false a
    have hd : decide (y.n 91000 = 0) = false := decide_eq_false (by omega)
    clear d0 d1 et
    have hPn : PLD (y.n 91000) m (y.l 0) := hP
    simp only [hk, hm, Int.toNat_natCast, h1, h4, h6, x2, x3, w1, w2, w3, hn, hd, hf, hR, Bool.not_false, cond_true, cond_false, Bool.true_eq_false, Bool.false_eq_true, false_implies, true_implies, forall_const, and_true, true_and]
    (repeat' apply And.intro) <;> first | assumption | omega | trivial | exact hPn | exact hPn _ | exact hMn | exact hMe
  · have h1 : decide ((k : Int) < y.n 91122) = false := decide_eq_false hlt
    simp only [hk, h1, Bool.true_eq_false, Bool.false_eq_true, false_implies, true_implies, forall_const, and_true, true_and]
theorem rep_r1 (E : World) (n times how : Int) (z : PX) (y : PX) :
    (loopW (pe E) Try.f7 (endR ([] : List MB).length [] (.c .b) (fun _ y => y.b 90000 = true) z) (headR ([] : List MB).length Try.f7.ntmps (some ((fun y => (100 * (6 - y.n 91061) + 60).toNat) y)) (rep_hs E n times how z)) [some true] (run (pe E) (orcA E) (tabL fns) 20000 (2 ^ 200 - 1) (td1 E) (mkL Try.f7.ntmps (slC y [(0, .r .i64 (1) (20)), (1, .r .i64 (1) (5)), (7, .c (.b true true)), (8, .c (.i true .i64 1)), (9, .c (.p 0 0)), (10, .c (.p 1 0)), (60, .i .i64), (61, .r .i64 (0) (5))])) (mkM y [] [uM 37472 false true, tN] 0))) =
    (decide (y.n (91061 : Nat) < y.n (91060 : Nat)) = true ∧ td2 E = td2 E ∧ (147 : Nat) = (147 : Nat) ∧ ((((1 : Int) ≤ y.n (91000 : Nat) ∧ y.n (91000 : Nat) ≤ (20 : Int)) ∧
      True) ∧ (((1 : Int) ≤ y.n (91001 : Nat) ∧ y.n (91001 : Nat) ≤ (5 : Int)) ∧ True) ∧ True ∧ True ∧ True ∧ True ∧ True ∧ (((0 : Int) ≤ y.n (91061 : Nat) ∧ y.n (91061 : Nat) ≤
      (5 : Int)) ∧ True) ∧ (((0 : Int) ≤ (0 : Int) ∧ (0 : Int) ≤ (20 : Int)) ∧ True) ∧ True) ∧ ((62 : Nat) = (62 : Nat) ∧ True ∧ (38 : Nat) = (38 : Nat) ∧ True ∧ ([] : SW) = [])
      ∧ (y.n (91061 : Nat) = (0 : Int) ∧ y.n (91061 : Nat) < y.n (91060 : Nat) ∧ (0 : Int) = (0 : Int) ∧ y.n (91060 : Nat) = y.n (91001 : Nat) ∧ y.n (36 : Nat) = y.n (91000 :
      Nat) ∧ y.n (38 : Nat) = (33554432 : Int) ∧ y.n (39 : Nat) = (50331648 : Int) ∧ y.n (40 : Nat) = y.n (91000 : Nat)) ∧ ((100 : Int) * ((6 : Int) - y.n (91061 : Nat)) + (30 :
      Int) - (0 : Int)).toNat < ((100 : Int) * ((6 : Int) - y.n (91061 : Nat)) + (60 : Int)).toNat ∧ True) := by kernel_rfl
set_option maxHeartbeats 8000000 in
theorem rep_q1 (E : World) (n times how : Int) (z : PX) (hp : (fun _ => True) z) (y : PX) (hy1 : rgM y [uM 37472 false true, tN] 0) (hy2 : rgF y [(0, .r .i64 (1) (20)), (1, .r .i64 (1) (5)), (7, .c (.b true true)), (8, .c (.i true .i64 1)), (9, .c (.p 0 0)), (10, .c (.p 1 0)), (60, .i .i64), (61, .r .i64 (0) (5))]) (hy3 : (fun y => y.n 91061 = 0 ∧ y.n 91060 = y.n 91001 ∧ y.n 36 = y.n 91000 ∧ y.n 38 = 33554432 ∧ y.n 39 = 50331648 ∧ y.n 40 = y.n 91000) y) : Holds ((run (pe E) (orcA E) (tabL fns) 20000 (2 ^ 200 - 1) (td1 E) (mkL Try.f7.ntmps (slC y [(0, .r .i64 (1) (20)), (1, .r .i64 (1) (5)), (7, .c (.b true true)), (8, .c (.i true .i64 1)), (9, .c (.p 0 0)), (10, .c (.p 1 0)), (60, .i .i64), (61, .r .i64 (0) (5))])) (mkM y [] [uM 37472 false true, tN] 0)).OK (lfP (pe E) Try.f7 (endR ([] : List MB).length [] (.c .b) (fun _ y => y.b 90000 = true) z) (headR ([] : List MB).length Try.f7.ntmps (some ((fun y => (100 * (6 - y.n 91061) + 60).toNat) y)) (rep_hs E n times how z)))) := by
  refine loopW_lfH [some true] ⟨?_⟩
  rw [rep_r1]
  have hf : (((1) ≤ y.n 91000 ∧ y.n 91000 ≤ (20)) ∧ True) ∧ (((1) ≤ y.n 91001 ∧ y.n 91001 ≤ (5)) ∧ True) ∧ True ∧ True ∧ True ∧ True ∧ True ∧ (((0) ≤ y.n 91061 ∧ y.n 91061 ≤ (5)) ∧ True) ∧ True := hy2
  obtain ⟨⟨g0, _⟩, ⟨g1, _⟩, _, _, _, _, _, ⟨g61, _⟩, _⟩ := hf
  obtain ⟨h0, e60, e36, e38, e39, e40⟩ := hy3
  have cx : (true ^^ (true == (y.n 91061 == 0))) = false := by rw [h0]; rfl
  simp only [cx, decide_eq_true_eq, Bool.false_eq_true, false_implies, true_implies, forall_const, and_true, true_and]
  (repeat' apply And.intro) <;> first | assumption | omega | trivial | exact hPn | exact hPn _ | exact hMn | exact hMe
theorem rep_r2 (E : World) (n times how : Int) (z : PX) (y : PX) :
    (loopW (pe E) Try.f7 (endR ([] : List MB).length [] (.c .b) (fun _ y => y.b 90000 = true) z) (headR ([] : List MB).length Try.f7.ntmps (some ((fun y => (100 * (6 - y.n 91061) + 30 - y.n 91013).toNat) y)) (rep_hs E n times how z)) [some true] (run (pe E) (orcA E) (tabL fns) 20000 (2 ^ 200 - 1) (td2 E) (mkL Try.f7.ntmps (slC y [(0, .r .i64 (1) (20)), (1, .r .i64 (1) (5)), (7, .c (.b true true)), (8, .c (.i true .i64 1)), (9, .c (.p 0 0)), (10, .c (.p 1 0)), (60, .i .i64), (61, .r .i64 (0) (5)), (13, .r .i64 (0) (20))])) (mkM y [] [uM 37472 true true, tN] 0))) =
    (decide (bits BinOp.andNot IntKind.u32 (y.n (38 : Nat)) (1 : Int) ≥ (33554432 : Int)) = true ∧ (decide (IntKind.i64.wrap (y.n (40 : Nat) - (1 : Int)) > (0 : Int)) = true →
      ((true ^^ false == (y.n (91013 : Nat) == IntKind.i64.wrap (y.n (91000 : Nat) - (1 : Int)))) = true → ([] : SW) = [] ∧ True ∧ false = true) ∧ ((true ^^ false == (y.n (91013
      : Nat) == IntKind.i64.wrap (y.n (91000 : Nat) - (1 : Int)))) = false → td2 E = td2 E ∧ (147 : Nat) = (147 : Nat) ∧ ((((1 : Int) ≤ y.n (91000 : Nat) ∧ y.n (91000 : Nat) ≤
      (20 : Int)) ∧ True) ∧ (((1 : Int) ≤ y.n (91001 : Nat) ∧ y.n (91001 : Nat) ≤ (5 : Int)) ∧ True) ∧ True ∧ True ∧ True ∧ True ∧ True ∧ (((0 : Int) ≤ y.n (91061 : Nat) ∧ y.n
      (91061 : Nat) ≤ (5 : Int)) ∧ True) ∧ (((0 : Int) ≤ IntKind.i64.wrap (y.n (91013 : Nat) + (1 : Int)) ∧ IntKind.i64.wrap (y.n (91013 : Nat) + (1 : Int)) ≤ (20 : Int)) ∧
      True) ∧ True) ∧ ((62 : Nat) = (62 : Nat) ∧ True ∧ (38 : Nat) = (38 : Nat) ∧ True ∧ (48 : Nat) = (48 : Nat) ∧ (flat plS = true ∧ Row plS [C.i true IntKind.i64 (3 : Int),
      ofCell (Value.bool true), C.i false IntKind.u32 (bits BinOp.andNot IntKind.u32 (y.n (38 : Nat)) (1 : Int)), C.i false IntKind.u32 (bits BinOp.andNot IntKind.u32 (y.n (39 :
      Nat)) (1 : Int)), ofCell (Value.int IntKind.i64 (2 : Int)), ofCell (Value.int IntKind.i64 (0 : Int))]) ∧ (27 : Nat) = (27 : Nat) ∧ (flat [Sp.i IntKind.u32] = true ∧ Row
      [Sp.i IntKind.u32] [C.i false IntKind.u32 (bits BinOp.or IntKind.u32 (bits BinOp.and IntKind.u32 (bits BinOp.xor IntKind.u32 (IntKind.u32.wrap (bits BinOp.andNot
      IntKind.u32 (y.n (38 : Nat)) (1 : Int) * (2654435761 : Int))) ((bits BinOp.andNot IntKind.u32 (y.n (38 : Nat)) (1 : Int)).fdiv (128 : Int))) (65535 : Int))
      (IntKind.u32.wrap (bits BinOp.xor IntKind.u32 (IntKind.u32.wrap (bits BinOp.andNot IntKind.u32 (y.n (38 : Nat)) (1 : Int) * (2654435761 : Int))) ((bits BinOp.andNot
      IntKind.u32 (y.n (38 : Nat)) (1 : Int)).fdiv (128 : Int)) * (65536 : Int))))]) ∧ ([] : SW) = []) ∧ (((1 : Int) ≤ IntKind.i64.wrap (y.n (91013 : Nat) + (1 : Int)) ∧
      IntKind.i64.wrap (y.n (91013 : Nat) + (1 : Int)) < y.n (91000 : Nat)) ∧ y.n (91061 : Nat) < y.n (91060 : Nat) ∧ y.n (91060 : Nat) = y.n (91001 : Nat) ∧ y.n (36 : Nat) =
      y.n (91000 : Nat) ∧ IntKind.u32.wrap (y.n (38 : Nat) + (2 : Int)) = (33554432 : Int) + (2 : Int) * (1 : Int) ∧ IntKind.u32.wrap (y.n (39 : Nat) + (2 : Int)) = (50331648 :
      Int) + (2 : Int) * IntKind.i64.wrap (y.n (91013 : Nat) + (1 : Int)) ∧ IntKind.i64.wrap (y.n (40 : Nat) - (1 : Int)) = y.n (91000 : Nat) - IntKind.i64.wrap (y.n (91013 :
      Nat) + (1 : Int)) ∧ MN (1 : Int) (y.n (91061 : Nat)) (y.n (91000 : Nat)) (IntKind.i64.wrap (y.n (91013 : Nat) + (1 : Int))) ∧ PLN (y.n (91000 : Nat)) (Int.toNat (1 : Int))
      [C.i true IntKind.i64 (3 : Int), ofCell (Value.bool true), C.i false IntKind.u32 (bits BinOp.andNot IntKind.u32 (y.n (38 : Nat)) (1 : Int)), C.i false IntKind.u32 (bits
      BinOp.andNot IntKind.u32 (y.n (39 : Nat)) (1 : Int)), ofCell (Value.int IntKind.i64 (2 : Int)), ofCell (Value.int IntKind.i64 (0 : Int))] [C.i false IntKind.u32 (bits
      BinOp.or IntKind.u32 (bits BinOp.and IntKind.u32 (bits BinOp.xor IntKind.u32 (IntKind.u32.wrap (bits BinOp.andNot IntKind.u32 (y.n (38 : Nat)) (1 : Int) * (2654435761 :
      Int))) ((bits BinOp.andNot IntKind.u32 (y.n (38 : Nat)) (1 : Int)).fdiv (128 : Int))) (65535 : Int)) (IntKind.u32.wrap (bits BinOp.xor IntKind.u32 (IntKind.u32.wrap (bits
      BinOp.andNot IntKind.u32 (y.n (38 : Nat)) (1 : Int) * (2654435761 : Int))) ((bits BinOp.andNot IntKind.u32 (y.n (38 : Nat)) (1 : Int)).fdiv (128 : Int)) * (65536 :
      Int))))] (1 : Int) (1 : Int)) ∧ ((100 : Int) * ((6 : Int) - y.n (91061 : Nat)) + (30 : Int) - IntKind.i64.wrap (y.n (91013 : Nat) + (1 : Int))).toNat < ((100 : Int) * ((6
      : Int) - y.n (91061 : Nat)) + (30 : Int) - y.n (91013 : Nat)).toNat ∧ True)) ∧ (decide (IntKind.i64.wrap (y.n (40 : Nat) - (1 : Int)) > (0 : Int)) = false → ((bif y.n (36
      : Nat) == (0 : Int) then true else false) = true → ((true ^^ true == (y.n (91013 : Nat) == IntKind.i64.wrap (y.n (91000 : Nat) - (1 : Int)))) = true → ([] : SW) = [] ∧
      True ∧ false = true) ∧ ((true ^^ true == (y.n (91013 : Nat) == IntKind.i64.wrap (y.n (91000 : Nat) - (1 : Int)))) = false → td2 E = td2 E ∧ (147 : Nat) = (147 : Nat) ∧
      ((((1 : Int) ≤ y.n (91000 : Nat) ∧ y.n (91000 : Nat) ≤ (20 : Int)) ∧ True) ∧ (((1 : Int) ≤ y.n (91001 : Nat) ∧ y.n (91001 : Nat) ≤ (5 : Int)) ∧ True) ∧ True ∧ True ∧ True
      ∧ True ∧ True ∧ (((0 : Int) ≤ y.n (91061 : Nat) ∧ y.n (91061 : Nat) ≤ (5 : Int)) ∧ True) ∧ (((0 : Int) ≤ IntKind.i64.wrap (y.n (91013 : Nat) + (1 : Int)) ∧
      IntKind.i64.wrap (y.n (91013 : Nat) + (1 : Int)) ≤ (20 : Int)) ∧ True) ∧ True) ∧ ((62 : Nat) = (62 : Nat) ∧ True ∧ (38 : Nat) = (38 : Nat) ∧ True ∧ (48 : Nat) = (48 : Nat)
      ∧ (flat plS = true ∧ Row plS [C.i true IntKind.i64 (3 : Int), ofCell (Value.bool true), C.i false IntKind.u32 (bits BinOp.andNot IntKind.u32 (y.n (38 : Nat)) (1 : Int)),
      C.i false IntKind.u32 (bits BinOp.andNot IntKind.u32 (y.n (39 : Nat)) (1 : Int)), ofCell (Value.int IntKind.i64 (2 : Int)), ofCell (Value.int IntKind.i64 (0 : Int))]) ∧
      (27 : Nat) = (27 : Nat) ∧ (flat [Sp.i IntKind.u32] = true ∧ Row [Sp.i IntKind.u32] [C.i false IntKind.u32 (bits BinOp.or IntKind.u32 (bits BinOp.and IntKind.u32 (bits
      BinOp.xor IntKind.u32 (IntKind.u32.wrap (bits BinOp.andNot IntKind.u32 (y.n (38 : Nat)) (1 : Int) * (2654435761 : Int))) ((bits BinOp.andNot IntKind.u32 (y.n (38 : Nat))
      (1 : Int)).fdiv (128 : Int))) (65535 : Int)) (IntKind.u32.wrap (bits BinOp.xor IntKind.u32 (IntKind.u32.wrap (bits BinOp.andNot IntKind.u32 (y.n (38 : Nat)) (1 : Int) *
      (2654435761 : Int))) ((bits BinOp.andNot IntKind.u32 (y.n (38 : Nat)) (1 : Int)).fdiv (128 : Int)) * (65536 : Int))))]) ∧ ([] : SW) = []) ∧ (IntKind.i64.wrap (y.n (91013 :
      Nat) + (1 : Int)) = y.n (91000 : Nat) ∧ y.n (91061 : Nat) < y.n (91060 : Nat) ∧ y.n (91060 : Nat) = y.n (91001 : Nat) ∧ y.n (36 : Nat) = y.n (91000 : Nat) ∧
      IntKind.u32.wrap (y.n (38 : Nat) + (2 : Int)) = (33554432 : Int) + (2 : Int) * (1 : Int) ∧ (50331648 : Int) = (50331648 : Int) ∧ (65536 : Int) = y.n (91000 : Nat) ∧ MN (1
      : Int) (y.n (91061 : Nat)) (y.n (91000 : Nat)) (y.n (91000 : Nat)) ∧ PLN (y.n (91000 : Nat)) (Int.toNat (1 : Int)) [C.i true IntKind.i64 (3 : Int), ofCell (Value.bool
      true), C.i false IntKind.u32 (bits BinOp.andNot IntKind.u32 (y.n (38 : Nat)) (1 : Int)), C.i false IntKind.u32 (bits BinOp.andNot IntKind.u32 (y.n (39 : Nat)) (1 : Int)),
      ofCell (Value.int IntKind.i64 (2 : Int)), ofCell (Value.int IntKind.i64 (0 : Int))] [C.i false IntKind.u32 (bits BinOp.or IntKind.u32 (bits BinOp.and IntKind.u32 (bits
      BinOp.xor IntKind.u32 (IntKind.u32.wrap (bits BinOp.andNot IntKind.u32 (y.n (38 : Nat)) (1 : Int) * (2654435761 : Int))) ((bits BinOp.andNot IntKind.u32 (y.n (38 : Nat))
      (1 : Int)).fdiv (128 : Int))) (65535 : Int)) (IntKind.u32.wrap (bits BinOp.xor IntKind.u32 (IntKind.u32.wrap (bits BinOp.andNot IntKind.u32 (y.n (38 : Nat)) (1 : Int) *
      (2654435761 : Int))) ((bits BinOp.andNot IntKind.u32 (y.n (38 : Nat)) (1 : Int)).fdiv (128 : Int)) * (65536 : Int))))] (1 : Int) (1 : Int)) ∧ ((100 : Int) * ((6 : Int) -
      y.n (91061 : Nat))).toNat < ((100 : Int) * ((6 : Int) - y.n (91061 : Nat)) + (30 : Int) - y.n (91013 : Nat)).toNat ∧ True)) ∧ ((bif y.n (36 : Nat) == (0 : Int) then true
      else false) = false → ((y.n (36 : Nat) == (0 : Int)) = true → ((true ^^ true == (y.n (91013 : Nat) == IntKind.i64.wrap (y.n (91000 : Nat) - (1 : Int)))) = true → ([] : SW)
      = [] ∧ True ∧ false = true) ∧ ((true ^^ true == (y.n (91013 : Nat) == IntKind.i64.wrap (y.n (91000 : Nat) - (1 : Int)))) = false → td2 E = td2 E ∧ (147 : Nat) = (147 :
      Nat) ∧ ((((1 : Int) ≤ y.n (91000 : Nat) ∧ y.n (91000 : Nat) ≤ (20 : Int)) ∧ True) ∧ (((1 : Int) ≤ y.n (91001 : Nat) ∧ y.n (91001 : Nat) ≤ (5 : Int)) ∧ True) ∧ True ∧ True
      ∧ True ∧ True ∧ True ∧ (((0 : Int) ≤ y.n (91061 : Nat) ∧ y.n (91061 : Nat) ≤ (5 : Int)) ∧ True) ∧ (((0 : Int) ≤ IntKind.i64.wrap (y.n (91013 : Nat) + (1 : Int)) ∧
      IntKind.i64.wrap (y.n (91013 : Nat) + (1 : Int)) ≤ (20 : Int)) ∧ True) ∧ True) ∧ ((62 : Nat) = (62 : Nat) ∧ True ∧ (38 : Nat) = (38 : Nat) ∧ True ∧ (48 : Nat) = (48 : Nat)
      ∧ (flat plS = true ∧ Row plS [C.i true IntKind.i64 (3 : Int), ofCell (Value.bool true), C.i false IntKind.u32 (bits BinOp.andNot IntKind.u32 (y.n (38 : Nat)) (1 : Int)),
      C.i false IntKind.u32 (bits BinOp.andNot IntKind.u32 (y.n (39 : Nat)) (1 : Int)), ofCell (Value.int IntKind.i64 (2 : Int)), ofCell (Value.int IntKind.i64 (0 : Int))]) ∧
      (27 : Nat) = (27 : Nat) ∧ (flat [Sp.i IntKind.u32] = true ∧ Row [Sp.i IntKind.u32] [C.i false IntKind.u32 (bits BinOp.or IntKind.u32 (bits BinOp.and IntKind.u32 (bits
      BinOp.xor IntKind.u32 (IntKind.u32.wrap (bits BinOp.andNot IntKind.u32 (y.n (38 : Nat)) (1 : Int) * (2654435761 : Int))) ((bits BinOp.andNot IntKind.u32 (y.n (38 : Nat))
      (1 : Int)).fdiv (128 : Int))) (65535 : Int)) (IntKind.u32.wrap (bits BinOp.xor IntKind.u32 (IntKind.u32.wrap (bits BinOp.andNot IntKind.u32 (y.n (38 : Nat)) (1 : Int) *
      (2654435761 : Int))) ((bits BinOp.andNot IntKind.u32 (y.n (38 : Nat)) (1 : Int)).fdiv (128 : Int)) * (65536 : Int))))]) ∧ ([] : SW) = []) ∧ (IntKind.i64.wrap (y.n (91013 :
      Nat) + (1 : Int)) = y.n (91000 : Nat) ∧ y.n (91061 : Nat) < y.n (91060 : Nat) ∧ y.n (91060 : Nat) = y.n (91001 : Nat) ∧ y.n (36 : Nat) = y.n (91000 : Nat) ∧
      IntKind.u32.wrap (y.n (38 : Nat) + (2 : Int)) = (33554432 : Int) + (2 : Int) * (1 : Int) ∧ (50331648 : Int) = (50331648 : Int) ∧ (16384 : Int) = y.n (91000 : Nat) ∧ MN (1
      : Int) (y.n (91061 : Nat)) (y.n (91000 : Nat)) (y.n (91000 : Nat)) ∧ PLN (y.n (91000 : Nat)) (Int.toNat (1 : Int)) [C.i true IntKind.i64 (3 : Int), ofCell (Value.bool
      true), C.i false IntKind.u32 (bits BinOp.andNot IntKind.u32 (y.n (38 : Nat)) (1 : Int)), C.i false IntKind.u32 (bits BinOp.andNot IntKind.u32 (y.n (39 : Nat)) (1 : Int)),
      ofCell (Value.int IntKind.i64 (2 : Int)), ofCell (Value.int IntKind.i64 (0 : Int))] [C.i false IntKind.u32 (bits BinOp.or IntKind.u32 (bits BinOp.and IntKind.u32 (bits
      BinOp.xor IntKind.u32 (IntKind.u32.wrap (bits BinOp.andNot IntKind.u32 (y.n (38 : Nat)) (1 : Int) * (2654435761 : Int))) ((bits BinOp.andNot IntKind.u32 (y.n (38 : Nat))
      (1 : Int)).fdiv (128 : Int))) (65535 : Int)) (IntKind.u32.wrap (bits BinOp.xor IntKind.u32 (IntKind.u32.wrap (bits BinOp.andNot IntKind.u32 (y.n (38 : Nat)) (1 : Int) *
      (2654435761 : Int))) ((bits BinOp.andNot IntKind.u32 (y.n (38 : Nat)) (1 : Int)).fdiv (128 : Int)) * (65536 : Int))))] (1 : Int) (1 : Int)) ∧ ((100 : Int) * ((6 : Int) -
      y.n (91061 : Nat))).toNat < ((100 : Int) * ((6 : Int) - y.n (91061 : Nat)) + (30 : Int) - y.n (91013 : Nat)).toNat ∧ True)) ∧ ((y.n (36 : Nat) == (0 : Int)) = false →
      ((true ^^ true == (y.n (91013 : Nat) == IntKind.i64.wrap (y.n (91000 : Nat) - (1 : Int)))) = true → ([] : SW) = [] ∧ True ∧ false = true) ∧ ((true ^^ true == (y.n (91013 :
      Nat) == IntKind.i64.wrap (y.n (91000 : Nat) - (1 : Int)))) = false → td2 E = td2 E ∧ (147 : Nat) = (147 : Nat) ∧ ((((1 : Int) ≤ y.n (91000 : Nat) ∧ y.n (91000 : Nat) ≤ (20
      : Int)) ∧ True) ∧ (((1 : Int) ≤ y.n (91001 : Nat) ∧ y.n (91001 : Nat) ≤ (5 : Int)) ∧ True) ∧ True ∧ True ∧ True ∧ True ∧ True ∧ (((0 : Int) ≤ y.n (91061 : Nat) ∧ y.n
      (91061 : Nat) ≤ (5 : Int)) ∧ True) ∧ (((0 : Int) ≤ IntKind.i64.wrap (y.n (91013 : Nat) + (1 : Int)) ∧ IntKind.i64.wrap (y.n (91013 : Nat) + (1 : Int)) ≤ (20 : Int)) ∧
      True) ∧ True) ∧ ((62 : Nat) = (62 : Nat) ∧ True ∧ (38 : Nat) = (38 : Nat) ∧ True ∧ (48 : Nat) = (48 : Nat) ∧ (flat plS = true ∧ Row plS [C.i true IntKind.i64 (3 : Int),
      ofCell (Value.bool true), C.i false IntKind.u32 (bits BinOp.andNot IntKind.u32 (y.n (38 : Nat)) (1 : Int)), C.i false IntKind.u32 (bits BinOp.andNot IntKind.u32 (y.n (39 :
      Nat)) (1 : Int)), ofCell (Value.int IntKind.i64 (2 : Int)), ofCell (Value.int IntKind.i64 (0 : Int))]) ∧ (27 : Nat) = (27 : Nat) ∧ (flat [Sp.i IntKind.u32] = true ∧ Row
      [Sp.i IntKind.u32] [C.i false IntKind.u32 (bits BinOp.or IntKind.u32 (bits BinOp.and IntKind.u32 (bits BinOp.xor IntKind.u32 (IntKind.u32.wrap (bits BinOp.andNot
      IntKind.u32 (y.n (38 : Nat)) (1 : Int) * (2654435761 : Int))) ((bits BinOp.andNot IntKind.u32 (y.n (38 : Nat)) (1 : Int)).fdiv (128 : Int))) (65535 : Int))
      (IntKind.u32.wrap (bits BinOp.xor IntKind.u32 (IntKind.u32.wrap (bits BinOp.andNot IntKind.u32 (y.n (38 : Nat)) (1 : Int) * (2654435761 : Int))) ((bits BinOp.andNot
      IntKind.u32 (y.n (38 : Nat)) (1 : Int)).fdiv (128 : Int)) * (65536 : Int))))]) ∧ ([] : SW) = []) ∧ (IntKind.i64.wrap (y.n (91013 : Nat) + (1 : Int)) = y.n (91000 : Nat) ∧
      y.n (91061 : Nat) < y.n (91060 : Nat) ∧ y.n (91060 : Nat) = y.n (91001 : Nat) ∧ y.n (36 : Nat) = y.n (91000 : Nat) ∧ IntKind.u32.wrap (y.n (38 : Nat) + (2 : Int)) =
      (33554432 : Int) + (2 : Int) * (1 : Int) ∧ (50331648 : Int) = (50331648 : Int) ∧ IntKind.i64.wrap (y.n (36 : Nat)) = y.n (91000 : Nat) ∧ MN (1 : Int) (y.n (91061 : Nat))
      (y.n (91000 : Nat)) (y.n (91000 : Nat)) ∧ PLN (y.n (91000 : Nat)) (Int.toNat (1 : Int)) [C.i true IntKind.i64 (3 : Int), ofCell (Value.bool true), C.i false IntKind.u32
      (bits BinOp.andNot IntKind.u32 (y.n (38 : Nat)) (1 : Int)), C.i false IntKind.u32 (bits BinOp.andNot IntKind.u32 (y.n (39 : Nat)) (1 : Int)), ofCell (Value.int IntKind.i64
      (2 : Int)), ofCell (Value.int IntKind.i64 (0 : Int))] [C.i false IntKind.u32 (bits BinOp.or IntKind.u32 (bits BinOp.and IntKind.u32 (bits BinOp.xor IntKind.u32
      (IntKind.u32.wrap (bits BinOp.andNot IntKind.u32 (y.n (38 : Nat)) (1 : Int) * (2654435761 : Int))) ((bits BinOp.andNot IntKind.u32 (y.n (38 : Nat)) (1 : Int)).fdiv (128 :
      Int))) (65535 : Int)) (IntKind.u32.wrap (bits BinOp.xor IntKind.u32 (IntKind.u32.wrap (bits BinOp.andNot IntKind.u32 (y.n (38 : Nat)) (1 : Int) * (2654435761 : Int)))
      ((bits BinOp.andNot IntKind.u32 (y.n (38 : Nat)) (1 : Int)).fdiv (128 : Int)) * (65536 : Int))))] (1 : Int) (1 : Int)) ∧ ((100 : Int) * ((6 : Int) - y.n (91061 :
      Nat))).toNat < ((100 : Int) * ((6 : Int) - y.n (91061 : Nat)) + (30 : Int) - y.n (91013 : Nat)).toNat ∧ True))))) := by kernel_rfl
set_option maxHeartbeats 8000000 in
theorem rep_q2 (E : World) (n times how : Int) (z : PX) (hp : (fun _ => True) z) (y : PX) (hy1 : rgM y [uM 37472 true true, tN] 0) (hy2 : rgF y [(0, .r .i64 (1) (20)), (1, .r .i64 (1) (5)), (7, .c (.b true true)), (8, .c (.i true .i64 1)), (9, .c (.p 0 0)), (10, .c (.p 1 0)), (60, .i .i64), (61, .r .i64 (0) (5)), (13, .r .i64 (0) (20))]) (hy3 : (fun y => y.n 91061 = 0 ∧ y.n 91061 < y.n 91060 ∧ y.n 91013 = 0 ∧ y.n 91060 = y.n 91001 ∧ y.n 36 = y.n 91000 ∧ y.n 38 = 33554432 ∧ y.n 39 = 50331648 ∧ y.n 40 = y.n 91000) y) : Holds ((run (pe E) (orcA E) (tabL fns) 20000 (2 ^ 200 - 1) (td2 E) (mkL Try.f7.ntmps (slC y [(0, .r .i64 (1) (20)), (1, .r .i64 (1) (5)), (7, .c (.b true true)), (8, .c (.i true .i64 1)), (9, .c (.p 0 0)), (10, .c (.p 1 0)), (60, .i .i64), (61, .r .i64 (0) (5)), (13, .r .i64 (0) (20))])) (mkM y [] [uM 37472 true true, tN] 0)).OK (lfP (pe E) Try.f7 (endR ([] : List MB).length [] (.c .b) (fun _ y => y.b 90000 = true) z) (headR ([] : List MB).length Try.f7.ntmps (some ((fun y => (100 * (6 - y.n 91061) + 30 - y.n 91013).toNat) y)) (rep_hs E n times how z)))) := by
  refine loopW_lfH [some true] ⟨?_⟩
  rw [rep_r2]
  have hf : (((1) ≤ y.n 91000 ∧ y.n 91000 ≤ (20)) ∧ True) ∧ (((1) ≤ y.n 91001 ∧ y.n 91001 ≤ (5)) ∧ True) ∧ True ∧ True ∧ True ∧ True ∧ True ∧ (((0) ≤ y.n 91061 ∧ y.n 91061 ≤ (5)) ∧ True) ∧ (((0) ≤ y.n 91013 ∧ y.n 91013 ≤ (20)) ∧ True) ∧ True := hy2
  obtain ⟨⟨g0, _⟩, ⟨g1, _⟩, _, _, _, _, _, ⟨g61, _⟩, ⟨g13, _⟩, _⟩ := hf
  obtain ⟨h0, ht, i0, e60, e36, e38, e39, e40⟩ := hy3
  have ea : bits .andNot .u32 (y.n 38) 1 = 33554432 := by rw [al2 _ (by omega) (by omega) (by omega)]; exact e38
  have eb : bits .andNot .u32 (y.n 39) 1 = 50331648 := by rw [al2 _ (by omega) (by omega) (by omega)]; exact e39
  have w2 : IntKind.i64.wrap (y.n 91013 + 1) = 1 := by rw [wi64]; omega
  have w3 : IntKind.i64.wrap (y.n 91000 - 1) = y.n 91000 - 1 := by rw [wi64]; omega
  have w4 : IntKind.i64.wrap (y.n 40 - 1) = y.n 91000 - 1 := by rw [wi64, e40]; omega
  have w5 : IntKind.u32.wrap (y.n 38 + 2) = 33554432 + 2 * 1 := by rw [wu32, e38]; omega
  have w6 : IntKind.u32.wrap (y.n 39 + 2) = 50331648 + 2 * 1 := by rw [wu32, e39]; omega
  have w7 : IntKind.i64.wrap (y.n 36) = y.n 91000 := by rw [wi64, e36]; omega
  have c36 : (y.n 36 == 0) = false := by simp; omega
  have h2 : decide ((33554432 : Int) ≥ 33554432) = true := by decide
  have hf : flat plS = true := rfl
  have hf2 : flat [Sp.i IntKind.u32] = true := rfl
  have hMn : MN 1 (y.n 91061) (y.n 91000) 1 := by rw [h0]; exact ⟨by omega⟩
  have hPn := fun v => pln_one (n := y.n 91000) (v := v) (by omega)
  simp only [ea, eb, w2, w3, w4, w5, w6, w7, c36, h2, cond_true, cond_false, Bool.and_self, Bool.true_eq_false, Bool.false_eq_true, false_implies, true_implies, forall_const, and_true, true_and, hf, hf2, r1p, r1w]
  clear w2 w3 w4 w5 w6 w7 ea eb
  refine ⟨fun h => ⟨fun h' => ?_, fun h' => ?_⟩, fun h => ⟨fun h' => ?_, fun h' => ?_⟩⟩
  · exfalso; simp at h h'; omega
  · replace h := of_decide_eq_true h
    (repeat' apply And.intro) <;> first | assumption | omega | trivial | exact hPn | exact hPn _ | exact hMn | exact hMe
  · exfalso; simp at h h'; omega
  · replace h := of_decide_eq_false h
    have hMe : MN 1 (y.n 91061) (y.n 91000) (y.n 91000) := mn_end' hMn (by omega)
    (repeat' apply And.intro) <;> first | assumption | omega | trivial | exact hPn | exact hPn _ | exact hMn | exact hMe
theorem rep_r3 (E : World) (n times how : Int) (z : PX) (y : PX) :
    (loopW (pe E) Try.f7 (endR ([] : List MB).length [] (.c .b) (fun _ y => y.b 90000 = true) z) (headR ([] : List MB).length Try.f7.ntmps (some ((fun y => (100 * (6 - y.n 91061) + 30 - y.n 91013).toNat) y)) (rep_hs E n times how z)) [some true, some true] (run (pe E) (orcA E) (tabL fns) 20000 (2 ^ 200 - 1) (td2 E) (mkL Try.f7.ntmps (slC y [(0, .r .i64 (1) (20)), (1, .r .i64 (1) (5)), (7, .c (.b true true)), (8, .c (.i true .i64 1)), (9, .c (.p 0 0)), (10, .c (.p 1 0)), (60, .i .i64), (61, .r .i64 (0) (5)), (13, .r .i64 (0) (20))])) (mkM y [] [uM 37472 true false, tW, pR, wR] 0))) =
    (decide (bits BinOp.andNot IntKind.u32 (y.n (38 : Nat)) (1 : Int) ≥ (33554432 : Int)) = true ∧ decide ((0 : Nat) < (y.n (100000 : Nat)).toNat) = true ∧ decide ((y.n (100000
      : Nat)).toNat * (6 : Nat) ≤ (y.l (2 : Nat)).length) = true ∧ decide ((y.n (100000 : Nat)).toNat + (1 : Nat) ≤ (1099511627776 : Nat)) = true ∧ decide (((y.n (100000 :
      Nat)).toNat + (1 : Nat)) * (40 : Nat) ≤ (1099511627776 : Nat)) = true ∧ (bif decide ((↑((y.n (100000 : Nat)).toNat + (1 : Nat)) : Int) > (↑(y.n (100001 : Nat)).toNat :
      Int)) then inB (IntKind.i64.wrap ((↑((y.n (100000 : Nat)).toNat + (1 : Nat)) : Int) - (1 : Int))) ((y.n (100000 : Nat)).toNat + (1 : Nat)) && rOk (rApp (y.l (2 : Nat))
      ((y.n (100000 : Nat)).toNat * (6 : Nat)) [C.i true IntKind.i64 (3 : Int), ofCell (Value.bool true), C.i false IntKind.u32 (bits BinOp.andNot IntKind.u32 (y.n (38 : Nat))
      (1 : Int)), C.i true IntKind.u32 (0 : Int), ofCell (Value.int IntKind.i64 (2 : Int)), ofCell (Value.int IntKind.i64 (1 : Int))]) ((IntKind.i64.wrap ((↑((y.n (100000 :
      Nat)).toNat + (1 : Nat)) : Int) - (1 : Int))).toNat * (6 : Nat)) (EK.i IntKind.i64) else true) = true ∧ (bif bif decide ((↑((y.n (100000 : Nat)).toNat + (1 : Nat)) : Int)
      > (↑(y.n (100001 : Nat)).toNat : Int)) then rI (rApp (y.l (2 : Nat)) ((y.n (100000 : Nat)).toNat * (6 : Nat)) [C.i true IntKind.i64 (3 : Int), ofCell (Value.bool true),
      C.i false IntKind.u32 (bits BinOp.andNot IntKind.u32 (y.n (38 : Nat)) (1 : Int)), C.i true IntKind.u32 (0 : Int), ofCell (Value.int IntKind.i64 (2 : Int)), ofCell
      (Value.int IntKind.i64 (1 : Int))]) ((IntKind.i64.wrap ((↑((y.n (100000 : Nat)).toNat + (1 : Nat)) : Int) - (1 : Int))).toNat * (6 : Nat)) == (3 : Int) else false then inB
      (IntKind.i64.wrap ((↑((y.n (100000 : Nat)).toNat + (1 : Nat)) : Int) - (1 : Int))) ((y.n (100000 : Nat)).toNat + (1 : Nat)) && rOk (rApp (y.l (2 : Nat)) ((y.n (100000 :
      Nat)).toNat * (6 : Nat)) [C.i true IntKind.i64 (3 : Int), ofCell (Value.bool true), C.i false IntKind.u32 (bits BinOp.andNot IntKind.u32 (y.n (38 : Nat)) (1 : Int)), C.i
      true IntKind.u32 (0 : Int), ofCell (Value.int IntKind.i64 (2 : Int)), ofCell (Value.int IntKind.i64 (1 : Int))]) ((IntKind.i64.wrap ((↑((y.n (100000 : Nat)).toNat + (1 :
      Nat)) : Int) - (1 : Int))).toNat * (6 : Nat) + (4 : Nat)) (EK.i IntKind.i64) else true) = true ∧ (bif bif bif decide ((↑((y.n (100000 : Nat)).toNat + (1 : Nat)) : Int) >
      (↑(y.n (100001 : Nat)).toNat : Int)) then rI (rApp (y.l (2 : Nat)) ((y.n (100000 : Nat)).toNat * (6 : Nat)) [C.i true IntKind.i64 (3 : Int), ofCell (Value.bool true), C.i
      false IntKind.u32 (bits BinOp.andNot IntKind.u32 (y.n (38 : Nat)) (1 : Int)), C.i true IntKind.u32 (0 : Int), ofCell (Value.int IntKind.i64 (2 : Int)), ofCell (Value.int
      IntKind.i64 (1 : Int))]) ((IntKind.i64.wrap ((↑((y.n (100000 : Nat)).toNat + (1 : Nat)) : Int) - (1 : Int))).toNat * (6 : Nat)) == (3 : Int) else false then rI (rApp (y.l
      (2 : Nat)) ((y.n (100000 : Nat)).toNat * (6 : Nat)) [C.i true IntKind.i64 (3 : Int), ofCell (Value.bool true), C.i false IntKind.u32 (bits BinOp.andNot IntKind.u32 (y.n
      (38 : Nat)) (1 : Int)), C.i true IntKind.u32 (0 : Int), ofCell (Value.int IntKind.i64 (2 : Int)), ofCell (Value.int IntKind.i64 (1 : Int))]) ((IntKind.i64.wrap ((↑((y.n
      (100000 : Nat)).toNat + (1 : Nat)) : Int) - (1 : Int))).toNat * (6 : Nat) + (4 : Nat)) == (2 : Int) else false then inB (IntKind.i64.wrap ((↑((y.n (100000 : Nat)).toNat +
      (1 : Nat)) : Int) - (1 : Int))) ((y.n (100000 : Nat)).toNat + (1 : Nat)) && rOk (rApp (y.l (2 : Nat)) ((y.n (100000 : Nat)).toNat * (6 : Nat)) [C.i true IntKind.i64 (3 :
      Int), ofCell (Value.bool true), C.i false IntKind.u32 (bits BinOp.andNot IntKind.u32 (y.n (38 : Nat)) (1 : Int)), C.i true IntKind.u32 (0 : Int), ofCell (Value.int
      IntKind.i64 (2 : Int)), ofCell (Value.int IntKind.i64 (1 : Int))]) ((IntKind.i64.wrap ((↑((y.n (100000 : Nat)).toNat + (1 : Nat)) : Int) - (1 : Int))).toNat * (6 : Nat) +
      (5 : Nat)) (EK.i IntKind.i64) else true) = true ∧ (bif bif bif decide ((↑((y.n (100000 : Nat)).toNat + (1 : Nat)) : Int) > (↑(y.n (100001 : Nat)).toNat : Int)) then rI
      (rApp (y.l (2 : Nat)) ((y.n (100000 : Nat)).toNat * (6 : Nat)) [C.i true IntKind.i64 (3 : Int), ofCell (Value.bool true), C.i false IntKind.u32 (bits BinOp.andNot
      IntKind.u32 (y.n (38 : Nat)) (1 : Int)), C.i true IntKind.u32 (0 : Int), ofCell (Value.int IntKind.i64 (2 : Int)), ofCell (Value.int IntKind.i64 (1 : Int))])
      ((IntKind.i64.wrap ((↑((y.n (100000 : Nat)).toNat + (1 : Nat)) : Int) - (1 : Int))).toNat * (6 : Nat)) == (3 : Int) else false then rI (rApp (y.l (2 : Nat)) ((y.n (100000
      : Nat)).toNat * (6 : Nat)) [C.i true IntKind.i64 (3 : Int), ofCell (Value.bool true), C.i false IntKind.u32 (bits BinOp.andNot IntKind.u32 (y.n (38 : Nat)) (1 : Int)), C.i
      true IntKind.u32 (0 : Int), ofCell (Value.int IntKind.i64 (2 : Int)), ofCell (Value.int IntKind.i64 (1 : Int))]) ((IntKind.i64.wrap ((↑((y.n (100000 : Nat)).toNat + (1 :
      Nat)) : Int) - (1 : Int))).toNat * (6 : Nat) + (4 : Nat)) == (2 : Int) else false then rI (rApp (y.l (2 : Nat)) ((y.n (100000 : Nat)).toNat * (6 : Nat)) [C.i true
      IntKind.i64 (3 : Int), ofCell (Value.bool true), C.i false IntKind.u32 (bits BinOp.andNot IntKind.u32 (y.n (38 : Nat)) (1 : Int)), C.i true IntKind.u32 (0 : Int), ofCell
      (Value.int IntKind.i64 (2 : Int)), ofCell (Value.int IntKind.i64 (1 : Int))]) ((IntKind.i64.wrap ((↑((y.n (100000 : Nat)).toNat + (1 : Nat)) : Int) - (1 : Int))).toNat *
      (6 : Nat) + (5 : Nat)) == (1 : Int) else false) = true ∧ inB (IntKind.i64.wrap ((↑((y.n (100000 : Nat)).toNat + (1 : Nat)) : Int) - (1 : Int))) ((y.n (100000 : Nat)).toNat
      + (1 : Nat)) = true ∧ decide ((IntKind.i64.wrap ((↑((y.n (100000 : Nat)).toNat + (1 : Nat)) : Int) - (1 : Int))).toNat * (6 : Nat) + (3 : Nat) + (1 : Nat) ≤ (rApp (y.l (2
      : Nat)) ((y.n (100000 : Nat)).toNat * (6 : Nat)) [C.i true IntKind.i64 (3 : Int), ofCell (Value.bool true), C.i false IntKind.u32 (bits BinOp.andNot IntKind.u32 (y.n (38 :
      Nat)) (1 : Int)), C.i true IntKind.u32 (0 : Int), ofCell (Value.int IntKind.i64 (2 : Int)), ofCell (Value.int IntKind.i64 (1 : Int))]).length) = true ∧ decide ((0 : Nat) <
      (y.n (100001 : Nat)).toNat) = true ∧ decide ((y.n (100001 : Nat)).toNat * (1 : Nat) ≤ (y.l (3 : Nat)).length) = true ∧ decide ((y.n (100001 : Nat)).toNat + (1 : Nat) ≤
      (1099511627776 : Nat)) = true ∧ decide (((y.n (100001 : Nat)).toNat + (1 : Nat)) * (4 : Nat) ≤ (1099511627776 : Nat)) = true ∧ (decide (IntKind.i64.wrap (y.n (40 : Nat) -
      (1 : Int)) > (0 : Int)) = true → ((true ^^ false == (y.n (91013 : Nat) == IntKind.i64.wrap (y.n (91000 : Nat) - (1 : Int)))) = true → ([] : SW) = [] ∧ True ∧ false = true)
      ∧ ((true ^^ false == (y.n (91013 : Nat) == IntKind.i64.wrap (y.n (91000 : Nat) - (1 : Int)))) = false → td2 E = td2 E ∧ (147 : Nat) = (147 : Nat) ∧ ((((1 : Int) ≤ y.n
      (91000 : Nat) ∧ y.n (91000 : Nat) ≤ (20 : Int)) ∧ True) ∧ (((1 : Int) ≤ y.n (91001 : Nat) ∧ y.n (91001 : Nat) ≤ (5 : Int)) ∧ True) ∧ True ∧ True ∧ True ∧ True ∧ True ∧
      (((0 : Int) ≤ y.n (91061 : Nat) ∧ y.n (91061 : Nat) ≤ (5 : Int)) ∧ True) ∧ (((0 : Int) ≤ IntKind.i64.wrap (y.n (91013 : Nat) + (1 : Int)) ∧ IntKind.i64.wrap (y.n (91013 :
      Nat) + (1 : Int)) ≤ (20 : Int)) ∧ True) ∧ True) ∧ ((62 : Nat) = (62 : Nat) ∧ True ∧ (38 : Nat) = (38 : Nat) ∧ True ∧ (48 : Nat) = (48 : Nat) ∧ (flat plS = true ∧ Row plS
      (rSet (rApp (y.l (2 : Nat)) ((y.n (100000 : Nat)).toNat * (6 : Nat)) [C.i true IntKind.i64 (3 : Int), ofCell (Value.bool true), C.i false IntKind.u32 (bits BinOp.andNot
      IntKind.u32 (y.n (38 : Nat)) (1 : Int)), C.i true IntKind.u32 (0 : Int), ofCell (Value.int IntKind.i64 (2 : Int)), ofCell (Value.int IntKind.i64 (1 : Int))])
      ((IntKind.i64.wrap ((↑((y.n (100000 : Nat)).toNat + (1 : Nat)) : Int) - (1 : Int))).toNat * (6 : Nat) + (3 : Nat)) [C.i false IntKind.u32 (bits BinOp.andNot IntKind.u32
      (y.n (39 : Nat)) (1 : Int))])) ∧ (27 : Nat) = (27 : Nat) ∧ (flat [Sp.i IntKind.u32] = true ∧ Row [Sp.i IntKind.u32] (rApp (y.l (3 : Nat)) ((y.n (100001 : Nat)).toNat * (1
      : Nat)) [C.i false IntKind.u32 (bits BinOp.or IntKind.u32 (bits BinOp.and IntKind.u32 (bits BinOp.xor IntKind.u32 (IntKind.u32.wrap (bits BinOp.andNot IntKind.u32 (y.n (38
      : Nat)) (1 : Int) * (2654435761 : Int))) ((bits BinOp.andNot IntKind.u32 (y.n (38 : Nat)) (1 : Int)).fdiv (128 : Int))) (65535 : Int)) (IntKind.u32.wrap (bits BinOp.xor
      IntKind.u32 (IntKind.u32.wrap (bits BinOp.andNot IntKind.u32 (y.n (38 : Nat)) (1 : Int) * (2654435761 : Int))) ((bits BinOp.andNot IntKind.u32 (y.n (38 : Nat)) (1 :
      Int)).fdiv (128 : Int)) * (65536 : Int))))])) ∧ ([] : SW) = []) ∧ (((1 : Int) ≤ IntKind.i64.wrap (y.n (91013 : Nat) + (1 : Int)) ∧ IntKind.i64.wrap (y.n (91013 : Nat) + (1
      : Int)) < y.n (91000 : Nat)) ∧ y.n (91061 : Nat) < y.n (91060 : Nat) ∧ y.n (91060 : Nat) = y.n (91001 : Nat) ∧ y.n (36 : Nat) = y.n (91000 : Nat) ∧ IntKind.u32.wrap (y.n
      (38 : Nat) + (2 : Int)) = (33554432 : Int) + (2 : Int) * (↑((y.n (100000 : Nat)).toNat + (1 : Nat)) : Int) ∧ IntKind.u32.wrap (y.n (39 : Nat) + (2 : Int)) = (50331648 :
      Int) + (2 : Int) * IntKind.i64.wrap (y.n (91013 : Nat) + (1 : Int)) ∧ IntKind.i64.wrap (y.n (40 : Nat) - (1 : Int)) = y.n (91000 : Nat) - IntKind.i64.wrap (y.n (91013 :
      Nat) + (1 : Int)) ∧ MN (↑((y.n (100000 : Nat)).toNat + (1 : Nat)) : Int) (y.n (91061 : Nat)) (y.n (91000 : Nat)) (IntKind.i64.wrap (y.n (91013 : Nat) + (1 : Int))) ∧ PLN
      (y.n (91000 : Nat)) (↑((y.n (100000 : Nat)).toNat + (1 : Nat)) : Int).toNat (rSet (rApp (y.l (2 : Nat)) ((y.n (100000 : Nat)).toNat * (6 : Nat)) [C.i true IntKind.i64 (3 :
      Int), ofCell (Value.bool true), C.i false IntKind.u32 (bits BinOp.andNot IntKind.u32 (y.n (38 : Nat)) (1 : Int)), C.i true IntKind.u32 (0 : Int), ofCell (Value.int
      IntKind.i64 (2 : Int)), ofCell (Value.int IntKind.i64 (1 : Int))]) ((IntKind.i64.wrap ((↑((y.n (100000 : Nat)).toNat + (1 : Nat)) : Int) - (1 : Int))).toNat * (6 : Nat) +
      (3 : Nat)) [C.i false IntKind.u32 (bits BinOp.andNot IntKind.u32 (y.n (39 : Nat)) (1 : Int))]) (rApp (y.l (3 : Nat)) ((y.n (100001 : Nat)).toNat * (1 : Nat)) [C.i false
      IntKind.u32 (bits BinOp.or IntKind.u32 (bits BinOp.and IntKind.u32 (bits BinOp.xor IntKind.u32 (IntKind.u32.wrap (bits BinOp.andNot IntKind.u32 (y.n (38 : Nat)) (1 : Int)
      * (2654435761 : Int))) ((bits BinOp.andNot IntKind.u32 (y.n (38 : Nat)) (1 : Int)).fdiv (128 : Int))) (65535 : Int)) (IntKind.u32.wrap (bits BinOp.xor IntKind.u32
      (IntKind.u32.wrap (bits BinOp.andNot IntKind.u32 (y.n (38 : Nat)) (1 : Int) * (2654435761 : Int))) ((bits BinOp.andNot IntKind.u32 (y.n (38 : Nat)) (1 : Int)).fdiv (128 :
      Int)) * (65536 : Int))))]) (↑((y.n (100000 : Nat)).toNat + (1 : Nat)) : Int) (↑((y.n (100001 : Nat)).toNat + (1 : Nat)) : Int)) ∧ ((100 : Int) * ((6 : Int) - y.n (91061 :
      Nat)) + (30 : Int) - IntKind.i64.wrap (y.n (91013 : Nat) + (1 : Int))).toNat < ((100 : Int) * ((6 : Int) - y.n (91061 : Nat)) + (30 : Int) - y.n (91013 : Nat)).toNat ∧
      True)) ∧ (decide (IntKind.i64.wrap (y.n (40 : Nat) - (1 : Int)) > (0 : Int)) = false → ((bif y.n (36 : Nat) == (0 : Int) then true else false) = true → ((true ^^ true ==
      (y.n (91013 : Nat) == IntKind.i64.wrap (y.n (91000 : Nat) - (1 : Int)))) = true → ([] : SW) = [] ∧ True ∧ false = true) ∧ ((true ^^ true == (y.n (91013 : Nat) ==
      IntKind.i64.wrap (y.n (91000 : Nat) - (1 : Int)))) = false → td2 E = td2 E ∧ (147 : Nat) = (147 : Nat) ∧ ((((1 : Int) ≤ y.n (91000 : Nat) ∧ y.n (91000 : Nat) ≤ (20 : Int))
      ∧ True) ∧ (((1 : Int) ≤ y.n (91001 : Nat) ∧ y.n (91001 : Nat) ≤ (5 : Int)) ∧ True) ∧ True ∧ True ∧ True ∧ True ∧ True ∧ (((0 : Int) ≤ y.n (91061 : Nat) ∧ y.n (91061 : Nat)
      ≤ (5 : Int)) ∧ True) ∧ (((0 : Int) ≤ IntKind.i64.wrap (y.n (91013 : Nat) + (1 : Int)) ∧ IntKind.i64.wrap (y.n (91013 : Nat) + (1 : Int)) ≤ (20 : Int)) ∧ True) ∧ True) ∧
      ((62 : Nat) = (62 : Nat) ∧ True ∧ (38 : Nat) = (38 : Nat) ∧ True ∧ (48 : Nat) = (48 : Nat) ∧ (flat plS = true ∧ Row plS (rSet (rApp (y.l (2 : Nat)) ((y.n (100000 :
      Nat)).toNat * (6 : Nat)) [C.i true IntKind.i64 (3 : Int), ofCell (Value.bool true), C.i false IntKind.u32 (bits BinOp.andNot IntKind.u32 (y.n (38 : Nat)) (1 : Int)), C.i
      true IntKind.u32 (0 : Int), ofCell (Value.int IntKind.i64 (2 : Int)), ofCell (Value.int IntKind.i64 (1 : Int))]) ((IntKind.i64.wrap ((↑((y.n (100000 : Nat)).toNat + (1 :
      Nat)) : Int) - (1 : Int))).toNat * (6 : Nat) + (3 : Nat)) [C.i false IntKind.u32 (bits BinOp.andNot IntKind.u32 (y.n (39 : Nat)) (1 : Int))])) ∧ (27 : Nat) = (27 : Nat) ∧
      (flat [Sp.i IntKind.u32] = true ∧ Row [Sp.i IntKind.u32] (rApp (y.l (3 : Nat)) ((y.n (100001 : Nat)).toNat * (1 : Nat)) [C.i false IntKind.u32 (bits BinOp.or IntKind.u32
      (bits BinOp.and IntKind.u32 (bits BinOp.xor IntKind.u32 (IntKind.u32.wrap (bits BinOp.andNot IntKind.u32 (y.n (38 : Nat)) (1 : Int) * (2654435761 : Int))) ((bits
      BinOp.andNot IntKind.u32 (y.n (38 : Nat)) (1 : Int)).fdiv (128 : Int))) (65535 : Int)) (IntKind.u32.wrap (bits BinOp.xor IntKind.u32 (IntKind.u32.wrap (bits BinOp.andNot
      IntKind.u32 (y.n (38 : Nat)) (1 : Int) * (2654435761 : Int))) ((bits BinOp.andNot IntKind.u32 (y.n (38 : Nat)) (1 : Int)).fdiv (128 : Int)) * (65536 : Int))))])) ∧ ([] :
      SW) = []) ∧ (IntKind.i64.wrap (y.n (91013 : Nat) + (1 : Int)) = y.n (91000 : Nat) ∧ y.n (91061 : Nat) < y.n (91060 : Nat) ∧ y.n (91060 : Nat) = y.n (91001 : Nat) ∧ y.n (36
      : Nat) = y.n (91000 : Nat) ∧ IntKind.u32.wrap (y.n (38 : Nat) + (2 : Int)) = (33554432 : Int) + (2 : Int) * (↑((y.n (100000 : Nat)).toNat + (1 : Nat)) : Int) ∧ (50331648 :
      Int) = (50331648 : Int) ∧ (65536 : Int) = y.n (91000 : Nat) ∧ MN (↑((y.n (100000 : Nat)).toNat + (1 : Nat)) : Int) (y.n (91061 : Nat)) (y.n (91000 : Nat)) (y.n (91000 :
      Nat)) ∧ PLN (y.n (91000 : Nat)) (↑((y.n (100000 : Nat)).toNat + (1 : Nat)) : Int).toNat (rSet (rApp (y.l (2 : Nat)) ((y.n (100000 : Nat)).toNat * (6 : Nat)) [C.i true
      IntKind.i64 (3 : Int), ofCell (Value.bool true), C.i false IntKind.u32 (bits BinOp.andNot IntKind.u32 (y.n (38 : Nat)) (1 : Int)), C.i true IntKind.u32 (0 : Int), ofCell
      (Value.int IntKind.i64 (2 : Int)), ofCell (Value.int IntKind.i64 (1 : Int))]) ((IntKind.i64.wrap ((↑((y.n (100000 : Nat)).toNat + (1 : Nat)) : Int) - (1 : Int))).toNat *
      (6 : Nat) + (3 : Nat)) [C.i false IntKind.u32 (bits BinOp.andNot IntKind.u32 (y.n (39 : Nat)) (1 : Int))]) (rApp (y.l (3 : Nat)) ((y.n (100001 : Nat)).toNat * (1 : Nat))
      [C.i false IntKind.u32 (bits BinOp.or IntKind.u32 (bits BinOp.and IntKind.u32 (bits BinOp.xor IntKind.u32 (IntKind.u32.wrap (bits BinOp.andNot IntKind.u32 (y.n (38 : Nat))
      (1 : Int) * (2654435761 : Int))) ((bits BinOp.andNot IntKind.u32 (y.n (38 : Nat)) (1 : Int)).fdiv (128 : Int))) (65535 : Int)) (IntKind.u32.wrap (bits BinOp.xor
      IntKind.u32 (IntKind.u32.wrap (bits BinOp.andNot IntKind.u32 (y.n (38 : Nat)) (1 : Int) * (2654435761 : Int))) ((bits BinOp.andNot IntKind.u32 (y.n (38 : Nat)) (1 :
      Int)).fdiv (128 : Int)) * (65536 : Int))))]) (↑((y.n (100000 : Nat)).toNat + (1 : Nat)) : Int) (↑((y.n (100001 : Nat)).toNat + (1 : Nat)) : Int)) ∧ ((100 : Int) * ((6 :
      Int) - y.n (91061 : Nat))).toNat < ((100 : Int) * ((6 : Int) - y.n (91061 : Nat)) + (30 : Int) - y.n (91013 : Nat)).toNat ∧ True)) ∧ ((bif y.n (36 : Nat) == (0 : Int) then
      true else false) = false → ((y.n (36 : Nat) == (0 : Int)) = true → ((true ^^ true == (y.n (91013 : Nat) == IntKind.i64.wrap (y.n (91000 : Nat) - (1 : Int)))) = true → ([]
      : SW) = [] ∧ True ∧ false = true) ∧ ((true ^^ true == (y.n (91013 : Nat) == IntKind.i64.wrap (y.n (91000 : Nat) - (1 : Int)))) = false → td2 E = td2 E ∧ (147 : Nat) = (147
      : Nat) ∧ ((((1 : Int) ≤ y.n (91000 : Nat) ∧ y.n (91000 : Nat) ≤ (20 : Int)) ∧ True) ∧ (((1 : Int) ≤ y.n (91001 : Nat) ∧ y.n (91001 : Nat) ≤ (5 : Int)) ∧ True) ∧ True ∧
      True ∧ True ∧ True ∧ True ∧ (((0 : Int) ≤ y.n (91061 : Nat) ∧ y.n (91061 : Nat) ≤ (5 : Int)) ∧ True) ∧ (((0 : Int) ≤ IntKind.i64.wrap (y.n (91013 : Nat) + (1 : Int)) ∧
      IntKind.i64.wrap (y.n (91013 : Nat) + (1 : Int)) ≤ (20 : Int)) ∧ True) ∧ True) ∧ ((62 : Nat) = (62 : Nat) ∧ True ∧ (38 : Nat) = (38 : Nat) ∧ True ∧ (48 : Nat) = (48 : Nat)
      ∧ (flat plS = true ∧ Row plS (rSet (rApp (y.l (2 : Nat)) ((y.n (100000 : Nat)).toNat * (6 : Nat)) [C.i true IntKind.i64 (3 : Int), ofCell (Value.bool true), C.i false
      IntKind.u32 (bits BinOp.andNot IntKind.u32 (y.n (38 : Nat)) (1 : Int)), C.i true IntKind.u32 (0 : Int), ofCell (Value.int IntKind.i64 (2 : Int)), ofCell (Value.int
      IntKind.i64 (1 : Int))]) ((IntKind.i64.wrap ((↑((y.n (100000 : Nat)).toNat + (1 : Nat)) : Int) - (1 : Int))).toNat * (6 : Nat) + (3 : Nat)) [C.i false IntKind.u32 (bits
      BinOp.andNot IntKind.u32 (y.n (39 : Nat)) (1 : Int))])) ∧ (27 : Nat) = (27 : Nat) ∧ (flat [Sp.i IntKind.u32] = true ∧ Row [Sp.i IntKind.u32] (rApp (y.l (3 : Nat)) ((y.n
      (100001 : Nat)).toNat * (1 : Nat)) [C.i false IntKind.u32 (bits BinOp.or IntKind.u32 (bits BinOp.and IntKind.u32 (bits BinOp.xor IntKind.u32 (IntKind.u32.wrap (bits
      BinOp.andNot IntKind.u32 (y.n (38 : Nat)) (1 : Int) * (2654435761 : Int))) ((bits BinOp.andNot IntKind.u32 (y.n (38 : Nat)) (1 : Int)).fdiv (128 : Int))) (65535 : Int))
      (IntKind.u32.wrap (bits BinOp.xor IntKind.u32 (IntKind.u32.wrap (bits BinOp.andNot IntKind.u32 (y.n (38 : Nat)) (1 : Int) * (2654435761 : Int))) ((bits BinOp.andNot
      IntKind.u32 (y.n (38 : Nat)) (1 : Int)).fdiv (128 : Int)) * (65536 : Int))))])) ∧ ([] : SW) = []) ∧ (IntKind.i64.wrap (y.n (91013 : Nat) + (1 : Int)) = y.n (91000 : Nat) ∧
      y.n (91061 : Nat) < y.n (91060 : Nat) ∧ y.n (91060 : Nat) = y.n (91001 : Nat) ∧ y.n (36 : Nat) = y.n (91000 : Nat) ∧ IntKind.u32.wrap (y.n (38 : Nat) + (2 : Int)) =
      (33554432 : Int) + (2 : Int) * (↑((y.n (100000 : Nat)).toNat + (1 : Nat)) : Int) ∧ (50331648 : Int) = (50331648 : Int) ∧ (16384 : Int) = y.n (91000 : Nat) ∧ MN (↑((y.n
      (100000 : Nat)).toNat + (1 : Nat)) : Int) (y.n (91061 : Nat)) (y.n (91000 : Nat)) (y.n (91000 : Nat)) ∧ PLN (y.n (91000 : Nat)) (↑((y.n (100000 : Nat)).toNat + (1 : Nat))
      : Int).toNat (rSet (rApp (y.l (2 : Nat)) ((y.n (100000 : Nat)).toNat * (6 : Nat)) [C.i true IntKind.i64 (3 : Int), ofCell (Value.bool true), C.i false IntKind.u32 (bits
      BinOp.andNot IntKind.u32 (y.n (38 : Nat)) (1 : Int)), C.i true IntKind.u32 (0 : Int), ofCell (Value.int IntKind.i64 (2 : Int)), ofCell (Value.int IntKind.i64 (1 : Int))])
      ((IntKind.i64.wrap ((↑((y.n (100000 : Nat)).toNat + (1 : Nat)) : Int) - (1 : Int))).toNat * (6 : Nat) + (3 : Nat)) [C.i false IntKind.u32 (bits BinOp.andNot IntKind.u32
      (y.n (39 : Nat)) (1 : Int))]) (rApp (y.l (3 : Nat)) ((y.n (100001 : Nat)).toNat * (1 : Nat)) [C.i false IntKind.u32 (bits BinOp.or IntKind.u32 (bits BinOp.and IntKind.u32
      (bits BinOp.xor IntKind.u32 (IntKind.u32.wrap (bits BinOp.andNot IntKind.u32 (y.n (38 : Nat)) (1 : Int) * (2654435761 : Int))) ((bits BinOp.andNot IntKind.u32 (y.n (38 :
      Nat)) (1 : Int)).fdiv (128 : Int))) (65535 : Int)) (IntKind.u32.wrap (bits BinOp.xor IntKind.u32 (IntKind.u32.wrap (bits BinOp.andNot IntKind.u32 (y.n (38 : Nat)) (1 :
      Int) * (2654435761 : Int))) ((bits BinOp.andNot IntKind.u32 (y.n (38 : Nat)) (1 : Int)).fdiv (128 : Int)) * (65536 : Int))))]) (↑((y.n (100000 : Nat)).toNat + (1 : Nat)) :
      Int) (↑((y.n (100001 : Nat)).toNat + (1 : Nat)) : Int)) ∧ ((100 : Int) * ((6 : Int) - y.n (91061 : Nat))).toNat < ((100 : Int) * ((6 : Int) - y.n (91061 : Nat)) + (30 :
      Int) - y.n (91013 : Nat)).toNat ∧ True)) ∧ ((y.n (36 : Nat) == (0 : Int)) = false → ((true ^^ true == (y.n (91013 : Nat) == IntKind.i64.wrap (y.n (91000 : Nat) - (1 :
      Int)))) = true → ([] : SW) = [] ∧ True ∧ false = true) ∧ ((true ^^ true == (y.n (91013 : Nat) == IntKind.i64.wrap (y.n (91000 : Nat) - (1 : Int)))) = false → td2 E = td2 E
      ∧ (147 : Nat) = (147 : Nat) ∧ ((((1 : Int) ≤ y.n (91000 : Nat) ∧ y.n (91000 : Nat) ≤ (20 : Int)) ∧ True) ∧ (((1 : Int) ≤ y.n (91001 : Nat) ∧ y.n (91001 : Nat) ≤ (5 : Int))
      ∧ True) ∧ True ∧ True ∧ True ∧ True ∧ True ∧ (((0 : Int) ≤ y.n (91061 : Nat) ∧ y.n (91061 : Nat) ≤ (5 : Int)) ∧ True) ∧ (((0 : Int) ≤ IntKind.i64.wrap (y.n (91013 : Nat) +
      (1 : Int)) ∧ IntKind.i64.wrap (y.n (91013 : Nat) + (1 : Int)) ≤ (20 : Int)) ∧ True) ∧ True) ∧ ((62 : Nat) = (62 : Nat) ∧ True ∧ (38 : Nat) = (38 : Nat) ∧ True ∧ (48 : Nat)
      = (48 : Nat) ∧ (flat plS = true ∧ Row plS (rSet (rApp (y.l (2 : Nat)) ((y.n (100000 : Nat)).toNat * (6 : Nat)) [C.i true IntKind.i64 (3 : Int), ofCell (Value.bool true),
      C.i false IntKind.u32 (bits BinOp.andNot IntKind.u32 (y.n (38 : Nat)) (1 : Int)), C.i true IntKind.u32 (0 : Int), ofCell (Value.int IntKind.i64 (2 : Int)), ofCell
      (Value.int IntKind.i64 (1 : Int))]) ((IntKind.i64.wrap ((↑((y.n (100000 : Nat)).toNat + (1 : Nat)) : Int) - (1 : Int))).toNat * (6 : Nat) + (3 : Nat)) [C.i false
      IntKind.u32 (bits BinOp.andNot IntKind.u32 (y.n (39 : Nat)) (1 : Int))])) ∧ (27 : Nat) = (27 : Nat) ∧ (flat [Sp.i IntKind.u32] = true ∧ Row [Sp.i IntKind.u32] (rApp (y.l
      (3 : Nat)) ((y.n (100001 : Nat)).toNat * (1 : Nat)) [C.i false IntKind.u32 (bits BinOp.or IntKind.u32 (bits BinOp.and IntKind.u32 (bits BinOp.xor IntKind.u32
      (IntKind.u32.wrap (bits BinOp.andNot IntKind.u32 (y.n (38 : Nat)) (1 : Int) * (2654435761 : Int))) ((bits BinOp.andNot IntKind.u32 (y.n (38 : Nat)) (1 : Int)).fdiv (128 :
      Int))) (65535 : Int)) (IntKind.u32.wrap (bits BinOp.xor IntKind.u32 (IntKind.u32.wrap (bits BinOp.andNot IntKind.u32 (y.n (38 : Nat)) (1 : Int) * (2654435761 : Int)))
      ((bits BinOp.andNot IntKind.u32 (y.n (38 : Nat)) (1 : Int)).fdiv (128 : Int)) * (65536 : Int))))])) ∧ ([] : SW) = []) ∧ (IntKind.i64.wrap (y.n (91013 : Nat) + (1 : Int)) =
      y.n (91000 : Nat) ∧ y.n (91061 : Nat) < y.n (91060 : Nat) ∧ y.n (91060 : Nat) = y.n (91001 : Nat) ∧ y.n (36 : Nat) = y.n (91000 : Nat) ∧ IntKind.u32.wrap (y.n (38 : Nat) +
      (2 : Int)) = (33554432 : Int) + (2 : Int) * (↑((y.n (100000 : Nat)).toNat + (1 : Nat)) : Int) ∧ (50331648 : Int) = (50331648 : Int) ∧ IntKind.i64.wrap (y.n (36 : Nat)) =
      y.n (91000 : Nat) ∧ MN (↑((y.n (100000 : Nat)).toNat + (1 : Nat)) : Int) (y.n (91061 : Nat)) (y.n (91000 : Nat)) (y.n (91000 : Nat)) ∧ PLN (y.n (91000 : Nat)) (↑((y.n
      (100000 : Nat)).toNat + (1 : Nat)) : Int).toNat (rSet (rApp (y.l (2 : Nat)) ((y.n (100000 : Nat)).toNat * (6 : Nat)) [C.i true IntKind.i64 (3 : Int), ofCell (Value.bool
      true), C.i false IntKind.u32 (bits BinOp.andNot IntKind.u32 (y.n (38 : Nat)) (1 : Int)), C.i true IntKind.u32 (0 : Int), ofCell (Value.int IntKind.i64 (2 : Int)), ofCell
      (Value.int IntKind.i64 (1 : Int))]) ((IntKind.i64.wrap ((↑((y.n (100000 : Nat)).toNat + (1 : Nat)) : Int) - (1 : Int))).toNat * (6 : Nat) + (3 : Nat)) [C.i false
      IntKind.u32 (bits BinOp.andNot IntKind.u32 (y.n (39 : Nat)) (1 : Int))]) (rApp (y.l (3 : Nat)) ((y.n (100001 : Nat)).toNat * (1 : Nat)) [C.i false IntKind.u32 (bits
      BinOp.or IntKind.u32 (bits BinOp.and IntKind.u32 (bits BinOp.xor IntKind.u32 (IntKind.u32.wrap (bits BinOp.andNot IntKind.u32 (y.n (38 : Nat)) (1 : Int) * (2654435761 :
      Int))) ((bits BinOp.andNot IntKind.u32 (y.n (38 : Nat)) (1 : Int)).fdiv (128 : Int))) (65535 : Int)) (IntKind.u32.wrap (bits BinOp.xor IntKind.u32 (IntKind.u32.wrap (bits
      BinOp.andNot IntKind.u32 (y.n (38 : Nat)) (1 : Int) * (2654435761 : Int))) ((bits BinOp.andNot IntKind.u32 (y.n (38 : Nat)) (1 : Int)).fdiv (128 : Int)) * (65536 :
      Int))))]) (↑((y.n (100000 : Nat)).toNat + (1 : Nat)) : Int) (↑((y.n (100001 : Nat)).toNat + (1 : Nat)) : Int)) ∧ ((100 : Int) * ((6 : Int) - y.n (91061 : Nat))).toNat <
      ((100 : Int) * ((6 : Int) - y.n (91061 : Nat)) + (30 : Int) - y.n (91013 : Nat)).toNat ∧ True))))) := by kernel_rfl
set_option maxHeartbeats 8000000 in
theorem rep_q3 (E : World) (n times how : Int) (z : PX) (hp : (fun _ => True) z) (y : PX) (hy1 : rgM y [uM 37472 true false, tW, pR, wR] 0) (hy2 : rgF y [(0, .r .i64 (1) (20)), (1, .r .i64 (1) (5)), (7, .c (.b true true)), (8, .c (.i true .i64 1)), (9, .c (.p 0 0)), (10, .c (.p 1 0)), (60, .i .i64), (61, .r .i64 (0) (5)), (13, .r .i64 (0) (20))]) (hy3 : (fun y => (1 ≤ y.n 91013 ∧ y.n 91013 < y.n 91000) ∧ y.n 91061 < y.n 91060 ∧ y.n 91060 = y.n 91001 ∧ y.n 36 = y.n 91000 ∧ y.n 38 = 33554432 + 2 * y.n 100000 ∧ y.n 39 = 50331648 + 2 * y.n 91013 ∧ y.n 40 = y.n 91000 - y.n 91013 ∧ MN (y.n 100000) (y.n 91061) (y.n 91000) (y.n 91013) ∧ PLN (y.n 91000) (y.n 100000).toNat (y.l 2) (y.l 3) (y.n 100000) (y.n 100001)) y) : Holds ((run (pe E) (orcA E) (tabL fns) 20000 (2 ^ 200 - 1) (td2 E) (mkL Try.f7.ntmps (slC y [(0, .r .i64 (1) (20)), (1, .r .i64 (1) (5)), (7, .c (.b true true)), (8, .c (.i true .i64 1)), (9, .c (.p 0 0)), (10, .c (.p 1 0)), (60, .i .i64), (61, .r .i64 (0) (5)), (13, .r .i64 (0) (20))])) (mkM y [] [uM 37472 true false, tW, pR, wR] 0)).OK (lfP (pe E) Try.f7 (endR ([] : List MB).length [] (.c .b) (fun _ y => y.b 90000 = true) z) (headR ([] : List MB).length Try.f7.ntmps (some ((fun y => (100 * (6 - y.n 91061) + 30 - y.n 91013).toNat) y)) (rep_hs E n times how z)))) := by
  refine loopW_lfH [some true, some true] ⟨?_⟩
  rw [rep_r3]
  have hf : (((1) ≤ y.n 91000 ∧ y.n 91000 ≤ (20)) ∧ True) ∧ (((1) ≤ y.n 91001 ∧ y.n 91001 ≤ (5)) ∧ True) ∧ True ∧ True ∧ True ∧ True ∧ True ∧ (((0) ≤ y.n 91061 ∧ y.n 91061 ≤ (5)) ∧ True) ∧ (((0) ≤ y.n 91013 ∧ y.n 91013 ≤ (20)) ∧ True) ∧ True := hy2
  obtain ⟨⟨g0, _⟩, ⟨g1, _⟩, _, _, _, _, _, ⟨g61, _⟩, ⟨g13, _⟩, _⟩ := hf
  obtain ⟨⟨i1, i2⟩, ht, e60, e36, e38, e39, e40, hM, hP⟩ := hy3
  have i0 : 0 ≤ y.n 91013 := by omega
  have hR2 : Row plS (y.l 2) := hy1.2.2.1.2
  have hR3 : Row [.i .u32] (y.l 3) := hy1.2.2.2.1.2
  have hf : flat plS = true := rfl
  have hf2 : flat [Sp.i IntKind.u32] = true := rfl
  obtain ⟨mb0, mb1⟩ := mn_bnd hM (by omega) (by omega) (by omega) (by omega) (by omega) (by omega)
  obtain ⟨k, hk⟩ : ∃ k : Nat, y.n 100000 = (k : Int) := ⟨(y.n 100000).toNat, by omega⟩
  have hk0 : 0 < k := by omega
  rw [hk, Int.toNat_natCast] at hP
  rw [hk] at hM e38 mb0 mb1
  have N1 := hP.h1
  have L2 := hP.hl
  have L3 := hP.hm
  have ea : bits .andNot .u32 (y.n 38) 1 = 33554432 + 2 * (k : Int) := by rw [al2 _ (by omega) (by omega) (by omega)]; exact e38
  have eb : bits .andNot .u32 (y.n 39) 1 = 50331648 + 2 * y.n 91013 := by rw [al2 _ (by omega) (by omega) (by omega)]; exact e39
  have t0 : (y.n 100000).toNat = k := by rw [hk]; exact Int.toNat_natCast k
  have t1 : (y.n 100001).toNat = k := by rw [N1]; exact Int.toNat_natCast k
  have w1 : IntKind.i64.wrap (((k + 1 : Nat) : Int) - 1) = (k : Int) := by rw [wi64]; omega
  have w2 : IntKind.i64.wrap (y.n 91013 + 1) = y.n 91013 + 1 := by rw [wi64]; omega
  have w3 : IntKind.i64.wrap (y.n 91000 - 1) = y.n 91000 - 1 := by rw [wi64]; omega
  have w4 : IntKind.i64.wrap (y.n 40 - 1) = y.n 91000 - y.n 91013 - 1 := by rw [wi64, e40]; omega
  have w5 : IntKind.u32.wrap (y.n 38 + 2) = 33554432 + 2 * ((k + 1 : Nat) : Int) := by rw [wu32, e38]; omega
  have w6 : IntKind.u32.wrap (y.n 39 + 2) = 50331648 + 2 * (y.n 91013 + 1) := by rw [wu32, e39]; omega
  have w7 : IntKind.i64.wrap (y.n 36) = y.n 91000 := by rw [wi64, e36]; omega
  have c36 : (y.n 36 == 0) = false := by simp; omega
  have h2 : decide (33554432 + 2 * (k : Int) ≥ 33554432) = true := decide_eq_true (by omega)
  have h3 : decide (((k + 1 : Nat) : Int) > (k : Int)) = true := decide_eq_true (by omega)
  have h4 : inB (k : Int) (k + 1) = true := by simp only [inB, Bool.and_eq_true, decide_eq_true_eq]; omega
  have n1 : decide (0 < k) = true := decide_eq_true hk0
  have n2 : decide (k * 6 ≤ (y.l 2).length) = true := decide_eq_true (by omega)
  have n3 : decide (k + 1 ≤ 1099511627776) = true := decide_eq_true (by omega)
  have n4 : decide ((k + 1) * 40 ≤ 1099511627776) = true := decide_eq_true (by omega)
  have n5 : decide (k * 1 ≤ (y.l 3).length) = true := decide_eq_true (by omega)
  have n6 : decide ((k + 1) * 4 ≤ 1099511627776) = true := decide_eq_true (by omega)
  have n7 : decide (k * 6 + 3 + 1 ≤ k * 6 + 6) = true := decide_eq_true (by omega)
  have b3 : ((3 : Int) == 3) = true := by decide
  have b2 : ((2 : Int) == 2) = true := by decide
  have bq : ((1 : Int) == 1) = true := by decide
  have hPn := fun v => pln_step (n := y.n 91000) (a := 33554432 + 2 * (k : Int)) (q := 1) (b := 50331648 + 2 * y.n 91013) (v := v) hP rfl (by rw [mn_mod hM i0 i2])
  have hMn : MN ((k + 1 : Nat) : Int) (y.n 91061) (y.n 91000) (y.n 91013 + 1) := by have := mn_step hM; rw [show ((k + 1 : Nat) : Int) = (k : Int) + 1 by omega]; exact this
  simp only [hk, ea, eb, t0, t1, w1, w2, w3, w4, w5, w6, w7, c36, Int.toNat_natCast, h2, h3, h4, n1, n2, n3, n4, n5, n6, n7, ap0 L2, ap4 L2, ap5 L2, ao0 L2, ao4 L2, ao5 L2, ap_len L2, b3, b2, bq, cond_true, cond_false, Bool.and_self, Bool.true_eq_false, Bool.false_eq_true, false_implies, true_implies, forall_const, and_true, true_and, hf, hf2, row2 hR2 L2, row3 hR3 L3]
  clear w1 w2 w3 w4 w5 w6 w7 ea eb
  refine ⟨fun h => ⟨fun h' => ?_, fun h' => ?_⟩, fun h => ⟨fun h' => ?_, fun h' => ?_⟩⟩
  · exfalso; clear hPn hMn hP hM hR2 hR3; simp at h h'; omega
  · replace h := of_decide_eq_true h
    (repeat' apply And.intro) <;> first | assumption | omega | trivial | exact hPn | exact hPn _ | exact hMn | exact hMe
  · exfalso; clear hPn hMn hP hM hR2 hR3; simp at h h'; omega
  · replace h := of_decide_eq_false h
    have hMe : MN ((k + 1 : Nat) : Int) (y.n 91061) (y.n 91000) (y.n 91000) := mn_end' hMn (by omega)
    
    (repeat' apply And.intro) <;> first | assumption | omega | trivial | exact hPn | exact hPn _ | exact hMn | exact hMe
theorem rep_r4 (E : World) (n times how : Int) (z : PX) (y : PX) :
    (loopP (pe E) Try.f7 (endR ([] : List MB).length [] (.c .b) (fun _ y => y.b 90000 = true) z) (headR ([] : List MB).length Try.f7.ntmps (some ((fun y => (100 * (6 - y.n 91061) + 60).toNat) y)) (rep_hs E n times how z))  (run (pe E) (orcA E) (tabL fns) 20000 (2 ^ 200 - 1) (td1 E) (mkL Try.f7.ntmps (slC y [(0, .r .i64 (1) (20)), (1, .r .i64 (1) (5)), (7, .c (.b true true)), (8, .c (.i true .i64 1)), (9, .c (.p 0 0)), (10, .c (.p 1 0)), (60, .i .i64), (61, .r .i64 (0) (5))])) (mkM y [] [uM 37472 false true, tW, pR, wR] 0))) =
    ((decide (y.n (91061 : Nat) < y.n (91060 : Nat)) = true → td2 E = td2 E ∧ (147 : Nat) = (147 : Nat) ∧ ((((1 : Int) ≤ y.n (91000 : Nat) ∧ y.n (91000 : Nat) ≤ (20 : Int)) ∧
      True) ∧ (((1 : Int) ≤ y.n (91001 : Nat) ∧ y.n (91001 : Nat) ≤ (5 : Int)) ∧ True) ∧ True ∧ True ∧ True ∧ True ∧ True ∧ (((0 : Int) ≤ y.n (91061 : Nat) ∧ y.n (91061 : Nat) ≤
      (5 : Int)) ∧ True) ∧ (((0 : Int) ≤ (0 : Int) ∧ (0 : Int) ≤ (20 : Int)) ∧ True) ∧ True) ∧ ((62 : Nat) = (62 : Nat) ∧ True ∧ (38 : Nat) = (38 : Nat) ∧ True ∧ (48 : Nat) =
      (48 : Nat) ∧ (flat plS = true ∧ Row plS (y.l (2 : Nat))) ∧ (27 : Nat) = (27 : Nat) ∧ (flat [Sp.i IntKind.u32] = true ∧ Row [Sp.i IntKind.u32] (y.l (3 : Nat))) ∧ ([] : SW)
      = []) ∧ ((0 : Int) = (0 : Int) ∧ (1 : Int) ≤ y.n (91061 : Nat) ∧ y.n (91061 : Nat) < y.n (91060 : Nat) ∧ y.n (91060 : Nat) = y.n (91001 : Nat) ∧ y.n (36 : Nat) = y.n
      (91000 : Nat) ∧ y.n (38 : Nat) = (33554432 : Int) + (2 : Int) * (↑(y.n (100000 : Nat)).toNat : Int) ∧ y.n (39 : Nat) = (50331648 : Int) ∧ y.n (40 : Nat) = y.n (91000 :
      Nat) ∧ MN (↑(y.n (100000 : Nat)).toNat : Int) (y.n (91061 : Nat)) (y.n (91000 : Nat)) (0 : Int) ∧ PLN (y.n (91000 : Nat)) (↑(y.n (100000 : Nat)).toNat : Int).toNat (y.l (2
      : Nat)) (y.l (3 : Nat)) (↑(y.n (100000 : Nat)).toNat : Int) (↑(y.n (100001 : Nat)).toNat : Int)) ∧ ((100 : Int) * ((6 : Int) - y.n (91061 : Nat)) + (30 : Int) - (0 :
      Int)).toNat < ((100 : Int) * ((6 : Int) - y.n (91061 : Nat)) + (60 : Int)).toNat ∧ True) ∧ (decide (y.n (91061 : Nat) < y.n (91060 : Nat)) = false → (((↑(y.n (100000 :
      Nat)).toNat : Int) != IntKind.i64.wrap (y.n (91000 : Nat) * y.n (91001 : Nat))) = true → ([] : SW) = [] ∧ True ∧ false = true) ∧ (((↑(y.n (100000 : Nat)).toNat : Int) !=
      IntKind.i64.wrap (y.n (91000 : Nat) * y.n (91001 : Nat))) = false → td3 E = td3 E ∧ (147 : Nat) = (147 : Nat) ∧ ((((1 : Int) ≤ y.n (91000 : Nat) ∧ y.n (91000 : Nat) ≤ (20
      : Int)) ∧ True) ∧ True ∧ True ∧ (((0 : Int) ≤ (0 : Int) ∧ (0 : Int) ≤ (120 : Int)) ∧ True) ∧ True) ∧ ((48 : Nat) = (48 : Nat) ∧ (flat plS = true ∧ Row plS (y.l (2 : Nat)))
      ∧ ([] : SW) = []) ∧ ((↑(y.n (100000 : Nat)).toNat : Int) = (↑(y.n (100000 : Nat)).toNat : Int) ∧ (0 : Int) ≤ (↑(y.n (100000 : Nat)).toNat : Int) ∧ (↑(y.n (100000 :
      Nat)).toNat : Int) ≤ (120 : Int) ∧ PLD (y.n (91000 : Nat)) (↑(y.n (100000 : Nat)).toNat : Int).toNat (y.l (2 : Nat))) ∧ ((130 : Int) - (0 : Int)).toNat < ((100 : Int) *
      ((6 : Int) - y.n (91061 : Nat)) + (60 : Int)).toNat ∧ True))) := by kernel_rfl
set_option maxHeartbeats 8000000 in
theorem rep_q4 (E : World) (n times how : Int) (z : PX) (hp : (fun _ => True) z) (y : PX) (hy1 : rgM y [uM 37472 false true, tW, pR, wR] 0) (hy2 : rgF y [(0, .r .i64 (1) (20)), (1, .r .i64 (1) (5)), (7, .c (.b true true)), (8, .c (.i true .i64 1)), (9, .c (.p 0 0)), (10, .c (.p 1 0)), (60, .i .i64), (61, .r .i64 (0) (5))]) (hy3 : (fun y => y.n 91061 ≤ y.n 91060 ∧ 1 ≤ y.n 91061 ∧ y.n 91060 = y.n 91001 ∧ y.n 36 = y.n 91000 ∧ y.n 38 = 33554432 + 2 * y.n 100000 ∧ y.n 39 = 50331648 + 2 * 0 ∧ y.n 40 = y.n 91000 ∧ MN (y.n 100000) (y.n 91061) (y.n 91000) 0 ∧ PLN (y.n 91000) (y.n 100000).toNat (y.l 2) (y.l 3) (y.n 100000) (y.n 100001)) y) : Holds ((run (pe E) (orcA E) (tabL fns) 20000 (2 ^ 200 - 1) (td1 E) (mkL Try.f7.ntmps (slC y [(0, .r .i64 (1) (20)), (1, .r .i64 (1) (5)), (7, .c (.b true true)), (8, .c (.i true .i64 1)), (9, .c (.p 0 0)), (10, .c (.p 1 0)), (60, .i .i64), (61, .r .i64 (0) (5))])) (mkM y [] [uM 37472 false true, tW, pR, wR] 0)).OK (lfP (pe E) Try.f7 (endR ([] : List MB).length [] (.c .b) (fun _ y => y.b 90000 = true) z) (headR ([] : List MB).length Try.f7.ntmps (some ((fun y => (100 * (6 - y.n 91061) + 60).toNat) y)) (rep_hs E n times how z)))) := by
  refine loopP_lfH ⟨?_⟩
  rw [rep_r4]
  have hf : (((1) ≤ y.n 91000 ∧ y.n 91000 ≤ (20)) ∧ True) ∧ (((1) ≤ y.n 91001 ∧ y.n 91001 ≤ (5)) ∧ True) ∧ True ∧ True ∧ True ∧ True ∧ True ∧ (((0) ≤ y.n 91061 ∧ y.n 91061 ≤ (5)) ∧ True) ∧ True := hy2
  obtain ⟨⟨g0, _⟩, ⟨g1, _⟩, _, _, _, _, _, ⟨g61, _⟩, _⟩ := hf
  obtain ⟨ht, k1, e60, e36, e38, e39, e40, hM, hP⟩ := hy3
  have hR2 : Row plS (y.l 2) := hy1.2.2.1.2
  have hR3 : Row [.i .u32] (y.l 3) := hy1.2.2.2.1.2
  have hf : flat plS = true := rfl
  have hf2 : flat [Sp.i IntKind.u32] = true := rfl
  obtain ⟨mb0, mb1⟩ := mn_bnd hM (by omega) (by omega) (by omega) (by omega) (by omega) (by omega)
  obtain ⟨k, hk⟩ : ∃ k : Nat, y.n 100000 = (k : Int) := ⟨(y.n 100000).toNat, by omega⟩
  rw [hk, Int.toNat_natCast] at hP
  rw [hk] at hM e38 mb0 mb1
  have N1 := hP.h1
  have t0 : (y.n 100000).toNat = k := by rw [hk]; exact Int.toNat_natCast k
  have t1 : (y.n 100001).toNat = k := by rw [N1]; exact Int.toNat_natCast k
  have hPn : PLN (y.n 91000) k (y.l 2) (y.l 3) (k : Int) (k : Int) := ⟨hP.hl, hP.hm, rfl, rfl, hP.he⟩
  have hMe : PLD (y.n 91000) k (y.l 2) := ⟨hP.hl, hP.he⟩
  simp only [hk, t0, t1, hf, hf2, hR2, hR3, Int.toNat_natCast, and_true, true_and]
  refine ⟨fun h => ?_, fun h => ?_⟩
  · replace h := of_decide_eq_true h
    (repeat' apply And.intro) <;> first | assumption | omega | trivial | exact hPn | exact hPn _ | exact hMn | exact hMe
  · replace h := of_decide_eq_false h
    have em : IntKind.i64.wrap (y.n 91000 * y.n 91001) = (k : Int) := by
      have e := hM.e
      rw [show y.n 91061 = y.n 91001 by omega, Int.mul_comm, Int.add_zero] at e
      rw [← e, wi64]; omega
    have hb : ((k : Int) != (k : Int)) = false := bne_self_eq_false _
    simp only [em, hb, Bool.false_eq_true, false_implies, true_implies, and_true, true_and, forall_const]
    (repeat' apply And.intro) <;> first | assumption | omega | trivial | exact hPn | exact hPn _ | exact hMn | exact hMe
theorem rep_r5 (E : World) (n times how : Int) (z : PX) (y : PX) :
    (loopW (pe E) Try.f7 (endR ([] : List MB).length [] (.c .b) (fun _ y => y.b 90000 = true) z) (headR ([] : List MB).length Try.f7.ntmps (some ((fun y => (100 * (6 - y.n 91061) + 30 - y.n 91013).toNat) y)) (rep_hs E n times how z)) [some true, some true] (run (pe E) (orcA E) (tabL fns) 20000 (2 ^ 200 - 1) (td2 E) (mkL Try.f7.ntmps (slC y [(0, .r .i64 (1) (20)), (1, .r .i64 (1) (5)), (7, .c (.b true true)), (8, .c (.i true .i64 1)), (9, .c (.p 0 0)), (10, .c (.p 1 0)), (60, .i .i64), (61, .r .i64 (0) (5)), (13, .r .i64 (0) (20))])) (mkM y [] [uM 37472 true true, tW, pR, wR] 0))) =
    (decide (bits BinOp.andNot IntKind.u32 (y.n (38 : Nat)) (1 : Int) ≥ (33554432 : Int)) = true ∧ decide ((0 : Nat) < (y.n (100000 : Nat)).toNat) = true ∧ decide ((y.n (100000
      : Nat)).toNat * (6 : Nat) ≤ (y.l (2 : Nat)).length) = true ∧ decide ((y.n (100000 : Nat)).toNat + (1 : Nat) ≤ (1099511627776 : Nat)) = true ∧ decide (((y.n (100000 :
      Nat)).toNat + (1 : Nat)) * (40 : Nat) ≤ (1099511627776 : Nat)) = true ∧ (bif decide ((↑((y.n (100000 : Nat)).toNat + (1 : Nat)) : Int) > (↑(y.n (100001 : Nat)).toNat :
      Int)) then inB (IntKind.i64.wrap ((↑((y.n (100000 : Nat)).toNat + (1 : Nat)) : Int) - (1 : Int))) ((y.n (100000 : Nat)).toNat + (1 : Nat)) && rOk (rApp (y.l (2 : Nat))
      ((y.n (100000 : Nat)).toNat * (6 : Nat)) [C.i true IntKind.i64 (3 : Int), ofCell (Value.bool true), C.i false IntKind.u32 (bits BinOp.andNot IntKind.u32 (y.n (38 : Nat))
      (1 : Int)), C.i true IntKind.u32 (0 : Int), ofCell (Value.int IntKind.i64 (2 : Int)), ofCell (Value.int IntKind.i64 (0 : Int))]) ((IntKind.i64.wrap ((↑((y.n (100000 :
      Nat)).toNat + (1 : Nat)) : Int) - (1 : Int))).toNat * (6 : Nat)) (EK.i IntKind.i64) else true) = true ∧ (bif bif decide ((↑((y.n (100000 : Nat)).toNat + (1 : Nat)) : Int)
      > (↑(y.n (100001 : Nat)).toNat : Int)) then rI (rApp (y.l (2 : Nat)) ((y.n (100000 : Nat)).toNat * (6 : Nat)) [C.i true IntKind.i64 (3 : Int), ofCell (Value.bool true),
      C.i false IntKind.u32 (bits BinOp.andNot IntKind.u32 (y.n (38 : Nat)) (1 : Int)), C.i true IntKind.u32 (0 : Int), ofCell (Value.int IntKind.i64 (2 : Int)), ofCell
      (Value.int IntKind.i64 (0 : Int))]) ((IntKind.i64.wrap ((↑((y.n (100000 : Nat)).toNat + (1 : Nat)) : Int) - (1 : Int))).toNat * (6 : Nat)) == (3 : Int) else false then inB
      (IntKind.i64.wrap ((↑((y.n (100000 : Nat)).toNat + (1 : Nat)) : Int) - (1 : Int))) ((y.n (100000 : Nat)).toNat + (1 : Nat)) && rOk (rApp (y.l (2 : Nat)) ((y.n (100000 :
      Nat)).toNat * (6 : Nat)) [C.i true IntKind.i64 (3 : Int), ofCell (Value.bool true), C.i false IntKind.u32 (bits BinOp.andNot IntKind.u32 (y.n (38 : Nat)) (1 : Int)), C.i
      true IntKind.u32 (0 : Int), ofCell (Value.int IntKind.i64 (2 : Int)), ofCell (Value.int IntKind.i64 (0 : Int))]) ((IntKind.i64.wrap ((↑((y.n (100000 : Nat)).toNat + (1 :
      Nat)) : Int) - (1 : Int))).toNat * (6 : Nat) + (4 : Nat)) (EK.i IntKind.i64) else true) = true ∧ (bif bif bif decide ((↑((y.n (100000 : Nat)).toNat + (1 : Nat)) : Int) >
      (↑(y.n (100001 : Nat)).toNat : Int)) then rI (rApp (y.l (2 : Nat)) ((y.n (100000 : Nat)).toNat * (6 : Nat)) [C.i true IntKind.i64 (3 : Int), ofCell (Value.bool true), C.i
      false IntKind.u32 (bits BinOp.andNot IntKind.u32 (y.n (38 : Nat)) (1 : Int)), C.i true IntKind.u32 (0 : Int), ofCell (Value.int IntKind.i64 (2 : Int)), ofCell (Value.int
      IntKind.i64 (0 : Int))]) ((IntKind.i64.wrap ((↑((y.n (100000 : Nat)).toNat + (1 : Nat)) : Int) - (1 : Int))).toNat * (6 : Nat)) == (3 : Int) else false then rI (rApp (y.l
      (2 : Nat)) ((y.n (100000 : Nat)).toNat * (6 : Nat)) [C.i true IntKind.i64 (3 : Int), ofCell (Value.bool true), C.i false IntKind.u32 (bits BinOp.andNot IntKind.u32 (y.n
      (38 : Nat)) (1 : Int)), C.i true IntKind.u32 (0 : Int), ofCell (Value.int IntKind.i64 (2 : Int)), ofCell (Value.int IntKind.i64 (0 : Int))]) ((IntKind.i64.wrap ((↑((y.n
      (100000 : Nat)).toNat + (1 : Nat)) : Int) - (1 : Int))).toNat * (6 : Nat) + (4 : Nat)) == (2 : Int) else false then inB (IntKind.i64.wrap ((↑((y.n (100000 : Nat)).toNat +
      (1 : Nat)) : Int) - (1 : Int))) ((y.n (100000 : Nat)).toNat + (1 : Nat)) && rOk (rApp (y.l (2 : Nat)) ((y.n (100000 : Nat)).toNat * (6 : Nat)) [C.i true IntKind.i64 (3 :
      Int), ofCell (Value.bool true), C.i false IntKind.u32 (bits BinOp.andNot IntKind.u32 (y.n (38 : Nat)) (1 : Int)), C.i true IntKind.u32 (0 : Int), ofCell (Value.int
      IntKind.i64 (2 : Int)), ofCell (Value.int IntKind.i64 (0 : Int))]) ((IntKind.i64.wrap ((↑((y.n (100000 : Nat)).toNat + (1 : Nat)) : Int) - (1 : Int))).toNat * (6 : Nat) +
      (5 : Nat)) (EK.i IntKind.i64) else true) = true ∧ (bif bif bif decide ((↑((y.n (100000 : Nat)).toNat + (1 : Nat)) : Int) > (↑(y.n (100001 : Nat)).toNat : Int)) then rI
      (rApp (y.l (2 : Nat)) ((y.n (100000 : Nat)).toNat * (6 : Nat)) [C.i true IntKind.i64 (3 : Int), ofCell (Value.bool true), C.i false IntKind.u32 (bits BinOp.andNot
      IntKind.u32 (y.n (38 : Nat)) (1 : Int)), C.i true IntKind.u32 (0 : Int), ofCell (Value.int IntKind.i64 (2 : Int)), ofCell (Value.int IntKind.i64 (0 : Int))])
      ((IntKind.i64.wrap ((↑((y.n (100000 : Nat)).toNat + (1 : Nat)) : Int) - (1 : Int))).toNat * (6 : Nat)) == (3 : Int) else false then rI (rApp (y.l (2 : Nat)) ((y.n (100000
      : Nat)).toNat * (6 : Nat)) [C.i true IntKind.i64 (3 : Int), ofCell (Value.bool true), C.i false IntKind.u32 (bits BinOp.andNot IntKind.u32 (y.n (38 : Nat)) (1 : Int)), C.i
      true IntKind.u32 (0 : Int), ofCell (Value.int IntKind.i64 (2 : Int)), ofCell (Value.int IntKind.i64 (0 : Int))]) ((IntKind.i64.wrap ((↑((y.n (100000 : Nat)).toNat + (1 :
      Nat)) : Int) - (1 : Int))).toNat * (6 : Nat) + (4 : Nat)) == (2 : Int) else false then rI (rApp (y.l (2 : Nat)) ((y.n (100000 : Nat)).toNat * (6 : Nat)) [C.i true
      IntKind.i64 (3 : Int), ofCell (Value.bool true), C.i false IntKind.u32 (bits BinOp.andNot IntKind.u32 (y.n (38 : Nat)) (1 : Int)), C.i true IntKind.u32 (0 : Int), ofCell
      (Value.int IntKind.i64 (2 : Int)), ofCell (Value.int IntKind.i64 (0 : Int))]) ((IntKind.i64.wrap ((↑((y.n (100000 : Nat)).toNat + (1 : Nat)) : Int) - (1 : Int))).toNat *
      (6 : Nat) + (5 : Nat)) == (0 : Int) else false) = true ∧ inB (IntKind.i64.wrap ((↑((y.n (100000 : Nat)).toNat + (1 : Nat)) : Int) - (1 : Int))) ((y.n (100000 : Nat)).toNat
      + (1 : Nat)) = true ∧ decide ((IntKind.i64.wrap ((↑((y.n (100000 : Nat)).toNat + (1 : Nat)) : Int) - (1 : Int))).toNat * (6 : Nat) + (3 : Nat) + (1 : Nat) ≤ (rApp (y.l (2
      : Nat)) ((y.n (100000 : Nat)).toNat * (6 : Nat)) [C.i true IntKind.i64 (3 : Int), ofCell (Value.bool true), C.i false IntKind.u32 (bits BinOp.andNot IntKind.u32 (y.n (38 :
      Nat)) (1 : Int)), C.i true IntKind.u32 (0 : Int), ofCell (Value.int IntKind.i64 (2 : Int)), ofCell (Value.int IntKind.i64 (0 : Int))]).length) = true ∧ decide ((0 : Nat) <
      (y.n (100001 : Nat)).toNat) = true ∧ decide ((y.n (100001 : Nat)).toNat * (1 : Nat) ≤ (y.l (3 : Nat)).length) = true ∧ decide ((y.n (100001 : Nat)).toNat + (1 : Nat) ≤
      (1099511627776 : Nat)) = true ∧ decide (((y.n (100001 : Nat)).toNat + (1 : Nat)) * (4 : Nat) ≤ (1099511627776 : Nat)) = true ∧ (decide (IntKind.i64.wrap (y.n (40 : Nat) -
      (1 : Int)) > (0 : Int)) = true → ((true ^^ false == (y.n (91013 : Nat) == IntKind.i64.wrap (y.n (91000 : Nat) - (1 : Int)))) = true → ([] : SW) = [] ∧ True ∧ false = true)
      ∧ ((true ^^ false == (y.n (91013 : Nat) == IntKind.i64.wrap (y.n (91000 : Nat) - (1 : Int)))) = false → td2 E = td2 E ∧ (147 : Nat) = (147 : Nat) ∧ ((((1 : Int) ≤ y.n
      (91000 : Nat) ∧ y.n (91000 : Nat) ≤ (20 : Int)) ∧ True) ∧ (((1 : Int) ≤ y.n (91001 : Nat) ∧ y.n (91001 : Nat) ≤ (5 : Int)) ∧ True) ∧ True ∧ True ∧ True ∧ True ∧ True ∧
      (((0 : Int) ≤ y.n (91061 : Nat) ∧ y.n (91061 : Nat) ≤ (5 : Int)) ∧ True) ∧ (((0 : Int) ≤ IntKind.i64.wrap (y.n (91013 : Nat) + (1 : Int)) ∧ IntKind.i64.wrap (y.n (91013 :
      Nat) + (1 : Int)) ≤ (20 : Int)) ∧ True) ∧ True) ∧ ((62 : Nat) = (62 : Nat) ∧ True ∧ (38 : Nat) = (38 : Nat) ∧ True ∧ (48 : Nat) = (48 : Nat) ∧ (flat plS = true ∧ Row plS
      (rSet (rApp (y.l (2 : Nat)) ((y.n (100000 : Nat)).toNat * (6 : Nat)) [C.i true IntKind.i64 (3 : Int), ofCell (Value.bool true), C.i false IntKind.u32 (bits BinOp.andNot
      IntKind.u32 (y.n (38 : Nat)) (1 : Int)), C.i true IntKind.u32 (0 : Int), ofCell (Value.int IntKind.i64 (2 : Int)), ofCell (Value.int IntKind.i64 (0 : Int))])
      ((IntKind.i64.wrap ((↑((y.n (100000 : Nat)).toNat + (1 : Nat)) : Int) - (1 : Int))).toNat * (6 : Nat) + (3 : Nat)) [C.i false IntKind.u32 (bits BinOp.andNot IntKind.u32
      (y.n (39 : Nat)) (1 : Int))])) ∧ (27 : Nat) = (27 : Nat) ∧ (flat [Sp.i IntKind.u32] = true ∧ Row [Sp.i IntKind.u32] (rApp (y.l (3 : Nat)) ((y.n (100001 : Nat)).toNat * (1
      : Nat)) [C.i false IntKind.u32 (bits BinOp.or IntKind.u32 (bits BinOp.and IntKind.u32 (bits BinOp.xor IntKind.u32 (IntKind.u32.wrap (bits BinOp.andNot IntKind.u32 (y.n (38
      : Nat)) (1 : Int) * (2654435761 : Int))) ((bits BinOp.andNot IntKind.u32 (y.n (38 : Nat)) (1 : Int)).fdiv (128 : Int))) (65535 : Int)) (IntKind.u32.wrap (bits BinOp.xor
      IntKind.u32 (IntKind.u32.wrap (bits BinOp.andNot IntKind.u32 (y.n (38 : Nat)) (1 : Int) * (2654435761 : Int))) ((bits BinOp.andNot IntKind.u32 (y.n (38 : Nat)) (1 :
      Int)).fdiv (128 : Int)) * (65536 : Int))))])) ∧ ([] : SW) = []) ∧ (((1 : Int) ≤ IntKind.i64.wrap (y.n (91013 : Nat) + (1 : Int)) ∧ IntKind.i64.wrap (y.n (91013 : Nat) + (1
      : Int)) < y.n (91000 : Nat)) ∧ y.n (91061 : Nat) < y.n (91060 : Nat) ∧ y.n (91060 : Nat) = y.n (91001 : Nat) ∧ y.n (36 : Nat) = y.n (91000 : Nat) ∧ IntKind.u32.wrap (y.n
      (38 : Nat) + (2 : Int)) = (33554432 : Int) + (2 : Int) * (↑((y.n (100000 : Nat)).toNat + (1 : Nat)) : Int) ∧ IntKind.u32.wrap (y.n (39 : Nat) + (2 : Int)) = (50331648 :
      Int) + (2 : Int) * IntKind.i64.wrap (y.n (91013 : Nat) + (1 : Int)) ∧ IntKind.i64.wrap (y.n (40 : Nat) - (1 : Int)) = y.n (91000 : Nat) - IntKind.i64.wrap (y.n (91013 :
      Nat) + (1 : Int)) ∧ MN (↑((y.n (100000 : Nat)).toNat + (1 : Nat)) : Int) (y.n (91061 : Nat)) (y.n (91000 : Nat)) (IntKind.i64.wrap (y.n (91013 : Nat) + (1 : Int))) ∧ PLN
      (y.n (91000 : Nat)) (↑((y.n (100000 : Nat)).toNat + (1 : Nat)) : Int).toNat (rSet (rApp (y.l (2 : Nat)) ((y.n (100000 : Nat)).toNat * (6 : Nat)) [C.i true IntKind.i64 (3 :
      Int), ofCell (Value.bool true), C.i false IntKind.u32 (bits BinOp.andNot IntKind.u32 (y.n (38 : Nat)) (1 : Int)), C.i true IntKind.u32 (0 : Int), ofCell (Value.int
      IntKind.i64 (2 : Int)), ofCell (Value.int IntKind.i64 (0 : Int))]) ((IntKind.i64.wrap ((↑((y.n (100000 : Nat)).toNat + (1 : Nat)) : Int) - (1 : Int))).toNat * (6 : Nat) +
      (3 : Nat)) [C.i false IntKind.u32 (bits BinOp.andNot IntKind.u32 (y.n (39 : Nat)) (1 : Int))]) (rApp (y.l (3 : Nat)) ((y.n (100001 : Nat)).toNat * (1 : Nat)) [C.i false
      IntKind.u32 (bits BinOp.or IntKind.u32 (bits BinOp.and IntKind.u32 (bits BinOp.xor IntKind.u32 (IntKind.u32.wrap (bits BinOp.andNot IntKind.u32 (y.n (38 : Nat)) (1 : Int)
      * (2654435761 : Int))) ((bits BinOp.andNot IntKind.u32 (y.n (38 : Nat)) (1 : Int)).fdiv (128 : Int))) (65535 : Int)) (IntKind.u32.wrap (bits BinOp.xor IntKind.u32
      (IntKind.u32.wrap (bits BinOp.andNot IntKind.u32 (y.n (38 : Nat)) (1 : Int) * (2654435761 : Int))) ((bits BinOp.andNot IntKind.u32 (y.n (38 : Nat)) (1 : Int)).fdiv (128 :
      Int)) * (65536 : Int))))]) (↑((y.n (100000 : Nat)).toNat + (1 : Nat)) : Int) (↑((y.n (100001 : Nat)).toNat + (1 : Nat)) : Int)) ∧ ((100 : Int) * ((6 : Int) - y.n (91061 :
      Nat)) + (30 : Int) - IntKind.i64.wrap (y.n (91013 : Nat) + (1 : Int))).toNat < ((100 : Int) * ((6 : Int) - y.n (91061 : Nat)) + (30 : Int) - y.n (91013 : Nat)).toNat ∧
      True)) ∧ (decide (IntKind.i64.wrap (y.n (40 : Nat) - (1 : Int)) > (0 : Int)) = false → ((bif y.n (36 : Nat) == (0 : Int) then true else false) = true → ((true ^^ true ==
      (y.n (91013 : Nat) == IntKind.i64.wrap (y.n (91000 : Nat) - (1 : Int)))) = true → ([] : SW) = [] ∧ True ∧ false = true) ∧ ((true ^^ true == (y.n (91013 : Nat) ==
      IntKind.i64.wrap (y.n (91000 : Nat) - (1 : Int)))) = false → td2 E = td2 E ∧ (147 : Nat) = (147 : Nat) ∧ ((((1 : Int) ≤ y.n (91000 : Nat) ∧ y.n (91000 : Nat) ≤ (20 : Int))
      ∧ True) ∧ (((1 : Int) ≤ y.n (91001 : Nat) ∧ y.n (91001 : Nat) ≤ (5 : Int)) ∧ True) ∧ True ∧ True ∧ True ∧ True ∧ True ∧ (((0 : Int) ≤ y.n (91061 : Nat) ∧ y.n (91061 : Nat)
      ≤ (5 : Int)) ∧ True) ∧ (((0 : Int) ≤ IntKind.i64.wrap (y.n (91013 : Nat) + (1 : Int)) ∧ IntKind.i64.wrap (y.n (91013 : Nat) + (1 : Int)) ≤ (20 : Int)) ∧ True) ∧ True) ∧
      ((62 : Nat) = (62 : Nat) ∧ True ∧ (38 : Nat) = (38 : Nat) ∧ True ∧ (48 : Nat) = (48 : Nat) ∧ (flat plS = true ∧ Row plS (rSet (rApp (y.l (2 : Nat)) ((y.n (100000 :
      Nat)).toNat * (6 : Nat)) [C.i true IntKind.i64 (3 : Int), ofCell (Value.bool true), C.i false IntKind.u32 (bits BinOp.andNot IntKind.u32 (y.n (38 : Nat)) (1 : Int)), C.i
      true IntKind.u32 (0 : Int), ofCell (Value.int IntKind.i64 (2 : Int)), ofCell (Value.int IntKind.i64 (0 : Int))]) ((IntKind.i64.wrap ((↑((y.n (100000 : Nat)).toNat + (1 :
      Nat)) : Int) - (1 : Int))).toNat * (6 : Nat) + (3 : Nat)) [C.i false IntKind.u32 (bits BinOp.andNot IntKind.u32 (y.n (39 : Nat)) (1 : Int))])) ∧ (27 : Nat) = (27 : Nat) ∧
      (flat [Sp.i IntKind.u32] = true ∧ Row [Sp.i IntKind.u32] (rApp (y.l (3 : Nat)) ((y.n (100001 : Nat)).toNat * (1 : Nat)) [C.i false IntKind.u32 (bits BinOp.or IntKind.u32
      (bits BinOp.and IntKind.u32 (bits BinOp.xor IntKind.u32 (IntKind.u32.wrap (bits BinOp.andNot IntKind.u32 (y.n (38 : Nat)) (1 : Int) * (2654435761 : Int))) ((bits
      BinOp.andNot IntKind.u32 (y.n (38 : Nat)) (1 : Int)).fdiv (128 : Int))) (65535 : Int)) (IntKind.u32.wrap (bits BinOp.xor IntKind.u32 (IntKind.u32.wrap (bits BinOp.andNot
      IntKind.u32 (y.n (38 : Nat)) (1 : Int) * (2654435761 : Int))) ((bits BinOp.andNot IntKind.u32 (y.n (38 : Nat)) (1 : Int)).fdiv (128 : Int)) * (65536 : Int))))])) ∧ ([] :
      SW) = []) ∧ (IntKind.i64.wrap (y.n (91013 : Nat) + (1 : Int)) = y.n (91000 : Nat) ∧ y.n (91061 : Nat) < y.n (91060 : Nat) ∧ y.n (91060 : Nat) = y.n (91001 : Nat) ∧ y.n (36
      : Nat) = y.n (91000 : Nat) ∧ IntKind.u32.wrap (y.n (38 : Nat) + (2 : Int)) = (33554432 : Int) + (2 : Int) * (↑((y.n (100000 : Nat)).toNat + (1 : Nat)) : Int) ∧ (50331648 :
      Int) = (50331648 : Int) ∧ (65536 : Int) = y.n (91000 : Nat) ∧ MN (↑((y.n (100000 : Nat)).toNat + (1 : Nat)) : Int) (y.n (91061 : Nat)) (y.n (91000 : Nat)) (y.n (91000 :
      Nat)) ∧ PLN (y.n (91000 : Nat)) (↑((y.n (100000 : Nat)).toNat + (1 : Nat)) : Int).toNat (rSet (rApp (y.l (2 : Nat)) ((y.n (100000 : Nat)).toNat * (6 : Nat)) [C.i true
      IntKind.i64 (3 : Int), ofCell (Value.bool true), C.i false IntKind.u32 (bits BinOp.andNot IntKind.u32 (y.n (38 : Nat)) (1 : Int)), C.i true IntKind.u32 (0 : Int), ofCell
      (Value.int IntKind.i64 (2 : Int)), ofCell (Value.int IntKind.i64 (0 : Int))]) ((IntKind.i64.wrap ((↑((y.n (100000 : Nat)).toNat + (1 : Nat)) : Int) - (1 : Int))).toNat *
      (6 : Nat) + (3 : Nat)) [C.i false IntKind.u32 (bits BinOp.andNot IntKind.u32 (y.n (39 : Nat)) (1 : Int))]) (rApp (y.l (3 : Nat)) ((y.n (100001 : Nat)).toNat * (1 : Nat))
      [C.i false IntKind.u32 (bits BinOp.or IntKind.u32 (bits BinOp.and IntKind.u32 (bits BinOp.xor IntKind.u32 (IntKind.u32.wrap (bits BinOp.andNot IntKind.u32 (y.n (38 : Nat))
      (1 : Int) * (2654435761 : Int))) ((bits BinOp.andNot IntKind.u32 (y.n (38 : Nat)) (1 : Int)).fdiv (128 : Int))) (65535 : Int)) (IntKind.u32.wrap (bits BinOp.xor
      IntKind.u32 (IntKind.u32.wrap (bits BinOp.andNot IntKind.u32 (y.n (38 : Nat)) (1 : Int) * (2654435761 : Int))) ((bits BinOp.andNot IntKind.u32 (y.n (38 : Nat)) (1 :
      Int)).fdiv (128 : Int)) * (65536 : Int))))]) (↑((y.n (100000 : Nat)).toNat + (1 : Nat)) : Int) (↑((y.n (100001 : Nat)).toNat + (1 : Nat)) : Int)) ∧ ((100 : Int) * ((6 :
      Int) - y.n (91061 : Nat))).toNat < ((100 : Int) * ((6 : Int) - y.n (91061 : Nat)) + (30 : Int) - y.n (91013 : Nat)).toNat ∧ True)) ∧ ((bif y.n (36 : Nat) == (0 : Int) then
      true else false) = false → ((y.n (36 : Nat) == (0 : Int)) = true → ((true ^^ true == (y.n (91013 : Nat) == IntKind.i64.wrap (y.n (91000 : Nat) - (1 : Int)))) = true → ([]
      : SW) = [] ∧ True ∧ false = true) ∧ ((true ^^ true == (y.n (91013 : Nat) == IntKind.i64.wrap (y.n (91000 : Nat) - (1 : Int)))) = false → td2 E = td2 E ∧ (147 : Nat) = (147
      : Nat) ∧ ((((1 : Int) ≤ y.n (91000 : Nat) ∧ y.n (91000 : Nat) ≤ (20 : Int)) ∧ True) ∧ (((1 : Int) ≤ y.n (91001 : Nat) ∧ y.n (91001 : Nat) ≤ (5 : Int)) ∧ True) ∧ True ∧
      True ∧ True ∧ True ∧ True ∧ (((0 : Int) ≤ y.n (91061 : Nat) ∧ y.n (91061 : Nat) ≤ (5 : Int)) ∧ True) ∧ (((0 : Int) ≤ IntKind.i64.wrap (y.n (91013 : Nat) + (1 : Int)) ∧
      IntKind.i64.wrap (y.n (91013 : Nat) + (1 : Int)) ≤ (20 : Int)) ∧ True) ∧ True) ∧ ((62 : Nat) = (62 : Nat) ∧ True ∧ (38 : Nat) = (38 : Nat) ∧ True ∧ (48 : Nat) = (48 : Nat)
      ∧ (flat plS = true ∧ Row plS (rSet (rApp (y.l (2 : Nat)) ((y.n (100000 : Nat)).toNat * (6 : Nat)) [C.i true IntKind.i64 (3 : Int), ofCell (Value.bool true), C.i false
      IntKind.u32 (bits BinOp.andNot IntKind.u32 (y.n (38 : Nat)) (1 : Int)), C.i true IntKind.u32 (0 : Int), ofCell (Value.int IntKind.i64 (2 : Int)), ofCell (Value.int
      IntKind.i64 (0 : Int))]) ((IntKind.i64.wrap ((↑((y.n (100000 : Nat)).toNat + (1 : Nat)) : Int) - (1 : Int))).toNat * (6 : Nat) + (3 : Nat)) [C.i false IntKind.u32 (bits
      BinOp.andNot IntKind.u32 (y.n (39 : Nat)) (1 : Int))])) ∧ (27 : Nat) = (27 : Nat) ∧ (flat [Sp.i IntKind.u32] = true ∧ Row [Sp.i IntKind.u32] (rApp (y.l (3 : Nat)) ((y.n
      (100001 : Nat)).toNat * (1 : Nat)) [C.i false IntKind.u32 (bits BinOp.or IntKind.u32 (bits BinOp.and IntKind.u32 (bits BinOp.xor IntKind.u32 (IntKind.u32.wrap (bits
      BinOp.andNot IntKind.u32 (y.n (38 : Nat)) (1 : Int) * (2654435761 : Int))) ((bits BinOp.andNot IntKind.u32 (y.n (38 : Nat)) (1 : Int)).fdiv (128 : Int))) (65535 : Int))
      (IntKind.u32.wrap (bits BinOp.xor IntKind.u32 (IntKind.u32.wrap (bits BinOp.andNot IntKind.u32 (y.n (38 : Nat)) (1 : Int) * (2654435761 : Int))) ((bits BinOp.andNot
      IntKind.u32 (y.n (38 : Nat)) (1 : Int)).fdiv (128 : Int)) * (65536 : Int))))])) ∧ ([] : SW) = []) ∧ (IntKind.i64.wrap (y.n (91013 : Nat) + (1 : Int)) = y.n (91000 : Nat) ∧
      y.n (91061 : Nat) < y.n (91060 : Nat) ∧ y.n (91060 : Nat) = y.n (91001 : Nat) ∧ y.n (36 : Nat) = y.n (91000 : Nat) ∧ IntKind.u32.wrap (y.n (38 : Nat) + (2 : Int)) =
      (33554432 : Int) + (2 : Int) * (↑((y.n (100000 : Nat)).toNat + (1 : Nat)) : Int) ∧ (50331648 : Int) = (50331648 : Int) ∧ (16384 : Int) = y.n (91000 : Nat) ∧ MN (↑((y.n
      (100000 : Nat)).toNat + (1 : Nat)) : Int) (y.n (91061 : Nat)) (y.n (91000 : Nat)) (y.n (91000 : Nat)) ∧ PLN (y.n (91000 : Nat)) (↑((y.n (100000 : Nat)).toNat + (1 : Nat))
      : Int).toNat (rSet (rApp (y.l (2 : Nat)) ((y.n (100000 : Nat)).toNat * (6 : Nat)) [C.i true IntKind.i64 (3 : Int), ofCell (Value.bool true), C.i false IntKind.u32 (bits
      BinOp.andNot IntKind.u32 (y.n (38 : Nat)) (1 : Int)), C.i true IntKind.u32 (0 : Int), ofCell (Value.int IntKind.i64 (2 : Int)), ofCell (Value.int IntKind.i64 (0 : Int))])
      ((IntKind.i64.wrap ((↑((y.n (100000 : Nat)).toNat + (1 : Nat)) : Int) - (1 : Int))).toNat * (6 : Nat) + (3 : Nat)) [C.i false IntKind.u32 (bits BinOp.andNot IntKind.u32
      (y.n (39 : Nat)) (1 : Int))]) (rApp (y.l (3 : Nat)) ((y.n (100001 : Nat)).toNat * (1 : Nat)) [C.i false IntKind.u32 (bits BinOp.or IntKind.u32 (bits BinOp.and IntKind.u32
      (bits BinOp.xor IntKind.u32 (IntKind.u32.wrap (bits BinOp.andNot IntKind.u32 (y.n (38 : Nat)) (1 : Int) * (2654435761 : Int))) ((bits BinOp.andNot IntKind.u32 (y.n (38 :
      Nat)) (1 : Int)).fdiv (128 : Int))) (65535 : Int)) (IntKind.u32.wrap (bits BinOp.xor IntKind.u32 (IntKind.u32.wrap (bits BinOp.andNot IntKind.u32 (y.n (38 : Nat)) (1 :
      Int) * (2654435761 : Int))) ((bits BinOp.andNot IntKind.u32 (y.n (38 : Nat)) (1 : Int)).fdiv (128 : Int)) * (65536 : Int))))]) (↑((y.n (100000 : Nat)).toNat + (1 : Nat)) :
      Int) (↑((y.n (100001 : Nat)).toNat + (1 : Nat)) : Int)) ∧ ((100 : Int) * ((6 : Int) - y.n (91061 : Nat))).toNat < ((100 : Int) * ((6 : Int) - y.n (91061 : Nat)) + (30 :
      Int) - y.n (91013 : Nat)).toNat ∧ True)) ∧ ((y.n (36 : Nat) == (0 : Int)) = false → ((true ^^ true == (y.n (91013 : Nat) == IntKind.i64.wrap (y.n (91000 : Nat) - (1 :
      Int)))) = true → ([] : SW) = [] ∧ True ∧ false = true) ∧ ((true ^^ true == (y.n (91013 : Nat) == IntKind.i64.wrap (y.n (91000 : Nat) - (1 : Int)))) = false → td2 E = td2 E
      ∧ (147 : Nat) = (147 : Nat) ∧ ((((1 : Int) ≤ y.n (91000 : Nat) ∧ y.n (91000 : Nat) ≤ (20 : Int)) ∧ True) ∧ (((1 : Int) ≤ y.n (91001 : Nat) ∧ y.n (91001 : Nat) ≤ (5 : Int))
      ∧ True) ∧ True ∧ True ∧ True ∧ True ∧ True ∧ (((0 : Int) ≤ y.n (91061 : Nat) ∧ y.n (91061 : Nat) ≤ (5 : Int)) ∧ True) ∧ (((0 : Int) ≤ IntKind.i64.wrap (y.n (91013 : Nat) +
      (1 : Int)) ∧ IntKind.i64.wrap (y.n (91013 : Nat) + (1 : Int)) ≤ (20 : Int)) ∧ True) ∧ True) ∧ ((62 : Nat) = (62 : Nat) ∧ True ∧ (38 : Nat) = (38 : Nat) ∧ True ∧ (48 : Nat)
      = (48 : Nat) ∧ (flat plS = true ∧ Row plS (rSet (rApp (y.l (2 : Nat)) ((y.n (100000 : Nat)).toNat * (6 : Nat)) [C.i true IntKind.i64 (3 : Int), ofCell (Value.bool true),
      C.i false IntKind.u32 (bits BinOp.andNot IntKind.u32 (y.n (38 : Nat)) (1 : Int)), C.i true IntKind.u32 (0 : Int), ofCell (Value.int IntKind.i64 (2 : Int)), ofCell
      (Value.int IntKind.i64 (0 : Int))]) ((IntKind.i64.wrap ((↑((y.n (100000 : Nat)).toNat + (1 : Nat)) : Int) - (1 : Int))).toNat * (6 : Nat) + (3 : Nat)) [C.i false
      IntKind.u32 (bits BinOp.andNot IntKind.u32 (y.n (39 : Nat)) (1 : Int))])) ∧ (27 : Nat) = (27 : Nat) ∧ (flat [Sp.i IntKind.u32] = true ∧ Row [Sp.i IntKind.u32] (rApp (y.l
      (3 : Nat)) ((y.n (100001 : Nat)).toNat * (1 : Nat)) [C.i false IntKind.u32 (bits BinOp.or IntKind.u32 (bits BinOp.and IntKind.u32 (bits BinOp.xor IntKind.u32
      (IntKind.u32.wrap (bits BinOp.andNot IntKind.u32 (y.n (38 : Nat)) (1 : Int) * (2654435761 : Int))) ((bits BinOp.andNot IntKind.u32 (y.n (38 : Nat)) (1 : Int)).fdiv (128 :
      Int))) (65535 : Int)) (IntKind.u32.wrap (bits BinOp.xor IntKind.u32 (IntKind.u32.wrap (bits BinOp.andNot IntKind.u32 (y.n (38 : Nat)) (1 : Int) * (2654435761 : Int)))
      ((bits BinOp.andNot IntKind.u32 (y.n (38 : Nat)) (1 : Int)).fdiv (128 : Int)) * (65536 : Int))))])) ∧ ([] : SW) = []) ∧ (IntKind.i64.wrap (y.n (91013 : Nat) + (1 : Int)) =
      y.n (91000 : Nat) ∧ y.n (91061 : Nat) < y.n (91060 : Nat) ∧ y.n (91060 : Nat) = y.n (91001 : Nat) ∧ y.n (36 : Nat) = y.n (91000 : Nat) ∧ IntKind.u32.wrap (y.n (38 : Nat) +
      (2 : Int)) = (33554432 : Int) + (2 : Int) * (↑((y.n (100000 : Nat)).toNat + (1 : Nat)) : Int) ∧ (50331648 : Int) = (50331648 : Int) ∧ IntKind.i64.wrap (y.n (36 : Nat)) =
      y.n (91000 : Nat) ∧ MN (↑((y.n (100000 : Nat)).toNat + (1 : Nat)) : Int) (y.n (91061 : Nat)) (y.n (91000 : Nat)) (y.n (91000 : Nat)) ∧ PLN (y.n (91000 : Nat)) (↑((y.n
      (100000 : Nat)).toNat + (1 : Nat)) : Int).toNat (rSet (rApp (y.l (2 : Nat)) ((y.n (100000 : Nat)).toNat * (6 : Nat)) [C.i true IntKind.i64 (3 : Int), ofCell (Value.bool
      true), C.i false IntKind.u32 (bits BinOp.andNot IntKind.u32 (y.n (38 : Nat)) (1 : Int)), C.i true IntKind.u32 (0 : Int), ofCell (Value.int IntKind.i64 (2 : Int)), ofCell
      (Value.int IntKind.i64 (0 : Int))]) ((IntKind.i64.wrap ((↑((y.n (100000 : Nat)).toNat + (1 : Nat)) : Int) - (1 : Int))).toNat * (6 : Nat) + (3 : Nat)) [C.i false
      IntKind.u32 (bits BinOp.andNot IntKind.u32 (y.n (39 : Nat)) (1 : Int))]) (rApp (y.l (3 : Nat)) ((y.n (100001 : Nat)).toNat * (1 : Nat)) [C.i false IntKind.u32 (bits
      BinOp.or IntKind.u32 (bits BinOp.and IntKind.u32 (bits BinOp.xor IntKind.u32 (IntKind.u32.wrap (bits BinOp.andNot IntKind.u32 (y.n (38 : Nat)) (1 : Int) * (2654435761 :
      Int))) ((bits BinOp.andNot IntKind.u32 (y.n (38 : Nat)) (1 : Int)).fdiv (128 : Int))) (65535 : Int)) (IntKind.u32.wrap (bits BinOp.xor IntKind.u32 (IntKind.u32.wrap (bits
      BinOp.andNot IntKind.u32 (y.n (38 : Nat)) (1 : Int) * (2654435761 : Int))) ((bits BinOp.andNot IntKind.u32 (y.n (38 : Nat)) (1 : Int)).fdiv (128 : Int)) * (65536 :
      Int))))]) (↑((y.n (100000 : Nat)).toNat + (1 : Nat)) : Int) (↑((y.n (100001 : Nat)).toNat + (1 : Nat)) : Int)) ∧ ((100 : Int) * ((6 : Int) - y.n (91061 : Nat))).toNat <
      ((100 : Int) * ((6 : Int) - y.n (91061 : Nat)) + (30 : Int) - y.n (91013 : Nat)).toNat ∧ True))))) := by kernel_rfl
set_option maxHeartbeats 8000000 in
theorem rep_q5 (E : World) (n times how : Int) (z : PX) (hp : (fun _ => True) z) (y : PX) (hy1 : rgM y [uM 37472 true true, tW, pR, wR] 0) (hy2 : rgF y [(0, .r .i64 (1) (20)), (1, .r .i64 (1) (5)), (7, .c (.b true true)), (8, .c (.i true .i64 1)), (9, .c (.p 0 0)), (10, .c (.p 1 0)), (60, .i .i64), (61, .r .i64 (0) (5)), (13, .r .i64 (0) (20))]) (hy3 : (fun y => y.n 91013 = 0 ∧ 1 ≤ y.n 91061 ∧ y.n 91061 < y.n 91060 ∧ y.n 91060 = y.n 91001 ∧ y.n 36 = y.n 91000 ∧ y.n 38 = 33554432 + 2 * y.n 100000 ∧ y.n 39 = 50331648 + 2 * 0 ∧ y.n 40 = y.n 91000 ∧ MN (y.n 100000) (y.n 91061) (y.n 91000) 0 ∧ PLN (y.n 91000) (y.n 100000).toNat (y.l 2) (y.l 3) (y.n 100000) (y.n 100001)) y) : Holds ((run (pe E) (orcA E) (tabL fns) 20000 (2 ^ 200 - 1) (td2 E) (mkL Try.f7.ntmps (slC y [(0, .r .i64 (1) (20)), (1, .r .i64 (1) (5)), (7, .c (.b true true)), (8, .c (.i true .i64 1)), (9, .c (.p 0 0)), (10, .c (.p 1 0)), (60, .i .i64), (61, .r .i64 (0) (5)), (13, .r .i64 (0) (20))])) (mkM y [] [uM 37472 true true, tW, pR, wR] 0)).OK (lfP (pe E) Try.f7 (endR ([] : List MB).length [] (.c .b) (fun _ y => y.b 90000 = true) z) (headR ([] : List MB).length Try.f7.ntmps (some ((fun y => (100 * (6 - y.n 91061) + 30 - y.n 91013).toNat) y)) (rep_hs E n times how z)))) := by
  refine loopW_lfH [some true, some true] ⟨?_⟩
  rw [rep_r5]
  have hf : (((1) ≤ y.n 91000 ∧ y.n 91000 ≤ (20)) ∧ True) ∧ (((1) ≤ y.n 91001 ∧ y.n 91001 ≤ (5)) ∧ True) ∧ True ∧ True ∧ True ∧ True ∧ True ∧ (((0) ≤ y.n 91061 ∧ y.n 91061 ≤ (5)) ∧ True) ∧ (((0) ≤ y.n 91013 ∧ y.n 91013 ≤ (20)) ∧ True) ∧ True := hy2
  obtain ⟨⟨g0, _⟩, ⟨g1, _⟩, _, _, _, _, _, ⟨g61, _⟩, ⟨g13, _⟩, _⟩ := hf
  obtain ⟨i3, k1, ht, e60, e36, e38, e39, e40, hM, hP⟩ := hy3
  rw [← i3] at hM
  replace e39 : y.n 39 = 50331648 + 2 * y.n 91013 := by omega
  replace e40 : y.n 40 = y.n 91000 - y.n 91013 := by omega
  have i0 : 0 ≤ y.n 91013 := by omega
  have i2 : y.n 91013 < y.n 91000 := by omega
  have hR2 : Row plS (y.l 2) := hy1.2.2.1.2
  have hR3 : Row [.i .u32] (y.l 3) := hy1.2.2.2.1.2
  have hf : flat plS = true := rfl
  have hf2 : flat [Sp.i IntKind.u32] = true := rfl
  obtain ⟨mb0, mb1⟩ := mn_bnd hM (by omega) (by omega) (by omega) (by omega) (by omega) (by omega)
  obtain ⟨k, hk⟩ : ∃ k : Nat, y.n 100000 = (k : Int) := ⟨(y.n 100000).toNat, by omega⟩
  have hk0 : 0 < k := by have := mn_pos hM k1 (by omega) (by omega) (by omega); omega
  rw [hk, Int.toNat_natCast] at hP
  rw [hk] at hM e38 mb0 mb1
  have N1 := hP.h1
  have L2 := hP.hl
  have L3 := hP.hm
  have ea : bits .andNot .u32 (y.n 38) 1 = 33554432 + 2 * (k : Int) := by rw [al2 _ (by omega) (by omega) (by omega)]; exact e38
  have eb : bits .andNot .u32 (y.n 39) 1 = 50331648 + 2 * y.n 91013 := by rw [al2 _ (by omega) (by omega) (by omega)]; exact e39
  have t0 : (y.n 100000).toNat = k := by rw [hk]; exact Int.toNat_natCast k
  have t1 : (y.n 100001).toNat = k := by rw [N1]; exact Int.toNat_natCast k
  have w1 : IntKind.i64.wrap (((k + 1 : Nat) : Int) - 1) = (k : Int) := by rw [wi64]; omega
  have w2 : IntKind.i64.wrap (y.n 91013 + 1) = y.n 91013 + 1 := by rw [wi64]; omega
  have w3 : IntKind.i64.wrap (y.n 91000 - 1) = y.n 91000 - 1 := by rw [wi64]; omega
  have w4 : IntKind.i64.wrap (y.n 40 - 1) = y.n 91000 - y.n 91013 - 1 := by rw [wi64, e40]; omega
  have w5 : IntKind.u32.wrap (y.n 38 + 2) = 33554432 + 2 * ((k + 1 : Nat) : Int) := by rw [wu32, e38]; omega
  have w6 : IntKind.u32.wrap (y.n 39 + 2) = 50331648 + 2 * (y.n 91013 + 1) := by rw [wu32, e39]; omega
  have w7 : IntKind.i64.wrap (y.n 36) = y.n 91000 := by rw [wi64, e36]; omega
  have c36 : (y.n 36 == 0) = false := by simp; omega
  have h2 : decide (33554432 + 2 * (k : Int) ≥ 33554432) = true := decide_eq_true (by omega)
  have h3 : decide (((k + 1 : Nat) : Int) > (k : Int)) = true := decide_eq_true (by omega)
  have h4 : inB (k : Int) (k + 1) = true := by simp only [inB, Bool.and_eq_true, decide_eq_true_eq]; omega
  have n1 : decide (0 < k) = true := decide_eq_true hk0
  have n2 : decide (k * 6 ≤ (y.l 2).length) = true := decide_eq_true (by omega)
  have n3 : decide (k + 1 ≤ 1099511627776) = true := decide_eq_true (by omega)
  have n4 : decide ((k + 1) * 40 ≤ 1099511627776) = true := decide_eq_true (by omega)
  have n5 : decide (k * 1 ≤ (y.l 3).length) = true := decide_eq_true (by omega)
  have n6 : decide ((k + 1) * 4 ≤ 1099511627776) = true := decide_eq_true (by omega)
  have n7 : decide (k * 6 + 3 + 1 ≤ k * 6 + 6) = true := decide_eq_true (by omega)
  have b3 : ((3 : Int) == 3) = true := by decide
  have b2 : ((2 : Int) == 2) = true := by decide
  have bq : ((0 : Int) == 0) = true := by decide
  have hPn := fun v => pln_step (n := y.n 91000) (a := 33554432 + 2 * (k : Int)) (q := 0) (b := 50331648 + 2 * y.n 91013) (v := v) hP rfl (by rw [mn_mod hM i0 i2])
  have hMn : MN ((k + 1 : Nat) : Int) (y.n 91061) (y.n 91000) (y.n 91013 + 1) := by have := mn_step hM; rw [show ((k + 1 : Nat) : Int) = (k : Int) + 1 by omega]; exact this
  simp only [hk, ea, eb, t0, t1, w1, w2, w3, w4, w5, w6, w7, c36, Int.toNat_natCast, h2, h3, h4, n1, n2, n3, n4, n5, n6, n7, ap0 L2, ap4 L2, ap5 L2, ao0 L2, ao4 L2, ao5 L2, ap_len L2, b3, b2, bq, cond_true, cond_false, Bool.and_self, Bool.true_eq_false, Bool.false_eq_true, false_implies, true_implies, forall_const, and_true, true_and, hf, hf2, row2 hR2 L2, row3 hR3 L3]
  clear w1 w2 w3 w4 w5 w6 w7 ea eb
  refine ⟨fun h => ⟨fun h' => ?_, fun h' => ?_⟩, fun h => ⟨fun h' => ?_, fun h' => ?_⟩⟩
  · exfalso; clear hPn hMn hP hM hR2 hR3; simp at h h'; omega
  · replace h := of_decide_eq_true h
    (repeat' apply And.intro) <;> first | assumption | omega | trivial | exact hPn | exact hPn _ | exact hMn | exact hMe
  · exfalso; clear hPn hMn hP hM hR2 hR3; simp at h h'; omega
  · replace h := of_decide_eq_false h
    have hMe : MN ((k + 1 : Nat) : Int) (y.n 91061) (y.n 91000) (y.n 91000) := mn_end' hMn (by omega)
    
    (repeat' apply And.intro) <;> first | assumption | omega | trivial | exact hPn | exact hPn _ | exact hMn | exact hMe
theorem rep_r6 (E : World) (n times how : Int) (z : PX) (y : PX) :
    (loopP (pe E) Try.f7 (endR ([] : List MB).length [] (.c .b) (fun _ y => y.b 90000 = true) z) (headR ([] : List MB).length Try.f7.ntmps (some ((fun y => (100 * (6 - y.n 91061)).toNat) y)) (rep_hs E n times how z))  (run (pe E) (orcA E) (tabL fns) 20000 (2 ^ 200 - 1) (td2 E) (mkL Try.f7.ntmps (slC y [(0, .r .i64 (1) (20)), (1, .r .i64 (1) (5)), (7, .c (.b true true)), (8, .c (.i true .i64 1)), (9, .c (.p 0 0)), (10, .c (.p 1 0)), (60, .i .i64), (61, .r .i64 (0) (5)), (13, .r .i64 (0) (20))])) (mkM y [] [uM 37472 false true, tW, pR, wR] 0))) =
    (td1 E = td1 E ∧ (147 : Nat) = (147 : Nat) ∧ ((((1 : Int) ≤ y.n (91000 : Nat) ∧ y.n (91000 : Nat) ≤ (20 : Int)) ∧ True) ∧ (((1 : Int) ≤ y.n (91001 : Nat) ∧ y.n (91001 :
      Nat) ≤ (5 : Int)) ∧ True) ∧ True ∧ True ∧ True ∧ True ∧ True ∧ (((0 : Int) ≤ IntKind.i64.wrap (y.n (91061 : Nat) + (1 : Int)) ∧ IntKind.i64.wrap (y.n (91061 : Nat) + (1 :
      Int)) ≤ (5 : Int)) ∧ True) ∧ True) ∧ ((62 : Nat) = (62 : Nat) ∧ True ∧ (38 : Nat) = (38 : Nat) ∧ True ∧ (48 : Nat) = (48 : Nat) ∧ (flat plS = true ∧ Row plS (y.l (2 :
      Nat))) ∧ (27 : Nat) = (27 : Nat) ∧ (flat [Sp.i IntKind.u32] = true ∧ Row [Sp.i IntKind.u32] (y.l (3 : Nat))) ∧ ([] : SW) = []) ∧ (IntKind.i64.wrap (y.n (91061 : Nat) + (1
      : Int)) ≤ y.n (91060 : Nat) ∧ (1 : Int) ≤ IntKind.i64.wrap (y.n (91061 : Nat) + (1 : Int)) ∧ y.n (91060 : Nat) = y.n (91001 : Nat) ∧ y.n (36 : Nat) = y.n (91000 : Nat) ∧
      y.n (38 : Nat) = (33554432 : Int) + (2 : Int) * (↑(y.n (100000 : Nat)).toNat : Int) ∧ y.n (39 : Nat) = (50331648 : Int) ∧ y.n (40 : Nat) = y.n (91000 : Nat) ∧ MN (↑(y.n
      (100000 : Nat)).toNat : Int) (IntKind.i64.wrap (y.n (91061 : Nat) + (1 : Int))) (y.n (91000 : Nat)) (0 : Int) ∧ PLN (y.n (91000 : Nat)) (↑(y.n (100000 : Nat)).toNat :
      Int).toNat (y.l (2 : Nat)) (y.l (3 : Nat)) (↑(y.n (100000 : Nat)).toNat : Int) (↑(y.n (100001 : Nat)).toNat : Int)) ∧ ((100 : Int) * ((6 : Int) - IntKind.i64.wrap (y.n
      (91061 : Nat) + (1 : Int))) + (60 : Int)).toNat < ((100 : Int) * ((6 : Int) - y.n (91061 : Nat))).toNat ∧ True) := by kernel_rfl
set_option maxHeartbeats 8000000 in
theorem rep_q6 (E : World) (n times how : Int) (z : PX) (hp : (fun _ => True) z) (y : PX) (hy1 : rgM y [uM 37472 false true, tW, pR, wR] 0) (hy2 : rgF y [(0, .r .i64 (1) (20)), (1, .r .i64 (1) (5)), (7, .c (.b true true)), (8, .c (.i true .i64 1)), (9, .c (.p 0 0)), (10, .c (.p 1 0)), (60, .i .i64), (61, .r .i64 (0) (5)), (13, .r .i64 (0) (20))]) (hy3 : (fun y => y.n 91013 = y.n 91000 ∧ y.n 91061 < y.n 91060 ∧ y.n 91060 = y.n 91001 ∧ y.n 36 = y.n 91000 ∧ y.n 38 = 33554432 + 2 * y.n 100000 ∧ y.n 39 = 50331648 + 2 * 0 ∧ y.n 40 = y.n 91000 ∧ MN (y.n 100000) (y.n 91061) (y.n 91000) (y.n 91000) ∧ PLN (y.n 91000) (y.n 100000).toNat (y.l 2) (y.l 3) (y.n 100000) (y.n 100001)) y) : Holds ((run (pe E) (orcA E) (tabL fns) 20000 (2 ^ 200 - 1) (td2 E) (mkL Try.f7.ntmps (slC y [(0, .r .i64 (1) (20)), (1, .r .i64 (1) (5)), (7, .c (.b true true)), (8, .c (.i true .i64 1)), (9, .c (.p 0 0)), (10, .c (.p 1 0)), (60, .i .i64), (61, .r .i64 (0) (5)), (13, .r .i64 (0) (20))])) (mkM y [] [uM 37472 false true, tW, pR, wR] 0)).OK (lfP (pe E) Try.f7 (endR ([] : List MB).length [] (.c .b) (fun _ y => y.b 90000 = true) z) (headR ([] : List MB).length Try.f7.ntmps (some ((fun y => (100 * (6 - y.n 91061)).toNat) y)) (rep_hs E n times how z)))) := by
  refine loopP_lfH ⟨?_⟩
  rw [rep_r6]
  have hf : (((1) ≤ y.n 91000 ∧ y.n 91000 ≤ (20)) ∧ True) ∧ (((1) ≤ y.n 91001 ∧ y.n 91001 ≤ (5)) ∧ True) ∧ True ∧ True ∧ True ∧ True ∧ True ∧ (((0) ≤ y.n 91061 ∧ y.n 91061 ≤ (5)) ∧ True) ∧ (((0) ≤ y.n 91013 ∧ y.n 91013 ≤ (20)) ∧ True) ∧ True := hy2
  obtain ⟨⟨g0, _⟩, ⟨g1, _⟩, _, _, _, _, _, ⟨g61, _⟩, ⟨g13, _⟩, _⟩ := hf
  obtain ⟨i3, ht, e60, e36, e38, e39, e40, hM, hP⟩ := hy3
  obtain ⟨mb0, mb1⟩ := mn_bnd hM (by omega) (by omega) (by omega) (by omega) (by omega) (by omega)
  have hR2 : Row plS (y.l 2) := hy1.2.2.1.2
  have hR3 : Row [.i .u32] (y.l 3) := hy1.2.2.2.1.2
  have hf : flat plS = true := rfl
  have hf2 : flat [Sp.i IntKind.u32] = true := rfl
  obtain ⟨k, hk⟩ : ∃ k : Nat, y.n 100000 = (k : Int) := ⟨(y.n 100000).toNat, by omega⟩
  rw [hk, Int.toNat_natCast] at hP
  rw [hk] at hM e38
  have N1 := hP.h1
  have t0 : (y.n 100000).toNat = k := by rw [hk]; exact Int.toNat_natCast k
  have t1 : (y.n 100001).toNat = k := by rw [N1]; exact Int.toNat_natCast k
  have w2 : IntKind.i64.wrap (y.n 91061 + 1) = y.n 91061 + 1 := by rw [wi64]; omega
  have hPn : PLN (y.n 91000) k (y.l 2) (y.l 3) (k : Int) (k : Int) := ⟨hP.hl, hP.hm, rfl, rfl, hP.he⟩
  have hMe := mn_end hM
  simp only [hk, t0, t1, w2, hf, hf2, hR2, hR3, Int.toNat_natCast, and_true, true_and]
  (repeat' apply And.intro) <;> first | assumption | omega | trivial | exact hPn | exact hPn _ | exact hMn | exact hMe
end Go.Proofs.Ytpddbhfebhpohaa

