import Derived.Test.YtpddbhfebhpohaaE
set_option linter.unusedVariables false
set_option linter.unusedSimpArgs false
namespace Go.Proofs.Ytpddbhfebhpohaa
open Go Go.Proofs Go.Proofs.Ytpddbhfebhpohaa.Ev Go.Proofs.Ytpddbhfebhpohaa.Ev.Ho
set_option maxRecDepth 100000
theorem copy_r6 (E : World) (n ch : Int) (wd : Bool) (z : PX) (y : PX) :
    (loopP (pe E) Try.f5 (endR ([] : List MB).length [] (.c .b) (fun _ y => y.b 90000 = true) z) (headR ([] : List MB).length Try.f5.ntmps (some ((fun y => (200 - y.n 91084).toNat) y)) (copy_hs E n ch wd z))  (run (pe E) (orcA E) (tabL fns) 20000 (2 ^ 200 - 1) (td2 E) (mkL Try.f5.ntmps (slC y [(0, .r .i64 (1) (100)), (1, .b), (2, .c (.i true .i64 3)), (7, .c (.p 0 0)), (8, .c (.p 1 0)), (9, .c (.i true .u16 50176)), (10, .c (.i true .i64 4)), (82, .w 2 6), (83, .i .i64), (84, .r .i64 (0) (100))])) (mkM y [] [uM3 17408 false false, tW, pR, wR] 0))) =
    ((decide (y.n (91084 : Nat) < y.n (91083 : Nat)) = true → inB (y.n (91084 : Nat)) (y.n (91082 : Nat)).toNat = true ∧ rRow (y.l (2 : Nat)) ((y.n (91084 : Nat)).toNat * (6 :
      Nat) + (0 : Nat)) ([EK.i IntKind.i64] ++ ([EK.b] ++ ([EK.i IntKind.u32] ++ ([EK.i IntKind.u32] ++ ([EK.i IntKind.i64] ++ ([EK.i IntKind.i64] ++ [])))))) = true ∧ (bif true
      ^^ rI (y.l (2 : Nat)) ((y.n (91084 : Nat)).toNat * (6 : Nat) + (0 : Nat)) == (3 : Int) && (rB (y.l (2 : Nat)) ((y.n (91084 : Nat)).toNat * (6 : Nat) + (1 : Nat)) == true
      && (rI (y.l (2 : Nat)) ((y.n (91084 : Nat)).toNat * (6 : Nat) + (2 : Nat)) == IntKind.u32.wrap (IntKind.i64.wrap ((33619968 : Int) + IntKind.i64.wrap (y.n (91084 : Nat) *
      (4 : Int)))) && (rI (y.l (2 : Nat)) ((y.n (91084 : Nat)).toNat * (6 : Nat) + (3 : Nat)) == IntKind.u32.wrap (IntKind.i64.wrap ((50462720 : Int) + IntKind.i64.wrap (y.n
      (91084 : Nat) * (4 : Int)))) && (rI (y.l (2 : Nat)) ((y.n (91084 : Nat)).toNat * (6 : Nat) + (4 : Nat)) == (4 : Int) && ((rI (y.l (2 : Nat)) ((y.n (91084 : Nat)).toNat *
      (6 : Nat) + (5 : Nat)) == bif y.n (91084 : Nat) == (0 : Int) then (0 : Int) else (1 : Int)) && true))))) then true else inB (y.n (91084 : Nat)) (y.n (100001 : Nat)).toNat
      && rOk (y.l (3 : Nat)) (y.n (91084 : Nat)).toNat (EK.i IntKind.u32)) = true ∧ ((bif true ^^ rI (y.l (2 : Nat)) ((y.n (91084 : Nat)).toNat * (6 : Nat) + (0 : Nat)) == (3 :
      Int) && (rB (y.l (2 : Nat)) ((y.n (91084 : Nat)).toNat * (6 : Nat) + (1 : Nat)) == true && (rI (y.l (2 : Nat)) ((y.n (91084 : Nat)).toNat * (6 : Nat) + (2 : Nat)) ==
      IntKind.u32.wrap (IntKind.i64.wrap ((33619968 : Int) + IntKind.i64.wrap (y.n (91084 : Nat) * (4 : Int)))) && (rI (y.l (2 : Nat)) ((y.n (91084 : Nat)).toNat * (6 : Nat) +
      (3 : Nat)) == IntKind.u32.wrap (IntKind.i64.wrap ((50462720 : Int) + IntKind.i64.wrap (y.n (91084 : Nat) * (4 : Int)))) && (rI (y.l (2 : Nat)) ((y.n (91084 : Nat)).toNat *
      (6 : Nat) + (4 : Nat)) == (4 : Int) && ((rI (y.l (2 : Nat)) ((y.n (91084 : Nat)).toNat * (6 : Nat) + (5 : Nat)) == bif y.n (91084 : Nat) == (0 : Int) then (0 : Int) else
      (1 : Int)) && true))))) then true else rI (y.l (3 : Nat)) (y.n (91084 : Nat)).toNat != bif !y.b (91001 : Nat) then bits BinOp.or IntKind.u32 (bits BinOp.and IntKind.u32
      (bits BinOp.xor IntKind.u32 (IntKind.u32.wrap (IntKind.u32.wrap (IntKind.i64.wrap ((33619968 : Int) + IntKind.i64.wrap (y.n (91084 : Nat) * (4 : Int)))) * (2654435761 :
      Int))) ((IntKind.u32.wrap (IntKind.i64.wrap ((33619968 : Int) + IntKind.i64.wrap (y.n (91084 : Nat) * (4 : Int))))).fdiv (128 : Int))) (65535 : Int)) (IntKind.u32.wrap
      (bits BinOp.xor IntKind.u32 (IntKind.u32.wrap (IntKind.u32.wrap (IntKind.i64.wrap ((33619968 : Int) + IntKind.i64.wrap (y.n (91084 : Nat) * (4 : Int)))) * (2654435761 :
      Int))) ((IntKind.u32.wrap (IntKind.i64.wrap ((33619968 : Int) + IntKind.i64.wrap (y.n (91084 : Nat) * (4 : Int))))).fdiv (128 : Int)) * (65536 : Int))) else bits BinOp.xor
      IntKind.u32 (IntKind.u32.wrap (IntKind.u32.wrap (IntKind.i64.wrap ((33619968 : Int) + IntKind.i64.wrap (y.n (91084 : Nat) * (4 : Int)))) * (2654435761 : Int)))
      ((IntKind.u32.wrap (IntKind.i64.wrap ((33619968 : Int) + IntKind.i64.wrap (y.n (91084 : Nat) * (4 : Int))))).fdiv (128 : Int))) = true → ([] : SW) = [] ∧ True ∧ false =
      true) ∧ ((bif true ^^ rI (y.l (2 : Nat)) ((y.n (91084 : Nat)).toNat * (6 : Nat) + (0 : Nat)) == (3 : Int) && (rB (y.l (2 : Nat)) ((y.n (91084 : Nat)).toNat * (6 : Nat) +
      (1 : Nat)) == true && (rI (y.l (2 : Nat)) ((y.n (91084 : Nat)).toNat * (6 : Nat) + (2 : Nat)) == IntKind.u32.wrap (IntKind.i64.wrap ((33619968 : Int) + IntKind.i64.wrap
      (y.n (91084 : Nat) * (4 : Int)))) && (rI (y.l (2 : Nat)) ((y.n (91084 : Nat)).toNat * (6 : Nat) + (3 : Nat)) == IntKind.u32.wrap (IntKind.i64.wrap ((50462720 : Int) +
      IntKind.i64.wrap (y.n (91084 : Nat) * (4 : Int)))) && (rI (y.l (2 : Nat)) ((y.n (91084 : Nat)).toNat * (6 : Nat) + (4 : Nat)) == (4 : Int) && ((rI (y.l (2 : Nat)) ((y.n
      (91084 : Nat)).toNat * (6 : Nat) + (5 : Nat)) == bif y.n (91084 : Nat) == (0 : Int) then (0 : Int) else (1 : Int)) && true))))) then true else rI (y.l (3 : Nat)) (y.n
      (91084 : Nat)).toNat != bif !y.b (91001 : Nat) then bits BinOp.or IntKind.u32 (bits BinOp.and IntKind.u32 (bits BinOp.xor IntKind.u32 (IntKind.u32.wrap (IntKind.u32.wrap
      (IntKind.i64.wrap ((33619968 : Int) + IntKind.i64.wrap (y.n (91084 : Nat) * (4 : Int)))) * (2654435761 : Int))) ((IntKind.u32.wrap (IntKind.i64.wrap ((33619968 : Int) +
      IntKind.i64.wrap (y.n (91084 : Nat) * (4 : Int))))).fdiv (128 : Int))) (65535 : Int)) (IntKind.u32.wrap (bits BinOp.xor IntKind.u32 (IntKind.u32.wrap (IntKind.u32.wrap
      (IntKind.i64.wrap ((33619968 : Int) + IntKind.i64.wrap (y.n (91084 : Nat) * (4 : Int)))) * (2654435761 : Int))) ((IntKind.u32.wrap (IntKind.i64.wrap ((33619968 : Int) +
      IntKind.i64.wrap (y.n (91084 : Nat) * (4 : Int))))).fdiv (128 : Int)) * (65536 : Int))) else bits BinOp.xor IntKind.u32 (IntKind.u32.wrap (IntKind.u32.wrap
      (IntKind.i64.wrap ((33619968 : Int) + IntKind.i64.wrap (y.n (91084 : Nat) * (4 : Int)))) * (2654435761 : Int))) ((IntKind.u32.wrap (IntKind.i64.wrap ((33619968 : Int) +
      IntKind.i64.wrap (y.n (91084 : Nat) * (4 : Int))))).fdiv (128 : Int))) = false → td2 E = td2 E ∧ (149 : Nat) = (149 : Nat) ∧ ((((1 : Int) ≤ y.n (91000 : Nat) ∧ y.n (91000
      : Nat) ≤ (100 : Int)) ∧ True) ∧ True ∧ True ∧ True ∧ True ∧ True ∧ True ∧ True ∧ True ∧ (((0 : Int) ≤ IntKind.i64.wrap (y.n (91084 : Nat) + (1 : Int)) ∧ IntKind.i64.wrap
      (y.n (91084 : Nat) + (1 : Int)) ≤ (100 : Int)) ∧ True) ∧ True) ∧ ((62 : Nat) = (62 : Nat) ∧ True ∧ (38 : Nat) = (38 : Nat) ∧ True ∧ (48 : Nat) = (48 : Nat) ∧ (flat plS =
      true ∧ Row plS (y.l (2 : Nat))) ∧ (27 : Nat) = (27 : Nat) ∧ (flat [Sp.i IntKind.u32] = true ∧ Row [Sp.i IntKind.u32] (y.l (3 : Nat))) ∧ ([] : SW) = []) ∧ (y.n (91083 :
      Nat) = y.n (91000 : Nat) ∧ (↑(y.n (91082 : Nat)).toNat : Int) = y.n (91000 : Nat) ∧ IntKind.i64.wrap (y.n (91084 : Nat) + (1 : Int)) ≤ y.n (91000 : Nat) ∧ y.b (91001 :
      Nat) = true ∧ PLN (3 : Int) (4 : Int) (y.n (91000 : Nat)).toNat (y.l (2 : Nat)) (y.l (3 : Nat)) (↑(y.n (100000 : Nat)).toNat : Int) (↑(y.n (100001 : Nat)).toNat : Int)) ∧
      ((200 : Int) - IntKind.i64.wrap (y.n (91084 : Nat) + (1 : Int))).toNat < ((200 : Int) - y.n (91084 : Nat)).toNat ∧ True)) ∧ (decide (y.n (91084 : Nat) < y.n (91083 : Nat))
      = false → (((↑(y.n (100000 : Nat)).toNat : Int) == y.n (91000 : Nat)) = true → ([] : SW) = [] ∧ True ∧ true = true) ∧ (((↑(y.n (100000 : Nat)).toNat : Int) == y.n (91000 :
      Nat)) = false → ([] : SW) = [] ∧ True ∧ false = true))) := by kernel_rfl
set_option maxHeartbeats 8000000 in
theorem copy_q6 (E : World) (n ch : Int) (wd : Bool) (z : PX) (hp : (fun _ => True) z) (y : PX) (hy1 : rgM y [uM3 17408 false false, tW, pR, wR] 0) (hy2 : rgF y [(0, .r .i64 (1) (100)), (1, .b), (2, .c (.i true .i64 3)), (7, .c (.p 0 0)), (8, .c (.p 1 0)), (9, .c (.i true .u16 50176)), (10, .c (.i true .i64 4)), (82, .w 2 6), (83, .i .i64), (84, .r .i64 (0) (100))]) (hy3 : (fun y => y.n 91083 = y.n 91000 ∧ y.n 91082 = y.n 91000 ∧ y.n 91084 ≤ y.n 91000 ∧ y.b 91001 = true ∧ PLN 3 4 (y.n 91000).toNat (y.l 2) (y.l 3) (y.n 100000) (y.n 100001)) y) : Holds ((run (pe E) (orcA E) (tabL fns) 20000 (2 ^ 200 - 1) (td2 E) (mkL Try.f5.ntmps (slC y [(0, .r .i64 (1) (100)), (1, .b), (2, .c (.i true .i64 3)), (7, .c (.p 0 0)), (8, .c (.p 1 0)), (9, .c (.i true .u16 50176)), (10, .c (.i true .i64 4)), (82, .w 2 6), (83, .i .i64), (84, .r .i64 (0) (100))])) (mkM y [] [uM3 17408 false false, tW, pR, wR] 0)).OK (lfP (pe E) Try.f5 (endR ([] : List MB).length [] (.c .b) (fun _ y => y.b 90000 = true) z) (headR ([] : List MB).length Try.f5.ntmps (some ((fun y => (200 - y.n 91084).toNat) y)) (copy_hs E n ch wd z)))) := by
  refine loopP_lfH ⟨?_⟩
  rw [copy_r6]
  have hf : (((1) ≤ y.n 91000 ∧ y.n 91000 ≤ (100)) ∧ True) ∧ True ∧ True ∧ True ∧ True ∧ True ∧ True ∧ (0 ≤ y.n 91082 ∧ True) ∧ True ∧ (((0) ≤ y.n 91084 ∧ y.n 91084 ≤ (100)) ∧ True) ∧ True := hy2
  obtain ⟨⟨g0, _⟩, _, _, _, _, _, _, ⟨g82, _⟩, _, ⟨g84, _⟩, _⟩ := hf
  obtain ⟨e83, e82, le84, ew, hP⟩ := hy3
  have hR2 : Row plS (y.l 2) := hy1.2.2.1.2
  have hR3 : Row [.i .u32] (y.l 3) := hy1.2.2.2.1.2
  obtain ⟨k, hk⟩ : ∃ k : Nat, y.n 91084 = (k : Int) := ⟨(y.n 91084).toNat, by omega⟩
  obtain ⟨L2, L3, N0, N1, hE⟩ := id hP
  have hf : flat plS = true := rfl
  have hf2 : flat [Sp.i IntKind.u32] = true := rfl
  rw [hk] at le84 g84
  simp only [hk]
  have t0 : ((y.n 100000).toNat : Int) = y.n 91000 := by rw [N0]; omega
  by_cases hlt : (k : Int) < y.n 91083
  · have h1 : decide ((k : Int) < y.n 91083) = true := decide_eq_true hlt
    obtain ⟨⟨x0, x1, x2, x3, x4, x5⟩, x6⟩ := hE k (by omega)
    have x0' : rI (y.l 2) (k * 6 + 0) = 3 := x0
    have x5' : rI (y.l 2) (k * 6 + 5) = (bif (k : Int) == 0 then (0 : Int) else 1) := by
      rw [x5]; by_cases h0 : k = 0
      · subst h0; rfl
      · have : ((k : Int) == 0) = false := by simp [h0]
        rw [if_neg h0, this]; rfl
    have h4 : inB (k : Int) (y.n 91082).toNat = true := by simp only [inB, Bool.and_eq_true, decide_eq_true_eq]; omega
    have h5 : inB (k : Int) (y.n 100001).toNat = true := by simp only [inB, Bool.and_eq_true, decide_eq_true_eq]; omega
    have h6 : rRow (y.l 2) (k * 6 + 0) ([EK.i IntKind.i64] ++ ([EK.b] ++ ([EK.i IntKind.u32] ++ ([EK.i IntKind.u32] ++ ([EK.i IntKind.i64] ++ ([EK.i IntKind.i64] ++ [])))))) = true := rRow6 hR2 (by omega)
    have h7 : rOk (y.l 3) k (EK.i IntKind.u32) = true := hR3.rOk (q := .i .u32) (by omega) (by show [Sp.i .u32][k % 1]? = _; rw [Nat.mod_one]; rfl) rfl
    have w1 : IntKind.u32.wrap (IntKind.i64.wrap (33619968 + IntKind.i64.wrap ((k : Int) * 4))) = 33619968 + (k : Int) * 4 := by
      have a1 : IntKind.i64.wrap ((k : Int) * 4) = (k : Int) * 4 := by rw [wi64]; omega
      rw [a1]
      have a2 : IntKind.i64.wrap (33619968 + (k : Int) * 4) = 33619968 + (k : Int) * 4 := by rw [wi64]; omega
      rw [a2, wu32]; omega
    have w2 : IntKind.u32.wrap (IntKind.i64.wrap (50462720 + IntKind.i64.wrap ((k : Int) * 4))) = 50462720 + (k : Int) * 4 := by
      have a1 : IntKind.i64.wrap ((k : Int) * 4) = (k : Int) * 4 := by rw [wi64]; omega
      rw [a1]
      have a2 : IntKind.i64.wrap (50462720 + (k : Int) * 4) = 50462720 + (k : Int) * 4 := by rw [wi64]; omega
      rw [a2, wu32]; omega
    have w3 : IntKind.i64.wrap ((k : Int) + 1) = (k : Int) + 1 := by rw [wi64]; omega
    have ho : ∀ a : Int, (a == a) = true := fun a => beq_self_eq_true a
    have hn : ∀ a : Int, (a != a) = false := fun a => bne_self_eq_false a
    simp only [Int.toNat_natCast, h1, h4, h5, h6, h7, x0', x1, x2, x3, x4, x5', x6, w1, w2, w3, ew, vwT, ho, hn, t0, hf, hf2, hR2, hR3, beq_self_eq_true, Bool.not_true, Bool.not_false, Bool.xor_true, Bool.true_xor, Bool.and_true, cond_true, cond_false, Bool.and_self, Bool.true_eq_false, Bool.false_eq_true, false_implies, true_implies, forall_const, and_true, true_and]
    exact ⟨⟨g0, by omega, by omega⟩, ⟨e83, by omega, by omega, ⟨L2, L3, by omega, by omega, hE⟩⟩, by omega⟩
  · have h1 : decide ((k : Int) < y.n 91083) = false := decide_eq_false hlt
    simp only [h1, Bool.true_eq_false, Bool.false_eq_true, false_implies, true_implies, forall_const, and_true, true_and]
    simp [t0]
theorem copy_r7 (E : World) (n ch : Int) (wd : Bool) (z : PX) (y : PX) :
    (loopP (pe E) Try.f5 (endR ([] : List MB).length [] (.c .b) (fun _ y => y.b 90000 = true) z) (headR ([] : List MB).length Try.f5.ntmps (some ((fun y => (200 - y.n 91084).toNat) y)) (copy_hs E n ch wd z))  (run (pe E) (orcA E) (tabL fns) 20000 (2 ^ 200 - 1) (td2 E) (mkL Try.f5.ntmps (slC y [(0, .r .i64 (1) (100)), (1, .b), (2, .c (.i true .i64 3)), (7, .c (.p 0 0)), (8, .c (.p 1 0)), (9, .c (.i true .u16 49152)), (10, .c (.i true .i64 2)), (82, .w 2 6), (83, .i .i64), (84, .r .i64 (0) (100))])) (mkM y [] [uM3 16384 false false, tW, pR, wR] 0))) =
    ((decide (y.n (91084 : Nat) < y.n (91083 : Nat)) = true → inB (y.n (91084 : Nat)) (y.n (91082 : Nat)).toNat = true ∧ rRow (y.l (2 : Nat)) ((y.n (91084 : Nat)).toNat * (6 :
      Nat) + (0 : Nat)) ([EK.i IntKind.i64] ++ ([EK.b] ++ ([EK.i IntKind.u32] ++ ([EK.i IntKind.u32] ++ ([EK.i IntKind.i64] ++ ([EK.i IntKind.i64] ++ [])))))) = true ∧ (bif true
      ^^ rI (y.l (2 : Nat)) ((y.n (91084 : Nat)).toNat * (6 : Nat) + (0 : Nat)) == (3 : Int) && (rB (y.l (2 : Nat)) ((y.n (91084 : Nat)).toNat * (6 : Nat) + (1 : Nat)) == true
      && (rI (y.l (2 : Nat)) ((y.n (91084 : Nat)).toNat * (6 : Nat) + (2 : Nat)) == IntKind.u32.wrap (IntKind.i64.wrap ((33619968 : Int) + IntKind.i64.wrap (y.n (91084 : Nat) *
      (2 : Int)))) && (rI (y.l (2 : Nat)) ((y.n (91084 : Nat)).toNat * (6 : Nat) + (3 : Nat)) == IntKind.u32.wrap (IntKind.i64.wrap ((50462720 : Int) + IntKind.i64.wrap (y.n
      (91084 : Nat) * (2 : Int)))) && (rI (y.l (2 : Nat)) ((y.n (91084 : Nat)).toNat * (6 : Nat) + (4 : Nat)) == (2 : Int) && ((rI (y.l (2 : Nat)) ((y.n (91084 : Nat)).toNat *
      (6 : Nat) + (5 : Nat)) == bif y.n (91084 : Nat) == (0 : Int) then (0 : Int) else (1 : Int)) && true))))) then true else inB (y.n (91084 : Nat)) (y.n (100001 : Nat)).toNat
      && rOk (y.l (3 : Nat)) (y.n (91084 : Nat)).toNat (EK.i IntKind.u32)) = true ∧ ((bif true ^^ rI (y.l (2 : Nat)) ((y.n (91084 : Nat)).toNat * (6 : Nat) + (0 : Nat)) == (3 :
      Int) && (rB (y.l (2 : Nat)) ((y.n (91084 : Nat)).toNat * (6 : Nat) + (1 : Nat)) == true && (rI (y.l (2 : Nat)) ((y.n (91084 : Nat)).toNat * (6 : Nat) + (2 : Nat)) ==
      IntKind.u32.wrap (IntKind.i64.wrap ((33619968 : Int) + IntKind.i64.wrap (y.n (91084 : Nat) * (2 : Int)))) && (rI (y.l (2 : Nat)) ((y.n (91084 : Nat)).toNat * (6 : Nat) +
      (3 : Nat)) == IntKind.u32.wrap (IntKind.i64.wrap ((50462720 : Int) + IntKind.i64.wrap (y.n (91084 : Nat) * (2 : Int)))) && (rI (y.l (2 : Nat)) ((y.n (91084 : Nat)).toNat *
      (6 : Nat) + (4 : Nat)) == (2 : Int) && ((rI (y.l (2 : Nat)) ((y.n (91084 : Nat)).toNat * (6 : Nat) + (5 : Nat)) == bif y.n (91084 : Nat) == (0 : Int) then (0 : Int) else
      (1 : Int)) && true))))) then true else rI (y.l (3 : Nat)) (y.n (91084 : Nat)).toNat != bif !y.b (91001 : Nat) then bits BinOp.or IntKind.u32 (bits BinOp.and IntKind.u32
      (bits BinOp.xor IntKind.u32 (IntKind.u32.wrap (IntKind.u32.wrap (IntKind.i64.wrap ((33619968 : Int) + IntKind.i64.wrap (y.n (91084 : Nat) * (2 : Int)))) * (2654435761 :
      Int))) ((IntKind.u32.wrap (IntKind.i64.wrap ((33619968 : Int) + IntKind.i64.wrap (y.n (91084 : Nat) * (2 : Int))))).fdiv (128 : Int))) (65535 : Int)) (IntKind.u32.wrap
      (bits BinOp.xor IntKind.u32 (IntKind.u32.wrap (IntKind.u32.wrap (IntKind.i64.wrap ((33619968 : Int) + IntKind.i64.wrap (y.n (91084 : Nat) * (2 : Int)))) * (2654435761 :
      Int))) ((IntKind.u32.wrap (IntKind.i64.wrap ((33619968 : Int) + IntKind.i64.wrap (y.n (91084 : Nat) * (2 : Int))))).fdiv (128 : Int)) * (65536 : Int))) else bits BinOp.xor
      IntKind.u32 (IntKind.u32.wrap (IntKind.u32.wrap (IntKind.i64.wrap ((33619968 : Int) + IntKind.i64.wrap (y.n (91084 : Nat) * (2 : Int)))) * (2654435761 : Int)))
      ((IntKind.u32.wrap (IntKind.i64.wrap ((33619968 : Int) + IntKind.i64.wrap (y.n (91084 : Nat) * (2 : Int))))).fdiv (128 : Int))) = true → ([] : SW) = [] ∧ True ∧ false =
      true) ∧ ((bif true ^^ rI (y.l (2 : Nat)) ((y.n (91084 : Nat)).toNat * (6 : Nat) + (0 : Nat)) == (3 : Int) && (rB (y.l (2 : Nat)) ((y.n (91084 : Nat)).toNat * (6 : Nat) +
      (1 : Nat)) == true && (rI (y.l (2 : Nat)) ((y.n (91084 : Nat)).toNat * (6 : Nat) + (2 : Nat)) == IntKind.u32.wrap (IntKind.i64.wrap ((33619968 : Int) + IntKind.i64.wrap
      (y.n (91084 : Nat) * (2 : Int)))) && (rI (y.l (2 : Nat)) ((y.n (91084 : Nat)).toNat * (6 : Nat) + (3 : Nat)) == IntKind.u32.wrap (IntKind.i64.wrap ((50462720 : Int) +
      IntKind.i64.wrap (y.n (91084 : Nat) * (2 : Int)))) && (rI (y.l (2 : Nat)) ((y.n (91084 : Nat)).toNat * (6 : Nat) + (4 : Nat)) == (2 : Int) && ((rI (y.l (2 : Nat)) ((y.n
      (91084 : Nat)).toNat * (6 : Nat) + (5 : Nat)) == bif y.n (91084 : Nat) == (0 : Int) then (0 : Int) else (1 : Int)) && true))))) then true else rI (y.l (3 : Nat)) (y.n
      (91084 : Nat)).toNat != bif !y.b (91001 : Nat) then bits BinOp.or IntKind.u32 (bits BinOp.and IntKind.u32 (bits BinOp.xor IntKind.u32 (IntKind.u32.wrap (IntKind.u32.wrap
      (IntKind.i64.wrap ((33619968 : Int) + IntKind.i64.wrap (y.n (91084 : Nat) * (2 : Int)))) * (2654435761 : Int))) ((IntKind.u32.wrap (IntKind.i64.wrap ((33619968 : Int) +
      IntKind.i64.wrap (y.n (91084 : Nat) * (2 : Int))))).fdiv (128 : Int))) (65535 : Int)) (IntKind.u32.wrap (bits BinOp.xor IntKind.u32 (IntKind.u32.wrap (IntKind.u32.wrap
      (IntKind.i64.wrap ((33619968 : Int) + IntKind.i64.wrap (y.n (91084 : Nat) * (2 : Int)))) * (2654435761 : Int))) ((IntKind.u32.wrap (IntKind.i64.wrap ((33619968 : Int) +
      IntKind.i64.wrap (y.n (91084 : Nat) * (2 : Int))))).fdiv (128 : Int)) * (65536 : Int))) else bits BinOp.xor IntKind.u32 (IntKind.u32.wrap (IntKind.u32.wrap
      (IntKind.i64.wrap ((33619968 : Int) + IntKind.i64.wrap (y.n (91084 : Nat) * (2 : Int)))) * (2654435761 : Int))) ((IntKind.u32.wrap (IntKind.i64.wrap ((33619968 : Int) +
      IntKind.i64.wrap (y.n (91084 : Nat) * (2 : Int))))).fdiv (128 : Int))) = false → td2 E = td2 E ∧ (149 : Nat) = (149 : Nat) ∧ ((((1 : Int) ≤ y.n (91000 : Nat) ∧ y.n (91000
      : Nat) ≤ (100 : Int)) ∧ True) ∧ True ∧ True ∧ True ∧ True ∧ True ∧ True ∧ True ∧ True ∧ (((0 : Int) ≤ IntKind.i64.wrap (y.n (91084 : Nat) + (1 : Int)) ∧ IntKind.i64.wrap
      (y.n (91084 : Nat) + (1 : Int)) ≤ (100 : Int)) ∧ True) ∧ True) ∧ ((62 : Nat) = (62 : Nat) ∧ True ∧ (38 : Nat) = (38 : Nat) ∧ True ∧ (48 : Nat) = (48 : Nat) ∧ (flat plS =
      true ∧ Row plS (y.l (2 : Nat))) ∧ (27 : Nat) = (27 : Nat) ∧ (flat [Sp.i IntKind.u32] = true ∧ Row [Sp.i IntKind.u32] (y.l (3 : Nat))) ∧ ([] : SW) = []) ∧ (y.n (91083 :
      Nat) = y.n (91000 : Nat) ∧ (↑(y.n (91082 : Nat)).toNat : Int) = y.n (91000 : Nat) ∧ IntKind.i64.wrap (y.n (91084 : Nat) + (1 : Int)) ≤ y.n (91000 : Nat) ∧ y.b (91001 :
      Nat) = false ∧ PLN (3 : Int) (2 : Int) (y.n (91000 : Nat)).toNat (y.l (2 : Nat)) (y.l (3 : Nat)) (↑(y.n (100000 : Nat)).toNat : Int) (↑(y.n (100001 : Nat)).toNat : Int)) ∧
      ((200 : Int) - IntKind.i64.wrap (y.n (91084 : Nat) + (1 : Int))).toNat < ((200 : Int) - y.n (91084 : Nat)).toNat ∧ True)) ∧ (decide (y.n (91084 : Nat) < y.n (91083 : Nat))
      = false → (((↑(y.n (100000 : Nat)).toNat : Int) == y.n (91000 : Nat)) = true → ([] : SW) = [] ∧ True ∧ true = true) ∧ (((↑(y.n (100000 : Nat)).toNat : Int) == y.n (91000 :
      Nat)) = false → ([] : SW) = [] ∧ True ∧ false = true))) := by kernel_rfl
set_option maxHeartbeats 8000000 in
theorem copy_q7 (E : World) (n ch : Int) (wd : Bool) (z : PX) (hp : (fun _ => True) z) (y : PX) (hy1 : rgM y [uM3 16384 false false, tW, pR, wR] 0) (hy2 : rgF y [(0, .r .i64 (1) (100)), (1, .b), (2, .c (.i true .i64 3)), (7, .c (.p 0 0)), (8, .c (.p 1 0)), (9, .c (.i true .u16 49152)), (10, .c (.i true .i64 2)), (82, .w 2 6), (83, .i .i64), (84, .r .i64 (0) (100))]) (hy3 : (fun y => y.n 91083 = y.n 91000 ∧ y.n 91082 = y.n 91000 ∧ y.n 91084 ≤ y.n 91000 ∧ y.b 91001 = false ∧ PLN 3 2 (y.n 91000).toNat (y.l 2) (y.l 3) (y.n 100000) (y.n 100001)) y) : Holds ((run (pe E) (orcA E) (tabL fns) 20000 (2 ^ 200 - 1) (td2 E) (mkL Try.f5.ntmps (slC y [(0, .r .i64 (1) (100)), (1, .b), (2, .c (.i true .i64 3)), (7, .c (.p 0 0)), (8, .c (.p 1 0)), (9, .c (.i true .u16 49152)), (10, .c (.i true .i64 2)), (82, .w 2 6), (83, .i .i64), (84, .r .i64 (0) (100))])) (mkM y [] [uM3 16384 false false, tW, pR, wR] 0)).OK (lfP (pe E) Try.f5 (endR ([] : List MB).length [] (.c .b) (fun _ y => y.b 90000 = true) z) (headR ([] : List MB).length Try.f5.ntmps (some ((fun y => (200 - y.n 91084).toNat) y)) (copy_hs E n ch wd z)))) := by
  refine loopP_lfH ⟨?_⟩
  rw [copy_r7]
  have hf : (((1) ≤ y.n 91000 ∧ y.n 91000 ≤ (100)) ∧ True) ∧ True ∧ True ∧ True ∧ True ∧ True ∧ True ∧ (0 ≤ y.n 91082 ∧ True) ∧ True ∧ (((0) ≤ y.n 91084 ∧ y.n 91084 ≤ (100)) ∧ True) ∧ True := hy2
  obtain ⟨⟨g0, _⟩, _, _, _, _, _, _, ⟨g82, _⟩, _, ⟨g84, _⟩, _⟩ := hf
  obtain ⟨e83, e82, le84, ew, hP⟩ := hy3
  have hR2 : Row plS (y.l 2) := hy1.2.2.1.2
  have hR3 : Row [.i .u32] (y.l 3) := hy1.2.2.2.1.2
  obtain ⟨k, hk⟩ : ∃ k : Nat, y.n 91084 = (k : Int) := ⟨(y.n 91084).toNat, by omega⟩
  obtain ⟨L2, L3, N0, N1, hE⟩ := id hP
  have hf : flat plS = true := rfl
  have hf2 : flat [Sp.i IntKind.u32] = true := rfl
  rw [hk] at le84 g84
  simp only [hk]
  have t0 : ((y.n 100000).toNat : Int) = y.n 91000 := by rw [N0]; omega
  by_cases hlt : (k : Int) < y.n 91083
  · have h1 : decide ((k : Int) < y.n 91083) = true := decide_eq_true hlt
    obtain ⟨⟨x0, x1, x2, x3, x4, x5⟩, x6⟩ := hE k (by omega)
    have x0' : rI (y.l 2) (k * 6 + 0) = 3 := x0
    have x5' : rI (y.l 2) (k * 6 + 5) = (bif (k : Int) == 0 then (0 : Int) else 1) := by
      rw [x5]; by_cases h0 : k = 0
      · subst h0; rfl
      · have : ((k : Int) == 0) = false := by simp [h0]
        rw [if_neg h0, this]; rfl
    have h4 : inB (k : Int) (y.n 91082).toNat = true := by simp only [inB, Bool.and_eq_true, decide_eq_true_eq]; omega
    have h5 : inB (k : Int) (y.n 100001).toNat = true := by simp only [inB, Bool.and_eq_true, decide_eq_true_eq]; omega
    have h6 : rRow (y.l 2) (k * 6 + 0) ([EK.i IntKind.i64] ++ ([EK.b] ++ ([EK.i IntKind.u32] ++ ([EK.i IntKind.u32] ++ ([EK.i IntKind.i64] ++ ([EK.i IntKind.i64] ++ [])))))) = true := rRow6 hR2 (by omega)
    have h7 : rOk (y.l 3) k (EK.i IntKind.u32) = true := hR3.rOk (q := .i .u32) (by omega) (by show [Sp.i .u32][k % 1]? = _; rw [Nat.mod_one]; rfl) rfl
    have w1 : IntKind.u32.wrap (IntKind.i64.wrap (33619968 + IntKind.i64.wrap ((k : Int) * 2))) = 33619968 + (k : Int) * 2 := by
      have a1 : IntKind.i64.wrap ((k : Int) * 2) = (k : Int) * 2 := by rw [wi64]; omega
      rw [a1]
      have a2 : IntKind.i64.wrap (33619968 + (k : Int) * 2) = 33619968 + (k : Int) * 2 := by rw [wi64]; omega
      rw [a2, wu32]; omega
    have w2 : IntKind.u32.wrap (IntKind.i64.wrap (50462720 + IntKind.i64.wrap ((k : Int) * 2))) = 50462720 + (k : Int) * 2 := by
      have a1 : IntKind.i64.wrap ((k : Int) * 2) = (k : Int) * 2 := by rw [wi64]; omega
      rw [a1]
      have a2 : IntKind.i64.wrap (50462720 + (k : Int) * 2) = 50462720 + (k : Int) * 2 := by rw [wi64]; omega
      rw [a2, wu32]; omega
    have w3 : IntKind.i64.wrap ((k : Int) + 1) = (k : Int) + 1 := by rw [wi64]; omega
    have ho : ∀ a : Int, (a == a) = true := fun a => beq_self_eq_true a
    have hn : ∀ a : Int, (a != a) = false := fun a => bne_self_eq_false a
    simp only [Int.toNat_natCast, h1, h4, h5, h6, h7, x0', x1, x2, x3, x4, x5', x6, w1, w2, w3, ew, vwF, ho, hn, t0, hf, hf2, hR2, hR3, beq_self_eq_true, Bool.not_true, Bool.not_false, Bool.xor_true, Bool.true_xor, Bool.and_true, cond_true, cond_false, Bool.and_self, Bool.true_eq_false, Bool.false_eq_true, false_implies, true_implies, forall_const, and_true, true_and]
    exact ⟨⟨g0, by omega, by omega⟩, ⟨e83, by omega, by omega, ⟨L2, L3, by omega, by omega, hE⟩⟩, by omega⟩
  · have h1 : decide ((k : Int) < y.n 91083) = false := decide_eq_false hlt
    simp only [h1, Bool.true_eq_false, Bool.false_eq_true, false_implies, true_implies, forall_const, and_true, true_and]
    simp [t0]
theorem copy_r14 (E : World) (n ch : Int) (wd : Bool) (z : PX) (y : PX) :
    (loopW (pe E) Try.f5 (endR ([] : List MB).length [] (.c .b) (fun _ y => y.b 90000 = true) z) (headR ([] : List MB).length Try.f5.ntmps (some ((fun y => (2000 - y.n 91051).toNat) y)) (copy_hs E n ch wd z)) [some true, some true] (run (pe E) (orcA E) (tabL fns) 20000 (2 ^ 200 - 1) (td1 E) (mkL Try.f5.ntmps (slC y [(0, .r .i64 (1) (100)), (1, .b), (2, .c (.i true .i64 3)), (7, .c (.p 0 0)), (8, .c (.p 1 0)), (9, .c (.i true .u16 50176)), (10, .c (.i true .i64 4)), (50, .i .i64), (51, .r .i64 (0) (100))])) (mkM y [] [uM3 50176 true true, tN] 0))) =
    (decide (y.n (91051 : Nat) < y.n (91050 : Nat)) = true ∧ decide (bits BinOp.andNot IntKind.u32 (y.n (38 : Nat)) (3 : Int) ≥ (33554432 : Int)) = true ∧ (decide
      (IntKind.i64.wrap (y.n (40 : Nat) - (1 : Int)) > (0 : Int)) = true → ((bif true ^^ false == (y.n (91051 : Nat) == IntKind.i64.wrap (y.n (91000 : Nat) - (1 : Int))) then
      true else false) = true → ([] : SW) = [] ∧ True ∧ false = true) ∧ ((bif true ^^ false == (y.n (91051 : Nat) == IntKind.i64.wrap (y.n (91000 : Nat) - (1 : Int))) then true
      else false) = false → td1 E = td1 E ∧ (149 : Nat) = (149 : Nat) ∧ ((((1 : Int) ≤ y.n (91000 : Nat) ∧ y.n (91000 : Nat) ≤ (100 : Int)) ∧ True) ∧ True ∧ True ∧ True ∧ True ∧
      True ∧ True ∧ True ∧ (((0 : Int) ≤ IntKind.i64.wrap (y.n (91051 : Nat) + (1 : Int)) ∧ IntKind.i64.wrap (y.n (91051 : Nat) + (1 : Int)) ≤ (100 : Int)) ∧ True) ∧ True) ∧
      ((62 : Nat) = (62 : Nat) ∧ True ∧ (38 : Nat) = (38 : Nat) ∧ True ∧ (48 : Nat) = (48 : Nat) ∧ (flat plS = true ∧ Row plS [C.i true IntKind.i64 (3 : Int), ofCell (Value.bool
      true), C.i false IntKind.u32 (bits BinOp.andNot IntKind.u32 (y.n (38 : Nat)) (3 : Int)), C.i false IntKind.u32 (bits BinOp.andNot IntKind.u32 (y.n (39 : Nat)) (3 : Int)),
      ofCell (Value.int IntKind.i64 (4 : Int)), ofCell (Value.int IntKind.i64 (0 : Int))]) ∧ (27 : Nat) = (27 : Nat) ∧ (flat [Sp.i IntKind.u32] = true ∧ Row [Sp.i IntKind.u32]
      [C.i false IntKind.u32 (bits BinOp.xor IntKind.u32 (IntKind.u32.wrap (bits BinOp.andNot IntKind.u32 (y.n (38 : Nat)) (3 : Int) * (2654435761 : Int))) ((bits BinOp.andNot
      IntKind.u32 (y.n (38 : Nat)) (3 : Int)).fdiv (128 : Int)))]) ∧ ([] : SW) = []) ∧ (((1 : Int) ≤ IntKind.i64.wrap (y.n (91051 : Nat) + (1 : Int)) ∧ IntKind.i64.wrap (y.n
      (91051 : Nat) + (1 : Int)) < y.n (91000 : Nat)) ∧ y.n (91050 : Nat) = y.n (91000 : Nat) ∧ y.b (91001 : Nat) = true ∧ IntKind.u32.wrap (y.n (38 : Nat) + (4 : Int)) =
      (33619968 : Int) + IntKind.i64.wrap (y.n (91051 : Nat) + (1 : Int)) * (4 : Int) ∧ IntKind.u32.wrap (y.n (39 : Nat) + (4 : Int)) = (50462720 : Int) + IntKind.i64.wrap (y.n
      (91051 : Nat) + (1 : Int)) * (4 : Int) ∧ IntKind.i64.wrap (y.n (40 : Nat) - (1 : Int)) = y.n (91000 : Nat) - IntKind.i64.wrap (y.n (91051 : Nat) + (1 : Int)) ∧ PLN (3 :
      Int) (4 : Int) (IntKind.i64.wrap (y.n (91051 : Nat) + (1 : Int))).toNat [C.i true IntKind.i64 (3 : Int), ofCell (Value.bool true), C.i false IntKind.u32 (bits BinOp.andNot
      IntKind.u32 (y.n (38 : Nat)) (3 : Int)), C.i false IntKind.u32 (bits BinOp.andNot IntKind.u32 (y.n (39 : Nat)) (3 : Int)), ofCell (Value.int IntKind.i64 (4 : Int)), ofCell
      (Value.int IntKind.i64 (0 : Int))] [C.i false IntKind.u32 (bits BinOp.xor IntKind.u32 (IntKind.u32.wrap (bits BinOp.andNot IntKind.u32 (y.n (38 : Nat)) (3 : Int) *
      (2654435761 : Int))) ((bits BinOp.andNot IntKind.u32 (y.n (38 : Nat)) (3 : Int)).fdiv (128 : Int)))] (1 : Int) (1 : Int)) ∧ ((2000 : Int) - IntKind.i64.wrap (y.n (91051 :
      Nat) + (1 : Int))).toNat < ((2000 : Int) - y.n (91051 : Nat)).toNat ∧ True)) ∧ (decide (IntKind.i64.wrap (y.n (40 : Nat) - (1 : Int)) > (0 : Int)) = false → ((bif true ^^
      true == (y.n (91051 : Nat) == IntKind.i64.wrap (y.n (91000 : Nat) - (1 : Int))) then true else false) = true → ([] : SW) = [] ∧ True ∧ false = true) ∧ ((bif true ^^ true
      == (y.n (91051 : Nat) == IntKind.i64.wrap (y.n (91000 : Nat) - (1 : Int))) then true else false) = false → td1 E = td1 E ∧ (149 : Nat) = (149 : Nat) ∧ ((((1 : Int) ≤ y.n
      (91000 : Nat) ∧ y.n (91000 : Nat) ≤ (100 : Int)) ∧ True) ∧ True ∧ True ∧ True ∧ True ∧ True ∧ True ∧ True ∧ (((0 : Int) ≤ IntKind.i64.wrap (y.n (91051 : Nat) + (1 : Int))
      ∧ IntKind.i64.wrap (y.n (91051 : Nat) + (1 : Int)) ≤ (100 : Int)) ∧ True) ∧ True) ∧ ((62 : Nat) = (62 : Nat) ∧ True ∧ (38 : Nat) = (38 : Nat) ∧ True ∧ (48 : Nat) = (48 :
      Nat) ∧ (flat plS = true ∧ Row plS [C.i true IntKind.i64 (3 : Int), ofCell (Value.bool true), C.i false IntKind.u32 (bits BinOp.andNot IntKind.u32 (y.n (38 : Nat)) (3 :
      Int)), C.i false IntKind.u32 (bits BinOp.andNot IntKind.u32 (y.n (39 : Nat)) (3 : Int)), ofCell (Value.int IntKind.i64 (4 : Int)), ofCell (Value.int IntKind.i64 (0 :
      Int))]) ∧ (27 : Nat) = (27 : Nat) ∧ (flat [Sp.i IntKind.u32] = true ∧ Row [Sp.i IntKind.u32] [C.i false IntKind.u32 (bits BinOp.xor IntKind.u32 (IntKind.u32.wrap (bits
      BinOp.andNot IntKind.u32 (y.n (38 : Nat)) (3 : Int) * (2654435761 : Int))) ((bits BinOp.andNot IntKind.u32 (y.n (38 : Nat)) (3 : Int)).fdiv (128 : Int)))]) ∧ ([] : SW) =
      []) ∧ (IntKind.i64.wrap (y.n (91051 : Nat) + (1 : Int)) = y.n (91000 : Nat) ∧ y.n (91050 : Nat) = y.n (91000 : Nat) ∧ y.b (91001 : Nat) = true ∧ PLN (3 : Int) (4 : Int)
      (IntKind.i64.wrap (y.n (91051 : Nat) + (1 : Int))).toNat [C.i true IntKind.i64 (3 : Int), ofCell (Value.bool true), C.i false IntKind.u32 (bits BinOp.andNot IntKind.u32
      (y.n (38 : Nat)) (3 : Int)), C.i false IntKind.u32 (bits BinOp.andNot IntKind.u32 (y.n (39 : Nat)) (3 : Int)), ofCell (Value.int IntKind.i64 (4 : Int)), ofCell (Value.int
      IntKind.i64 (0 : Int))] [C.i false IntKind.u32 (bits BinOp.xor IntKind.u32 (IntKind.u32.wrap (bits BinOp.andNot IntKind.u32 (y.n (38 : Nat)) (3 : Int) * (2654435761 :
      Int))) ((bits BinOp.andNot IntKind.u32 (y.n (38 : Nat)) (3 : Int)).fdiv (128 : Int)))] (1 : Int) (1 : Int)) ∧ ((2000 : Int) - IntKind.i64.wrap (y.n (91051 : Nat) + (1 :
      Int))).toNat < ((2000 : Int) - y.n (91051 : Nat)).toNat ∧ True))) := by kernel_rfl
set_option maxHeartbeats 8000000 in
theorem copy_q14 (E : World) (n ch : Int) (wd : Bool) (z : PX) (hp : (fun _ => True) z) (y : PX) (hy1 : rgM y [uM3 50176 true true, tN] 0) (hy2 : rgF y [(0, .r .i64 (1) (100)), (1, .b), (2, .c (.i true .i64 3)), (7, .c (.p 0 0)), (8, .c (.p 1 0)), (9, .c (.i true .u16 50176)), (10, .c (.i true .i64 4)), (50, .i .i64), (51, .r .i64 (0) (100))]) (hy3 : (fun y => y.n 91051 = 0 ∧ y.n 91050 = y.n 91000 ∧ y.b 91001 = true ∧ y.n 38 = 33619968 ∧ y.n 39 = 50462720 ∧ y.n 40 = y.n 91000) y) : Holds ((run (pe E) (orcA E) (tabL fns) 20000 (2 ^ 200 - 1) (td1 E) (mkL Try.f5.ntmps (slC y [(0, .r .i64 (1) (100)), (1, .b), (2, .c (.i true .i64 3)), (7, .c (.p 0 0)), (8, .c (.p 1 0)), (9, .c (.i true .u16 50176)), (10, .c (.i true .i64 4)), (50, .i .i64), (51, .r .i64 (0) (100))])) (mkM y [] [uM3 50176 true true, tN] 0)).OK (lfP (pe E) Try.f5 (endR ([] : List MB).length [] (.c .b) (fun _ y => y.b 90000 = true) z) (headR ([] : List MB).length Try.f5.ntmps (some ((fun y => (2000 - y.n 91051).toNat) y)) (copy_hs E n ch wd z)))) := by
  refine loopW_lfH [some true, some true] ⟨?_⟩
  rw [copy_r14]
  have hf : (((1) ≤ y.n 91000 ∧ y.n 91000 ≤ (100)) ∧ True) ∧ True ∧ True ∧ True ∧ True ∧ True ∧ True ∧ True ∧ (((0) ≤ y.n 91051 ∧ y.n 91051 ≤ (100)) ∧ True) ∧ True := hy2
  obtain ⟨⟨g0, _⟩, _, _, _, _, _, _, _, ⟨g51, _⟩, _⟩ := hf
  obtain ⟨e0, e50, ew, e5, e6, e7⟩ := hy3
  have ea : bits .andNot .u32 (y.n 38) 3 = 33619968 := by rw [al4 _ (by omega) (by omega) (by omega)]; exact e5
  have eb : bits .andNot .u32 (y.n 39) 3 = 50462720 := by rw [al4 _ (by omega) (by omega) (by omega)]; exact e6
  have w2 : IntKind.i64.wrap (y.n 91051 + 1) = 1 := by rw [wi64]; omega
  have w3 : IntKind.i64.wrap (y.n 91000 - 1) = y.n 91000 - 1 := by rw [wi64]; omega
  have w4 : IntKind.i64.wrap (y.n 40 - 1) = y.n 91000 - 1 := by rw [wi64, e7]; omega
  have w5 : IntKind.u32.wrap (y.n 38 + 4) = 33619968 + 1 * 4 := by rw [wu32, e5]; omega
  have w6 : IntKind.u32.wrap (y.n 39 + 4) = 50462720 + 1 * 4 := by rw [wu32, e6]; omega
  have h1 : decide (y.n 91051 < y.n 91050) = true := decide_eq_true (by omega)
  have h2 : decide ((33619968 : Int) ≥ 33554432) = true := by decide
  have hf : flat plS = true := rfl
  have hf2 : flat [Sp.i IntKind.u32] = true := rfl
  simp only [ea, eb, w2, w3, w4, w5, w6, h1, h2, cond_true, Bool.and_self, Bool.true_eq_false, false_implies, true_implies, forall_const, and_true, true_and, hf, hf2]
  clear w2 w3 w4 w5 w6 ea eb
  refine ⟨fun h => ⟨fun h' => ?_, fun h' => ?_⟩, fun h => ⟨fun h' => ?_, fun h' => ?_⟩⟩
  · exfalso; simp at h h'; omega
  · replace h := of_decide_eq_true h
    refine ⟨⟨g0, by omega, by omega⟩, ⟨Row.one trivial, Row.one trivial⟩, ⟨⟨by omega, by omega⟩, e50, ew, pln_one (vwT _)⟩, by omega⟩
  · exfalso; simp at h h'; omega
  · replace h := of_decide_eq_false h
    refine ⟨⟨g0, by omega, by omega⟩, ⟨Row.one trivial, Row.one trivial⟩, ⟨by omega, e50, ew, pln_one (vwT _)⟩, by omega⟩
theorem copy_r15 (E : World) (n ch : Int) (wd : Bool) (z : PX) (y : PX) :
    (loopW (pe E) Try.f5 (endR ([] : List MB).length [] (.c .b) (fun _ y => y.b 90000 = true) z) (headR ([] : List MB).length Try.f5.ntmps (some ((fun y => (2000 - y.n 91051).toNat) y)) (copy_hs E n ch wd z)) [some true, some true] (run (pe E) (orcA E) (tabL fns) 20000 (2 ^ 200 - 1) (td1 E) (mkL Try.f5.ntmps (slC y [(0, .r .i64 (1) (100)), (1, .b), (2, .c (.i true .i64 3)), (7, .c (.p 0 0)), (8, .c (.p 1 0)), (9, .c (.i true .u16 49152)), (10, .c (.i true .i64 2)), (50, .i .i64), (51, .r .i64 (0) (100))])) (mkM y [] [uM3 49152 true true, tN] 0))) =
    (decide (y.n (91051 : Nat) < y.n (91050 : Nat)) = true ∧ decide (bits BinOp.andNot IntKind.u32 (y.n (38 : Nat)) (1 : Int) ≥ (33554432 : Int)) = true ∧ (decide
      (IntKind.i64.wrap (y.n (40 : Nat) - (1 : Int)) > (0 : Int)) = true → ((bif true ^^ false == (y.n (91051 : Nat) == IntKind.i64.wrap (y.n (91000 : Nat) - (1 : Int))) then
      true else false) = true → ([] : SW) = [] ∧ True ∧ false = true) ∧ ((bif true ^^ false == (y.n (91051 : Nat) == IntKind.i64.wrap (y.n (91000 : Nat) - (1 : Int))) then true
      else false) = false → td1 E = td1 E ∧ (149 : Nat) = (149 : Nat) ∧ ((((1 : Int) ≤ y.n (91000 : Nat) ∧ y.n (91000 : Nat) ≤ (100 : Int)) ∧ True) ∧ True ∧ True ∧ True ∧ True ∧
      True ∧ True ∧ True ∧ (((0 : Int) ≤ IntKind.i64.wrap (y.n (91051 : Nat) + (1 : Int)) ∧ IntKind.i64.wrap (y.n (91051 : Nat) + (1 : Int)) ≤ (100 : Int)) ∧ True) ∧ True) ∧
      ((62 : Nat) = (62 : Nat) ∧ True ∧ (38 : Nat) = (38 : Nat) ∧ True ∧ (48 : Nat) = (48 : Nat) ∧ (flat plS = true ∧ Row plS [C.i true IntKind.i64 (3 : Int), ofCell (Value.bool
      true), C.i false IntKind.u32 (bits BinOp.andNot IntKind.u32 (y.n (38 : Nat)) (1 : Int)), C.i false IntKind.u32 (bits BinOp.andNot IntKind.u32 (y.n (39 : Nat)) (1 : Int)),
      ofCell (Value.int IntKind.i64 (2 : Int)), ofCell (Value.int IntKind.i64 (0 : Int))]) ∧ (27 : Nat) = (27 : Nat) ∧ (flat [Sp.i IntKind.u32] = true ∧ Row [Sp.i IntKind.u32]
      [C.i false IntKind.u32 (bits BinOp.or IntKind.u32 (bits BinOp.and IntKind.u32 (bits BinOp.xor IntKind.u32 (IntKind.u32.wrap (bits BinOp.andNot IntKind.u32 (y.n (38 : Nat))
      (1 : Int) * (2654435761 : Int))) ((bits BinOp.andNot IntKind.u32 (y.n (38 : Nat)) (1 : Int)).fdiv (128 : Int))) (65535 : Int)) (IntKind.u32.wrap (bits BinOp.xor
      IntKind.u32 (IntKind.u32.wrap (bits BinOp.andNot IntKind.u32 (y.n (38 : Nat)) (1 : Int) * (2654435761 : Int))) ((bits BinOp.andNot IntKind.u32 (y.n (38 : Nat)) (1 :
      Int)).fdiv (128 : Int)) * (65536 : Int))))]) ∧ ([] : SW) = []) ∧ (((1 : Int) ≤ IntKind.i64.wrap (y.n (91051 : Nat) + (1 : Int)) ∧ IntKind.i64.wrap (y.n (91051 : Nat) + (1
      : Int)) < y.n (91000 : Nat)) ∧ y.n (91050 : Nat) = y.n (91000 : Nat) ∧ y.b (91001 : Nat) = false ∧ IntKind.u32.wrap (y.n (38 : Nat) + (2 : Int)) = (33619968 : Int) +
      IntKind.i64.wrap (y.n (91051 : Nat) + (1 : Int)) * (2 : Int) ∧ IntKind.u32.wrap (y.n (39 : Nat) + (2 : Int)) = (50462720 : Int) + IntKind.i64.wrap (y.n (91051 : Nat) + (1
      : Int)) * (2 : Int) ∧ IntKind.i64.wrap (y.n (40 : Nat) - (1 : Int)) = y.n (91000 : Nat) - IntKind.i64.wrap (y.n (91051 : Nat) + (1 : Int)) ∧ PLN (3 : Int) (2 : Int)
      (IntKind.i64.wrap (y.n (91051 : Nat) + (1 : Int))).toNat [C.i true IntKind.i64 (3 : Int), ofCell (Value.bool true), C.i false IntKind.u32 (bits BinOp.andNot IntKind.u32
      (y.n (38 : Nat)) (1 : Int)), C.i false IntKind.u32 (bits BinOp.andNot IntKind.u32 (y.n (39 : Nat)) (1 : Int)), ofCell (Value.int IntKind.i64 (2 : Int)), ofCell (Value.int
      IntKind.i64 (0 : Int))] [C.i false IntKind.u32 (bits BinOp.or IntKind.u32 (bits BinOp.and IntKind.u32 (bits BinOp.xor IntKind.u32 (IntKind.u32.wrap (bits BinOp.andNot
      IntKind.u32 (y.n (38 : Nat)) (1 : Int) * (2654435761 : Int))) ((bits BinOp.andNot IntKind.u32 (y.n (38 : Nat)) (1 : Int)).fdiv (128 : Int))) (65535 : Int))
      (IntKind.u32.wrap (bits BinOp.xor IntKind.u32 (IntKind.u32.wrap (bits BinOp.andNot IntKind.u32 (y.n (38 : Nat)) (1 : Int) * (2654435761 : Int))) ((bits BinOp.andNot
      IntKind.u32 (y.n (38 : Nat)) (1 : Int)).fdiv (128 : Int)) * (65536 : Int))))] (1 : Int) (1 : Int)) ∧ ((2000 : Int) - IntKind.i64.wrap (y.n (91051 : Nat) + (1 :
      Int))).toNat < ((2000 : Int) - y.n (91051 : Nat)).toNat ∧ True)) ∧ (decide (IntKind.i64.wrap (y.n (40 : Nat) - (1 : Int)) > (0 : Int)) = false → ((bif true ^^ true == (y.n
      (91051 : Nat) == IntKind.i64.wrap (y.n (91000 : Nat) - (1 : Int))) then true else false) = true → ([] : SW) = [] ∧ True ∧ false = true) ∧ ((bif true ^^ true == (y.n (91051
      : Nat) == IntKind.i64.wrap (y.n (91000 : Nat) - (1 : Int))) then true else false) = false → td1 E = td1 E ∧ (149 : Nat) = (149 : Nat) ∧ ((((1 : Int) ≤ y.n (91000 : Nat) ∧
      y.n (91000 : Nat) ≤ (100 : Int)) ∧ True) ∧ True ∧ True ∧ True ∧ True ∧ True ∧ True ∧ True ∧ (((0 : Int) ≤ IntKind.i64.wrap (y.n (91051 : Nat) + (1 : Int)) ∧
      IntKind.i64.wrap (y.n (91051 : Nat) + (1 : Int)) ≤ (100 : Int)) ∧ True) ∧ True) ∧ ((62 : Nat) = (62 : Nat) ∧ True ∧ (38 : Nat) = (38 : Nat) ∧ True ∧ (48 : Nat) = (48 :
      Nat) ∧ (flat plS = true ∧ Row plS [C.i true IntKind.i64 (3 : Int), ofCell (Value.bool true), C.i false IntKind.u32 (bits BinOp.andNot IntKind.u32 (y.n (38 : Nat)) (1 :
      Int)), C.i false IntKind.u32 (bits BinOp.andNot IntKind.u32 (y.n (39 : Nat)) (1 : Int)), ofCell (Value.int IntKind.i64 (2 : Int)), ofCell (Value.int IntKind.i64 (0 :
      Int))]) ∧ (27 : Nat) = (27 : Nat) ∧ (flat [Sp.i IntKind.u32] = true ∧ Row [Sp.i IntKind.u32] [C.i false IntKind.u32 (bits BinOp.or IntKind.u32 (bits BinOp.and IntKind.u32
      (bits BinOp.xor IntKind.u32 (IntKind.u32.wrap (bits BinOp.andNot IntKind.u32 (y.n (38 : Nat)) (1 : Int) * (2654435761 : Int))) ((bits BinOp.andNot IntKind.u32 (y.n (38 :
      Nat)) (1 : Int)).fdiv (128 : Int))) (65535 : Int)) (IntKind.u32.wrap (bits BinOp.xor IntKind.u32 (IntKind.u32.wrap (bits BinOp.andNot IntKind.u32 (y.n (38 : Nat)) (1 :
      Int) * (2654435761 : Int))) ((bits BinOp.andNot IntKind.u32 (y.n (38 : Nat)) (1 : Int)).fdiv (128 : Int)) * (65536 : Int))))]) ∧ ([] : SW) = []) ∧ (IntKind.i64.wrap (y.n
      (91051 : Nat) + (1 : Int)) = y.n (91000 : Nat) ∧ y.n (91050 : Nat) = y.n (91000 : Nat) ∧ y.b (91001 : Nat) = false ∧ PLN (3 : Int) (2 : Int) (IntKind.i64.wrap (y.n (91051
      : Nat) + (1 : Int))).toNat [C.i true IntKind.i64 (3 : Int), ofCell (Value.bool true), C.i false IntKind.u32 (bits BinOp.andNot IntKind.u32 (y.n (38 : Nat)) (1 : Int)), C.i
      false IntKind.u32 (bits BinOp.andNot IntKind.u32 (y.n (39 : Nat)) (1 : Int)), ofCell (Value.int IntKind.i64 (2 : Int)), ofCell (Value.int IntKind.i64 (0 : Int))] [C.i
      false IntKind.u32 (bits BinOp.or IntKind.u32 (bits BinOp.and IntKind.u32 (bits BinOp.xor IntKind.u32 (IntKind.u32.wrap (bits BinOp.andNot IntKind.u32 (y.n (38 : Nat)) (1 :
      Int) * (2654435761 : Int))) ((bits BinOp.andNot IntKind.u32 (y.n (38 : Nat)) (1 : Int)).fdiv (128 : Int))) (65535 : Int)) (IntKind.u32.wrap (bits BinOp.xor IntKind.u32
      (IntKind.u32.wrap (bits BinOp.andNot IntKind.u32 (y.n (38 : Nat)) (1 : Int) * (2654435761 : Int))) ((bits BinOp.andNot IntKind.u32 (y.n (38 : Nat)) (1 : Int)).fdiv (128 :
      Int)) * (65536 : Int))))] (1 : Int) (1 : Int)) ∧ ((2000 : Int) - IntKind.i64.wrap (y.n (91051 : Nat) + (1 : Int))).toNat < ((2000 : Int) - y.n (91051 : Nat)).toNat ∧
      True))) := by kernel_rfl
set_option maxHeartbeats 8000000 in
theorem copy_q15 (E : World) (n ch : Int) (wd : Bool) (z : PX) (hp : (fun _ => True) z) (y : PX) (hy1 : rgM y [uM3 49152 true true, tN] 0) (hy2 : rgF y [(0, .r .i64 (1) (100)), (1, .b), (2, .c (.i true .i64 3)), (7, .c (.p 0 0)), (8, .c (.p 1 0)), (9, .c (.i true .u16 49152)), (10, .c (.i true .i64 2)), (50, .i .i64), (51, .r .i64 (0) (100))]) (hy3 : (fun y => y.n 91051 = 0 ∧ y.n 91050 = y.n 91000 ∧ y.b 91001 = false ∧ y.n 38 = 33619968 ∧ y.n 39 = 50462720 ∧ y.n 40 = y.n 91000) y) : Holds ((run (pe E) (orcA E) (tabL fns) 20000 (2 ^ 200 - 1) (td1 E) (mkL Try.f5.ntmps (slC y [(0, .r .i64 (1) (100)), (1, .b), (2, .c (.i true .i64 3)), (7, .c (.p 0 0)), (8, .c (.p 1 0)), (9, .c (.i true .u16 49152)), (10, .c (.i true .i64 2)), (50, .i .i64), (51, .r .i64 (0) (100))])) (mkM y [] [uM3 49152 true true, tN] 0)).OK (lfP (pe E) Try.f5 (endR ([] : List MB).length [] (.c .b) (fun _ y => y.b 90000 = true) z) (headR ([] : List MB).length Try.f5.ntmps (some ((fun y => (2000 - y.n 91051).toNat) y)) (copy_hs E n ch wd z)))) := by
  refine loopW_lfH [some true, some true] ⟨?_⟩
  rw [copy_r15]
  have hf : (((1) ≤ y.n 91000 ∧ y.n 91000 ≤ (100)) ∧ True) ∧ True ∧ True ∧ True ∧ True ∧ True ∧ True ∧ True ∧ (((0) ≤ y.n 91051 ∧ y.n 91051 ≤ (100)) ∧ True) ∧ True := hy2
  obtain ⟨⟨g0, _⟩, _, _, _, _, _, _, _, ⟨g51, _⟩, _⟩ := hf
  obtain ⟨e0, e50, ew, e5, e6, e7⟩ := hy3
  have ea : bits .andNot .u32 (y.n 38) 1 = 33619968 := by rw [al2 _ (by omega) (by omega) (by omega)]; exact e5
  have eb : bits .andNot .u32 (y.n 39) 1 = 50462720 := by rw [al2 _ (by omega) (by omega) (by omega)]; exact e6
  have w2 : IntKind.i64.wrap (y.n 91051 + 1) = 1 := by rw [wi64]; omega
  have w3 : IntKind.i64.wrap (y.n 91000 - 1) = y.n 91000 - 1 := by rw [wi64]; omega
  have w4 : IntKind.i64.wrap (y.n 40 - 1) = y.n 91000 - 1 := by rw [wi64, e7]; omega
  have w5 : IntKind.u32.wrap (y.n 38 + 2) = 33619968 + 1 * 2 := by rw [wu32, e5]; omega
  have w6 : IntKind.u32.wrap (y.n 39 + 2) = 50462720 + 1 * 2 := by rw [wu32, e6]; omega
  have h1 : decide (y.n 91051 < y.n 91050) = true := decide_eq_true (by omega)
  have h2 : decide ((33619968 : Int) ≥ 33554432) = true := by decide
  have hf : flat plS = true := rfl
  have hf2 : flat [Sp.i IntKind.u32] = true := rfl
  simp only [ea, eb, w2, w3, w4, w5, w6, h1, h2, cond_true, Bool.and_self, Bool.true_eq_false, false_implies, true_implies, forall_const, and_true, true_and, hf, hf2]
  clear w2 w3 w4 w5 w6 ea eb
  refine ⟨fun h => ⟨fun h' => ?_, fun h' => ?_⟩, fun h => ⟨fun h' => ?_, fun h' => ?_⟩⟩
  · exfalso; simp at h h'; omega
  · replace h := of_decide_eq_true h
    refine ⟨⟨g0, by omega, by omega⟩, ⟨Row.one trivial, Row.one trivial⟩, ⟨⟨by omega, by omega⟩, e50, ew, pln_one (vwF _)⟩, by omega⟩
  · exfalso; simp at h h'; omega
  · replace h := of_decide_eq_false h
    refine ⟨⟨g0, by omega, by omega⟩, ⟨Row.one trivial, Row.one trivial⟩, ⟨by omega, e50, ew, pln_one (vwF _)⟩, by omega⟩
theorem copy_r22 (E : World) (n ch : Int) (wd : Bool) (z : PX) (y : PX) :
    (loopW (pe E) Try.f5 (endR ([] : List MB).length [] (.c .b) (fun _ y => y.b 90000 = true) z) (headR ([] : List MB).length Try.f5.ntmps (some ((fun y => (2000 - y.n 91051).toNat) y)) (copy_hs E n ch wd z)) [some true, some true, some true] (run (pe E) (orcA E) (tabL fns) 20000 (2 ^ 200 - 1) (td1 E) (mkL Try.f5.ntmps (slC y [(0, .r .i64 (1) (100)), (1, .b), (2, .c (.i true .i64 3)), (7, .c (.p 0 0)), (8, .c (.p 1 0)), (9, .c (.i true .u16 50176)), (10, .c (.i true .i64 4)), (50, .i .i64), (51, .r .i64 (0) (100))])) (mkM y [] [uM3 50176 true false, tW, pR, wR] 0))) =
    (decide (y.n (91051 : Nat) < y.n (91050 : Nat)) = true ∧ decide (bits BinOp.andNot IntKind.u32 (y.n (38 : Nat)) (3 : Int) ≥ (33554432 : Int)) = true ∧ decide ((0 : Nat) <
      (y.n (100000 : Nat)).toNat) = true ∧ decide ((y.n (100000 : Nat)).toNat * (6 : Nat) ≤ (y.l (2 : Nat)).length) = true ∧ decide ((y.n (100000 : Nat)).toNat + (1 : Nat) ≤
      (1099511627776 : Nat)) = true ∧ decide (((y.n (100000 : Nat)).toNat + (1 : Nat)) * (40 : Nat) ≤ (1099511627776 : Nat)) = true ∧ (bif decide ((↑((y.n (100000 : Nat)).toNat
      + (1 : Nat)) : Int) > (↑(y.n (100001 : Nat)).toNat : Int)) then inB (IntKind.i64.wrap ((↑((y.n (100000 : Nat)).toNat + (1 : Nat)) : Int) - (1 : Int))) ((y.n (100000 :
      Nat)).toNat + (1 : Nat)) && rOk (rApp (y.l (2 : Nat)) ((y.n (100000 : Nat)).toNat * (6 : Nat)) [C.i true IntKind.i64 (3 : Int), ofCell (Value.bool true), C.i false
      IntKind.u32 (bits BinOp.andNot IntKind.u32 (y.n (38 : Nat)) (3 : Int)), C.i true IntKind.u32 (0 : Int), ofCell (Value.int IntKind.i64 (4 : Int)), ofCell (Value.int
      IntKind.i64 (1 : Int))]) ((IntKind.i64.wrap ((↑((y.n (100000 : Nat)).toNat + (1 : Nat)) : Int) - (1 : Int))).toNat * (6 : Nat)) (EK.i IntKind.i64) else true) = true ∧ (bif
      bif decide ((↑((y.n (100000 : Nat)).toNat + (1 : Nat)) : Int) > (↑(y.n (100001 : Nat)).toNat : Int)) then rI (rApp (y.l (2 : Nat)) ((y.n (100000 : Nat)).toNat * (6 : Nat))
      [C.i true IntKind.i64 (3 : Int), ofCell (Value.bool true), C.i false IntKind.u32 (bits BinOp.andNot IntKind.u32 (y.n (38 : Nat)) (3 : Int)), C.i true IntKind.u32 (0 :
      Int), ofCell (Value.int IntKind.i64 (4 : Int)), ofCell (Value.int IntKind.i64 (1 : Int))]) ((IntKind.i64.wrap ((↑((y.n (100000 : Nat)).toNat + (1 : Nat)) : Int) - (1 :
      Int))).toNat * (6 : Nat)) == (3 : Int) else false then inB (IntKind.i64.wrap ((↑((y.n (100000 : Nat)).toNat + (1 : Nat)) : Int) - (1 : Int))) ((y.n (100000 : Nat)).toNat +
      (1 : Nat)) && rOk (rApp (y.l (2 : Nat)) ((y.n (100000 : Nat)).toNat * (6 : Nat)) [C.i true IntKind.i64 (3 : Int), ofCell (Value.bool true), C.i false IntKind.u32 (bits
      BinOp.andNot IntKind.u32 (y.n (38 : Nat)) (3 : Int)), C.i true IntKind.u32 (0 : Int), ofCell (Value.int IntKind.i64 (4 : Int)), ofCell (Value.int IntKind.i64 (1 : Int))])
      ((IntKind.i64.wrap ((↑((y.n (100000 : Nat)).toNat + (1 : Nat)) : Int) - (1 : Int))).toNat * (6 : Nat) + (4 : Nat)) (EK.i IntKind.i64) else true) = true ∧ (bif bif bif
      decide ((↑((y.n (100000 : Nat)).toNat + (1 : Nat)) : Int) > (↑(y.n (100001 : Nat)).toNat : Int)) then rI (rApp (y.l (2 : Nat)) ((y.n (100000 : Nat)).toNat * (6 : Nat))
      [C.i true IntKind.i64 (3 : Int), ofCell (Value.bool true), C.i false IntKind.u32 (bits BinOp.andNot IntKind.u32 (y.n (38 : Nat)) (3 : Int)), C.i true IntKind.u32 (0 :
      Int), ofCell (Value.int IntKind.i64 (4 : Int)), ofCell (Value.int IntKind.i64 (1 : Int))]) ((IntKind.i64.wrap ((↑((y.n (100000 : Nat)).toNat + (1 : Nat)) : Int) - (1 :
      Int))).toNat * (6 : Nat)) == (3 : Int) else false then rI (rApp (y.l (2 : Nat)) ((y.n (100000 : Nat)).toNat * (6 : Nat)) [C.i true IntKind.i64 (3 : Int), ofCell
      (Value.bool true), C.i false IntKind.u32 (bits BinOp.andNot IntKind.u32 (y.n (38 : Nat)) (3 : Int)), C.i true IntKind.u32 (0 : Int), ofCell (Value.int IntKind.i64 (4 :
      Int)), ofCell (Value.int IntKind.i64 (1 : Int))]) ((IntKind.i64.wrap ((↑((y.n (100000 : Nat)).toNat + (1 : Nat)) : Int) - (1 : Int))).toNat * (6 : Nat) + (4 : Nat)) == (4
      : Int) else false then inB (IntKind.i64.wrap ((↑((y.n (100000 : Nat)).toNat + (1 : Nat)) : Int) - (1 : Int))) ((y.n (100000 : Nat)).toNat + (1 : Nat)) && rOk (rApp (y.l (2
      : Nat)) ((y.n (100000 : Nat)).toNat * (6 : Nat)) [C.i true IntKind.i64 (3 : Int), ofCell (Value.bool true), C.i false IntKind.u32 (bits BinOp.andNot IntKind.u32 (y.n (38 :
      Nat)) (3 : Int)), C.i true IntKind.u32 (0 : Int), ofCell (Value.int IntKind.i64 (4 : Int)), ofCell (Value.int IntKind.i64 (1 : Int))]) ((IntKind.i64.wrap ((↑((y.n (100000
      : Nat)).toNat + (1 : Nat)) : Int) - (1 : Int))).toNat * (6 : Nat) + (5 : Nat)) (EK.i IntKind.i64) else true) = true ∧ (bif bif bif decide ((↑((y.n (100000 : Nat)).toNat +
      (1 : Nat)) : Int) > (↑(y.n (100001 : Nat)).toNat : Int)) then rI (rApp (y.l (2 : Nat)) ((y.n (100000 : Nat)).toNat * (6 : Nat)) [C.i true IntKind.i64 (3 : Int), ofCell
      (Value.bool true), C.i false IntKind.u32 (bits BinOp.andNot IntKind.u32 (y.n (38 : Nat)) (3 : Int)), C.i true IntKind.u32 (0 : Int), ofCell (Value.int IntKind.i64 (4 :
      Int)), ofCell (Value.int IntKind.i64 (1 : Int))]) ((IntKind.i64.wrap ((↑((y.n (100000 : Nat)).toNat + (1 : Nat)) : Int) - (1 : Int))).toNat * (6 : Nat)) == (3 : Int) else
      false then rI (rApp (y.l (2 : Nat)) ((y.n (100000 : Nat)).toNat * (6 : Nat)) [C.i true IntKind.i64 (3 : Int), ofCell (Value.bool true), C.i false IntKind.u32 (bits
      BinOp.andNot IntKind.u32 (y.n (38 : Nat)) (3 : Int)), C.i true IntKind.u32 (0 : Int), ofCell (Value.int IntKind.i64 (4 : Int)), ofCell (Value.int IntKind.i64 (1 : Int))])
      ((IntKind.i64.wrap ((↑((y.n (100000 : Nat)).toNat + (1 : Nat)) : Int) - (1 : Int))).toNat * (6 : Nat) + (4 : Nat)) == (4 : Int) else false then rI (rApp (y.l (2 : Nat))
      ((y.n (100000 : Nat)).toNat * (6 : Nat)) [C.i true IntKind.i64 (3 : Int), ofCell (Value.bool true), C.i false IntKind.u32 (bits BinOp.andNot IntKind.u32 (y.n (38 : Nat))
      (3 : Int)), C.i true IntKind.u32 (0 : Int), ofCell (Value.int IntKind.i64 (4 : Int)), ofCell (Value.int IntKind.i64 (1 : Int))]) ((IntKind.i64.wrap ((↑((y.n (100000 :
      Nat)).toNat + (1 : Nat)) : Int) - (1 : Int))).toNat * (6 : Nat) + (5 : Nat)) == (1 : Int) else false) = true ∧ inB (IntKind.i64.wrap ((↑((y.n (100000 : Nat)).toNat + (1 :
      Nat)) : Int) - (1 : Int))) ((y.n (100000 : Nat)).toNat + (1 : Nat)) = true ∧ decide ((IntKind.i64.wrap ((↑((y.n (100000 : Nat)).toNat + (1 : Nat)) : Int) - (1 :
      Int))).toNat * (6 : Nat) + (3 : Nat) + (1 : Nat) ≤ (rApp (y.l (2 : Nat)) ((y.n (100000 : Nat)).toNat * (6 : Nat)) [C.i true IntKind.i64 (3 : Int), ofCell (Value.bool
      true), C.i false IntKind.u32 (bits BinOp.andNot IntKind.u32 (y.n (38 : Nat)) (3 : Int)), C.i true IntKind.u32 (0 : Int), ofCell (Value.int IntKind.i64 (4 : Int)), ofCell
      (Value.int IntKind.i64 (1 : Int))]).length) = true ∧ decide ((0 : Nat) < (y.n (100001 : Nat)).toNat) = true ∧ decide ((y.n (100001 : Nat)).toNat * (1 : Nat) ≤ (y.l (3 :
      Nat)).length) = true ∧ decide ((y.n (100001 : Nat)).toNat + (1 : Nat) ≤ (1099511627776 : Nat)) = true ∧ decide (((y.n (100001 : Nat)).toNat + (1 : Nat)) * (4 : Nat) ≤
      (1099511627776 : Nat)) = true ∧ (decide (IntKind.i64.wrap (y.n (40 : Nat) - (1 : Int)) > (0 : Int)) = true → ((bif true ^^ false == (y.n (91051 : Nat) == IntKind.i64.wrap
      (y.n (91000 : Nat) - (1 : Int))) then true else false) = true → ([] : SW) = [] ∧ True ∧ false = true) ∧ ((bif true ^^ false == (y.n (91051 : Nat) == IntKind.i64.wrap (y.n
      (91000 : Nat) - (1 : Int))) then true else false) = false → td1 E = td1 E ∧ (149 : Nat) = (149 : Nat) ∧ ((((1 : Int) ≤ y.n (91000 : Nat) ∧ y.n (91000 : Nat) ≤ (100 : Int))
      ∧ True) ∧ True ∧ True ∧ True ∧ True ∧ True ∧ True ∧ True ∧ (((0 : Int) ≤ IntKind.i64.wrap (y.n (91051 : Nat) + (1 : Int)) ∧ IntKind.i64.wrap (y.n (91051 : Nat) + (1 :
      Int)) ≤ (100 : Int)) ∧ True) ∧ True) ∧ ((62 : Nat) = (62 : Nat) ∧ True ∧ (38 : Nat) = (38 : Nat) ∧ True ∧ (48 : Nat) = (48 : Nat) ∧ (flat plS = true ∧ Row plS (rSet (rApp
      (y.l (2 : Nat)) ((y.n (100000 : Nat)).toNat * (6 : Nat)) [C.i true IntKind.i64 (3 : Int), ofCell (Value.bool true), C.i false IntKind.u32 (bits BinOp.andNot IntKind.u32
      (y.n (38 : Nat)) (3 : Int)), C.i true IntKind.u32 (0 : Int), ofCell (Value.int IntKind.i64 (4 : Int)), ofCell (Value.int IntKind.i64 (1 : Int))]) ((IntKind.i64.wrap
      ((↑((y.n (100000 : Nat)).toNat + (1 : Nat)) : Int) - (1 : Int))).toNat * (6 : Nat) + (3 : Nat)) [C.i false IntKind.u32 (bits BinOp.andNot IntKind.u32 (y.n (39 : Nat)) (3 :
      Int))])) ∧ (27 : Nat) = (27 : Nat) ∧ (flat [Sp.i IntKind.u32] = true ∧ Row [Sp.i IntKind.u32] (rApp (y.l (3 : Nat)) ((y.n (100001 : Nat)).toNat * (1 : Nat)) [C.i false
      IntKind.u32 (bits BinOp.xor IntKind.u32 (IntKind.u32.wrap (bits BinOp.andNot IntKind.u32 (y.n (38 : Nat)) (3 : Int) * (2654435761 : Int))) ((bits BinOp.andNot IntKind.u32
      (y.n (38 : Nat)) (3 : Int)).fdiv (128 : Int)))])) ∧ ([] : SW) = []) ∧ (((1 : Int) ≤ IntKind.i64.wrap (y.n (91051 : Nat) + (1 : Int)) ∧ IntKind.i64.wrap (y.n (91051 : Nat)
      + (1 : Int)) < y.n (91000 : Nat)) ∧ y.n (91050 : Nat) = y.n (91000 : Nat) ∧ y.b (91001 : Nat) = true ∧ IntKind.u32.wrap (y.n (38 : Nat) + (4 : Int)) = (33619968 : Int) +
      IntKind.i64.wrap (y.n (91051 : Nat) + (1 : Int)) * (4 : Int) ∧ IntKind.u32.wrap (y.n (39 : Nat) + (4 : Int)) = (50462720 : Int) + IntKind.i64.wrap (y.n (91051 : Nat) + (1
      : Int)) * (4 : Int) ∧ IntKind.i64.wrap (y.n (40 : Nat) - (1 : Int)) = y.n (91000 : Nat) - IntKind.i64.wrap (y.n (91051 : Nat) + (1 : Int)) ∧ PLN (3 : Int) (4 : Int)
      (IntKind.i64.wrap (y.n (91051 : Nat) + (1 : Int))).toNat (rSet (rApp (y.l (2 : Nat)) ((y.n (100000 : Nat)).toNat * (6 : Nat)) [C.i true IntKind.i64 (3 : Int), ofCell
      (Value.bool true), C.i false IntKind.u32 (bits BinOp.andNot IntKind.u32 (y.n (38 : Nat)) (3 : Int)), C.i true IntKind.u32 (0 : Int), ofCell (Value.int IntKind.i64 (4 :
      Int)), ofCell (Value.int IntKind.i64 (1 : Int))]) ((IntKind.i64.wrap ((↑((y.n (100000 : Nat)).toNat + (1 : Nat)) : Int) - (1 : Int))).toNat * (6 : Nat) + (3 : Nat)) [C.i
      false IntKind.u32 (bits BinOp.andNot IntKind.u32 (y.n (39 : Nat)) (3 : Int))]) (rApp (y.l (3 : Nat)) ((y.n (100001 : Nat)).toNat * (1 : Nat)) [C.i false IntKind.u32 (bits
      BinOp.xor IntKind.u32 (IntKind.u32.wrap (bits BinOp.andNot IntKind.u32 (y.n (38 : Nat)) (3 : Int) * (2654435761 : Int))) ((bits BinOp.andNot IntKind.u32 (y.n (38 : Nat))
      (3 : Int)).fdiv (128 : Int)))]) (↑((y.n (100000 : Nat)).toNat + (1 : Nat)) : Int) (↑((y.n (100001 : Nat)).toNat + (1 : Nat)) : Int)) ∧ ((2000 : Int) - IntKind.i64.wrap
      (y.n (91051 : Nat) + (1 : Int))).toNat < ((2000 : Int) - y.n (91051 : Nat)).toNat ∧ True)) ∧ (decide (IntKind.i64.wrap (y.n (40 : Nat) - (1 : Int)) > (0 : Int)) = false →
      ((bif true ^^ true == (y.n (91051 : Nat) == IntKind.i64.wrap (y.n (91000 : Nat) - (1 : Int))) then true else false) = true → ([] : SW) = [] ∧ True ∧ false = true) ∧ ((bif
      true ^^ true == (y.n (91051 : Nat) == IntKind.i64.wrap (y.n (91000 : Nat) - (1 : Int))) then true else false) = false → td1 E = td1 E ∧ (149 : Nat) = (149 : Nat) ∧ ((((1 :
      Int) ≤ y.n (91000 : Nat) ∧ y.n (91000 : Nat) ≤ (100 : Int)) ∧ True) ∧ True ∧ True ∧ True ∧ True ∧ True ∧ True ∧ True ∧ (((0 : Int) ≤ IntKind.i64.wrap (y.n (91051 : Nat) +
      (1 : Int)) ∧ IntKind.i64.wrap (y.n (91051 : Nat) + (1 : Int)) ≤ (100 : Int)) ∧ True) ∧ True) ∧ ((62 : Nat) = (62 : Nat) ∧ True ∧ (38 : Nat) = (38 : Nat) ∧ True ∧ (48 :
      Nat) = (48 : Nat) ∧ (flat plS = true ∧ Row plS (rSet (rApp (y.l (2 : Nat)) ((y.n (100000 : Nat)).toNat * (6 : Nat)) [C.i true IntKind.i64 (3 : Int), ofCell (Value.bool
      true), C.i false IntKind.u32 (bits BinOp.andNot IntKind.u32 (y.n (38 : Nat)) (3 : Int)), C.i true IntKind.u32 (0 : Int), ofCell (Value.int IntKind.i64 (4 : Int)), ofCell
      (Value.int IntKind.i64 (1 : Int))]) ((IntKind.i64.wrap ((↑((y.n (100000 : Nat)).toNat + (1 : Nat)) : Int) - (1 : Int))).toNat * (6 : Nat) + (3 : Nat)) [C.i false
      IntKind.u32 (bits BinOp.andNot IntKind.u32 (y.n (39 : Nat)) (3 : Int))])) ∧ (27 : Nat) = (27 : Nat) ∧ (flat [Sp.i IntKind.u32] = true ∧ Row [Sp.i IntKind.u32] (rApp (y.l
      (3 : Nat)) ((y.n (100001 : Nat)).toNat * (1 : Nat)) [C.i false IntKind.u32 (bits BinOp.xor IntKind.u32 (IntKind.u32.wrap (bits BinOp.andNot IntKind.u32 (y.n (38 : Nat)) (3
      : Int) * (2654435761 : Int))) ((bits BinOp.andNot IntKind.u32 (y.n (38 : Nat)) (3 : Int)).fdiv (128 : Int)))])) ∧ ([] : SW) = []) ∧ (IntKind.i64.wrap (y.n (91051 : Nat) +
      (1 : Int)) = y.n (91000 : Nat) ∧ y.n (91050 : Nat) = y.n (91000 : Nat) ∧ y.b (91001 : Nat) = true ∧ PLN (3 : Int) (4 : Int) (IntKind.i64.wrap (y.n (91051 : Nat) + (1 :
      Int))).toNat (rSet (rApp (y.l (2 : Nat)) ((y.n (100000 : Nat)).toNat * (6 : Nat)) [C.i true IntKind.i64 (3 : Int), ofCell (Value.bool true), C.i false IntKind.u32 (bits
      BinOp.andNot IntKind.u32 (y.n (38 : Nat)) (3 : Int)), C.i true IntKind.u32 (0 : Int), ofCell (Value.int IntKind.i64 (4 : Int)), ofCell (Value.int IntKind.i64 (1 : Int))])
      ((IntKind.i64.wrap ((↑((y.n (100000 : Nat)).toNat + (1 : Nat)) : Int) - (1 : Int))).toNat * (6 : Nat) + (3 : Nat)) [C.i false IntKind.u32 (bits BinOp.andNot IntKind.u32
      (y.n (39 : Nat)) (3 : Int))]) (rApp (y.l (3 : Nat)) ((y.n (100001 : Nat)).toNat * (1 : Nat)) [C.i false IntKind.u32 (bits BinOp.xor IntKind.u32 (IntKind.u32.wrap (bits
      BinOp.andNot IntKind.u32 (y.n (38 : Nat)) (3 : Int) * (2654435761 : Int))) ((bits BinOp.andNot IntKind.u32 (y.n (38 : Nat)) (3 : Int)).fdiv (128 : Int)))]) (↑((y.n (100000
      : Nat)).toNat + (1 : Nat)) : Int) (↑((y.n (100001 : Nat)).toNat + (1 : Nat)) : Int)) ∧ ((2000 : Int) - IntKind.i64.wrap (y.n (91051 : Nat) + (1 : Int))).toNat < ((2000 :
      Int) - y.n (91051 : Nat)).toNat ∧ True))) := by kernel_rfl
set_option maxHeartbeats 8000000 in
theorem copy_q22 (E : World) (n ch : Int) (wd : Bool) (z : PX) (hp : (fun _ => True) z) (y : PX) (hy1 : rgM y [uM3 50176 true false, tW, pR, wR] 0) (hy2 : rgF y [(0, .r .i64 (1) (100)), (1, .b), (2, .c (.i true .i64 3)), (7, .c (.p 0 0)), (8, .c (.p 1 0)), (9, .c (.i true .u16 50176)), (10, .c (.i true .i64 4)), (50, .i .i64), (51, .r .i64 (0) (100))]) (hy3 : (fun y => (1 ≤ y.n 91051 ∧ y.n 91051 < y.n 91000) ∧ y.n 91050 = y.n 91000 ∧ y.b 91001 = true ∧ y.n 38 = 33619968 + y.n 91051 * 4 ∧ y.n 39 = 50462720 + y.n 91051 * 4 ∧ y.n 40 = y.n 91000 - y.n 91051 ∧ PLN 3 4 (y.n 91051).toNat (y.l 2) (y.l 3) (y.n 100000) (y.n 100001)) y) : Holds ((run (pe E) (orcA E) (tabL fns) 20000 (2 ^ 200 - 1) (td1 E) (mkL Try.f5.ntmps (slC y [(0, .r .i64 (1) (100)), (1, .b), (2, .c (.i true .i64 3)), (7, .c (.p 0 0)), (8, .c (.p 1 0)), (9, .c (.i true .u16 50176)), (10, .c (.i true .i64 4)), (50, .i .i64), (51, .r .i64 (0) (100))])) (mkM y [] [uM3 50176 true false, tW, pR, wR] 0)).OK (lfP (pe E) Try.f5 (endR ([] : List MB).length [] (.c .b) (fun _ y => y.b 90000 = true) z) (headR ([] : List MB).length Try.f5.ntmps (some ((fun y => (2000 - y.n 91051).toNat) y)) (copy_hs E n ch wd z)))) := by
  refine loopW_lfH [some true, some true, some true] ⟨?_⟩
  rw [copy_r22]
  have hf : (((1) ≤ y.n 91000 ∧ y.n 91000 ≤ (100)) ∧ True) ∧ True ∧ True ∧ True ∧ True ∧ True ∧ True ∧ True ∧ (((0) ≤ y.n 91051 ∧ y.n 91051 ≤ (100)) ∧ True) ∧ True := hy2
  obtain ⟨⟨g0, _⟩, _, _, _, _, _, _, _, ⟨g51, _⟩, _⟩ := hf
  obtain ⟨⟨i1, i2⟩, e50, ew, e5, e6, e7, hP⟩ := hy3
  have hR2 : Row plS (y.l 2) := hy1.2.2.1.2
  have hR3 : Row [.i .u32] (y.l 3) := hy1.2.2.2.1.2
  obtain ⟨k, hk⟩ : ∃ k : Nat, y.n 91051 = (k : Int) := ⟨(y.n 91051).toNat, by omega⟩
  rw [hk, Int.toNat_natCast] at hP
  obtain ⟨L2, L3, N0, N1, hE⟩ := id hP
  rw [hk] at i1 i2 e5 e6 e7
  have hk0 : 0 < k := by omega
  have ea : bits .andNot .u32 (y.n 38) 3 = 33619968 + (k : Int) * 4 := by rw [al4 _ (by omega) (by omega) (by omega)]; exact e5
  have eb : bits .andNot .u32 (y.n 39) 3 = 50462720 + (k : Int) * 4 := by rw [al4 _ (by omega) (by omega) (by omega)]; exact e6
  have t0 : (y.n 100000).toNat = k := by rw [N0]; exact Int.toNat_natCast k
  have t1 : (y.n 100001).toNat = k := by rw [N1]; exact Int.toNat_natCast k
  have w1 : IntKind.i64.wrap (((k + 1 : Nat) : Int) - 1) = (k : Int) := by rw [wi64]; omega
  have w2 : IntKind.i64.wrap ((k : Int) + 1) = (k : Int) + 1 := by rw [wi64]; omega
  have w3 : IntKind.i64.wrap (y.n 91000 - 1) = y.n 91000 - 1 := by rw [wi64]; omega
  have w4 : IntKind.i64.wrap (y.n 40 - 1) = y.n 91000 - (k : Int) - 1 := by rw [wi64, e7]; omega
  have w5 : IntKind.u32.wrap (y.n 38 + 4) = 33619968 + ((k : Int) + 1) * 4 := by rw [wu32, e5]; omega
  have w6 : IntKind.u32.wrap (y.n 39 + 4) = 50462720 + ((k : Int) + 1) * 4 := by rw [wu32, e6]; omega
  have h1 : decide ((k : Int) < y.n 91050) = true := decide_eq_true (by omega)
  have h2 : decide (33619968 + (k : Int) * 4 ≥ 33554432) = true := decide_eq_true (by omega)
  have h3 : decide (((k + 1 : Nat) : Int) > (k : Int)) = true := decide_eq_true (by omega)
  have h4 : inB (k : Int) (k + 1) = true := by simp only [inB, Bool.and_eq_true, decide_eq_true_eq]; omega
  have n1 : decide (0 < k) = true := decide_eq_true hk0
  have n2 : decide (k * 6 ≤ (y.l 2).length) = true := decide_eq_true (by omega)
  have n3 : decide (k + 1 ≤ 1099511627776) = true := decide_eq_true (by omega)
  have n4 : decide ((k + 1) * 40 ≤ 1099511627776) = true := decide_eq_true (by omega)
  have n5 : decide (k * 1 ≤ (y.l 3).length) = true := decide_eq_true (by omega)
  have n6 : decide ((k + 1) * 4 ≤ 1099511627776) = true := decide_eq_true (by omega)
  have n7 : decide (k * 6 + 3 + 1 ≤ k * 6 + 6) = true := decide_eq_true (by omega)
  have b0 : ((3 : Int) == 3) = true := by decide
  have b4 : ((4 : Int) == 4) = true := by decide
  have b5 : ((1 : Int) == 1) = true := by decide
  have hf : flat plS = true := rfl
  have hf2 : flat [Sp.i IntKind.u32] = true := rfl
  have tk : ((k : Int) + 1).toNat = k + 1 := by omega
  simp only [hk, ea, eb, t0, t1, w1, w2, w3, w4, w5, w6, Int.toNat_natCast, tk, h1, h2, h3, h4, n1, n2, n3, n4, n5, n6, n7, ap0 L2, ap4 L2, ap5 L2, ao0 L2, ao4 L2, ao5 L2, ap_len L2, b0, b4, b5, cond_true, Bool.and_self, Bool.true_eq_false, false_implies, true_implies, forall_const, and_true, true_and, hf, hf2, row2 hR2 L2, row3 hR3 L3]
  clear w1 w2 w3 w4 w5 w6 ea eb
  refine ⟨fun h => ⟨fun h' => ?_, fun h' => ?_⟩, fun h => ⟨fun h' => ?_, fun h' => ?_⟩⟩
  · exfalso; clear hP hE hR2 hR3; simp at h h'; omega
  · replace h := of_decide_eq_true h
    refine ⟨⟨g0, by omega, by omega⟩, ⟨⟨by omega, by omega⟩, e50, ew, by omega, pln_step hP hk0 rfl rfl (vwT _)⟩, by omega⟩
  · exfalso; clear hP hE hR2 hR3; simp at h h'; omega
  · replace h := of_decide_eq_false h
    refine ⟨⟨g0, by omega, by omega⟩, ⟨by omega, e50, ew, pln_step hP hk0 rfl rfl (vwT _)⟩, by omega⟩
theorem copy_r23 (E : World) (n ch : Int) (wd : Bool) (z : PX) (y : PX) :
    (loopW (pe E) Try.f5 (endR ([] : List MB).length [] (.c .b) (fun _ y => y.b 90000 = true) z) (headR ([] : List MB).length Try.f5.ntmps (some ((fun y => (2000 - y.n 91051).toNat) y)) (copy_hs E n ch wd z)) [some true, some true, some true] (run (pe E) (orcA E) (tabL fns) 20000 (2 ^ 200 - 1) (td1 E) (mkL Try.f5.ntmps (slC y [(0, .r .i64 (1) (100)), (1, .b), (2, .c (.i true .i64 3)), (7, .c (.p 0 0)), (8, .c (.p 1 0)), (9, .c (.i true .u16 49152)), (10, .c (.i true .i64 2)), (50, .i .i64), (51, .r .i64 (0) (100))])) (mkM y [] [uM3 49152 true false, tW, pR, wR] 0))) =
    (decide (y.n (91051 : Nat) < y.n (91050 : Nat)) = true ∧ decide (bits BinOp.andNot IntKind.u32 (y.n (38 : Nat)) (1 : Int) ≥ (33554432 : Int)) = true ∧ decide ((0 : Nat) <
      (y.n (100000 : Nat)).toNat) = true ∧ decide ((y.n (100000 : Nat)).toNat * (6 : Nat) ≤ (y.l (2 : Nat)).length) = true ∧ decide ((y.n (100000 : Nat)).toNat + (1 : Nat) ≤
      (1099511627776 : Nat)) = true ∧ decide (((y.n (100000 : Nat)).toNat + (1 : Nat)) * (40 : Nat) ≤ (1099511627776 : Nat)) = true ∧ (bif decide ((↑((y.n (100000 : Nat)).toNat
      + (1 : Nat)) : Int) > (↑(y.n (100001 : Nat)).toNat : Int)) then inB (IntKind.i64.wrap ((↑((y.n (100000 : Nat)).toNat + (1 : Nat)) : Int) - (1 : Int))) ((y.n (100000 :
      Nat)).toNat + (1 : Nat)) && rOk (rApp (y.l (2 : Nat)) ((y.n (100000 : Nat)).toNat * (6 : Nat)) [C.i true IntKind.i64 (3 : Int), ofCell (Value.bool true), C.i false
      IntKind.u32 (bits BinOp.andNot IntKind.u32 (y.n (38 : Nat)) (1 : Int)), C.i true IntKind.u32 (0 : Int), ofCell (Value.int IntKind.i64 (2 : Int)), ofCell (Value.int
      IntKind.i64 (1 : Int))]) ((IntKind.i64.wrap ((↑((y.n (100000 : Nat)).toNat + (1 : Nat)) : Int) - (1 : Int))).toNat * (6 : Nat)) (EK.i IntKind.i64) else true) = true ∧ (bif
      bif decide ((↑((y.n (100000 : Nat)).toNat + (1 : Nat)) : Int) > (↑(y.n (100001 : Nat)).toNat : Int)) then rI (rApp (y.l (2 : Nat)) ((y.n (100000 : Nat)).toNat * (6 : Nat))
      [C.i true IntKind.i64 (3 : Int), ofCell (Value.bool true), C.i false IntKind.u32 (bits BinOp.andNot IntKind.u32 (y.n (38 : Nat)) (1 : Int)), C.i true IntKind.u32 (0 :
      Int), ofCell (Value.int IntKind.i64 (2 : Int)), ofCell (Value.int IntKind.i64 (1 : Int))]) ((IntKind.i64.wrap ((↑((y.n (100000 : Nat)).toNat + (1 : Nat)) : Int) - (1 :
      Int))).toNat * (6 : Nat)) == (3 : Int) else false then inB (IntKind.i64.wrap ((↑((y.n (100000 : Nat)).toNat + (1 : Nat)) : Int) - (1 : Int))) ((y.n (100000 : Nat)).toNat +
      (1 : Nat)) && rOk (rApp (y.l (2 : Nat)) ((y.n (100000 : Nat)).toNat * (6 : Nat)) [C.i true IntKind.i64 (3 : Int), ofCell (Value.bool true), C.i false IntKind.u32 (bits
      BinOp.andNot IntKind.u32 (y.n (38 : Nat)) (1 : Int)), C.i true IntKind.u32 (0 : Int), ofCell (Value.int IntKind.i64 (2 : Int)), ofCell (Value.int IntKind.i64 (1 : Int))])
      ((IntKind.i64.wrap ((↑((y.n (100000 : Nat)).toNat + (1 : Nat)) : Int) - (1 : Int))).toNat * (6 : Nat) + (4 : Nat)) (EK.i IntKind.i64) else true) = true ∧ (bif bif bif
      decide ((↑((y.n (100000 : Nat)).toNat + (1 : Nat)) : Int) > (↑(y.n (100001 : Nat)).toNat : Int)) then rI (rApp (y.l (2 : Nat)) ((y.n (100000 : Nat)).toNat * (6 : Nat))
      [C.i true IntKind.i64 (3 : Int), ofCell (Value.bool true), C.i false IntKind.u32 (bits BinOp.andNot IntKind.u32 (y.n (38 : Nat)) (1 : Int)), C.i true IntKind.u32 (0 :
      Int), ofCell (Value.int IntKind.i64 (2 : Int)), ofCell (Value.int IntKind.i64 (1 : Int))]) ((IntKind.i64.wrap ((↑((y.n (100000 : Nat)).toNat + (1 : Nat)) : Int) - (1 :
      Int))).toNat * (6 : Nat)) == (3 : Int) else false then rI (rApp (y.l (2 : Nat)) ((y.n (100000 : Nat)).toNat * (6 : Nat)) [C.i true IntKind.i64 (3 : Int), ofCell
      (Value.bool true), C.i false IntKind.u32 (bits BinOp.andNot IntKind.u32 (y.n (38 : Nat)) (1 : Int)), C.i true IntKind.u32 (0 : Int), ofCell (Value.int IntKind.i64 (2 :
      Int)), ofCell (Value.int IntKind.i64 (1 : Int))]) ((IntKind.i64.wrap ((↑((y.n (100000 : Nat)).toNat + (1 : Nat)) : Int) - (1 : Int))).toNat * (6 : Nat) + (4 : Nat)) == (2
      : Int) else false then inB (IntKind.i64.wrap ((↑((y.n (100000 : Nat)).toNat + (1 : Nat)) : Int) - (1 : Int))) ((y.n (100000 : Nat)).toNat + (1 : Nat)) && rOk (rApp (y.l (2
      : Nat)) ((y.n (100000 : Nat)).toNat * (6 : Nat)) [C.i true IntKind.i64 (3 : Int), ofCell (Value.bool true), C.i false IntKind.u32 (bits BinOp.andNot IntKind.u32 (y.n (38 :
      Nat)) (1 : Int)), C.i true IntKind.u32 (0 : Int), ofCell (Value.int IntKind.i64 (2 : Int)), ofCell (Value.int IntKind.i64 (1 : Int))]) ((IntKind.i64.wrap ((↑((y.n (100000
      : Nat)).toNat + (1 : Nat)) : Int) - (1 : Int))).toNat * (6 : Nat) + (5 : Nat)) (EK.i IntKind.i64) else true) = true ∧ (bif bif bif decide ((↑((y.n (100000 : Nat)).toNat +
      (1 : Nat)) : Int) > (↑(y.n (100001 : Nat)).toNat : Int)) then rI (rApp (y.l (2 : Nat)) ((y.n (100000 : Nat)).toNat * (6 : Nat)) [C.i true IntKind.i64 (3 : Int), ofCell
      (Value.bool true), C.i false IntKind.u32 (bits BinOp.andNot IntKind.u32 (y.n (38 : Nat)) (1 : Int)), C.i true IntKind.u32 (0 : Int), ofCell (Value.int IntKind.i64 (2 :
      Int)), ofCell (Value.int IntKind.i64 (1 : Int))]) ((IntKind.i64.wrap ((↑((y.n (100000 : Nat)).toNat + (1 : Nat)) : Int) - (1 : Int))).toNat * (6 : Nat)) == (3 : Int) else
      false then rI (rApp (y.l (2 : Nat)) ((y.n (100000 : Nat)).toNat * (6 : Nat)) [C.i true IntKind.i64 (3 : Int), ofCell (Value.bool true), C.i false IntKind.u32 (bits
      BinOp.andNot IntKind.u32 (y.n (38 : Nat)) (1 : Int)), C.i true IntKind.u32 (0 : Int), ofCell (Value.int IntKind.i64 (2 : Int)), ofCell (Value.int IntKind.i64 (1 : Int))])
      ((IntKind.i64.wrap ((↑((y.n (100000 : Nat)).toNat + (1 : Nat)) : Int) - (1 : Int))).toNat * (6 : Nat) + (4 : Nat)) == (2 : Int) else false then rI (rApp (y.l (2 : Nat))
      ((y.n (100000 : Nat)).toNat * (6 : Nat)) [C.i true IntKind.i64 (3 : Int), ofCell (Value.bool true), C.i false IntKind.u32 (bits BinOp.andNot IntKind.u32 (y.n (38 : Nat))
      (1 : Int)), C.i true IntKind.u32 (0 : Int), ofCell (Value.int IntKind.i64 (2 : Int)), ofCell (Value.int IntKind.i64 (1 : Int))]) ((IntKind.i64.wrap ((↑((y.n (100000 :
      Nat)).toNat + (1 : Nat)) : Int) - (1 : Int))).toNat * (6 : Nat) + (5 : Nat)) == (1 : Int) else false) = true ∧ inB (IntKind.i64.wrap ((↑((y.n (100000 : Nat)).toNat + (1 :
      Nat)) : Int) - (1 : Int))) ((y.n (100000 : Nat)).toNat + (1 : Nat)) = true ∧ decide ((IntKind.i64.wrap ((↑((y.n (100000 : Nat)).toNat + (1 : Nat)) : Int) - (1 :
      Int))).toNat * (6 : Nat) + (3 : Nat) + (1 : Nat) ≤ (rApp (y.l (2 : Nat)) ((y.n (100000 : Nat)).toNat * (6 : Nat)) [C.i true IntKind.i64 (3 : Int), ofCell (Value.bool
      true), C.i false IntKind.u32 (bits BinOp.andNot IntKind.u32 (y.n (38 : Nat)) (1 : Int)), C.i true IntKind.u32 (0 : Int), ofCell (Value.int IntKind.i64 (2 : Int)), ofCell
      (Value.int IntKind.i64 (1 : Int))]).length) = true ∧ decide ((0 : Nat) < (y.n (100001 : Nat)).toNat) = true ∧ decide ((y.n (100001 : Nat)).toNat * (1 : Nat) ≤ (y.l (3 :
      Nat)).length) = true ∧ decide ((y.n (100001 : Nat)).toNat + (1 : Nat) ≤ (1099511627776 : Nat)) = true ∧ decide (((y.n (100001 : Nat)).toNat + (1 : Nat)) * (4 : Nat) ≤
      (1099511627776 : Nat)) = true ∧ (decide (IntKind.i64.wrap (y.n (40 : Nat) - (1 : Int)) > (0 : Int)) = true → ((bif true ^^ false == (y.n (91051 : Nat) == IntKind.i64.wrap
      (y.n (91000 : Nat) - (1 : Int))) then true else false) = true → ([] : SW) = [] ∧ True ∧ false = true) ∧ ((bif true ^^ false == (y.n (91051 : Nat) == IntKind.i64.wrap (y.n
      (91000 : Nat) - (1 : Int))) then true else false) = false → td1 E = td1 E ∧ (149 : Nat) = (149 : Nat) ∧ ((((1 : Int) ≤ y.n (91000 : Nat) ∧ y.n (91000 : Nat) ≤ (100 : Int))
      ∧ True) ∧ True ∧ True ∧ True ∧ True ∧ True ∧ True ∧ True ∧ (((0 : Int) ≤ IntKind.i64.wrap (y.n (91051 : Nat) + (1 : Int)) ∧ IntKind.i64.wrap (y.n (91051 : Nat) + (1 :
      Int)) ≤ (100 : Int)) ∧ True) ∧ True) ∧ ((62 : Nat) = (62 : Nat) ∧ True ∧ (38 : Nat) = (38 : Nat) ∧ True ∧ (48 : Nat) = (48 : Nat) ∧ (flat plS = true ∧ Row plS (rSet (rApp
      (y.l (2 : Nat)) ((y.n (100000 : Nat)).toNat * (6 : Nat)) [C.i true IntKind.i64 (3 : Int), ofCell (Value.bool true), C.i false IntKind.u32 (bits BinOp.andNot IntKind.u32
      (y.n (38 : Nat)) (1 : Int)), C.i true IntKind.u32 (0 : Int), ofCell (Value.int IntKind.i64 (2 : Int)), ofCell (Value.int IntKind.i64 (1 : Int))]) ((IntKind.i64.wrap
      ((↑((y.n (100000 : Nat)).toNat + (1 : Nat)) : Int) - (1 : Int))).toNat * (6 : Nat) + (3 : Nat)) [C.i false IntKind.u32 (bits BinOp.andNot IntKind.u32 (y.n (39 : Nat)) (1 :
      Int))])) ∧ (27 : Nat) = (27 : Nat) ∧ (flat [Sp.i IntKind.u32] = true ∧ Row [Sp.i IntKind.u32] (rApp (y.l (3 : Nat)) ((y.n (100001 : Nat)).toNat * (1 : Nat)) [C.i false
      IntKind.u32 (bits BinOp.or IntKind.u32 (bits BinOp.and IntKind.u32 (bits BinOp.xor IntKind.u32 (IntKind.u32.wrap (bits BinOp.andNot IntKind.u32 (y.n (38 : Nat)) (1 : Int)
      * (2654435761 : Int))) ((bits BinOp.andNot IntKind.u32 (y.n (38 : Nat)) (1 : Int)).fdiv (128 : Int))) (65535 : Int)) (IntKind.u32.wrap (bits BinOp.xor IntKind.u32
      (IntKind.u32.wrap (bits BinOp.andNot IntKind.u32 (y.n (38 : Nat)) (1 : Int) * (2654435761 : Int))) ((bits BinOp.andNot IntKind.u32 (y.n (38 : Nat)) (1 : Int)).fdiv (128 :
      Int)) * (65536 : Int))))])) ∧ ([] : SW) = []) ∧ (((1 : Int) ≤ IntKind.i64.wrap (y.n (91051 : Nat) + (1 : Int)) ∧ IntKind.i64.wrap (y.n (91051 : Nat) + (1 : Int)) < y.n
      (91000 : Nat)) ∧ y.n (91050 : Nat) = y.n (91000 : Nat) ∧ y.b (91001 : Nat) = false ∧ IntKind.u32.wrap (y.n (38 : Nat) + (2 : Int)) = (33619968 : Int) + IntKind.i64.wrap
      (y.n (91051 : Nat) + (1 : Int)) * (2 : Int) ∧ IntKind.u32.wrap (y.n (39 : Nat) + (2 : Int)) = (50462720 : Int) + IntKind.i64.wrap (y.n (91051 : Nat) + (1 : Int)) * (2 :
      Int) ∧ IntKind.i64.wrap (y.n (40 : Nat) - (1 : Int)) = y.n (91000 : Nat) - IntKind.i64.wrap (y.n (91051 : Nat) + (1 : Int)) ∧ PLN (3 : Int) (2 : Int) (IntKind.i64.wrap
      (y.n (91051 : Nat) + (1 : Int))).toNat (rSet (rApp (y.l (2 : Nat)) ((y.n (100000 : Nat)).toNat * (6 : Nat)) [C.i true IntKind.i64 (3 : Int), ofCell (Value.bool true), C.i
      false IntKind.u32 (bits BinOp.andNot IntKind.u32 (y.n (38 : Nat)) (1 : Int)), C.i true IntKind.u32 (0 : Int), ofCell (Value.int IntKind.i64 (2 : Int)), ofCell (Value.int
      IntKind.i64 (1 : Int))]) ((IntKind.i64.wrap ((↑((y.n (100000 : Nat)).toNat + (1 : Nat)) : Int) - (1 : Int))).toNat * (6 : Nat) + (3 : Nat)) [C.i false IntKind.u32 (bits
      BinOp.andNot IntKind.u32 (y.n (39 : Nat)) (1 : Int))]) (rApp (y.l (3 : Nat)) ((y.n (100001 : Nat)).toNat * (1 : Nat)) [C.i false IntKind.u32 (bits BinOp.or IntKind.u32
      (bits BinOp.and IntKind.u32 (bits BinOp.xor IntKind.u32 (IntKind.u32.wrap (bits BinOp.andNot IntKind.u32 (y.n (38 : Nat)) (1 : Int) * (2654435761 : Int))) ((bits
      BinOp.andNot IntKind.u32 (y.n (38 : Nat)) (1 : Int)).fdiv (128 : Int))) (65535 : Int)) (IntKind.u32.wrap (bits BinOp.xor IntKind.u32 (IntKind.u32.wrap (bits BinOp.andNot
      IntKind.u32 (y.n (38 : Nat)) (1 : Int) * (2654435761 : Int))) ((bits BinOp.andNot IntKind.u32 (y.n (38 : Nat)) (1 : Int)).fdiv (128 : Int)) * (65536 : Int))))]) (↑((y.n
      (100000 : Nat)).toNat + (1 : Nat)) : Int) (↑((y.n (100001 : Nat)).toNat + (1 : Nat)) : Int)) ∧ ((2000 : Int) - IntKind.i64.wrap (y.n (91051 : Nat) + (1 : Int))).toNat <
      ((2000 : Int) - y.n (91051 : Nat)).toNat ∧ True)) ∧ (decide (IntKind.i64.wrap (y.n (40 : Nat) - (1 : Int)) > (0 : Int)) = false → ((bif true ^^ true == (y.n (91051 : Nat)
      == IntKind.i64.wrap (y.n (91000 : Nat) - (1 : Int))) then true else false) = true → ([] : SW) = [] ∧ True ∧ false = true) ∧ ((bif true ^^ true == (y.n (91051 : Nat) ==
      IntKind.i64.wrap (y.n (91000 : Nat) - (1 : Int))) then true else false) = false → td1 E = td1 E ∧ (149 : Nat) = (149 : Nat) ∧ ((((1 : Int) ≤ y.n (91000 : Nat) ∧ y.n (91000
      : Nat) ≤ (100 : Int)) ∧ True) ∧ True ∧ True ∧ True ∧ True ∧ True ∧ True ∧ True ∧ (((0 : Int) ≤ IntKind.i64.wrap (y.n (91051 : Nat) + (1 : Int)) ∧ IntKind.i64.wrap (y.n
      (91051 : Nat) + (1 : Int)) ≤ (100 : Int)) ∧ True) ∧ True) ∧ ((62 : Nat) = (62 : Nat) ∧ True ∧ (38 : Nat) = (38 : Nat) ∧ True ∧ (48 : Nat) = (48 : Nat) ∧ (flat plS = true ∧
      Row plS (rSet (rApp (y.l (2 : Nat)) ((y.n (100000 : Nat)).toNat * (6 : Nat)) [C.i true IntKind.i64 (3 : Int), ofCell (Value.bool true), C.i false IntKind.u32 (bits
      BinOp.andNot IntKind.u32 (y.n (38 : Nat)) (1 : Int)), C.i true IntKind.u32 (0 : Int), ofCell (Value.int IntKind.i64 (2 : Int)), ofCell (Value.int IntKind.i64 (1 : Int))])
      ((IntKind.i64.wrap ((↑((y.n (100000 : Nat)).toNat + (1 : Nat)) : Int) - (1 : Int))).toNat * (6 : Nat) + (3 : Nat)) [C.i false IntKind.u32 (bits BinOp.andNot IntKind.u32
      (y.n (39 : Nat)) (1 : Int))])) ∧ (27 : Nat) = (27 : Nat) ∧ (flat [Sp.i IntKind.u32] = true ∧ Row [Sp.i IntKind.u32] (rApp (y.l (3 : Nat)) ((y.n (100001 : Nat)).toNat * (1
      : Nat)) [C.i false IntKind.u32 (bits BinOp.or IntKind.u32 (bits BinOp.and IntKind.u32 (bits BinOp.xor IntKind.u32 (IntKind.u32.wrap (bits BinOp.andNot IntKind.u32 (y.n (38
      : Nat)) (1 : Int) * (2654435761 : Int))) ((bits BinOp.andNot IntKind.u32 (y.n (38 : Nat)) (1 : Int)).fdiv (128 : Int))) (65535 : Int)) (IntKind.u32.wrap (bits BinOp.xor
      IntKind.u32 (IntKind.u32.wrap (bits BinOp.andNot IntKind.u32 (y.n (38 : Nat)) (1 : Int) * (2654435761 : Int))) ((bits BinOp.andNot IntKind.u32 (y.n (38 : Nat)) (1 :
      Int)).fdiv (128 : Int)) * (65536 : Int))))])) ∧ ([] : SW) = []) ∧ (IntKind.i64.wrap (y.n (91051 : Nat) + (1 : Int)) = y.n (91000 : Nat) ∧ y.n (91050 : Nat) = y.n (91000 :
      Nat) ∧ y.b (91001 : Nat) = false ∧ PLN (3 : Int) (2 : Int) (IntKind.i64.wrap (y.n (91051 : Nat) + (1 : Int))).toNat (rSet (rApp (y.l (2 : Nat)) ((y.n (100000 : Nat)).toNat
      * (6 : Nat)) [C.i true IntKind.i64 (3 : Int), ofCell (Value.bool true), C.i false IntKind.u32 (bits BinOp.andNot IntKind.u32 (y.n (38 : Nat)) (1 : Int)), C.i true
      IntKind.u32 (0 : Int), ofCell (Value.int IntKind.i64 (2 : Int)), ofCell (Value.int IntKind.i64 (1 : Int))]) ((IntKind.i64.wrap ((↑((y.n (100000 : Nat)).toNat + (1 : Nat))
      : Int) - (1 : Int))).toNat * (6 : Nat) + (3 : Nat)) [C.i false IntKind.u32 (bits BinOp.andNot IntKind.u32 (y.n (39 : Nat)) (1 : Int))]) (rApp (y.l (3 : Nat)) ((y.n (100001
      : Nat)).toNat * (1 : Nat)) [C.i false IntKind.u32 (bits BinOp.or IntKind.u32 (bits BinOp.and IntKind.u32 (bits BinOp.xor IntKind.u32 (IntKind.u32.wrap (bits BinOp.andNot
      IntKind.u32 (y.n (38 : Nat)) (1 : Int) * (2654435761 : Int))) ((bits BinOp.andNot IntKind.u32 (y.n (38 : Nat)) (1 : Int)).fdiv (128 : Int))) (65535 : Int))
      (IntKind.u32.wrap (bits BinOp.xor IntKind.u32 (IntKind.u32.wrap (bits BinOp.andNot IntKind.u32 (y.n (38 : Nat)) (1 : Int) * (2654435761 : Int))) ((bits BinOp.andNot
      IntKind.u32 (y.n (38 : Nat)) (1 : Int)).fdiv (128 : Int)) * (65536 : Int))))]) (↑((y.n (100000 : Nat)).toNat + (1 : Nat)) : Int) (↑((y.n (100001 : Nat)).toNat + (1 : Nat))
      : Int)) ∧ ((2000 : Int) - IntKind.i64.wrap (y.n (91051 : Nat) + (1 : Int))).toNat < ((2000 : Int) - y.n (91051 : Nat)).toNat ∧ True))) := by kernel_rfl
set_option maxHeartbeats 8000000 in
theorem copy_q23 (E : World) (n ch : Int) (wd : Bool) (z : PX) (hp : (fun _ => True) z) (y : PX) (hy1 : rgM y [uM3 49152 true false, tW, pR, wR] 0) (hy2 : rgF y [(0, .r .i64 (1) (100)), (1, .b), (2, .c (.i true .i64 3)), (7, .c (.p 0 0)), (8, .c (.p 1 0)), (9, .c (.i true .u16 49152)), (10, .c (.i true .i64 2)), (50, .i .i64), (51, .r .i64 (0) (100))]) (hy3 : (fun y => (1 ≤ y.n 91051 ∧ y.n 91051 < y.n 91000) ∧ y.n 91050 = y.n 91000 ∧ y.b 91001 = false ∧ y.n 38 = 33619968 + y.n 91051 * 2 ∧ y.n 39 = 50462720 + y.n 91051 * 2 ∧ y.n 40 = y.n 91000 - y.n 91051 ∧ PLN 3 2 (y.n 91051).toNat (y.l 2) (y.l 3) (y.n 100000) (y.n 100001)) y) : Holds ((run (pe E) (orcA E) (tabL fns) 20000 (2 ^ 200 - 1) (td1 E) (mkL Try.f5.ntmps (slC y [(0, .r .i64 (1) (100)), (1, .b), (2, .c (.i true .i64 3)), (7, .c (.p 0 0)), (8, .c (.p 1 0)), (9, .c (.i true .u16 49152)), (10, .c (.i true .i64 2)), (50, .i .i64), (51, .r .i64 (0) (100))])) (mkM y [] [uM3 49152 true false, tW, pR, wR] 0)).OK (lfP (pe E) Try.f5 (endR ([] : List MB).length [] (.c .b) (fun _ y => y.b 90000 = true) z) (headR ([] : List MB).length Try.f5.ntmps (some ((fun y => (2000 - y.n 91051).toNat) y)) (copy_hs E n ch wd z)))) := by
  refine loopW_lfH [some true, some true, some true] ⟨?_⟩
  rw [copy_r23]
  have hf : (((1) ≤ y.n 91000 ∧ y.n 91000 ≤ (100)) ∧ True) ∧ True ∧ True ∧ True ∧ True ∧ True ∧ True ∧ True ∧ (((0) ≤ y.n 91051 ∧ y.n 91051 ≤ (100)) ∧ True) ∧ True := hy2
  obtain ⟨⟨g0, _⟩, _, _, _, _, _, _, _, ⟨g51, _⟩, _⟩ := hf
  obtain ⟨⟨i1, i2⟩, e50, ew, e5, e6, e7, hP⟩ := hy3
  have hR2 : Row plS (y.l 2) := hy1.2.2.1.2
  have hR3 : Row [.i .u32] (y.l 3) := hy1.2.2.2.1.2
  obtain ⟨k, hk⟩ : ∃ k : Nat, y.n 91051 = (k : Int) := ⟨(y.n 91051).toNat, by omega⟩
  rw [hk, Int.toNat_natCast] at hP
  obtain ⟨L2, L3, N0, N1, hE⟩ := id hP
  rw [hk] at i1 i2 e5 e6 e7
  have hk0 : 0 < k := by omega
  have ea : bits .andNot .u32 (y.n 38) 1 = 33619968 + (k : Int) * 2 := by rw [al2 _ (by omega) (by omega) (by omega)]; exact e5
  have eb : bits .andNot .u32 (y.n 39) 1 = 50462720 + (k : Int) * 2 := by rw [al2 _ (by omega) (by omega) (by omega)]; exact e6
  have t0 : (y.n 100000).toNat = k := by rw [N0]; exact Int.toNat_natCast k
  have t1 : (y.n 100001).toNat = k := by rw [N1]; exact Int.toNat_natCast k
  have w1 : IntKind.i64.wrap (((k + 1 : Nat) : Int) - 1) = (k : Int) := by rw [wi64]; omega
  have w2 : IntKind.i64.wrap ((k : Int) + 1) = (k : Int) + 1 := by rw [wi64]; omega
  have w3 : IntKind.i64.wrap (y.n 91000 - 1) = y.n 91000 - 1 := by rw [wi64]; omega
  have w4 : IntKind.i64.wrap (y.n 40 - 1) = y.n 91000 - (k : Int) - 1 := by rw [wi64, e7]; omega
  have w5 : IntKind.u32.wrap (y.n 38 + 2) = 33619968 + ((k : Int) + 1) * 2 := by rw [wu32, e5]; omega
  have w6 : IntKind.u32.wrap (y.n 39 + 2) = 50462720 + ((k : Int) + 1) * 2 := by rw [wu32, e6]; omega
  have h1 : decide ((k : Int) < y.n 91050) = true := decide_eq_true (by omega)
  have h2 : decide (33619968 + (k : Int) * 2 ≥ 33554432) = true := decide_eq_true (by omega)
  have h3 : decide (((k + 1 : Nat) : Int) > (k : Int)) = true := decide_eq_true (by omega)
  have h4 : inB (k : Int) (k + 1) = true := by simp only [inB, Bool.and_eq_true, decide_eq_true_eq]; omega
  have n1 : decide (0 < k) = true := decide_eq_true hk0
  have n2 : decide (k * 6 ≤ (y.l 2).length) = true := decide_eq_true (by omega)
  have n3 : decide (k + 1 ≤ 1099511627776) = true := decide_eq_true (by omega)
  have n4 : decide ((k + 1) * 40 ≤ 1099511627776) = true := decide_eq_true (by omega)
  have n5 : decide (k * 1 ≤ (y.l 3).length) = true := decide_eq_true (by omega)
  have n6 : decide ((k + 1) * 4 ≤ 1099511627776) = true := decide_eq_true (by omega)
  have n7 : decide (k * 6 + 3 + 1 ≤ k * 6 + 6) = true := decide_eq_true (by omega)
  have b0 : ((3 : Int) == 3) = true := by decide
  have b4 : ((2 : Int) == 2) = true := by decide
  have b5 : ((1 : Int) == 1) = true := by decide
  have hf : flat plS = true := rfl
  have hf2 : flat [Sp.i IntKind.u32] = true := rfl
  have tk : ((k : Int) + 1).toNat = k + 1 := by omega
  simp only [hk, ea, eb, t0, t1, w1, w2, w3, w4, w5, w6, Int.toNat_natCast, tk, h1, h2, h3, h4, n1, n2, n3, n4, n5, n6, n7, ap0 L2, ap4 L2, ap5 L2, ao0 L2, ao4 L2, ao5 L2, ap_len L2, b0, b4, b5, cond_true, Bool.and_self, Bool.true_eq_false, false_implies, true_implies, forall_const, and_true, true_and, hf, hf2, row2 hR2 L2, row3 hR3 L3]
  clear w1 w2 w3 w4 w5 w6 ea eb
  refine ⟨fun h => ⟨fun h' => ?_, fun h' => ?_⟩, fun h => ⟨fun h' => ?_, fun h' => ?_⟩⟩
  · exfalso; clear hP hE hR2 hR3; simp at h h'; omega
  · replace h := of_decide_eq_true h
    refine ⟨⟨g0, by omega, by omega⟩, ⟨⟨by omega, by omega⟩, e50, ew, by omega, pln_step hP hk0 rfl rfl (vwF _)⟩, by omega⟩
  · exfalso; clear hP hE hR2 hR3; simp at h h'; omega
  · replace h := of_decide_eq_false h
    refine ⟨⟨g0, by omega, by omega⟩, ⟨by omega, e50, ew, pln_step hP hk0 rfl rfl (vwF _)⟩, by omega⟩
theorem copy_r30 (E : World) (n ch : Int) (wd : Bool) (z : PX) (y : PX) :
    (loopW (pe E) Try.f5 (endR ([] : List MB).length [] (.c .b) (fun _ y => y.b 90000 = true) z) (headR ([] : List MB).length Try.f5.ntmps (some ((fun y => (2000 - y.n 91051).toNat) y)) (copy_hs E n ch wd z)) [some false] (run (pe E) (orcA E) (tabL fns) 20000 (2 ^ 200 - 1) (td1 E) (mkL Try.f5.ntmps (slC y [(0, .r .i64 (1) (100)), (1, .b), (2, .c (.i true .i64 3)), (7, .c (.p 0 0)), (8, .c (.p 1 0)), (9, .c (.i true .u16 50176)), (10, .c (.i true .i64 4)), (50, .i .i64), (51, .r .i64 (0) (100))])) (mkM y [] [uM3 17408 false false, tW, pR, wR] 0))) =
    (decide (y.n (91051 : Nat) < y.n (91050 : Nat)) = false ∧ td2 E = td2 E ∧ (149 : Nat) = (149 : Nat) ∧ ((((1 : Int) ≤ y.n (91000 : Nat) ∧ y.n (91000 : Nat) ≤ (100 : Int)) ∧
      True) ∧ True ∧ True ∧ True ∧ True ∧ True ∧ True ∧ True ∧ True ∧ (((0 : Int) ≤ (0 : Int) ∧ (0 : Int) ≤ (100 : Int)) ∧ True) ∧ True) ∧ ((62 : Nat) = (62 : Nat) ∧ True ∧ (38
      : Nat) = (38 : Nat) ∧ True ∧ (48 : Nat) = (48 : Nat) ∧ (flat plS = true ∧ Row plS (y.l (2 : Nat))) ∧ (27 : Nat) = (27 : Nat) ∧ (flat [Sp.i IntKind.u32] = true ∧ Row [Sp.i
      IntKind.u32] (y.l (3 : Nat))) ∧ ([] : SW) = []) ∧ ((↑(y.n (100000 : Nat)).toNat : Int) = y.n (91000 : Nat) ∧ (↑(y.n (100000 : Nat)).toNat : Int) = y.n (91000 : Nat) ∧ (0 :
      Int) ≤ y.n (91000 : Nat) ∧ y.b (91001 : Nat) = true ∧ PLN (3 : Int) (4 : Int) (y.n (91000 : Nat)).toNat (y.l (2 : Nat)) (y.l (3 : Nat)) (↑(y.n (100000 : Nat)).toNat : Int)
      (↑(y.n (100001 : Nat)).toNat : Int)) ∧ ((200 : Int) - (0 : Int)).toNat < ((2000 : Int) - y.n (91051 : Nat)).toNat ∧ True) := by kernel_rfl
set_option maxHeartbeats 8000000 in
theorem copy_q30 (E : World) (n ch : Int) (wd : Bool) (z : PX) (hp : (fun _ => True) z) (y : PX) (hy1 : rgM y [uM3 17408 false false, tW, pR, wR] 0) (hy2 : rgF y [(0, .r .i64 (1) (100)), (1, .b), (2, .c (.i true .i64 3)), (7, .c (.p 0 0)), (8, .c (.p 1 0)), (9, .c (.i true .u16 50176)), (10, .c (.i true .i64 4)), (50, .i .i64), (51, .r .i64 (0) (100))]) (hy3 : (fun y => y.n 91051 = y.n 91000 ∧ y.n 91050 = y.n 91000 ∧ y.b 91001 = true ∧ PLN 3 4 (y.n 91051).toNat (y.l 2) (y.l 3) (y.n 100000) (y.n 100001)) y) : Holds ((run (pe E) (orcA E) (tabL fns) 20000 (2 ^ 200 - 1) (td1 E) (mkL Try.f5.ntmps (slC y [(0, .r .i64 (1) (100)), (1, .b), (2, .c (.i true .i64 3)), (7, .c (.p 0 0)), (8, .c (.p 1 0)), (9, .c (.i true .u16 50176)), (10, .c (.i true .i64 4)), (50, .i .i64), (51, .r .i64 (0) (100))])) (mkM y [] [uM3 17408 false false, tW, pR, wR] 0)).OK (lfP (pe E) Try.f5 (endR ([] : List MB).length [] (.c .b) (fun _ y => y.b 90000 = true) z) (headR ([] : List MB).length Try.f5.ntmps (some ((fun y => (2000 - y.n 91051).toNat) y)) (copy_hs E n ch wd z)))) := by
  refine loopW_lfH [some false] ⟨?_⟩
  rw [copy_r30]
  have hf : (((1) ≤ y.n 91000 ∧ y.n 91000 ≤ (100)) ∧ True) ∧ True ∧ True ∧ True ∧ True ∧ True ∧ True ∧ True ∧ (((0) ≤ y.n 91051 ∧ y.n 91051 ≤ (100)) ∧ True) ∧ True := hy2
  obtain ⟨⟨g0, _⟩, _, _, _, _, _, _, _, ⟨g51, _⟩, _⟩ := hf
  obtain ⟨e0, e50, ew, hP⟩ := hy3
  have hR2 : Row plS (y.l 2) := hy1.2.2.1.2
  have hR3 : Row [.i .u32] (y.l 3) := hy1.2.2.2.1.2
  have h1 : decide (y.n 91051 < y.n 91050) = false := decide_eq_false (by omega)
  have hf : flat plS = true := rfl
  have hf2 : flat [Sp.i IntKind.u32] = true := rfl
  have N0 := hP.2.2.1
  have t0 : ((y.n 100000).toNat : Int) = y.n 91000 := by rw [N0]; omega
  rw [e0] at hP
  simp only [h1, t0, hf, hf2, hR2, hR3, Bool.false_eq_true, false_implies, true_implies, forall_const, and_true, true_and]
  refine ⟨⟨g0, by omega⟩, ⟨by omega, ew, ⟨hP.1, hP.2.1, by have := hP.2.2.1; omega, by have := hP.2.2.2.1; omega, hP.2.2.2.2⟩⟩, by omega⟩
theorem copy_r31 (E : World) (n ch : Int) (wd : Bool) (z : PX) (y : PX) :
    (loopW (pe E) Try.f5 (endR ([] : List MB).length [] (.c .b) (fun _ y => y.b 90000 = true) z) (headR ([] : List MB).length Try.f5.ntmps (some ((fun y => (2000 - y.n 91051).toNat) y)) (copy_hs E n ch wd z)) [some false] (run (pe E) (orcA E) (tabL fns) 20000 (2 ^ 200 - 1) (td1 E) (mkL Try.f5.ntmps (slC y [(0, .r .i64 (1) (100)), (1, .b), (2, .c (.i true .i64 3)), (7, .c (.p 0 0)), (8, .c (.p 1 0)), (9, .c (.i true .u16 49152)), (10, .c (.i true .i64 2)), (50, .i .i64), (51, .r .i64 (0) (100))])) (mkM y [] [uM3 16384 false false, tW, pR, wR] 0))) =
    (decide (y.n (91051 : Nat) < y.n (91050 : Nat)) = false ∧ td2 E = td2 E ∧ (149 : Nat) = (149 : Nat) ∧ ((((1 : Int) ≤ y.n (91000 : Nat) ∧ y.n (91000 : Nat) ≤ (100 : Int)) ∧
      True) ∧ True ∧ True ∧ True ∧ True ∧ True ∧ True ∧ True ∧ True ∧ (((0 : Int) ≤ (0 : Int) ∧ (0 : Int) ≤ (100 : Int)) ∧ True) ∧ True) ∧ ((62 : Nat) = (62 : Nat) ∧ True ∧ (38
      : Nat) = (38 : Nat) ∧ True ∧ (48 : Nat) = (48 : Nat) ∧ (flat plS = true ∧ Row plS (y.l (2 : Nat))) ∧ (27 : Nat) = (27 : Nat) ∧ (flat [Sp.i IntKind.u32] = true ∧ Row [Sp.i
      IntKind.u32] (y.l (3 : Nat))) ∧ ([] : SW) = []) ∧ ((↑(y.n (100000 : Nat)).toNat : Int) = y.n (91000 : Nat) ∧ (↑(y.n (100000 : Nat)).toNat : Int) = y.n (91000 : Nat) ∧ (0 :
      Int) ≤ y.n (91000 : Nat) ∧ y.b (91001 : Nat) = false ∧ PLN (3 : Int) (2 : Int) (y.n (91000 : Nat)).toNat (y.l (2 : Nat)) (y.l (3 : Nat)) (↑(y.n (100000 : Nat)).toNat :
      Int) (↑(y.n (100001 : Nat)).toNat : Int)) ∧ ((200 : Int) - (0 : Int)).toNat < ((2000 : Int) - y.n (91051 : Nat)).toNat ∧ True) := by kernel_rfl
set_option maxHeartbeats 8000000 in
theorem copy_q31 (E : World) (n ch : Int) (wd : Bool) (z : PX) (hp : (fun _ => True) z) (y : PX) (hy1 : rgM y [uM3 16384 false false, tW, pR, wR] 0) (hy2 : rgF y [(0, .r .i64 (1) (100)), (1, .b), (2, .c (.i true .i64 3)), (7, .c (.p 0 0)), (8, .c (.p 1 0)), (9, .c (.i true .u16 49152)), (10, .c (.i true .i64 2)), (50, .i .i64), (51, .r .i64 (0) (100))]) (hy3 : (fun y => y.n 91051 = y.n 91000 ∧ y.n 91050 = y.n 91000 ∧ y.b 91001 = false ∧ PLN 3 2 (y.n 91051).toNat (y.l 2) (y.l 3) (y.n 100000) (y.n 100001)) y) : Holds ((run (pe E) (orcA E) (tabL fns) 20000 (2 ^ 200 - 1) (td1 E) (mkL Try.f5.ntmps (slC y [(0, .r .i64 (1) (100)), (1, .b), (2, .c (.i true .i64 3)), (7, .c (.p 0 0)), (8, .c (.p 1 0)), (9, .c (.i true .u16 49152)), (10, .c (.i true .i64 2)), (50, .i .i64), (51, .r .i64 (0) (100))])) (mkM y [] [uM3 16384 false false, tW, pR, wR] 0)).OK (lfP (pe E) Try.f5 (endR ([] : List MB).length [] (.c .b) (fun _ y => y.b 90000 = true) z) (headR ([] : List MB).length Try.f5.ntmps (some ((fun y => (2000 - y.n 91051).toNat) y)) (copy_hs E n ch wd z)))) := by
  refine loopW_lfH [some false] ⟨?_⟩
  rw [copy_r31]
  have hf : (((1) ≤ y.n 91000 ∧ y.n 91000 ≤ (100)) ∧ True) ∧ True ∧ True ∧ True ∧ True ∧ True ∧ True ∧ True ∧ (((0) ≤ y.n 91051 ∧ y.n 91051 ≤ (100)) ∧ True) ∧ True := hy2
  obtain ⟨⟨g0, _⟩, _, _, _, _, _, _, _, ⟨g51, _⟩, _⟩ := hf
  obtain ⟨e0, e50, ew, hP⟩ := hy3
  have hR2 : Row plS (y.l 2) := hy1.2.2.1.2
  have hR3 : Row [.i .u32] (y.l 3) := hy1.2.2.2.1.2
  have h1 : decide (y.n 91051 < y.n 91050) = false := decide_eq_false (by omega)
  have hf : flat plS = true := rfl
  have hf2 : flat [Sp.i IntKind.u32] = true := rfl
  have N0 := hP.2.2.1
  have t0 : ((y.n 100000).toNat : Int) = y.n 91000 := by rw [N0]; omega
  rw [e0] at hP
  simp only [h1, t0, hf, hf2, hR2, hR3, Bool.false_eq_true, false_implies, true_implies, forall_const, and_true, true_and]
  refine ⟨⟨g0, by omega⟩, ⟨by omega, ew, ⟨hP.1, hP.2.1, by have := hP.2.2.1; omega, by have := hP.2.2.2.1; omega, hP.2.2.2.2⟩⟩, by omega⟩
end Go.Proofs.Ytpddbhfebhpohaa

