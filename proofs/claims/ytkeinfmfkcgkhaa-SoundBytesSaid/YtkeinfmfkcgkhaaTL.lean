import Derived.Test.YtkeinfmfkcgkhaaTI
import Derived.Test.YtkeinfmfkcgkhaaTJ
import Derived.Test.YtkeinfmfkcgkhaaTK
set_option linter.unusedVariables false
set_option linter.unusedSimpArgs false
namespace Go.Proofs.Ytkeinfmfkcgkhaa
open Go Go.Proofs Go.Proofs.Ytkeinfmfkcgkhaa.Ev Go.Proofs.Ytkeinfmfkcgkhaa.Ev.Ho
set_option maxRecDepth 100000
theorem law_pro (E : World) (a : Option Addr) (n m : Nat) (z : PX) :
    (loopP (pe E) Try.f4 (endR ([] : List MB).length [] (.c .b) (fun z y => y.b 90000 = true) z) (headR ([] : List MB).length Try.f4.ntmps none (law_hs E a n m z)) (run (pe E) (orcQ E) (tabL fns) 20000 (2 ^ 200 - 1) [.code (Try.f4.body.getD .skip)] ⟨Try.f4.ntmps, mkFrGo (Tr.mk 12) 0 [.c (.es a n m)]⟩ (mkM z [] [] 0))) =
    ((decide ((↑n : Int) > (20 : Int)) = true → ([] : SW) = [] ∧ True ∧ true = true) ∧ (decide ((↑n : Int) > (20 : Int)) = false → t1_td E = t1_td E ∧ (111 : Nat) = (111 : Nat)
      ∧ ((renC (posN [(2 : Nat), (2000000000001 : Nat), (1 : Nat), (2000000000003 : Nat), (0 : Nat)]) (C.es a n m) = C.es a n m ∧ True) ∧ True ∧ True ∧ (renC (posN [(2 : Nat),
      (2000000000001 : Nat), (1 : Nat), (2000000000003 : Nat), (0 : Nat)]) (C.es a n m) = C.es a n m ∧ True) ∧ (renC (posN [(2 : Nat), (2000000000001 : Nat), (1 : Nat),
      (2000000000003 : Nat), (0 : Nat)]) (C.i false IntKind.i64 (↑n : Int)) = C.i false IntKind.i64 (↑n : Int) ∧ True) ∧ (((0 : Int) ≤ (0 : Int) ∧ (0 : Int) ≤ (20 : Int)) ∧
      True) ∧ True) ∧ ((68 : Nat) = (68 : Nat) ∧ (((0 : Int) ≤ (0 : Int) ∧ (0 : Int) ≤ (32 : Int)) ∧ ((-128 : Int) ≤ (0 : Int) ∧ (0 : Int) ≤ (127 : Int)) ∧ ((0 : Int) ≤ (0 :
      Int) ∧ (0 : Int) ≤ (10000000 : Int)) ∧ True) ∧ (57 : Nat) = (57 : Nat) ∧ (flat [Sp.i IntKind.i8] = true ∧ Row [Sp.i IntKind.i8] []) ∧ (84 : Nat) = (84 : Nat) ∧ (((0 : Int)
      ≤ (0 : Int) ∧ (0 : Int) ≤ (10000000 : Int)) ∧ True) ∧ (60 : Nat) = (60 : Nat) ∧ (flat [Sp.i IntKind.i16, Sp.i IntKind.i16] = true ∧ Row [Sp.i IntKind.i16, Sp.i
      IntKind.i16] []) ∧
      (741991204937588471353107210173517385893522847741378461052633880361214601735917472982278721692919759636892846595991201096475255940853038949688016010326287086087990634635853824
      : Nat) =
      (741991204937588471353107210173517385893522847741378461052633880361214601735917472982278721692919759636892846595991201096475255940853038949688016010326287086087990634635853824
      : Nat) ∧ ([] : SW) = []) ∧ ((WB [] (0 : Int) [(0 : Int), (0 : Int), (0 : Int), (0 : Int), (0 : Int), (0 : Int), (0 : Int), (0 : Int), (0 : Int), (0 : Int), (0 : Int), (0 :
      Int), (0 : Int), (0 : Int), (0 : Int), (0 : Int), (0 : Int), (0 : Int), (0 : Int), (0 : Int), (0 : Int), (0 : Int), (0 : Int), (0 : Int), (0 : Int), (0 : Int), (0 : Int),
      (0 : Int), (0 : Int), (0 : Int), (0 : Int), (0 : Int)] ∧ (0 : Int) = m5 ((4 : Int) * (0 : Int)) ∧ (0 : Int) = m5 ((4 : Int) * (0 : Int))) ∧ ((0 : Int) = (0 : Int) ∧ (0 :
      Int) = (0 : Int) ∧ Ln [] (0 : Int)) ∧ (0 : Int) ≤ (↑n : Int) ∧ (↑n : Int) ≤ (20 : Int)) ∧ True)) := by kernel_rfl
set_option maxHeartbeats 8000000 in
theorem law_c (E : World) (a : Option Addr) (n m : Nat) (z : PX) (hz : rgM z [] 0) (hp : (fun _ => eRows E a n 1 [.i .u32] = true ∧ (n = 0 ∨ a.isSome = true)) z) : HD (pe E) 4 [.c (.es a n m)] [] [] (.c .b) (fun z y => y.b 90000 = true) z := by
  refine HD.loop (P := pe E) orcQ_ok tab_ok tab_sz mixed Try.func4 (c := Try.f4.body.getD .skip) rfl (by decide) (Nat.le_of_ble_eq_true rfl) (by rfl) 20000 (2 ^ 200 - 1) (law_hs E a n m z) (by rfl) (loopP_lfH ⟨?_⟩) ?_
  · rw [law_pro]
    obtain ⟨hr, hs⟩ := hp
    have hRW : Row [.i .i8] [] := Row.nil
    have hRT : Row [.i .i16, .i .i16] [] := Row.nil
    have hf : flat [Sp.i .i16, Sp.i .i16] = true := rfl
    have hfw : flat [Sp.i .i8] = true := rfl
    have hWB : WB [] 0 [0, 0, 0, 0, 0, 0, 0, 0, 0, 0, 0, 0, 0, 0, 0, 0, 0, 0, 0, 0, 0, 0, 0, 0, 0, 0, 0, 0, 0, 0, 0, 0] := And.intro (fun h => absurd h (by omega)) <| And.intro (fun h => absurd h (by omega)) <| And.intro (fun h => absurd h (by omega)) <| And.intro (fun h => absurd h (by omega)) <| And.intro (fun h => absurd h (by omega)) <| And.intro (fun h => absurd h (by omega)) <| And.intro (fun h => absurd h (by omega)) <| And.intro (fun h => absurd h (by omega)) <| And.intro (fun h => absurd h (by omega)) <| And.intro (fun h => absurd h (by omega)) <| And.intro (fun h => absurd h (by omega)) <| And.intro (fun h => absurd h (by omega)) <| And.intro (fun h => absurd h (by omega)) <| And.intro (fun h => absurd h (by omega)) <| And.intro (fun h => absurd h (by omega)) <| And.intro (fun h => absurd h (by omega)) <| And.intro (fun h => absurd h (by omega)) <| And.intro (fun h => absurd h (by omega)) <| And.intro (fun h => absurd h (by omega)) <| And.intro (fun h => absurd h (by omega)) <| And.intro (fun h => absurd h (by omega)) <| And.intro (fun h => absurd h (by omega)) <| And.intro (fun h => absurd h (by omega)) <| And.intro (fun h => absurd h (by omega)) <| And.intro (fun h => absurd h (by omega)) <| And.intro (fun h => absurd h (by omega)) <| And.intro (fun h => absurd h (by omega)) <| And.intro (fun h => absurd h (by omega)) <| And.intro (fun h => absurd h (by omega)) <| And.intro (fun h => absurd h (by omega)) <| And.intro (fun h => absurd h (by omega)) <| And.intro (fun h => absurd h (by omega)) <| trivial
    have hLn : Ln [] 0 := ⟨rfl⟩
    refine ⟨fun _ => ⟨by trivial, by trivial, by trivial⟩, fun hn => ?_⟩
    have hn := of_decide_eq_false hn
    ((repeat' (first | exact trivial | with_reducible rfl | assumption | exact decide_eq_true rfl | exact sameB_self _ | exact rfl | apply And.intro)) <;> omega)
  · intro h hmem y hy1 hy2 hy3
    simp only [law_hs, List.mem_cons, List.not_mem_nil, or_false] at hmem
    rcases hmem with hmem | hmem | hmem
    · have e1 : h.td = (t1_td E) := by rw [hmem]; unfold law_h0; with_reducible rfl
      have e2 : h.fs = [(0, .q (.es a n m)), (3, .c (.p 0 0)), (4, .v 1 1), (22, .q (.es a n m)), (23, .q (.i false .i64 (n : Int))), (24, .r .i64 (0) (20))] := by rw [hmem]; unfold law_h0; with_reducible rfl
      have e3 : h.ms = [mT 2 3, rowW, mP 4, rowT, mO] := by rw [hmem]; unfold law_h0; with_reducible rfl
      have e4 : h.mu = (fun y => (200 - y.n 91024 * 6).toNat + 1000) := by rw [hmem]; unfold law_h0; with_reducible rfl
      have e5 : h.H = (fun y => (WB (y.l 1) (y.n 33) [y.n 1, y.n 2, y.n 3, y.n 4, y.n 5, y.n 6, y.n 7, y.n 8, y.n 9, y.n 10, y.n 11, y.n 12, y.n 13, y.n 14, y.n 15, y.n 16, y.n 17, y.n 18, y.n 19, y.n 20, y.n 21, y.n 22, y.n 23, y.n 24, y.n 25, y.n 26, y.n 27, y.n 28, y.n 29, y.n 30, y.n 31, y.n 32] ∧ y.n 91004 = m5 (4 * y.n 91024) ∧ y.n 33 = m5 (4 * y.n 91024)) ∧ (y.n 73 = 0 ∧ y.n 74 = 0 ∧ Ln (y.l 1) (y.n 91004)) ∧ y.n 91024 ≤ (n : Int) ∧ (n : Int) ≤ 20) := by rw [hmem]; unfold law_h0; with_reducible rfl
      rw [e3] at hy1
      rw [e2] at hy2
      rw [e5] at hy3
      rw [e1, e2, e3, e4]
      exact law_q0 E a n m z hp y hy1 hy2 hy3
    · have e1 : h.td = (t2_td E) := by rw [hmem]; unfold law_h1; with_reducible rfl
      have e2 : h.fs = [(0, .q (.es a n m)), (3, .c (.p 0 0)), (4, .v 1 1), (22, .q (.es a n m)), (23, .q (.i false .i64 (n : Int))), (24, .r .i64 (0) (20)), (6, .r .u32 (0) (4294967295)), (31, .r .i64 (0) (4))] := by rw [hmem]; unfold law_h1; with_reducible rfl
      have e3 : h.ms = [mT 2 3, rowW, mP 4, rowT, mO] := by rw [hmem]; unfold law_h1; with_reducible rfl
      have e4 : h.mu = (fun y => (199 - y.n 91024 * 6 - y.n 91031).toNat + 1000) := by rw [hmem]; unfold law_h1; with_reducible rfl
      have e5 : h.H = (fun y => (WC (y.l 1) (y.n 91004) (y.n 33) (4 * y.n 91024) (y.n 91006) [y.n 1, y.n 2, y.n 3, y.n 4, y.n 5, y.n 6, y.n 7, y.n 8, y.n 9, y.n 10, y.n 11, y.n 12, y.n 13, y.n 14, y.n 15, y.n 16, y.n 17, y.n 18, y.n 19, y.n 20, y.n 21, y.n 22, y.n 23, y.n 24, y.n 25, y.n 26, y.n 27, y.n 28, y.n 29, y.n 30, y.n 31, y.n 32] ∧ y.n 91004 = m5 (4 * y.n 91024 + y.n 91031) ∧ y.n 33 = m5 (4 * y.n 91024 + 4)) ∧ (y.n 73 = 0 ∧ y.n 74 = 0 ∧ Ln (y.l 1) (y.n 91004)) ∧ y.n 91024 < (n : Int) ∧ (n : Int) ≤ 20) := by rw [hmem]; unfold law_h1; with_reducible rfl
      rw [e3] at hy1
      rw [e2] at hy2
      rw [e5] at hy3
      rw [e1, e2, e3, e4]
      exact law_q1 E a n m z hp y hy1 hy2 hy3
    · have e1 : h.td = (t3_td E) := by rw [hmem]; unfold law_h2; with_reducible rfl
      have e2 : h.fs = [(3, .c (.p 0 0)), (4, .v 1 1), (57, .v 1 1), (58, .r .i64 (0) (32)), (59, .r .i64 (0) (32))] := by rw [hmem]; unfold law_h2; with_reducible rfl
      have e3 : h.ms = [mT 2 3, rowW, mP 4, rowT, mO] := by rw [hmem]; unfold law_h2; with_reducible rfl
      have e4 : h.mu = (fun y => (33 - y.n 91059).toNat) := by rw [hmem]; unfold law_h2; with_reducible rfl
      have e5 : h.H = (fun y => (WD (y.l 1) (y.n 91059) (y.n 33) [y.n 1, y.n 2, y.n 3, y.n 4, y.n 5, y.n 6, y.n 7, y.n 8, y.n 9, y.n 10, y.n 11, y.n 12, y.n 13, y.n 14, y.n 15, y.n 16, y.n 17, y.n 18, y.n 19, y.n 20, y.n 21, y.n 22, y.n 23, y.n 24, y.n 25, y.n 26, y.n 27, y.n 28, y.n 29, y.n 30, y.n 31, y.n 32] ∧ y.n 33 = y.n 91058 - y.n 91059 ∧ y.n 91057 = y.n 91004 ∧ y.n 91058 = y.n 91004) ∧ y.n 73 = 512 * y.n 91059 ∧ y.n 74 = 0 ∧ Ln (y.l 1) (y.n 91004) ∧ y.n 91059 ≤ y.n 91058) := by rw [hmem]; unfold law_h2; with_reducible rfl
      rw [e3] at hy1
      rw [e2] at hy2
      rw [e5] at hy3
      rw [e1, e2, e3, e4]
      exact law_q2 E a n m z hp y hy1 hy2 hy3
end Go.Proofs.Ytkeinfmfkcgkhaa

