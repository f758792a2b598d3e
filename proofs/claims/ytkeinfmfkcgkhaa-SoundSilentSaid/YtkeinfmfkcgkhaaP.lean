import Derived.Test.YtkeinfmfkcgkhaaQ
import Derived.Test.YtkeinfmfkcgkhaaR
set_option linter.unusedVariables false
set_option linter.unusedSimpArgs false
namespace Go.Proofs.Ytkeinfmfkcgkhaa
open Go Go.Proofs Go.Proofs.Ytkeinfmfkcgkhaa.Ev Go.Proofs.Ytkeinfmfkcgkhaa.Ev.Ho
set_option maxRecDepth 100000
theorem law_pro (E : World) (a : Option Addr) (n m : Nat) (b : Int) (z : PX) :
    (loopP (pe E) Try.f6 (endR ([] : List MB).length [] (.c .b) (fun z y => y.b 90000 = true) z) (headR ([] : List MB).length Try.f6.ntmps none (law_hs E a n m b z)) (run (pe E) (orcT E) (tabL fns) 20000 (2 ^ 200 - 1) [.code (Try.f6.body.getD .skip)] ⟨Try.f6.ntmps, mkFrGo (Tr.mk 12) 0 [.c (.es a n m), .c (.i false .u16 b)]⟩ (mkM z [] [] 0))) =
    ((decide ((↑n : Int) > (60 : Int)) = true → ([] : SW) = [] ∧ True ∧ true = true) ∧ (decide ((↑n : Int) > (60 : Int)) = false → l_td E = l_td E ∧ (106 : Nat) = (106 : Nat) ∧
      ((renC (posN [(2 : Nat), (5 : Nat), (1 : Nat), (2000000000003 : Nat), (4 : Nat), (2000000000005 : Nat), (0 : Nat), (3 : Nat)]) (C.es a n m) = C.es a n m ∧ True) ∧ True ∧
      True ∧ (((0 : Int) ≤ (0 : Int) ∧ (0 : Int) ≤ (3050000 : Int)) ∧ True) ∧ (renC (posN [(2 : Nat), (5 : Nat), (1 : Nat), (2000000000003 : Nat), (4 : Nat), (2000000000005 :
      Nat), (0 : Nat), (3 : Nat)]) (C.es a n m) = C.es a n m ∧ True) ∧ (renC (posN [(2 : Nat), (5 : Nat), (1 : Nat), (2000000000003 : Nat), (4 : Nat), (2000000000005 : Nat), (0
      : Nat), (3 : Nat)]) (C.i false IntKind.i64 (↑n : Int)) = C.i false IntKind.i64 (↑n : Int) ∧ True) ∧ (((0 : Int) ≤ (0 : Int) ∧ (0 : Int) ≤ (60 : Int)) ∧ True) ∧ True) ∧
      ((68 : Nat) = (68 : Nat) ∧ (((0 : Int) ≤ (0 : Int) ∧ (0 : Int) ≤ (32 : Int)) ∧ ((0 : Int) ≤ (0 : Int) ∧ (0 : Int) ≤ (32 : Int)) ∧ ((0 : Int) ≤ IntKind.i64.wrap (bits
      BinOp.and IntKind.u16 b (1022 : Int)) ∧ IntKind.i64.wrap (bits BinOp.and IntKind.u16 b (1022 : Int)) ≤ (1022 : Int)) ∧ ((0 : Int) ≤ (0 : Int) ∧ (0 : Int) ≤ (10000000 :
      Int)) ∧ True) ∧ (68 : Nat) = (68 : Nat) ∧ (((0 : Int) ≤ (0 : Int) ∧ (0 : Int) ≤ (32 : Int)) ∧ ((0 : Int) ≤ (0 : Int) ∧ (0 : Int) ≤ (32 : Int)) ∧ ((0 : Int) ≤
      IntKind.i64.wrap (bits BinOp.and IntKind.u16 b (1022 : Int)) ∧ IntKind.i64.wrap (bits BinOp.and IntKind.u16 b (1022 : Int)) ≤ (1022 : Int)) ∧ ((0 : Int) ≤ (0 : Int) ∧ (0 :
      Int) ≤ (10000000 : Int)) ∧ True) ∧ (84 : Nat) = (84 : Nat) ∧ (((0 : Int) ≤ (0 : Int) ∧ (0 : Int) ≤ (10000000 : Int)) ∧ True) ∧ (60 : Nat) = (60 : Nat) ∧ (flat [Sp.r
      IntKind.i16 (0 : Int) (0 : Int), Sp.r IntKind.i16 (0 : Int) (0 : Int)] = true ∧ Row [Sp.r IntKind.i16 (0 : Int) (0 : Int), Sp.r IntKind.i16 (0 : Int) (0 : Int)] []) ∧ (84
      : Nat) = (84 : Nat) ∧ (((0 : Int) ≤ (0 : Int) ∧ (0 : Int) ≤ (10000000 : Int)) ∧ True) ∧ (60 : Nat) = (60 : Nat) ∧ (flat [Sp.r IntKind.i16 (0 : Int) (0 : Int), Sp.r
      IntKind.i16 (0 : Int) (0 : Int)] = true ∧ Row [Sp.r IntKind.i16 (0 : Int) (0 : Int), Sp.r IntKind.i16 (0 : Int) (0 : Int)] []) ∧
      (741991204937588471353107210173517385893522847741378461052633880361214601735917472982278721692919759636892846595991201096475255940853038949688016010326287086087990634635853824
      : Nat) =
      (741991204937588471353107210173517385893522847741378461052633880361214601735917472982278721692919759636892846595991201096475255940853038949688016010326287086087990634635853824
      : Nat) ∧
      (741991204937588471353107210173517385893522847741378461052633880361214601735917472982278721692919759636892846595991201096475255940853038949688016010326287086087990634635853824
      : Nat) =
      (741991204937588471353107210173517385893522847741378461052633880361214601735917472982278721692919759636892846595991201096475255940853038949688016010326287086087990634635853824
      : Nat) ∧ ([] : SW) = []) ∧ (((Len2 [] (0 : Int) ∧ (0 : Int) * (512 : Int) ≤ (0 : Int)) ∧ Len2 [] (0 : Int) ∧ (0 : Int) * (512 : Int) ≤ (0 : Int)) ∧ (0 : Int) ≤ (50000 :
      Int) * (0 : Int) ∧ (0 : Int) ≤ (↑n : Int) ∧ (↑n : Int) ≤ (60 : Int)) ∧ True)) := by kernel_rfl
set_option maxHeartbeats 8000000 in
theorem law_c (E : World) (a : Option Addr) (n m : Nat) (b : Int) (z : PX) (hz : rgM z [] 0) (hp : (fun _ => eRows E a n 4 [.i .i64, .i .i64, .i .i64, .i .u32] = true ∧ (n = 0 ∨ a.isSome = true) ∧ 0 ≤ b ∧ b ≤ 65535) z) : HD (pe E) 6 [.c (.es a n m), .c (.i false .u16 b)] [] [] (.c .b) (fun z y => y.b 90000 = true) z := by
  refine HD.loop (P := pe E) orcT_ok tab_ok tab_sz mixed Try.func6 (c := Try.f6.body.getD .skip) rfl (by decide) (Nat.le_of_ble_eq_true rfl) (by rfl) 20000 (2 ^ 200 - 1) (law_hs E a n m b z) (by rfl) (loopP_lfH ⟨?_⟩) ?_
  · rw [law_pro]
    obtain ⟨_, _, hb⟩ := hp
    have hbb := bias_bd b hb
    have hRN : Row [.r .i16 0 0, .r .i16 0 0] [] := Row.nil
    have hLN : Len2 [] 0 := ⟨rfl⟩
    have hf : flat [Sp.r .i16 0 0, Sp.r .i16 0 0] = true := rfl
    refine ⟨fun _ => ⟨by trivial, by trivial, by trivial⟩, fun hn => ?_⟩
    have hn := of_decide_eq_false hn
    ((repeat' (first | exact trivial | with_reducible rfl | assumption | exact decide_eq_true rfl | exact sameB_self _ | exact rfl | apply And.intro | intro _)) <;> omega)
  · intro h hmem y hy1 hy2 hy3
    simp only [law_hs, List.mem_cons, List.not_mem_nil, or_false] at hmem
    rcases hmem with hmem | hmem
    · have e1 : h.td = (l_td E) := by rw [hmem]; unfold law_h0; with_reducible rfl
      have e2 : h.fs = [(0, .q (.es a n m)), (5, .c (.p 0 0)), (6, .c (.p 1 0)), (7, .r .i64 (0) (3050000)), (27, .q (.es a n m)), (28, .q (.i false .i64 (n : Int))), (29, .r .i64 (0) (60))] := by rw [hmem]; unfold law_h0; with_reducible rfl
      have e3 : h.ms = [mU 2 3, mV 4 5, mP 6, rowS, mP 7, rowS, mO, mO] := by rw [hmem]; unfold law_h0; with_reducible rfl
      have e4 : h.mu = (fun y => (2000000 - y.n 91029).toNat) := by rw [hmem]; unfold law_h0; with_reducible rfl
      have e5 : h.H = (fun y => ((Len2 (y.l 3) (y.n 74) ∧ y.n 74 * 512 ≤ y.n 73) ∧ Len2 (y.l 5) (y.n 100074) ∧ y.n 100074 * 512 ≤ y.n 100073) ∧ y.n 91007 ≤ 50000 * y.n 91029 ∧ y.n 91029 ≤ (n : Int) ∧ (n : Int) ≤ 60) := by rw [hmem]; unfold law_h0; with_reducible rfl
      rw [e3] at hy1
      rw [e2] at hy2
      rw [e5] at hy3
      rw [e1, e2, e3, e4]
      exact law_q0 E a n m b z hp y hy1 hy2 hy3
    · have e1 : h.td = (l2_td E) := by rw [hmem]; unfold law_h1; with_reducible rfl
      have e2 : h.fs = [(96, .v 0 2), (97, .r .i64 (0) (1000000)), (98, .r .i64 (0) (1000000))] := by rw [hmem]; unfold law_h1; with_reducible rfl
      have e3 : h.ms = [rowS] := by rw [hmem]; unfold law_h1; with_reducible rfl
      have e4 : h.mu = (fun y => (1000000 - y.n 91098).toNat) := by rw [hmem]; unfold law_h1; with_reducible rfl
      have e5 : h.H = (fun y => Len2 (y.l 0) (y.n 91096) ∧ y.n 91097 = y.n 91096 ∧ y.n 91098 ≤ y.n 91097) := by rw [hmem]; unfold law_h1; with_reducible rfl
      rw [e3] at hy1
      rw [e2] at hy2
      rw [e5] at hy3
      rw [e1, e2, e3, e4]
      exact law_q1 E a n m b z hp y hy1 hy2 hy3
end Go.Proofs.Ytkeinfmfkcgkhaa

