import Derived.Test.YtkeinfmfkcgkhaaJ
set_option linter.unusedVariables false
set_option linter.unusedSimpArgs false
namespace Go.Proofs.Ytkeinfmfkcgkhaa
open Go Go.Proofs Go.Proofs.Ytkeinfmfkcgkhaa.Ev Go.Proofs.Ytkeinfmfkcgkhaa.Ev.Ho
set_option maxRecDepth 100000
theorem ovu_p (E : World) (z : PX) (w t : Int) :
    (hdP ([mU 1 2, mP 3, rowS, mO] : List MB).length [mU 1 4, mP 3, .g HOLE, mO, rowS] (.c (.r .i64 0 0)) (fun z y => Len2 (y.l 4) (y.n 74) ∧ y.n 74 * 512 ≤ y.n 73) z (fnTree (pe E) (orcS E) (tabL fns) 20000 Try.f19 [.c (.p 0 0), .c (.i false .i64 w), .c (.i false .i64 t)] (mkM z [] [mU 1 2, mP 3, rowS, mO] 0))) =
    ((((68 : Nat) = (68 : Nat) ∧ (((0 : Int) ≤ z.n (33 : Nat) ∧ z.n (33 : Nat) ≤ (32 : Int)) ∧ ((0 : Int) ≤ z.n (67 : Nat) ∧ z.n (67 : Nat) ≤ (32 : Int)) ∧ ((0 : Int) ≤ z.n (72
      : Nat) ∧ z.n (72 : Nat) ≤ (1022 : Int)) ∧ ((0 : Int) ≤ z.n (73 : Nat) ∧ z.n (73 : Nat) ≤ (10000000 : Int)) ∧ True) ∧ (84 : Nat) = (84 : Nat) ∧ (((0 : Int) ≤ z.n (100000 :
      Nat) ∧ z.n (100000 : Nat) ≤ (10000000 : Int)) ∧ True) ∧ (60 : Nat) = (60 : Nat) ∧ (flat [Sp.r IntKind.i16 (0 : Int) (0 : Int), Sp.r IntKind.i16 (0 : Int) (0 : Int)] = true
      ∧ Row [Sp.r IntKind.i16 (0 : Int) (0 : Int), Sp.r IntKind.i16 (0 : Int) (0 : Int)] (z.l (2 : Nat))) ∧
      (741991204937588471353107210173517385893522847741378461052633880361214601735917472982278721692919759636892846595991201096475255940853038949688016010326287086087990634635853824
      : Nat) =
      (741991204937588471353107210173517385893522847741378461052633880361214601735917472982278721692919759636892846595991201096475255940853038949688016010326287086087990634635853824
      : Nat) ∧ ([] : SW) = []) ∧ Len2 (z.l (2 : Nat)) (↑(z.n (74 : Nat)).toNat : Int) ∧ (↑(z.n (74 : Nat)).toNat : Int) * (512 : Int) ≤ z.n (73 : Nat) ∧ w ≤ (10000000 : Int)) ∧
      ∀ (y : PX), ((((0 : Int) ≤ y.n (33 : Nat) ∧ y.n (33 : Nat) ≤ (32 : Int)) ∧ ((0 : Int) ≤ y.n (67 : Nat) ∧ y.n (67 : Nat) ≤ (32 : Int)) ∧ ((0 : Int) ≤ y.n (72 : Nat) ∧ y.n
      (72 : Nat) ≤ (1022 : Int)) ∧ ((0 : Int) ≤ y.n (73 : Nat) ∧ y.n (73 : Nat) ≤ (10000000 : Int)) ∧ (0 : Int) ≤ y.n (74 : Nat) ∧ True) ∧ (((0 : Int) ≤ y.n (100000 : Nat) ∧ y.n
      (100000 : Nat) ≤ (10000000 : Int)) ∧ True) ∧ (flat [Sp.r IntKind.i16 (0 : Int) (0 : Int), Sp.r IntKind.i16 (0 : Int) (0 : Int)] = true ∧ Row [Sp.r IntKind.i16 (0 : Int) (0
      : Int), Sp.r IntKind.i16 (0 : Int) (0 : Int)] (y.l (4 : Nat))) ∧ True) ∧ True ∧ Len2 (y.l (4 : Nat)) (y.n (74 : Nat)) ∧ y.n (74 : Nat) * (512 : Int) ≤ y.n (73 : Nat) →
      ((68 : Nat) = (68 : Nat) ∧ (((0 : Int) ≤ y.n (33 : Nat) ∧ y.n (33 : Nat) ≤ (32 : Int)) ∧ ((0 : Int) ≤ y.n (67 : Nat) ∧ y.n (67 : Nat) ≤ (32 : Int)) ∧ ((0 : Int) ≤ y.n (72
      : Nat) ∧ y.n (72 : Nat) ≤ (1022 : Int)) ∧ ((0 : Int) ≤ y.n (73 : Nat) ∧ y.n (73 : Nat) ≤ (10000000 : Int)) ∧ True) ∧ (84 : Nat) = (84 : Nat) ∧ (((0 : Int) ≤ y.n (100000 :
      Nat) ∧ y.n (100000 : Nat) ≤ (10000000 : Int)) ∧ True) ∧ (4294967295 : Nat) = (4294967295 : Nat) ∧
      (741991204937588471353107210173517385893522847741378461052633880361214601735917472982278721692919759636892846595991201096475255940853038949688016010326287086087990634635853824
      : Nat) =
      (741991204937588471353107210173517385893522847741378461052633880361214601735917472982278721692919759636892846595991201096475255940853038949688016010326287086087990634635853824
      : Nat) ∧ (60 : Nat) = (60 : Nat) ∧ (flat [Sp.r IntKind.i16 (0 : Int) (0 : Int), Sp.r IntKind.i16 (0 : Int) (0 : Int)] = true ∧ Row [Sp.r IntKind.i16 (0 : Int) (0 : Int),
      Sp.r IntKind.i16 (0 : Int) (0 : Int)] (y.l (4 : Nat))) ∧ ([] : SW) = []) ∧ (((0 : Int) ≤ (0 : Int) ∧ (0 : Int) ≤ (0 : Int)) ∧ True) ∧ Len2 (y.l (4 : Nat)) (↑(y.n (74 :
      Nat)).toNat : Int) ∧ (↑(y.n (74 : Nat)).toNat : Int) * (512 : Int) ≤ y.n (73 : Nat)) := by kernel_rfl
set_option maxHeartbeats 4000000 in
theorem ovu_c (E : World) (w t : Int) (z : PX) (hz : rgM z [mU 1 2, mP 3, rowS, mO] 0) (hp : (fun z => Len2 (z.l 2) (z.n 74) ∧ z.n 74 * 512 ≤ z.n 73 ∧ w ≤ 10000000) z) : HD (pe E) 19 [.c (.p 0 0), .c (.i false .i64 w), .c (.i false .i64 t)] [mU 1 2, mP 3, rowS, mO] [mU 1 4, mP 3, .g HOLE, mO, rowS] (.c (.r .i64 0 0)) (fun z y => Len2 (y.l 4) (y.n 74) ∧ y.n 74 * 512 ≤ y.n 73) z := by
  refine HD.mk (by rfl) (fnTree_sound (P := pe E) orcS_ok tab_ok tab_sz mixed 20000 Try.func19 (by decide) [.c (.p 0 0), .c (.i false .i64 w), .c (.i false .i64 t)] _) ⟨?_⟩
  rw [ovu_p]
  obtain ⟨hL, hn, hw⟩ := hp
  obtain ⟨u33, u67, u72, u73, u74, _⟩ : (0 ≤ z.n 33 ∧ z.n 33 ≤ 32) ∧ (0 ≤ z.n 67 ∧ z.n 67 ≤ 32) ∧ (0 ≤ z.n 72 ∧ z.n 72 ≤ 1022) ∧ (0 ≤ z.n 73 ∧ z.n 73 ≤ 10000000) ∧ 0 ≤ z.n 74 ∧ True  := hz.1
  have hR : Row [.r .i16 0 0, .r .i16 0 0] (z.l 2) := hz.2.2.1.2
  have hP : (0 ≤ z.n 100000 ∧ z.n 100000 ≤ 10000000) ∧ True := hz.2.1
  have hf : flat [Sp.r .i16 0 0, Sp.r .i16 0 0] = true := rfl
  have T1 : ((z.n 74).toNat : Int) = z.n 74 := Int.toNat_of_nonneg u74
  simp only [T1]
  refine ⟨by ((repeat' (first | exact trivial | with_reducible rfl | assumption | exact decide_eq_true rfl | exact sameB_self _ | exact rfl | apply And.intro | intro _)) <;> omega), ?_⟩
  rintro y ⟨⟨huy, hPy, ⟨_, hRy⟩, _⟩, hrvy, hLy, hny⟩
  obtain ⟨u33y, u67y, u72y, u73y, u74y, _⟩ : (0 ≤ y.n 33 ∧ y.n 33 ≤ 32) ∧ (0 ≤ y.n 67 ∧ y.n 67 ≤ 32) ∧ (0 ≤ y.n 72 ∧ y.n 72 ≤ 1022) ∧ (0 ≤ y.n 73 ∧ y.n 73 ≤ 10000000) ∧ 0 ≤ y.n 74 ∧ True  := huy
  have T1y : ((y.n 74).toNat : Int) = y.n 74 := Int.toNat_of_nonneg u74y
  simp only [T1y]
  ((repeat' (first | exact trivial | with_reducible rfl | assumption | exact decide_eq_true rfl | exact sameB_self _ | exact rfl | apply And.intro | intro _)) <;> omega)
end Go.Proofs.Ytkeinfmfkcgkhaa

