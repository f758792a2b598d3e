import Derived.Test.YtnfmkfmgaohpfaaDoorSXl
set_option linter.unusedVariables false
set_option linter.unusedSimpArgs false
namespace Go.Proofs.YtnfmkfmgaohpfaaDoor
open Go Go.Proofs Go.Proofs.YtnfmkfmgaohpfaaDoor.Ev Go.Proofs.YtnfmkfmgaohpfaaDoor.Ev.Ho
set_option maxRecDepth 100000
theorem oz_p (E : World) (z : PX) (x : ByteArray) :
    (hdP ([] : List MB).length [] (.t [.r .u32 0 4294967295, .s, .i .i64]) (fun z y => OpZ E x (y.n 90000) (y.s 90001) (y.n 90002)) z (fnTree (pe E) (orcV E) (tabL fns) 20000 Tryd.f12 [.c (.str false x)] (mkM z [] [] 0))) =
    ((((↑x.size : Int) != (64 : Int)) = true → ([] : SW) = [] ∧ (((0 : Int) ≤ (0 : Int) ∧ (0 : Int) ≤ (4294967295 : Int)) ∧ True) ∧ OpZ E x (0 : Int) (ByteArray.mk #[]) (30 :
      Int)) ∧ (((↑x.size : Int) != (64 : Int)) = false → decide ((4 : Int) ≤ (↑x.size : Int)) = true ∧ decide ((60 : Int) ≤ (↑x.size : Int)) = true ∧ ((true ^^ strSl x (0 : Int)
      (4 : Int) == strSl x (60 : Int) (↑x.size : Int)) = true → ([] : SW) = [] ∧ (((0 : Int) ≤ (0 : Int) ∧ (0 : Int) ≤ (4294967295 : Int)) ∧ True) ∧ OpZ E x (0 : Int)
      (ByteArray.mk #[]) (20 : Int)) ∧ ((true ^^ strSl x (0 : Int) (4 : Int) == strSl x (60 : Int) (↑x.size : Int)) = false → decide ((56 : Int) ≤ (↑x.size : Int)) = true ∧
      decide ((56 : Int) ≤ (↑x.size : Int)) = true ∧ (([] : SW) = [] ∧ GOK E ∧ (strSl x (0 : Int) (56 : Int)).size ≤ (4611686018427387904 : Nat)) ∧ ∀ (y : PX), True ∧ (((0 :
      Int) ≤ y.n (90000 : Nat) ∧ y.n (90000 : Nat) ≤ (4294967295 : Int)) ∧ True) ∧ y.n (90000 : Nat) = sumF E (strSl x (0 : Int) (56 : Int)) → Nat.ble (4 : Nat) (strSl x (56 :
      Int) (↑x.size : Int)).size = true ∧ ((y.n (90000 : Nat) != nmF (strSl x (56 : Int) (↑x.size : Int))) = true → ([] : SW) = [] ∧ (((0 : Int) ≤ (0 : Int) ∧ (0 : Int) ≤
      (4294967295 : Int)) ∧ True) ∧ OpZ E x (0 : Int) (ByteArray.mk #[]) (21 : Int)) ∧ ((y.n (90000 : Nat) != nmF (strSl x (56 : Int) (↑x.size : Int))) = false → inB (4 : Int)
      x.size = true ∧ (decide (IntKind.i64.wrap (strB x (4 : Int)) > (51 : Int)) = true → ([] : SW) = [] ∧ (((0 : Int) ≤ (0 : Int) ∧ (0 : Int) ≤ (4294967295 : Int)) ∧ True) ∧
      OpZ E x (0 : Int) (ByteArray.mk #[]) (30 : Int)) ∧ (decide (IntKind.i64.wrap (strB x (4 : Int)) > (51 : Int)) = false → decide ((0 : Int) ≤ IntKind.i64.wrap ((5 : Int) +
      IntKind.i64.wrap (strB x (4 : Int)))) = true ∧ decide (IntKind.i64.wrap ((5 : Int) + IntKind.i64.wrap (strB x (4 : Int))) ≤ (56 : Int)) = true ∧ decide ((56 : Int) ≤
      (↑x.size : Int)) = true ∧ (strSl x (IntKind.i64.wrap ((5 : Int) + IntKind.i64.wrap (strB x (4 : Int)))) (56 : Int)).size.ble (9223372036854775807 : Nat) = true ∧ ((true ^^
      trimV (strSl x (IntKind.i64.wrap ((5 : Int) + IntKind.i64.wrap (strB x (4 : Int)))) (56 : Int)) == ByteArray.mk #[]) = true → ([] : SW) = [] ∧ (((0 : Int) ≤ (0 : Int) ∧ (0
      : Int) ≤ (4294967295 : Int)) ∧ True) ∧ OpZ E x (0 : Int) (ByteArray.mk #[]) (30 : Int)) ∧ ((true ^^ trimV (strSl x (IntKind.i64.wrap ((5 : Int) + IntKind.i64.wrap (strB x
      (4 : Int)))) (56 : Int)) == ByteArray.mk #[]) = false → decide ((5 : Int) ≤ IntKind.i64.wrap ((5 : Int) + IntKind.i64.wrap (strB x (4 : Int)))) = true ∧ decide
      (IntKind.i64.wrap ((5 : Int) + IntKind.i64.wrap (strB x (4 : Int))) ≤ (↑x.size : Int)) = true ∧ Nat.ble (4 : Nat) x.size = true ∧ ([] : SW) = [] ∧ (((0 : Int) ≤ nmF x ∧
      nmF x ≤ (4294967295 : Int)) ∧ True) ∧ OpZ E x (nmF x) (strSl x (5 : Int) (IntKind.i64.wrap ((5 : Int) + IntKind.i64.wrap (strB x (4 : Int))))) (0 : Int))))))) := by kernel_rfl
theorem oz_c (E : World) (x : ByteArray) (z : PX) (hz : rgM z [] 0) (hp : (fun _ => (GOK E ∧ HOK E) ∧ x.size ≤ 4611686018427387904) z) : HD (pe E) 12 [.c (.str false x)] [] [] (.t [.r .u32 0 4294967295, .s, .i .i64]) (fun z y => OpZ E x (y.n 90000) (y.s 90001) (y.n 90002)) z := by
  refine HD.mk (by rfl) (fnTree_sound (P := pe E) orcV_ok tab_ok tab_sz mixed 20000 Tryd.func12 (by decide) [.c (.str false x)] _) ⟨?_⟩
  rw [oz_p]
  obtain ⟨⟨hG, hH⟩, hb⟩ := hp
  have hn := nm_rg x
  have hbd := strB_bd x 4
  simp only [xorT, xorF]
  simp only [bne_iff_ne, ne_eq, bne_eq_false_iff_eq, decide_eq_true_eq, decide_eq_false_iff_not]
  refine ⟨fun h => ⟨trivial, ⟨⟨by omega, by omega⟩, trivial⟩, ⟨fun _ => ⟨rfl, rfl, rfl⟩, fun h' => absurd h' (by omega), fun h' => absurd h' (by omega), fun h' => absurd h' (by omega), fun h' => absurd h' (by omega)⟩⟩, fun h => ?_⟩
  have hs : x.size = 64 := by omega
  have hs' : ((x.size : Nat) : Int) = 64 := by omega
  simp only [hs']
  have z1 := size_strSl' x 0 4 4 (by omega) (by omega) (by omega) (by omega)
  have z2 := size_strSl' x 0 56 56 (by omega) (by omega) (by omega) (by omega)
  have z3 := size_strSl' x 56 64 8 (by omega) (by omega) (by omega) (by omega)
  refine ⟨by omega, by omega, fun h1 => ⟨trivial, ⟨⟨by omega, by omega⟩, trivial⟩, ⟨fun h' => absurd hs h', fun _ _ => ⟨rfl, rfl, rfl⟩, fun _ h' => absurd h' h1, fun _ h' => absurd h' h1, fun _ h' => absurd h' h1⟩⟩, fun h1 => ?_⟩
  refine ⟨by omega, by omega, ⟨trivial, hG, by omega⟩, fun y hy => ?_⟩
  have hy1 := hy.2.2
  rw [hy1]
  refine ⟨Nat.ble_eq_true_of_le (by omega), fun h2 => ⟨trivial, ⟨⟨by omega, by omega⟩, trivial⟩, ⟨fun h' => absurd hs h', fun _ h' => absurd h1 h', fun _ _ _ => ⟨rfl, rfl, rfl⟩, fun _ _ h' => absurd h' h2, fun _ _ h' => absurd h' h2⟩⟩, fun h2 => ?_⟩
  have i4 : IntKind.i64.wrap (strB x 4) = strB x 4 := by rw [wi64]; omega
  have i5 : IntKind.i64.wrap (5 + strB x 4) = 5 + strB x 4 := by rw [wi64]; omega
  simp only [i4, i5]
  refine ⟨by simp only [inB, Bool.and_eq_true, decide_eq_true_eq]; omega, fun h3 => ⟨trivial, ⟨⟨by omega, by omega⟩, trivial⟩, ⟨fun h' => absurd hs h', fun _ h' => absurd h1 h', fun _ _ h' => absurd h2 h', fun _ _ _ _ => ⟨rfl, rfl, rfl⟩, fun _ _ _ h' => absurd h' (by omega)⟩⟩, fun h3 => ?_⟩
  have z4 := size_strSl x (5 + strB x 4) 56 (by omega) (by omega) (by omega)
  refine ⟨by omega, by omega, by omega, Nat.ble_eq_true_of_le (by omega), fun h4 => ⟨trivial, ⟨⟨by omega, by omega⟩, trivial⟩, ⟨fun h' => absurd hs h', fun _ h' => absurd h1 h', fun _ _ h' => absurd h2 h', fun _ _ _ _ => ⟨rfl, rfl, rfl⟩, fun _ _ _ _ h' => absurd h' h4⟩⟩, fun h4 => ?_⟩
  refine ⟨by omega, by omega, Nat.ble_eq_true_of_le (by omega), trivial, ⟨⟨by omega, by omega⟩, trivial⟩, ⟨fun h' => absurd hs h', fun _ h' => absurd h1 h', fun _ _ h' => absurd h2 h', fun _ _ _ h' => h'.elim (fun h' => absurd h' (by omega)) (fun h' => absurd h4 h'), fun _ _ _ _ _ => ⟨rfl, rfl, rfl⟩⟩⟩
theorem ox_p (E : World) (z : PX) (x : ByteArray) :
    (hdP ([] : List MB).length [] (.t [.r .u32 0 4294967295, .s, .i .i64]) (fun z y => OpZ E x (y.n 90000) (y.s 90001) (y.n 90002)) z (fnTree (pe E) (orcW E) (tabL fns) 20000 Tryd.f13 [.c (.str false x)] (mkM z [] [] 0))) =
    ((((↑x.size : Int) != (64 : Int)) = true → ([] : SW) = [] ∧ (((0 : Int) ≤ (0 : Int) ∧ (0 : Int) ≤ (4294967295 : Int)) ∧ True) ∧ OpZ E x (0 : Int) (ByteArray.mk #[]) (30 :
      Int)) ∧ (((↑x.size : Int) != (64 : Int)) = false → decide ((4 : Int) ≤ (↑x.size : Int)) = true ∧ decide ((60 : Int) ≤ (↑x.size : Int)) = true ∧ ((true ^^ strSl x (0 : Int)
      (4 : Int) == strSl x (60 : Int) (↑x.size : Int)) = true → ([] : SW) = [] ∧ (((0 : Int) ≤ (0 : Int) ∧ (0 : Int) ≤ (4294967295 : Int)) ∧ True) ∧ OpZ E x (0 : Int)
      (ByteArray.mk #[]) (20 : Int)) ∧ ((true ^^ strSl x (0 : Int) (4 : Int) == strSl x (60 : Int) (↑x.size : Int)) = false → decide ((60 : Int) ≤ (↑x.size : Int)) = true ∧
      decide ((56 : Int) ≤ (↑x.size : Int)) = true ∧ (([] : SW) = [] ∧ (GOK E ∧ HOK E) ∧ (strSl x (0 : Int) (56 : Int)).size ≤ (4611686018427387904 : Nat)) ∧ ∀ (y : PX), True ∧
      (((0 : Int) ≤ y.n (90000 : Nat) ∧ y.n (90000 : Nat) ≤ (4294967295 : Int)) ∧ True) ∧ y.n (90000 : Nat) = sumF E (strSl x (0 : Int) (56 : Int)) → (([] : SW) = [] ∧ (0 : Int)
      ≤ y.n (90000 : Nat) ∧ y.n (90000 : Nat) ≤ (4294967295 : Int)) ∧ ∀ (y_1 : PX), True ∧ True ∧ y_1.s (90000 : Nat) = wdT (y.n (90000 : Nat)) → ((true ^^ strSl x (56 : Int)
      (60 : Int) == y_1.s (90000 : Nat)) = true → ([] : SW) = [] ∧ (((0 : Int) ≤ (0 : Int) ∧ (0 : Int) ≤ (4294967295 : Int)) ∧ True) ∧ OpZ E x (0 : Int) (ByteArray.mk #[]) (21 :
      Int)) ∧ ((true ^^ strSl x (56 : Int) (60 : Int) == y_1.s (90000 : Nat)) = false → inB (4 : Int) x.size = true ∧ (decide (IntKind.i64.wrap (strB x (4 : Int)) > (51 : Int))
      = true → ([] : SW) = [] ∧ (((0 : Int) ≤ (0 : Int) ∧ (0 : Int) ≤ (4294967295 : Int)) ∧ True) ∧ OpZ E x (0 : Int) (ByteArray.mk #[]) (30 : Int)) ∧ (decide (IntKind.i64.wrap
      (strB x (4 : Int)) > (51 : Int)) = false → decide ((5 : Int) ≤ IntKind.i64.wrap ((5 : Int) + IntKind.i64.wrap (strB x (4 : Int)))) = true ∧ decide (IntKind.i64.wrap ((5 :
      Int) + IntKind.i64.wrap (strB x (4 : Int))) ≤ (↑x.size : Int)) = true ∧ (([] : SW) = [] ∧ (4 : Nat) ≤ x.size) ∧ ∀ (y : PX), True ∧ (((0 : Int) ≤ y.n (90000 : Nat) ∧ y.n
      (90000 : Nat) ≤ (4294967295 : Int)) ∧ True) ∧ y.n (90000 : Nat) = nmF x → (([] : SW) = [] ∧ ((GOK E ∧ HOK E) ∧ (strSl x (5 : Int) (IntKind.i64.wrap ((5 : Int) +
      IntKind.i64.wrap (strB x (4 : Int))))).size ≤ (4611686018427387904 : Nat)) ∧ (0 : Int) ≤ y.n (90000 : Nat) ∧ y.n (90000 : Nat) ≤ (4294967295 : Int)) ∧ ∀ (y_2 : PX), True ∧
      True ∧ WrQ E (y.n (90000 : Nat)) (strSl x (5 : Int) (IntKind.i64.wrap ((5 : Int) + IntKind.i64.wrap (strB x (4 : Int))))) (y_2.s (90000 : Nat)) (y_2.n (90001 : Nat)) →
      ((true ^^ y_2.s (90000 : Nat) == x) = true → ([] : SW) = [] ∧ (((0 : Int) ≤ (0 : Int) ∧ (0 : Int) ≤ (4294967295 : Int)) ∧ True) ∧ OpZ E x (0 : Int) (ByteArray.mk #[]) (30
      : Int)) ∧ ((true ^^ y_2.s (90000 : Nat) == x) = false → decide ((5 : Int) ≤ IntKind.i64.wrap ((5 : Int) + IntKind.i64.wrap (strB x (4 : Int)))) = true ∧ decide
      (IntKind.i64.wrap ((5 : Int) + IntKind.i64.wrap (strB x (4 : Int))) ≤ (↑x.size : Int)) = true ∧ (([] : SW) = [] ∧ (4 : Nat) ≤ x.size) ∧ ∀ (y : PX), True ∧ (((0 : Int) ≤
      y.n (90000 : Nat) ∧ y.n (90000 : Nat) ≤ (4294967295 : Int)) ∧ True) ∧ y.n (90000 : Nat) = nmF x → ([] : SW) = [] ∧ (((0 : Int) ≤ y.n (90000 : Nat) ∧ y.n (90000 : Nat) ≤
      (4294967295 : Int)) ∧ True) ∧ OpZ E x (y.n (90000 : Nat)) (strSl x (5 : Int) (IntKind.i64.wrap ((5 : Int) + IntKind.i64.wrap (strB x (4 : Int))))) (0 : Int))))))) := by kernel_rfl
theorem ox_c (E : World) (x : ByteArray) (z : PX) (hz : rgM z [] 0) (hp : (fun _ => (GOK E ∧ HOK E) ∧ x.size ≤ 4611686018427387904) z) : HD (pe E) 13 [.c (.str false x)] [] [] (.t [.r .u32 0 4294967295, .s, .i .i64]) (fun z y => OpZ E x (y.n 90000) (y.s 90001) (y.n 90002)) z := by
  refine HD.mk (by rfl) (fnTree_sound (P := pe E) orcW_ok tab_ok tab_sz mixed 20000 Tryd.func13 (by decide) [.c (.str false x)] _) ⟨?_⟩
  rw [ox_p]
  obtain ⟨⟨hG, hH⟩, hb⟩ := hp
  have hn := nm_rg x
  have hbd := strB_bd x 4
  simp only [xorT, xorF]
  simp only [bne_iff_ne, ne_eq, bne_eq_false_iff_eq, decide_eq_true_eq, decide_eq_false_iff_not]
  refine ⟨fun h => ⟨trivial, ⟨⟨by omega, by omega⟩, trivial⟩, ⟨fun _ => ⟨rfl, rfl, rfl⟩, fun h' => absurd h' (by omega), fun h' => absurd h' (by omega), fun h' => absurd h' (by omega), fun h' => absurd h' (by omega)⟩⟩, fun h => ?_⟩
  have hs : x.size = 64 := by omega
  have hs' : ((x.size : Nat) : Int) = 64 := by omega
  simp only [hs']
  have z2 := size_strSl' x 0 56 56 (by omega) (by omega) (by omega) (by omega)
  have z3 := size_strSl' x 56 64 8 (by omega) (by omega) (by omega) (by omega)
  have sr := sum_rg E (strSl x 0 56)
  have nr := nm_rg (strSl x 56 64)
  have key : strSl x 56 60 = wdT (nmF (strSl x 56 64)) := by rw [wd_nm_eq _ (by omega), s_5660 hs]
  refine ⟨by omega, by omega, fun h1 => ⟨trivial, ⟨⟨by omega, by omega⟩, trivial⟩, ⟨fun h' => absurd hs h', fun _ _ => ⟨rfl, rfl, rfl⟩, fun _ h' => absurd h' h1, fun _ h' => absurd h' h1, fun _ h' => absurd h' h1⟩⟩, fun h1 => ?_⟩
  refine ⟨by omega, by omega, ⟨trivial, ⟨hG, hH⟩, by omega⟩, fun y hy => ?_⟩
  rw [hy.2.2]
  refine ⟨⟨trivial, sr⟩, fun y1 hy1 => ?_⟩
  rw [hy1.2.2, key]
  refine ⟨fun h2 => ⟨trivial, ⟨⟨by omega, by omega⟩, trivial⟩, ⟨fun h' => absurd hs h', fun _ h' => absurd h1 h', fun _ _ _ => ⟨rfl, rfl, rfl⟩, fun _ _ h' => absurd (by rw [h']) h2, fun _ _ h' => absurd (by rw [h']) h2⟩⟩, fun h2 => ?_⟩
  have h2 : sumF E (strSl x 0 56) = nmF (strSl x 56 64) := (wd_inj h2 nr sr).symm
  have i4 : IntKind.i64.wrap (strB x 4) = strB x 4 := by rw [wi64]; omega
  have i5 : IntKind.i64.wrap (5 + strB x 4) = 5 + strB x 4 := by rw [wi64]; omega
  simp only [i4, i5]
  refine ⟨by simp only [inB, Bool.and_eq_true, decide_eq_true_eq]; omega, fun h3 => ⟨trivial, ⟨⟨by omega, by omega⟩, trivial⟩, ⟨fun h' => absurd hs h', fun _ h' => absurd h1 h', fun _ _ h' => absurd h2 h', fun _ _ _ _ => ⟨rfl, rfl, rfl⟩, fun _ _ _ h' => absurd h' (by omega)⟩⟩, fun h3 => ?_⟩
  have z4 := size_strSl x 5 (5 + strB x 4) (by omega) (by omega) (by omega)
  refine ⟨by omega, by omega, ⟨trivial, by omega⟩, fun y2 hy2 => ?_⟩
  rw [hy2.2.2]
  refine ⟨⟨trivial, ⟨⟨hG, hH⟩, by omega⟩, hn⟩, fun y3 hy3 => ?_⟩
  obtain ⟨e1, e2⟩ := hy3.2.2.sh (by omega)
  rw [e1]
  have b51 : (strSl x 5 (5 + strB x 4)).size ≤ 51 := by omega
  refine ⟨fun h4 => ⟨trivial, ⟨⟨by omega, by omega⟩, trivial⟩, ⟨fun h' => absurd hs h', fun _ h' => absurd h1 h', fun _ _ h' => absurd h2 h', fun _ _ _ _ => ⟨rfl, rfl, rfl⟩, fun _ _ _ _ h' => absurd (wrap_back hs h1 h2 (by omega) h') h4⟩⟩, fun h4 => ?_⟩
  have ht := w_t E (nmF x) _ b51
  rw [h4] at ht
  refine ⟨by omega, by omega, ⟨trivial, by omega⟩, fun y4 hy4 => ?_⟩
  rw [hy4.2.2]
  refine ⟨trivial, ⟨⟨by omega, by omega⟩, trivial⟩, ⟨fun h' => absurd hs h', fun _ h' => absurd h1 h', fun _ _ h' => absurd h2 h', fun _ _ _ h' => h'.elim (fun h' => absurd h' (by omega)) (fun h' => absurd ht h'), fun _ _ _ _ _ => ⟨rfl, rfl, rfl⟩⟩⟩
end Go.Proofs.YtnfmkfmgaohpfaaDoor

