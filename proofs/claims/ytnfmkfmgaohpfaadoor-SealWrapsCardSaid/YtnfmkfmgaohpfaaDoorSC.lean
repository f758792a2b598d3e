import Derived.Test.YtnfmkfmgaohpfaaDoorSB
set_option linter.unusedVariables false
set_option linter.unusedSimpArgs false
namespace Go.Proofs.YtnfmkfmgaohpfaaDoor
open Go Go.Proofs Go.Proofs.YtnfmkfmgaohpfaaDoor.Ev Go.Proofs.YtnfmkfmgaohpfaaDoor.Ev.Ho
set_option maxRecDepth 100000
theorem tx_ex (E : World) (q : Int) (b : ByteArray) : ∃ t : ByteArray, t = catB [wdT q, bytesN [IntKind.u8.wrap (b.size : Int)], b, repV E (ByteArray.mk #[(0 : UInt8)]) (51 - (b.size : Int))] := ⟨_, rfl⟩
noncomputable def txT (E : World) (q : Int) (b : ByteArray) : ByteArray := Classical.choose (tx_ex E q b)
theorem txT_eq (E : World) (q : Int) (b : ByteArray) : txT E q b = catB [wdT q, bytesN [IntKind.u8.wrap (b.size : Int)], b, repV E (ByteArray.mk #[(0 : UInt8)]) (51 - (b.size : Int))] := Classical.choose_spec (tx_ex E q b)
theorem wrapT_ex (E : World) (q : Int) (b : ByteArray) : ∃ t : ByteArray, t = catB [txT E q b, wdT (sumF E (txT E q b)), wdT q] := ⟨_, rfl⟩
noncomputable def wrapT (E : World) (q : Int) (b : ByteArray) : ByteArray := Classical.choose (wrapT_ex E q b)
theorem wrapT_eq (E : World) (q : Int) (b : ByteArray) : wrapT E q b = catB [txT E q b, wdT (sumF E (txT E q b)), wdT q] := Classical.choose_spec (wrapT_ex E q b)
structure WrQ (E : World) (q : Int) (b s : ByteArray) (e : Int) : Prop where
  lg : 51 < b.size → s = ByteArray.mk #[] ∧ e = 2
  sh : b.size ≤ 51 → s = wrapT E q b ∧ e = 0
structure OpQ (E : World) (x : ByteArray) (n : Int) (b : ByteArray) (e : Int) : Prop where
  len : x.size ≠ 64 → e = 30
  torn : x.size = 64 → strSl x 0 4 ≠ strSl x 60 64 → e = 20
  sum : x.size = 64 → strSl x 0 4 = strSl x 60 64 → sumF E (strSl x 0 56) ≠ nmF (strSl x 56 64) → e = 21
  form : x.size = 64 → strSl x 0 4 = strSl x 60 64 → sumF E (strSl x 0 56) = nmF (strSl x 56 64) → 51 < strB x 4 ∨ trimV (strSl x (5 + strB x 4) 56) ≠ ByteArray.mk #[] → e = 30
  ok : x.size = 64 → strSl x 0 4 = strSl x 60 64 → sumF E (strSl x 0 56) = nmF (strSl x 56 64) → strB x 4 ≤ 51 → trimV (strSl x (5 + strB x 4) 56) = ByteArray.mk #[] → e = 0 ∧ n = nmF x ∧ b = strSl x 5 (5 + strB x 4)
theorem wd_size (x : Int) : (wdT x).size = 4 := by rw [wdT_eq, size_bytesN]; rfl
theorem rep_size (E : World) (c : Int) (h : 0 ≤ c) : ((repV E (ByteArray.mk #[(0 : UInt8)]) c).size : Int) = c := by
  rw [size_repV]; show ((c.toNat * 1 : Nat) : Int) = c; omega
theorem tx_size (E : World) (q : Int) (b : ByteArray) (h : b.size ≤ 51) : (txT E q b).size = 56 := by
  have h1 := rep_size E (51 - (b.size : Int)) (by omega)
  rw [txT_eq, size_catB]
  simp only [List.map_cons, List.map_nil, List.sum_cons, List.sum_nil, wd_size, size_bytesN, List.length_cons, List.length_nil]
  omega
theorem wrap_size (E : World) (q : Int) (b : ByteArray) (h : b.size ≤ 51) : (wrapT E q b).size = 64 := by
  rw [wrapT_eq, size_catB]
  simp only [List.map_cons, List.map_nil, List.sum_cons, List.sum_nil, wd_size, tx_size E q b h, Nat.add_zero, Nat.reduceAdd]
theorem room_of {xs : List ByteArray} (h : (xs.map ByteArray.size).sum ≤ 140737488355328) (h2 : xs.length ≤ 1000000) : (room (catL xs).length && xs.length.ble 1000000) = true := by
  rw [Bool.and_eq_true]
  exact ⟨Nat.ble_eq_true_of_le (by rw [len_catL]; exact h), Nat.ble_eq_true_of_le h2⟩
theorem nm_rg (s : ByteArray) : 0 ≤ nmF s ∧ nmF s ≤ 4294967295 := by rw [nmF_eq]; exact bits_rg _ _ _
theorem beqE {a b : ByteArray} : (a == b) = true ↔ a = b := by
  constructor
  · intro h
    cases a; cases b
    have := @eq_of_beq (Array UInt8) _ _ _ _ h
    exact congrArg ByteArray.mk this
  · rintro rfl
    cases a with | mk d => exact beq_self_eq_true d
theorem xorT {a b : ByteArray} : ((true ^^ a == b) = true) ↔ a ≠ b := by
  rw [Ne, ← beqE]; cases (a == b) <;> simp
theorem xorF {a b : ByteArray} : ((true ^^ a == b) = false) ↔ a = b := by
  rw [← beqE]; cases (a == b) <;> simp
noncomputable def orcT (E : World) : Orc := fun g vs s => match g with
  | 14 => (match frGo [] vs s (fun vs0 π s1 s0 => match vs0 with
      | [.c (.str l1 s)] => some (hdG (pre := fun _ => GOK E ∧ s.size ≤ 4611686018427387904) (fun z hz hp => HD.args (vs := [.c (.str l1 s)]) (by simp [simL, SV.sim, C.sim]) (sum_c E s z hz hp)) (by rfl) π s1 s0)
      | [.c (.strn l1 s)] => some (hdG (pre := fun _ => GOK E ∧ s.size ≤ 4611686018427387904) (fun z hz hp => HD.args (vs := [.c (.strn l1 s)]) (by simp [simL, SV.sim, C.sim]) (sum_c E s z hz hp)) (by rfl) π s1 s0)
      | _ => none) with
    | some t => some t
    | none => (orcS E) g vs s)
  | g => (orcS E) g vs s
theorem orcT_ok {E : World} : OrcOK (pe E) (orcT E) := by
  intro g vs s t h
  unfold orcT at h
  split at h
  · split at h
    · rename_i hfr; cases h
      obtain ⟨π, s1, hq, hK, hv, hok, hpd⟩ := frGo_spec (P := pe E) hfr
      split at hK
      · rename_i heq; cases hK
        rw [heq] at hv hok
        exact hpd _ _ (hdG_ok _ _ π s1 hq hv hok)
      · rename_i heq; cases hK
        rw [heq] at hv hok
        exact hpd _ _ (hdG_ok _ _ π s1 hq hv hok)
      · cases hK
    · exact orcS_ok _ _ _ _ h
  · exact orcS_ok _ _ _ _ h
theorem wr_p (E : World) (z : PX) (q : Int) (b : ByteArray) :
    (hdP ([] : List MB).length [] (.t [.s, .i .i64]) (fun z y => WrQ E q b (y.s 90000) (y.n 90001)) z (fnTree (pe E) (orcT E) (tabL fns) 20000 Tryd.f10 [.c (.i false .u32 q), .c (.str false b)] (mkM z [] [] 0))) =
    ((decide ((↑b.size : Int) > (51 : Int)) = true → ([] : SW) = [] ∧ True ∧ WrQ E q b (ByteArray.mk #[]) (2 : Int)) ∧ (decide ((↑b.size : Int) > (51 : Int)) = false → repOK
      (ByteArray.mk #[(0 : UInt8)]) (IntKind.i64.wrap ((51 : Int) - (↑b.size : Int))) = true ∧ (room (catL [wdT q, bytesN [IntKind.u8.wrap (↑b.size : Int)], b, repV E
      (ByteArray.mk #[(0 : UInt8)]) (IntKind.i64.wrap ((51 : Int) - (↑b.size : Int)))]).length && [wdT q, bytesN [IntKind.u8.wrap (↑b.size : Int)], b, repV E (ByteArray.mk #[(0
      : UInt8)]) (IntKind.i64.wrap ((51 : Int) - (↑b.size : Int)))].length.ble (1000000 : Nat)) = true ∧ sameB (Bl.mk [C.i false IntKind.u8 (IntKind.u8.wrap (↑b.size : Int))] (5
      : Nat)) (Bl.mk [C.i false IntKind.u8 (IntKind.u8.wrap (↑b.size : Int))] (5 : Nat)) = true ∧ decide (wdT q = wdT q) = true ∧ decide (bytesN [IntKind.u8.wrap (↑b.size :
      Int)] = bytesN [IntKind.u8.wrap (↑b.size : Int)]) = true ∧ decide (b = b) = true ∧ decide (repV E (ByteArray.mk #[(0 : UInt8)]) (IntKind.i64.wrap ((51 : Int) - (↑b.size :
      Int))) = repV E (ByteArray.mk #[(0 : UInt8)]) (IntKind.i64.wrap ((51 : Int) - (↑b.size : Int)))) = true ∧ (([] : SW) = [] ∧ GOK E ∧ (catB [wdT q, bytesN [IntKind.u8.wrap
      (↑b.size : Int)], b, repV E (ByteArray.mk #[(0 : UInt8)]) (IntKind.i64.wrap ((51 : Int) - (↑b.size : Int)))]).size ≤ (4611686018427387904 : Nat)) ∧ ∀ (y : PX), True ∧ (((0
      : Int) ≤ y.n (90000 : Nat) ∧ y.n (90000 : Nat) ≤ (4294967295 : Int)) ∧ True) ∧ y.n (90000 : Nat) = sumF E (catB [wdT q, bytesN [IntKind.u8.wrap (↑b.size : Int)], b, repV E
      (ByteArray.mk #[(0 : UInt8)]) (IntKind.i64.wrap ((51 : Int) - (↑b.size : Int)))]) → (room (catL [catB [wdT q, bytesN [IntKind.u8.wrap (↑b.size : Int)], b, repV E
      (ByteArray.mk #[(0 : UInt8)]) (IntKind.i64.wrap ((51 : Int) - (↑b.size : Int)))], wdT (y.n (90000 : Nat)), wdT q]).length && [catB [wdT q, bytesN [IntKind.u8.wrap (↑b.size
      : Int)], b, repV E (ByteArray.mk #[(0 : UInt8)]) (IntKind.i64.wrap ((51 : Int) - (↑b.size : Int)))], wdT (y.n (90000 : Nat)), wdT q].length.ble (1000000 : Nat)) = true ∧
      ([] : SW) = [] ∧ True ∧ WrQ E q b (catB [catB [wdT q, bytesN [IntKind.u8.wrap (↑b.size : Int)], b, repV E (ByteArray.mk #[(0 : UInt8)]) (IntKind.i64.wrap ((51 : Int) -
      (↑b.size : Int)))], wdT (y.n (90000 : Nat)), wdT q]) (0 : Int))) := by kernel_rfl
theorem wr_c (E : World) (q : Int) (b : ByteArray) (z : PX) (hz : rgM z [] 0) (hp : (fun _ => (GOK E ∧ b.size ≤ 4611686018427387904) ∧ 0 ≤ q ∧ q ≤ 4294967295) z) : HD (pe E) 10 [.c (.i false .u32 q), .c (.str false b)] [] [] (.t [.s, .i .i64]) (fun z y => WrQ E q b (y.s 90000) (y.n 90001)) z := by
  refine HD.mk (by rfl) (fnTree_sound (P := pe E) orcT_ok tab_ok tab_sz mixed 20000 Tryd.func10 (by decide) [.c (.i false .u32 q), .c (.str false b)] _) ⟨?_⟩
  rw [wr_p]
  obtain ⟨⟨hG, hb⟩, hq⟩ := hp
  refine ⟨fun h => ⟨rfl, trivial, ⟨fun _ => ⟨rfl, rfl⟩, fun h' => ?_⟩⟩, fun h => ?_⟩
  · have h := of_decide_eq_true h; exfalso; omega
  have h := of_decide_eq_false h
  have hb51 : b.size ≤ 51 := by omega
  have i1 : IntKind.i64.wrap (51 - (b.size : Int)) = 51 - (b.size : Int) := by rw [wi64]; omega
  have hr := rep_size E (51 - (b.size : Int)) (by omega)
  have hrk : repOK (ByteArray.mk #[(0 : UInt8)]) (51 - (b.size : Int)) = true := by
    simp only [repOK, Bool.and_eq_true, decide_eq_true_eq]
    exact ⟨⟨by omega, Nat.ble_eq_true_of_le (by show 1 * _ ≤ _; omega)⟩, by omega⟩
  have ht := tx_size E q b hb51
  have hro1 := room_of (xs := [wdT q, bytesN [IntKind.u8.wrap (b.size : Int)], b, repV E (ByteArray.mk #[(0 : UInt8)]) (51 - (b.size : Int))]) (by
    simp only [List.map_cons, List.map_nil, List.sum_cons, List.sum_nil, wd_size, size_bytesN, List.length_cons, List.length_nil]; omega) (by show 4 ≤ 1000000; omega)
  simp only [i1]
  simp only [← txT_eq E q b]
  (repeat' (first | exact trivial | with_reducible rfl | exact sameB_self _ | with_reducible exact hrk | with_reducible exact hro1 | with_reducible exact hG | apply And.intro)) <;> try (first | omega | exact decide_eq_true rfl | exact (decide_eq_true trivial))
  intro y hy
  have hy1 := hy.2.2
  have hro2 := room_of (xs := [txT E q b, wdT (sumF E (txT E q b)), wdT q]) (by
    simp only [List.map_cons, List.map_nil, List.sum_cons, List.sum_nil, wd_size, ht]; omega) (by show 3 ≤ 1000000; omega)
  rw [hy1]
  simp only [← wrapT_eq E q b]
  exact ⟨hro2, trivial, trivial, ⟨fun h' => by omega, fun _ => ⟨rfl, rfl⟩⟩⟩
theorem op_p (E : World) (z : PX) (x : ByteArray) :
    (hdP ([] : List MB).length [] (.t [.r .u32 0 4294967295, .s, .i .i64]) (fun z y => OpQ E x (y.n 90000) (y.s 90001) (y.n 90002)) z (fnTree (pe E) (orcT E) (tabL fns) 20000 Tryd.f12 [.c (.str false x)] (mkM z [] [] 0))) =
    ((((↑x.size : Int) != (64 : Int)) = true → ([] : SW) = [] ∧ (((0 : Int) ≤ (0 : Int) ∧ (0 : Int) ≤ (4294967295 : Int)) ∧ True) ∧ OpQ E x (0 : Int) (ByteArray.mk #[]) (30 :
      Int)) ∧ (((↑x.size : Int) != (64 : Int)) = false → decide ((4 : Int) ≤ (↑x.size : Int)) = true ∧ decide ((60 : Int) ≤ (↑x.size : Int)) = true ∧ ((true ^^ strSl x (0 : Int)
      (4 : Int) == strSl x (60 : Int) (↑x.size : Int)) = true → ([] : SW) = [] ∧ (((0 : Int) ≤ (0 : Int) ∧ (0 : Int) ≤ (4294967295 : Int)) ∧ True) ∧ OpQ E x (0 : Int)
      (ByteArray.mk #[]) (20 : Int)) ∧ ((true ^^ strSl x (0 : Int) (4 : Int) == strSl x (60 : Int) (↑x.size : Int)) = false → decide ((56 : Int) ≤ (↑x.size : Int)) = true ∧
      decide ((56 : Int) ≤ (↑x.size : Int)) = true ∧ (([] : SW) = [] ∧ GOK E ∧ (strSl x (0 : Int) (56 : Int)).size ≤ (4611686018427387904 : Nat)) ∧ ∀ (y : PX), True ∧ (((0 :
      Int) ≤ y.n (90000 : Nat) ∧ y.n (90000 : Nat) ≤ (4294967295 : Int)) ∧ True) ∧ y.n (90000 : Nat) = sumF E (strSl x (0 : Int) (56 : Int)) → Nat.ble (4 : Nat) (strSl x (56 :
      Int) (↑x.size : Int)).size = true ∧ ((y.n (90000 : Nat) != nmF (strSl x (56 : Int) (↑x.size : Int))) = true → ([] : SW) = [] ∧ (((0 : Int) ≤ (0 : Int) ∧ (0 : Int) ≤
      (4294967295 : Int)) ∧ True) ∧ OpQ E x (0 : Int) (ByteArray.mk #[]) (21 : Int)) ∧ ((y.n (90000 : Nat) != nmF (strSl x (56 : Int) (↑x.size : Int))) = false → inB (4 : Int)
      x.size = true ∧ (decide (IntKind.i64.wrap (strB x (4 : Int)) > (51 : Int)) = true → ([] : SW) = [] ∧ (((0 : Int) ≤ (0 : Int) ∧ (0 : Int) ≤ (4294967295 : Int)) ∧ True) ∧
      OpQ E x (0 : Int) (ByteArray.mk #[]) (30 : Int)) ∧ (decide (IntKind.i64.wrap (strB x (4 : Int)) > (51 : Int)) = false → decide ((0 : Int) ≤ IntKind.i64.wrap ((5 : Int) +
      IntKind.i64.wrap (strB x (4 : Int)))) = true ∧ decide (IntKind.i64.wrap ((5 : Int) + IntKind.i64.wrap (strB x (4 : Int))) ≤ (56 : Int)) = true ∧ decide ((56 : Int) ≤
      (↑x.size : Int)) = true ∧ (strSl x (IntKind.i64.wrap ((5 : Int) + IntKind.i64.wrap (strB x (4 : Int)))) (56 : Int)).size.ble (9223372036854775807 : Nat) = true ∧ ((true ^^
      trimV (strSl x (IntKind.i64.wrap ((5 : Int) + IntKind.i64.wrap (strB x (4 : Int)))) (56 : Int)) == ByteArray.mk #[]) = true → ([] : SW) = [] ∧ (((0 : Int) ≤ (0 : Int) ∧ (0
      : Int) ≤ (4294967295 : Int)) ∧ True) ∧ OpQ E x (0 : Int) (ByteArray.mk #[]) (30 : Int)) ∧ ((true ^^ trimV (strSl x (IntKind.i64.wrap ((5 : Int) + IntKind.i64.wrap (strB x
      (4 : Int)))) (56 : Int)) == ByteArray.mk #[]) = false → decide ((5 : Int) ≤ IntKind.i64.wrap ((5 : Int) + IntKind.i64.wrap (strB x (4 : Int)))) = true ∧ decide
      (IntKind.i64.wrap ((5 : Int) + IntKind.i64.wrap (strB x (4 : Int))) ≤ (↑x.size : Int)) = true ∧ Nat.ble (4 : Nat) x.size = true ∧ ([] : SW) = [] ∧ (((0 : Int) ≤ nmF x ∧
      nmF x ≤ (4294967295 : Int)) ∧ True) ∧ OpQ E x (nmF x) (strSl x (5 : Int) (IntKind.i64.wrap ((5 : Int) + IntKind.i64.wrap (strB x (4 : Int))))) (0 : Int))))))) := by kernel_rfl
theorem op_c (E : World) (x : ByteArray) (z : PX) (hz : rgM z [] 0) (hp : (fun _ => GOK E ∧ x.size ≤ 4611686018427387904) z) : HD (pe E) 12 [.c (.str false x)] [] [] (.t [.r .u32 0 4294967295, .s, .i .i64]) (fun z y => OpQ E x (y.n 90000) (y.s 90001) (y.n 90002)) z := by
  refine HD.mk (by rfl) (fnTree_sound (P := pe E) orcT_ok tab_ok tab_sz mixed 20000 Tryd.func12 (by decide) [.c (.str false x)] _) ⟨?_⟩
  rw [op_p]
  obtain ⟨hG, hb⟩ := hp
  have hn := nm_rg x
  have hbd := strB_bd x 4
  simp only [xorT, xorF]
  simp only [bne_iff_ne, ne_eq, bne_eq_false_iff_eq, decide_eq_true_eq, decide_eq_false_iff_not]
  refine ⟨fun h => ⟨trivial, ⟨⟨by omega, by omega⟩, trivial⟩, ⟨fun _ => rfl, fun h' => absurd h' (by omega), fun h' => absurd h' (by omega), fun h' => absurd h' (by omega), fun h' => absurd h' (by omega)⟩⟩, fun h => ?_⟩
  have hs : x.size = 64 := by omega
  have hs' : ((x.size : Nat) : Int) = 64 := by omega
  simp only [hs']
  have z1 := size_strSl' x 0 4 4 (by omega) (by omega) (by omega) (by omega)
  have z2 := size_strSl' x 0 56 56 (by omega) (by omega) (by omega) (by omega)
  have z3 := size_strSl' x 56 64 8 (by omega) (by omega) (by omega) (by omega)
  refine ⟨by omega, by omega, fun h1 => ⟨trivial, ⟨⟨by omega, by omega⟩, trivial⟩, ⟨fun h' => absurd hs h', fun _ _ => rfl, fun _ h' => absurd h' h1, fun _ h' => absurd h' h1, fun _ h' => absurd h' h1⟩⟩, fun h1 => ?_⟩
  refine ⟨by omega, by omega, ⟨trivial, hG, by omega⟩, fun y hy => ?_⟩
  have hy1 := hy.2.2
  rw [hy1]
  refine ⟨Nat.ble_eq_true_of_le (by omega), fun h2 => ⟨trivial, ⟨⟨by omega, by omega⟩, trivial⟩, ⟨fun h' => absurd hs h', fun _ h' => absurd h1 h', fun _ _ _ => rfl, fun _ _ h' => absurd h' h2, fun _ _ h' => absurd h' h2⟩⟩, fun h2 => ?_⟩
  have i4 : IntKind.i64.wrap (strB x 4) = strB x 4 := by rw [wi64]; omega
  have i5 : IntKind.i64.wrap (5 + strB x 4) = 5 + strB x 4 := by rw [wi64]; omega
  simp only [i4, i5]
  refine ⟨by simp only [inB, Bool.and_eq_true, decide_eq_true_eq]; omega, fun h3 => ⟨trivial, ⟨⟨by omega, by omega⟩, trivial⟩, ⟨fun h' => absurd hs h', fun _ h' => absurd h1 h', fun _ _ h' => absurd h2 h', fun _ _ _ _ => rfl, fun _ _ _ h' => absurd h' (by omega)⟩⟩, fun h3 => ?_⟩
  have z4 := size_strSl x (5 + strB x 4) 56 (by omega) (by omega) (by omega)
  refine ⟨by omega, by omega, by omega, Nat.ble_eq_true_of_le (by omega), fun h4 => ⟨trivial, ⟨⟨by omega, by omega⟩, trivial⟩, ⟨fun h' => absurd hs h', fun _ h' => absurd h1 h', fun _ _ h' => absurd h2 h', fun _ _ _ _ => rfl, fun _ _ _ _ h' => absurd h' h4⟩⟩, fun h4 => ?_⟩
  refine ⟨by omega, by omega, Nat.ble_eq_true_of_le (by omega), trivial, ⟨⟨by omega, by omega⟩, trivial⟩, ⟨fun h' => absurd hs h', fun _ h' => absurd h1 h', fun _ _ h' => absurd h2 h', fun _ _ _ h' => h'.elim (fun h' => absurd h' (by omega)) (fun h' => absurd h4 h'), fun _ _ _ _ _ => ⟨rfl, rfl, rfl⟩⟩⟩
noncomputable def orcU (E : World) : Orc := fun g vs s => match g with
  | 10 => (match frGo [] vs s (fun vs0 π s1 s0 => match vs0 with
      | [.c (.i l1 .u32 q), .c (.str l2 b)] => some (hdG (pre := fun _ => (GOK E ∧ b.size ≤ 4611686018427387904) ∧ 0 ≤ q ∧ q ≤ 4294967295) (fun z hz hp => HD.args (vs := [.c (.i l1 .u32 q), .c (.str l2 b)]) (by simp [simL, SV.sim, C.sim]) (wr_c E q b z hz hp)) (by rfl) π s1 s0)
      | [.c (.i l1 .u32 q), .c (.strn l2 b)] => some (hdG (pre := fun _ => (GOK E ∧ b.size ≤ 4611686018427387904) ∧ 0 ≤ q ∧ q ≤ 4294967295) (fun z hz hp => HD.args (vs := [.c (.i l1 .u32 q), .c (.strn l2 b)]) (by simp [simL, SV.sim, C.sim]) (wr_c E q b z hz hp)) (by rfl) π s1 s0)
      | _ => none) with
    | some t => some t
    | none => (orcT E) g vs s)
  | 12 => (match frGo [] vs s (fun vs0 π s1 s0 => match vs0 with
      | [.c (.str l2 x)] => some (hdG (pre := fun _ => GOK E ∧ x.size ≤ 4611686018427387904) (fun z hz hp => HD.args (vs := [.c (.str l2 x)]) (by simp [simL, SV.sim, C.sim]) (op_c E x z hz hp)) (by rfl) π s1 s0)
      | [.c (.strn l2 x)] => some (hdG (pre := fun _ => GOK E ∧ x.size ≤ 4611686018427387904) (fun z hz hp => HD.args (vs := [.c (.strn l2 x)]) (by simp [simL, SV.sim, C.sim]) (op_c E x z hz hp)) (by rfl) π s1 s0)
      | _ => none) with
    | some t => some t
    | none => (orcT E) g vs s)
  | g => (orcT E) g vs s
theorem orcU_ok {E : World} : OrcOK (pe E) (orcU E) := by
  intro g vs s t h
  unfold orcU at h
  split at h
  · split at h
    · rename_i hfr; cases h
      obtain ⟨π, s1, hq, hK, hv, hok, hpd⟩ := frGo_spec (P := pe E) hfr
      split at hK
      · rename_i heq; cases hK
        rw [heq] at hv hok
        exact hpd _ _ (hdG_ok _ _ π s1 hq hv hok)
      · rename_i heq; cases hK
        rw [heq] at hv hok
        exact hpd _ _ (hdG_ok _ _ π s1 hq hv hok)
      · cases hK
    · exact orcT_ok _ _ _ _ h
  · split at h
    · rename_i hfr; cases h
      obtain ⟨π, s1, hq, hK, hv, hok, hpd⟩ := frGo_spec (P := pe E) hfr
      split at hK
      · rename_i heq; cases hK
        rw [heq] at hv hok
        exact hpd _ _ (hdG_ok _ _ π s1 hq hv hok)
      · rename_i heq; cases hK
        rw [heq] at hv hok
        exact hpd _ _ (hdG_ok _ _ π s1 hq hv hok)
      · cases hK
    · exact orcT_ok _ _ _ _ h
  · exact orcT_ok _ _ _ _ h
end Go.Proofs.YtnfmkfmgaohpfaaDoor

