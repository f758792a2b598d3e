import Derived.Test.YtnfmkfmgaohpfaaDoorSC
set_option linter.unusedVariables false
set_option linter.unusedSimpArgs false
namespace Go.Proofs.YtnfmkfmgaohpfaaDoor
open Go Go.Proofs Go.Proofs.YtnfmkfmgaohpfaaDoor.Ev Go.Proofs.YtnfmkfmgaohpfaaDoor.Ev.Ho
set_option maxRecDepth 100000
theorem cmT_ex (k a : Int) (d : ByteArray) : ∃ t : ByteArray, t = catB [bytesN [IntKind.u8.wrap k], wdT (IntKind.u32.wrap a), d] := ⟨_, rfl⟩
noncomputable def cmT (k a : Int) (d : ByteArray) : ByteArray := Classical.choose (cmT_ex k a d)
theorem cmT_eq (k a : Int) (d : ByteArray) : cmT k a d = catB [bytesN [IntKind.u8.wrap k], wdT (IntKind.u32.wrap a), d] := Classical.choose_spec (cmT_ex k a d)
structure CmQ (k a : Int) (d s : ByteArray) (e : Int) : Prop where
  no : vlF k a d = false → s = ByteArray.mk #[] ∧ e = 1
  ok : vlF k a d = true → s = cmT k a d ∧ e = 0
structure CdQ (b : ByteArray) (k a : Int) (d : ByteArray) (e : Int) : Prop where
  sh : b.size < 5 → e = 30
  no : 5 ≤ b.size → vlF (strB b 0) (nmF (strSl b 1 b.size)) (strSl b 5 b.size) = false → e = 30
  ok : 5 ≤ b.size → vlF (strB b 0) (nmF (strSl b 1 b.size)) (strSl b 5 b.size) = true → e = 0 ∧ k = strB b 0 ∧ a = nmF (strSl b 1 b.size) ∧ d = strSl b 5 b.size
structure RcQ (E : World) (q k a : Int) (d s : ByteArray) (e : Int) : Prop where
  no : vlF k a d = false → s = ByteArray.mk #[] ∧ e = 1
  ok : vlF k a d = true → s = wrapT E q (cmT k a d) ∧ e = 0
structure RdQ (E : World) (x : ByteArray) (q k a : Int) (d : ByteArray) (e : Int) : Prop where
  x : ∃ n b e1, OpQ E x n b e1 ∧ (e1 ≠ 0 → e = e1) ∧ (e1 = 0 → ∃ k2 a2 d2 e2, CdQ b k2 a2 d2 e2 ∧ (e2 ≠ 0 → e = e2) ∧ (e2 = 0 → e = 0 ∧ q = n ∧ k = k2 ∧ a = a2 ∧ d = d2))
theorem OpQ.inv {E : World} {x b : ByteArray} {n : Int} (h : OpQ E x n b 0) : x.size = 64 ∧ strSl x 0 4 = strSl x 60 64 ∧ sumF E (strSl x 0 56) = nmF (strSl x 56 64) ∧ strB x 4 ≤ 51 ∧ trimV (strSl x (5 + strB x 4) 56) = ByteArray.mk #[] ∧ n = nmF x ∧ b = strSl x 5 (5 + strB x 4) := by
  by_cases h1 : x.size = 64
  · by_cases h2 : strSl x 0 4 = strSl x 60 64
    · by_cases h3 : sumF E (strSl x 0 56) = nmF (strSl x 56 64)
      · by_cases h4 : strB x 4 ≤ 51
        · by_cases h5 : trimV (strSl x (5 + strB x 4) 56) = ByteArray.mk #[]
          · have := h.ok h1 h2 h3 h4 h5
            exact ⟨h1, h2, h3, h4, h5, this.2.1, this.2.2⟩
          · exact absurd (h.form h1 h2 h3 (.inr h5)) (by decide)
        · exact absurd (h.form h1 h2 h3 (.inl (by omega))) (by decide)
      · exact absurd (h.sum h1 h2 h3) (by decide)
    · exact absurd (h.torn h1 h2) (by decide)
  · exact absurd (h.len h1) (by decide)
theorem vl_rg {k a : Int} {d : ByteArray} (h : vlF k a d = true) : (0 ≤ a ∧ a ≤ 131071) ∧ (1 ≤ k ∧ k ≤ 3) ∧ d.size ≤ 8 := by
  simp only [vlF, Bool.and_eq_true, Bool.or_eq_true, decide_eq_true_eq] at h
  omega
theorem cm_size {k a : Int} {d : ByteArray} : (cmT k a d).size = 5 + d.size := by
  rw [cmT_eq, size_catB]
  simp only [List.map_cons, List.map_nil, List.sum_cons, List.sum_nil, wd_size, size_bytesN, List.length_cons, List.length_nil]
  omega
theorem cm_p (E : World) (z : PX) (k a : Int) (d : ByteArray) :
    (hdP ([] : List MB).length [] (.t [.s, .i .i64]) (fun z y => CmQ k a d (y.s 90000) (y.n 90001)) z (fnTree (pe E) (orcU E) (tabL fns) 20000 Tryd.f16 [.a [.i false .i64 k, .i false .i64 a, .str false d]] (mkM z [] [] 0))) =
    (((!vlF k a d) = true → ([] : SW) = [] ∧ True ∧ CmQ k a d (ByteArray.mk #[]) (1 : Int)) ∧ ((!vlF k a d) = false → (room (catL [bytesN [IntKind.u8.wrap k], wdT
      (IntKind.u32.wrap a), d]).length && [bytesN [IntKind.u8.wrap k], wdT (IntKind.u32.wrap a), d].length.ble (1000000 : Nat)) = true ∧ decide (k = k) = true ∧ decide (a = a) =
      true ∧ decide (d = d) = true ∧ sameB (Bl.mk [C.i false IntKind.u8 (IntKind.u8.wrap k)] (5 : Nat)) (Bl.mk [C.i false IntKind.u8 (IntKind.u8.wrap k)] (5 : Nat)) = true ∧
      decide (bytesN [IntKind.u8.wrap k] = bytesN [IntKind.u8.wrap k]) = true ∧ decide (wdT (IntKind.u32.wrap a) = wdT (IntKind.u32.wrap a)) = true ∧ decide (d = d) = true ∧ ([]
      : SW) = [] ∧ True ∧ CmQ k a d (catB [bytesN [IntKind.u8.wrap k], wdT (IntKind.u32.wrap a), d]) (0 : Int))) := by kernel_rfl
theorem cm_c (E : World) (k a : Int) (d : ByteArray) (z : PX) (hz : rgM z [] 0) (hp : (fun _ => True) z) : HD (pe E) 16 [.a [.i false .i64 k, .i false .i64 a, .str false d]] [] [] (.t [.s, .i .i64]) (fun z y => CmQ k a d (y.s 90000) (y.n 90001)) z := by
  refine HD.mk (by rfl) (fnTree_sound (P := pe E) orcU_ok tab_ok tab_sz mixed 20000 Tryd.func16 (by decide) [.a [.i false .i64 k, .i false .i64 a, .str false d]] _) ⟨?_⟩
  rw [cm_p]
  simp only [Bool.not_eq_true', Bool.not_eq_false']
  refine ⟨fun h => ⟨trivial, trivial, ⟨fun _ => ⟨rfl, rfl⟩, fun h' => absurd h' (by rw [h]; decide)⟩⟩, fun h => ?_⟩
  have hv := vl_rg h
  have hro := room_of (xs := [bytesN [IntKind.u8.wrap k], wdT (IntKind.u32.wrap a), d]) (by
    simp only [List.map_cons, List.map_nil, List.sum_cons, List.sum_nil, wd_size, size_bytesN, List.length_cons, List.length_nil]; omega) (by show 3 ≤ 1000000; omega)
  simp only [← cmT_eq k a d]
  (repeat' (first | exact trivial | with_reducible rfl | exact sameB_self _ | with_reducible exact hro | exact (decide_eq_true trivial) | exact decide_eq_true rfl | apply And.intro))
  exact ⟨fun h' => absurd h' (by rw [h]; decide), fun _ => ⟨rfl, rfl⟩⟩
theorem cd_p (E : World) (z : PX) (b : ByteArray) :
    (hdP ([] : List MB).length [] (.u [some 3, none] [.i .i64, .i .i64, .s, .i .i64]) (fun z y => CdQ b (y.n 90000) (y.n 90001) (y.s 90002) (y.n 90003)) z (fnTree (pe E) (orcU E) (tabL fns) 20000 Tryd.f18 [.c (.str false b)] (mkM z [] [] 0))) =
    ((decide ((↑b.size : Int) < (5 : Int)) = true → ([] : SW) = [] ∧ (True ∧ True) ∧ CdQ b (0 : Int) (0 : Int) (ByteArray.mk #[]) (30 : Int)) ∧ (decide ((↑b.size : Int) < (5 :
      Int)) = false → inB (0 : Int) b.size = true ∧ decide ((1 : Int) ≤ (↑b.size : Int)) = true ∧ decide ((5 : Int) ≤ (↑b.size : Int)) = true ∧ Nat.ble (4 : Nat) (strSl b (1 :
      Int) (↑b.size : Int)).size = true ∧ ((!vlF (IntKind.i64.wrap (strB b (0 : Int))) (IntKind.i64.wrap (nmF (strSl b (1 : Int) (↑b.size : Int)))) (strSl b (5 : Int) (↑b.size :
      Int))) = true → ([] : SW) = [] ∧ (True ∧ True) ∧ CdQ b (0 : Int) (0 : Int) (ByteArray.mk #[]) (30 : Int)) ∧ ((!vlF (IntKind.i64.wrap (strB b (0 : Int))) (IntKind.i64.wrap
      (nmF (strSl b (1 : Int) (↑b.size : Int)))) (strSl b (5 : Int) (↑b.size : Int))) = false → ([] : SW) = [] ∧ (True ∧ True) ∧ CdQ b (IntKind.i64.wrap (strB b (0 : Int)))
      (IntKind.i64.wrap (nmF (strSl b (1 : Int) (↑b.size : Int)))) (strSl b (5 : Int) (↑b.size : Int)) (0 : Int)))) := by kernel_rfl
theorem cd_c (E : World) (b : ByteArray) (z : PX) (hz : rgM z [] 0) (hp : (fun _ => b.size ≤ 4611686018427387904) z) : HD (pe E) 18 [.c (.str false b)] [] [] (.u [some 3, none] [.i .i64, .i .i64, .s, .i .i64]) (fun z y => CdQ b (y.n 90000) (y.n 90001) (y.s 90002) (y.n 90003)) z := by
  refine HD.mk (by rfl) (fnTree_sound (P := pe E) orcU_ok tab_ok tab_sz mixed 20000 Tryd.func18 (by decide) [.c (.str false b)] _) ⟨?_⟩
  rw [cd_p]
  simp only [Bool.not_eq_true', Bool.not_eq_false', decide_eq_true_eq, decide_eq_false_iff_not]
  refine ⟨fun h => ⟨trivial, ⟨trivial, trivial⟩, ⟨fun _ => rfl, fun h' => absurd h' (by omega), fun h' => absurd h' (by omega)⟩⟩, fun h => ?_⟩
  have h0 := strB_bd b 0
  have h1 := nm_rg (strSl b 1 (b.size : Int))
  have z1 := size_strSl b 1 b.size (by omega) (by omega) (by omega)
  have i0 : IntKind.i64.wrap (strB b 0) = strB b 0 := by rw [wi64]; omega
  have i1 : IntKind.i64.wrap (nmF (strSl b 1 (b.size : Int))) = nmF (strSl b 1 (b.size : Int)) := by rw [wi64]; omega
  simp only [i0, i1]
  refine ⟨by simp only [inB, Bool.and_eq_true, decide_eq_true_eq]; omega, by omega, by omega, Nat.ble_eq_true_of_le (by omega), fun h2 => ⟨trivial, ⟨trivial, trivial⟩, ⟨fun h' => absurd h' (by omega), fun _ _ => rfl, fun _ h' => absurd h' (by rw [h2]; decide)⟩⟩, fun h2 => ⟨trivial, ⟨trivial, trivial⟩, ⟨fun h' => absurd h' (by omega), fun _ h' => absurd h' (by rw [h2]; decide), fun _ _ => ⟨rfl, rfl, rfl, rfl⟩⟩⟩⟩
noncomputable def orcD1 (E : World) : Orc := fun g vs s => match g with
  | 16 => (match frGo [] vs s (fun vs0 π s1 s0 => match vs0 with
      | [.a [.i l1 .i64 k, .i l2 .i64 a, .str l3 d]] => some (hdG (pre := fun _ => True) (fun z hz hp => HD.args (vs := [.a [.i l1 .i64 k, .i l2 .i64 a, .str l3 d]]) (by simp [simL, SV.sim, C.sim]) (cm_c E k a d z hz hp)) (by rfl) π s1 s0)
      | [.a [.i l1 .i64 k, .i l2 .i64 a, .strn l3 d]] => some (hdG (pre := fun _ => True) (fun z hz hp => HD.args (vs := [.a [.i l1 .i64 k, .i l2 .i64 a, .strn l3 d]]) (by simp [simL, SV.sim, C.sim]) (cm_c E k a d z hz hp)) (by rfl) π s1 s0)
      | _ => none) with
    | some t => some t
    | none => (orcU E) g vs s)
  | 18 => (match frGo [] vs s (fun vs0 π s1 s0 => match vs0 with
      | [.c (.str l2 b)] => some (hdG (pre := fun _ => b.size ≤ 4611686018427387904) (fun z hz hp => HD.args (vs := [.c (.str l2 b)]) (by simp [simL, SV.sim, C.sim]) (cd_c E b z hz hp)) (by rfl) π s1 s0)
      | [.c (.strn l2 b)] => some (hdG (pre := fun _ => b.size ≤ 4611686018427387904) (fun z hz hp => HD.args (vs := [.c (.strn l2 b)]) (by simp [simL, SV.sim, C.sim]) (cd_c E b z hz hp)) (by rfl) π s1 s0)
      | _ => none) with
    | some t => some t
    | none => (orcU E) g vs s)
  | g => (orcU E) g vs s
theorem orcD1_ok {E : World} : OrcOK (pe E) (orcD1 E) := by
  intro g vs s t h
  unfold orcD1 at h
  split at h
  · split at h
    · rename_i hfr; cases h
      obtain ⟨π, s1, hq, hK, hv, hok, hpd⟩ := frGo_spec (P := pe E) hfr
      split at hK
      · rename_i heq; cases hK
        rw [heq] at hv hok
        exact hpd _ _ (hdG_ok _ _ π s1 hq hv hok)
      · rename_i heq; cases hK
        rw [heq] at hv hok
        exact hpd _ _ (hdG_ok _ _ π s1 hq hv hok)
      · cases hK
    · exact orcU_ok _ _ _ _ h
  · split at h
    · rename_i hfr; cases h
      obtain ⟨π, s1, hq, hK, hv, hok, hpd⟩ := frGo_spec (P := pe E) hfr
      split at hK
      · rename_i heq; cases hK
        rw [heq] at hv hok
        exact hpd _ _ (hdG_ok _ _ π s1 hq hv hok)
      · rename_i heq; cases hK
        rw [heq] at hv hok
        exact hpd _ _ (hdG_ok _ _ π s1 hq hv hok)
      · cases hK
    · exact orcU_ok _ _ _ _ h
  · exact orcU_ok _ _ _ _ h
theorem rc_p (E : World) (z : PX) (q k a : Int) (d : ByteArray) :
    (hdP ([] : List MB).length [] (.t [.s, .i .i64]) (fun z y => RcQ E q k a d (y.s 90000) (y.n 90001)) z (fnTree (pe E) (orcD1 E) (tabL fns) 20000 Tryd.f23 [.a [.i false .u32 q, .i false .i64 k, .i false .i64 a, .str false d]] (mkM z [] [] 0))) =
    ((([] : SW) = [] ∧ True) ∧ ∀ (y : PX), True ∧ True ∧ CmQ k a d (y.s (90000 : Nat)) (y.n (90001 : Nat)) → ((y.n (90001 : Nat) != (0 : Int)) = true → ([] : SW) = [] ∧ True ∧
      RcQ E q k a d (ByteArray.mk #[]) (y.n (90001 : Nat))) ∧ ((y.n (90001 : Nat) != (0 : Int)) = false → (([] : SW) = [] ∧ (GOK E ∧ (y.s (90000 : Nat)).size ≤
      (4611686018427387904 : Nat)) ∧ (0 : Int) ≤ q ∧ q ≤ (4294967295 : Int)) ∧ ∀ (y_1 : PX), True ∧ True ∧ WrQ E q (y.s (90000 : Nat)) (y_1.s (90000 : Nat)) (y_1.n (90001 :
      Nat)) → ([] : SW) = [] ∧ True ∧ RcQ E q k a d (y_1.s (90000 : Nat)) (y_1.n (90001 : Nat)))) := by kernel_rfl
theorem rc_c (E : World) (q k a : Int) (d : ByteArray) (z : PX) (hz : rgM z [] 0) (hp : (fun _ => GOK E ∧ 0 ≤ q ∧ q ≤ 4294967295) z) : HD (pe E) 23 [.a [.i false .u32 q, .i false .i64 k, .i false .i64 a, .str false d]] [] [] (.t [.s, .i .i64]) (fun z y => RcQ E q k a d (y.s 90000) (y.n 90001)) z := by
  refine HD.mk (by rfl) (fnTree_sound (P := pe E) orcD1_ok tab_ok tab_sz mixed 20000 Tryd.func23 (by decide) [.a [.i false .u32 q, .i false .i64 k, .i false .i64 a, .str false d]] _) ⟨?_⟩
  rw [rc_p]
  obtain ⟨hG, hq⟩ := hp
  refine ⟨⟨rfl, trivial⟩, fun y hy => ?_⟩
  have hc := hy.2.2
  simp only [bne_iff_ne, ne_eq, bne_eq_false_iff_eq]
  cases hv : vlF k a d
  · have hn := hc.no hv
    refine ⟨fun h => ⟨trivial, trivial, ⟨fun _ => ⟨rfl, hn.2⟩, (fun h' => by rw [hv] at h'; cases h')⟩⟩, fun h => ?_⟩
    exfalso; have := hn.2; omega
  · have hk := hc.ok hv
    have hg := vl_rg hv
    have hs := cm_size (k := k) (a := a) (d := d)
    refine ⟨fun h => absurd hk.2 h, fun h => ⟨⟨trivial, ⟨hG, by rw [hk.1]; omega⟩, hq⟩, fun y1 hy1 => ?_⟩⟩
    have hw := hy1.2.2.sh (by rw [hk.1]; omega)
    rw [hk.1] at hw
    exact ⟨trivial, trivial, ⟨(fun h' => by rw [hv] at h'; cases h'), fun _ => hw⟩⟩
theorem rd_p (E : World) (z : PX) (x : ByteArray) :
    (hdP ([] : List MB).length [] (.u [some 4, none] [.i .u32, .i .i64, .i .i64, .s, .i .i64]) (fun z y => RdQ E x (y.n 90000) (y.n 90001) (y.n 90002) (y.s 90003) (y.n 90004)) z (fnTree (pe E) (orcD1 E) (tabL fns) 20000 Tryd.f24 [.c (.str false x)] (mkM z [] [] 0))) =
    ((([] : SW) = [] ∧ GOK E ∧ x.size ≤ (4611686018427387904 : Nat)) ∧ ∀ (y : PX), True ∧ (((0 : Int) ≤ y.n (90000 : Nat) ∧ y.n (90000 : Nat) ≤ (4294967295 : Int)) ∧ True) ∧
      OpQ E x (y.n (90000 : Nat)) (y.s (90001 : Nat)) (y.n (90002 : Nat)) → ((y.n (90002 : Nat) != (0 : Int)) = true → ([] : SW) = [] ∧ (True ∧ True) ∧ RdQ E x (0 : Int) (0 :
      Int) (0 : Int) (ByteArray.mk #[]) (y.n (90002 : Nat))) ∧ ((y.n (90002 : Nat) != (0 : Int)) = false → (([] : SW) = [] ∧ (y.s (90001 : Nat)).size ≤ (4611686018427387904 :
      Nat)) ∧ ∀ (y_1 : PX), True ∧ True ∧ CdQ (y.s (90001 : Nat)) (y_1.n (90000 : Nat)) (y_1.n (90001 : Nat)) (y_1.s (90002 : Nat)) (y_1.n (90003 : Nat)) → ((y_1.n (90003 : Nat)
      != (0 : Int)) = true → ([] : SW) = [] ∧ (True ∧ True) ∧ RdQ E x (0 : Int) (0 : Int) (0 : Int) (ByteArray.mk #[]) (y_1.n (90003 : Nat))) ∧ ((y_1.n (90003 : Nat) != (0 :
      Int)) = false → ([] : SW) = [] ∧ (True ∧ True) ∧ RdQ E x (y.n (90000 : Nat)) (y_1.n (90000 : Nat)) (y_1.n (90001 : Nat)) (y_1.s (90002 : Nat)) (0 : Int)))) := by kernel_rfl
theorem rd_c (E : World) (x : ByteArray) (z : PX) (hz : rgM z [] 0) (hp : (fun _ => GOK E ∧ x.size ≤ 4611686018427387904) z) : HD (pe E) 24 [.c (.str false x)] [] [] (.u [some 4, none] [.i .u32, .i .i64, .i .i64, .s, .i .i64]) (fun z y => RdQ E x (y.n 90000) (y.n 90001) (y.n 90002) (y.s 90003) (y.n 90004)) z := by
  refine HD.mk (by rfl) (fnTree_sound (P := pe E) orcD1_ok tab_ok tab_sz mixed 20000 Tryd.func24 (by decide) [.c (.str false x)] _) ⟨?_⟩
  rw [rd_p]
  refine ⟨⟨rfl, hp⟩, fun y hy => ?_⟩
  have ho := hy.2.2
  simp only [bne_iff_ne, ne_eq, bne_eq_false_iff_eq]
  refine ⟨fun h => ⟨trivial, ⟨trivial, trivial⟩, ⟨_, _, _, ho, fun _ => rfl, fun h' => absurd h' h⟩⟩, fun h => ?_⟩
  have hi := ho
  rw [h] at hi
  have hi := hi.inv
  have hbd := strB_bd x 4
  have hz := size_strSl x 5 (5 + strB x 4) (by omega) (by omega) (by omega)
  refine ⟨⟨trivial, by rw [hi.2.2.2.2.2.2]; omega⟩, fun y1 hy1 => ?_⟩
  have hc := hy1.2.2
  refine ⟨fun h1 => ⟨trivial, ⟨trivial, trivial⟩, ⟨_, _, _, ho, fun h' => absurd h h', fun _ => ⟨_, _, _, _, hc, fun _ => rfl, fun h' => absurd h' h1⟩⟩⟩, fun h1 => ⟨trivial, ⟨trivial, trivial⟩, ⟨_, _, _, ho, fun h' => absurd h h', fun _ => ⟨_, _, _, _, hc, fun h' => absurd h1 h', fun _ => ⟨rfl, rfl, rfl, rfl, rfl⟩⟩⟩⟩⟩
noncomputable def orcD2 (E : World) : Orc := fun g vs s => match g with
  | 23 => (match frGo [] vs s (fun vs0 π s1 s0 => match vs0 with
      | [.a [.i l0 .u32 q, .i l1 .i64 k, .i l2 .i64 a, .str l3 d]] => some (hdG (pre := fun _ => GOK E ∧ 0 ≤ q ∧ q ≤ 4294967295) (fun z hz hp => HD.args (vs := [.a [.i l0 .u32 q, .i l1 .i64 k, .i l2 .i64 a, .str l3 d]]) (by simp [simL, SV.sim, C.sim]) (rc_c E q k a d z hz hp)) (by rfl) π s1 s0)
      | [.a [.i l0 .u32 q, .i l1 .i64 k, .i l2 .i64 a, .strn l3 d]] => some (hdG (pre := fun _ => GOK E ∧ 0 ≤ q ∧ q ≤ 4294967295) (fun z hz hp => HD.args (vs := [.a [.i l0 .u32 q, .i l1 .i64 k, .i l2 .i64 a, .strn l3 d]]) (by simp [simL, SV.sim, C.sim]) (rc_c E q k a d z hz hp)) (by rfl) π s1 s0)
      | _ => none) with
    | some t => some t
    | none => (orcD1 E) g vs s)
  | 24 => (match frGo [] vs s (fun vs0 π s1 s0 => match vs0 with
      | [.c (.str l2 x)] => some (hdG (pre := fun _ => GOK E ∧ x.size ≤ 4611686018427387904) (fun z hz hp => HD.args (vs := [.c (.str l2 x)]) (by simp [simL, SV.sim, C.sim]) (rd_c E x z hz hp)) (by rfl) π s1 s0)
      | [.c (.strn l2 x)] => some (hdG (pre := fun _ => GOK E ∧ x.size ≤ 4611686018427387904) (fun z hz hp => HD.args (vs := [.c (.strn l2 x)]) (by simp [simL, SV.sim, C.sim]) (rd_c E x z hz hp)) (by rfl) π s1 s0)
      | _ => none) with
    | some t => some t
    | none => (orcD1 E) g vs s)
  | g => (orcD1 E) g vs s
theorem orcD2_ok {E : World} : OrcOK (pe E) (orcD2 E) := by
  intro g vs s t h
  unfold orcD2 at h
  split at h
  · split at h
    · rename_i hfr; cases h
      obtain ⟨π, s1, hq, hK, hv, hok, hpd⟩ := frGo_spec (P := pe E) hfr
      split at hK
      · rename_i heq; cases hK
        rw [heq] at hv hok
        exact hpd _ _ (hdG_ok _ _ π s1 hq hv hok)
      · rename_i heq; cases hK
        rw [heq] at hv hok
        exact hpd _ _ (hdG_ok _ _ π s1 hq hv hok)
      · cases hK
    · exact orcD1_ok _ _ _ _ h
  · split at h
    · rename_i hfr; cases h
      obtain ⟨π, s1, hq, hK, hv, hok, hpd⟩ := frGo_spec (P := pe E) hfr
      split at hK
      · rename_i heq; cases hK
        rw [heq] at hv hok
        exact hpd _ _ (hdG_ok _ _ π s1 hq hv hok)
      · rename_i heq; cases hK
        rw [heq] at hv hok
        exact hpd _ _ (hdG_ok _ _ π s1 hq hv hok)
      · cases hK
    · exact orcD1_ok _ _ _ _ h
  · exact orcD1_ok _ _ _ _ h
end Go.Proofs.YtnfmkfmgaohpfaaDoor

