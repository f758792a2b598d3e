import Derived.Test.YtnfmkfmgaohpfaaDoorSF
set_option linter.unusedVariables false
set_option linter.unusedSimpArgs false
namespace Go.Proofs.YtnfmkfmgaohpfaaDoor
open Go Go.Proofs Go.Proofs.YtnfmkfmgaohpfaaDoor.Ev Go.Proofs.YtnfmkfmgaohpfaaDoor.Ev.Ho
set_option maxRecDepth 100000
noncomputable def ff : ByteArray := ByteArray.mk #[(255 : UInt8)]
noncomputable def dat (E : World) (k : Int) (d : ByteArray) : ByteArray := if k = 2 then repV E ff 4096 else d
theorem apT_ex (E : World) (m : ByteArray) (k a : Int) (d : ByteArray) : ∃ t : ByteArray, t = (if k = 3 then repV E ff m.size else catB [strSl m 0 a, dat E k d, strSl m (a + (dat E k d).size) m.size]) := ⟨_, rfl⟩
noncomputable def apT (E : World) (m : ByteArray) (k a : Int) (d : ByteArray) : ByteArray := Classical.choose (apT_ex E m k a d)
theorem apT_eq (E : World) (m : ByteArray) (k a : Int) (d : ByteArray) : apT E m k a d = (if k = 3 then repV E ff m.size else catB [strSl m 0 a, dat E k d, strSl m (a + (dat E k d).size) m.size]) := Classical.choose_spec (apT_ex E m k a d)
structure ApQ (E : World) (m : ByteArray) (k a : Int) (d s : ByteArray) (e : Int) : Prop where
  no : vlF k a d = false ∨ (k ≠ 3 ∧ (m.size : Int) < a + (dat E k d).size) → s = ByteArray.mk #[] ∧ e = 1
  ok : vlF k a d = true → (k = 3 ∨ a + (dat E k d).size ≤ m.size) → s = apT E m k a d ∧ e = 0
theorem ap_p (E : World) (z : PX) (m : ByteArray) (k a : Int) (d : ByteArray) :
    (hdP ([] : List MB).length [] (.t [.s, .i .i64]) (fun z y => ApQ E m k a d (y.s 90000) (y.n 90001)) z (fnTree (pe E) (orcD2 E) (tabL fns) 20000 Tryd.f20 [.c (.str false m), .a [.i false .i64 k, .i false .i64 a, .str false d]] (mkM z [] [] 0))) =
    (((!vlF k a d) = true → ([] : SW) = [] ∧ True ∧ ApQ E m k a d (ByteArray.mk #[]) (1 : Int)) ∧ ((!vlF k a d) = false → ((k == (2 : Int)) = true → repOK (ByteArray.mk #[(255
      : UInt8)]) (4096 : Int) = true ∧ decide ((repV E (ByteArray.mk #[(255 : UInt8)]) (4096 : Int)).size = (4096 : Nat)) = true ∧ (decide (IntKind.i64.wrap (a + (4096 : Int)) >
      (↑m.size : Int)) = true → ([] : SW) = [] ∧ True ∧ ApQ E m k a d (ByteArray.mk #[]) (1 : Int)) ∧ (decide (IntKind.i64.wrap (a + (4096 : Int)) > (↑m.size : Int)) = false →
      decide ((repV E (ByteArray.mk #[(255 : UInt8)]) (4096 : Int)).size = (4096 : Nat)) = true ∧ decide ((0 : Int) ≤ a) = true ∧ decide (a ≤ (↑m.size : Int)) = true ∧ decide
      ((0 : Int) ≤ IntKind.i64.wrap (a + (4096 : Int))) = true ∧ decide (IntKind.i64.wrap (a + (4096 : Int)) ≤ (↑m.size : Int)) = true ∧ (room (catL [strSl m (0 : Int) a, repV E
      (ByteArray.mk #[(255 : UInt8)]) (4096 : Int), strSl m (IntKind.i64.wrap (a + (4096 : Int))) (↑m.size : Int)]).length && [strSl m (0 : Int) a, repV E (ByteArray.mk #[(255 :
      UInt8)]) (4096 : Int), strSl m (IntKind.i64.wrap (a + (4096 : Int))) (↑m.size : Int)].length.ble (1000000 : Nat)) = true ∧ ([] : SW) = [] ∧ True ∧ ApQ E m k a d (catB
      [strSl m (0 : Int) a, repV E (ByteArray.mk #[(255 : UInt8)]) (4096 : Int), strSl m (IntKind.i64.wrap (a + (4096 : Int))) (↑m.size : Int)]) (0 : Int))) ∧ ((k == (2 : Int))
      = false → ((k == (3 : Int)) = true → repOK (ByteArray.mk #[(255 : UInt8)]) (↑m.size : Int) = true ∧ ([] : SW) = [] ∧ True ∧ ApQ E m k a d (repV E (ByteArray.mk #[(255 :
      UInt8)]) (↑m.size : Int)) (0 : Int)) ∧ ((k == (3 : Int)) = false → (decide (IntKind.i64.wrap (a + (↑d.size : Int)) > (↑m.size : Int)) = true → ([] : SW) = [] ∧ True ∧ ApQ
      E m k a d (ByteArray.mk #[]) (1 : Int)) ∧ (decide (IntKind.i64.wrap (a + (↑d.size : Int)) > (↑m.size : Int)) = false → decide ((0 : Int) ≤ a) = true ∧ decide (a ≤ (↑m.size
      : Int)) = true ∧ decide ((0 : Int) ≤ IntKind.i64.wrap (a + (↑d.size : Int))) = true ∧ decide (IntKind.i64.wrap (a + (↑d.size : Int)) ≤ (↑m.size : Int)) = true ∧ (room
      (catL [strSl m (0 : Int) a, d, strSl m (IntKind.i64.wrap (a + (↑d.size : Int))) (↑m.size : Int)]).length && [strSl m (0 : Int) a, d, strSl m (IntKind.i64.wrap (a +
      (↑d.size : Int))) (↑m.size : Int)].length.ble (1000000 : Nat)) = true ∧ ([] : SW) = [] ∧ True ∧ ApQ E m k a d (catB [strSl m (0 : Int) a, d, strSl m (IntKind.i64.wrap (a +
      (↑d.size : Int))) (↑m.size : Int)]) (0 : Int)))))) := by kernel_rfl
theorem ap_c (E : World) (m : ByteArray) (k a : Int) (d : ByteArray) (z : PX) (hz : rgM z [] 0) (hp : (fun _ => m.size ≤ 140737488351232) z) : HD (pe E) 20 [.c (.str false m), .a [.i false .i64 k, .i false .i64 a, .str false d]] [] [] (.t [.s, .i .i64]) (fun z y => ApQ E m k a d (y.s 90000) (y.n 90001)) z := by
  refine HD.mk (by rfl) (fnTree_sound (P := pe E) orcD2_ok tab_ok tab_sz mixed 20000 Tryd.func20 (by decide) [.c (.str false m), .a [.i false .i64 k, .i false .i64 a, .str false d]] _) ⟨?_⟩
  rw [ap_p]
  obtain hm := hp
  have rs : ∀ c : Int, 0 ≤ c → ((repV E (ByteArray.mk #[(255 : UInt8)]) c).size : Int) = c := fun c h => by
    rw [size_repV]; show ((c.toNat * 1 : Nat) : Int) = c; omega
  have rk : ∀ c : Int, 0 ≤ c → c ≤ 140737488355328 → repOK (ByteArray.mk #[(255 : UInt8)]) c = true := fun c h0 h1 => by
    simp only [repOK, Bool.and_eq_true, decide_eq_true_eq]
    exact ⟨⟨by omega, Nat.ble_eq_true_of_le (by show 1 * _ ≤ _; omega)⟩, by omega⟩
  refine ⟨fun hv => ⟨rfl, trivial, ⟨fun _ => ⟨rfl, rfl⟩, fun h => by rw [h] at hv; cases hv⟩⟩, fun hv => ?_⟩
  have hv : vlF k a d = true := by cases h : vlF k a d <;> rw [h] at hv <;> first | rfl | cases hv
  obtain ⟨ha, hk, hd⟩ := vl_rg hv
  have jn : ∀ D : ByteArray, (a : Int) + D.size ≤ m.size → (room (catL [strSl m 0 a, D, strSl m (a + D.size) m.size]).length && [strSl m 0 a, D, strSl m (a + D.size) m.size].length.ble 1000000) = true := fun D hD => by
    have z1 := size_strSl m 0 a (by omega) (by omega) (by omega)
    have z2 := size_strSl m (a + D.size) m.size (by omega) (by omega) (by omega)
    refine room_of ?_ (by show 3 ≤ 1000000; omega)
    simp only [List.map_cons, List.map_nil, List.sum_cons, List.sum_nil]; omega
  refine ⟨fun h2 => ?_, fun h2 => ⟨fun h3 => ?_, fun h3 => ?_⟩⟩
  · have h2 : k = 2 := eq_of_beq h2
    have i1 : IntKind.i64.wrap (a + 4096) = a + 4096 := by rw [wi64]; omega
    have z := rs 4096 (by omega)
    have hdat : dat E k d = repV E (ByteArray.mk #[(255 : UInt8)]) 4096 := by unfold dat; rw [if_pos h2]; rfl
    simp only [i1]
    refine ⟨rk _ (by omega) (by omega), decide_eq_true (by omega), fun h => ⟨by trivial, trivial, ⟨fun _ => ⟨rfl, rfl⟩, fun _ h' => ?_⟩⟩, fun h => ?_⟩
    · rw [hdat] at h'
      have := of_decide_eq_true h
      omega
    · have h := of_decide_eq_false h
      have j := jn (repV E (ByteArray.mk #[(255 : UInt8)]) 4096) (by omega)
      rw [z] at j
      refine ⟨decide_eq_true (by omega), decide_eq_true (by omega), decide_eq_true (by omega), decide_eq_true (by omega), decide_eq_true (by omega), j, by trivial, trivial, ⟨fun h' => ?_, fun _ _ => ⟨?_, rfl⟩⟩⟩
      · rw [hdat, hv] at h'
        rcases h' with h' | h'
        · cases h'
        · omega
      · rw [apT_eq, if_neg (by omega), hdat, z]
  · have h3 : k = 3 := eq_of_beq h3
    refine ⟨rk _ (by omega) (by omega), rfl, trivial, ⟨fun h' => ?_, fun _ _ => ⟨?_, rfl⟩⟩⟩
    · rw [hv] at h'
      rcases h' with h' | h'
      · cases h'
      · exact absurd h3 h'.1
    · rw [apT_eq, if_pos h3]; rfl
  · have h2 : k ≠ 2 := by simpa using h2
    have h3 : k ≠ 3 := by simpa using h3
    have i1 : IntKind.i64.wrap (a + (d.size : Int)) = a + d.size := by rw [wi64]; omega
    have hdat : dat E k d = d := by unfold dat; rw [if_neg h2]
    simp only [i1]
    refine ⟨fun h => ⟨by trivial, trivial, ⟨fun _ => ⟨rfl, rfl⟩, fun _ h' => ?_⟩⟩, fun h => ?_⟩
    · rw [hdat] at h'
      have := of_decide_eq_true h
      omega
    · have h := of_decide_eq_false h
      have j := jn d (by omega)
      refine ⟨decide_eq_true (by omega), decide_eq_true (by omega), decide_eq_true (by omega), decide_eq_true (by omega), j, by trivial, trivial, ⟨fun h' => ?_, fun _ _ => ⟨?_, rfl⟩⟩⟩
      · rw [hdat, hv] at h'
        rcases h' with h' | h'
        · cases h'
        · omega
      · rw [apT_eq, if_neg h3, hdat]
noncomputable def orcB (E : World) : Orc := fun g vs s => match g with
  | 20 => (match frGo [] vs s (fun vs0 π s1 s0 => match vs0 with
      | [.c (.str l0 m), .a [.i l1 .i64 k, .i l2 .i64 a, .str l3 d]] => some (hdG (pre := fun _ => m.size ≤ 140737488351232) (fun z hz hp => HD.args (vs := [.c (.str l0 m), .a [.i l1 .i64 k, .i l2 .i64 a, .str l3 d]]) (by simp [simL, SV.sim, C.sim]) (ap_c E m k a d z hz hp)) (by rfl) π s1 s0)
      | [.c (.str l0 m), .a [.i l1 .i64 k, .i l2 .i64 a, .strn l3 d]] => some (hdG (pre := fun _ => m.size ≤ 140737488351232) (fun z hz hp => HD.args (vs := [.c (.str l0 m), .a [.i l1 .i64 k, .i l2 .i64 a, .strn l3 d]]) (by simp [simL, SV.sim, C.sim]) (ap_c E m k a d z hz hp)) (by rfl) π s1 s0)
      | [.c (.strn l0 m), .a [.i l1 .i64 k, .i l2 .i64 a, .str l3 d]] => some (hdG (pre := fun _ => m.size ≤ 140737488351232) (fun z hz hp => HD.args (vs := [.c (.strn l0 m), .a [.i l1 .i64 k, .i l2 .i64 a, .str l3 d]]) (by simp [simL, SV.sim, C.sim]) (ap_c E m k a d z hz hp)) (by rfl) π s1 s0)
      | [.c (.strn l0 m), .a [.i l1 .i64 k, .i l2 .i64 a, .strn l3 d]] => some (hdG (pre := fun _ => m.size ≤ 140737488351232) (fun z hz hp => HD.args (vs := [.c (.strn l0 m), .a [.i l1 .i64 k, .i l2 .i64 a, .strn l3 d]]) (by simp [simL, SV.sim, C.sim]) (ap_c E m k a d z hz hp)) (by rfl) π s1 s0)
      | _ => none) with
    | some t => some t
    | none => (orcA E) g vs s)
  | g => (orcA E) g vs s
theorem orcB_ok {E : World} : OrcOK (pe E) (orcB E) := by
  intro g vs s t h
  unfold orcB at h
  split at h
  · split at h
    · rename_i hfr; cases h
      obtain ⟨π, s1, hq, hK, hv, hok, hpd⟩ := frGo_spec (P := pe E) hfr
      split at hK
      · rename_i heq; cases hK
        rw [heq] at hv hok
        exact hpd _ _ (hdG_ok _ _ π s1 hq hv hok)
      · rename_i heq; cases hK
        rw [heq] at hv hok
        exact hpd _ _ (hdG_ok _ _ π s1 hq hv hok)
      · rename_i heq; cases hK
        rw [heq] at hv hok
        exact hpd _ _ (hdG_ok _ _ π s1 hq hv hok)
      · rename_i heq; cases hK
        rw [heq] at hv hok
        exact hpd _ _ (hdG_ok _ _ π s1 hq hv hok)
      · cases hK
    · exact orcA_ok _ _ _ _ h
  · exact orcA_ok _ _ _ _ h
end Go.Proofs.YtnfmkfmgaohpfaaDoor

