import Derived.Test.YtnfmkfmgaohpfaaDoorSR
set_option linter.unusedVariables false
set_option linter.unusedSimpArgs false
namespace Go.Proofs.YtnfmkfmgaohpfaaDoor
open Go Go.Proofs Go.Proofs.YtnfmkfmgaohpfaaDoor.Ev Go.Proofs.YtnfmkfmgaohpfaaDoor.Ev.Ho
set_option maxRecDepth 100000
structure CdZ (b : ByteArray) (k a : Int) (d : ByteArray) (e : Int) : Prop where
  no : b.size < 5 ∨ vlF (strB b 0) (nmF (strSl b 1 b.size)) (strSl b 5 b.size) = false → e = 30 ∧ k = 0 ∧ a = 0 ∧ d = ByteArray.mk #[]
  ok : 5 ≤ b.size → vlF (strB b 0) (nmF (strSl b 1 b.size)) (strSl b 5 b.size) = true → e = 0 ∧ k = strB b 0 ∧ a = nmF (strSl b 1 b.size) ∧ d = strSl b 5 b.size
theorem nv_t {b : Bool} (h : (!b) = true) : b = false := by cases b <;> first | rfl | cases h
theorem nv_f {b : Bool} (h : (!b) = false) : b = true := by cases b <;> first | rfl | cases h
theorem nm_15 (b : ByteArray) (h : 5 ≤ b.size) : nmF (strSl b 1 5) = nmF (strSl b 1 b.size) := by
  rw [nm_val, nm_val]
  have k : ∀ i : Int, 0 ≤ i → i < 4 → strB (strSl b 1 5) i = strB (strSl b 1 b.size) i := fun i h0 h1 => by
    rw [strB_strSl _ _ _ _ (by omega) (by omega) h0 (by omega), strB_strSl _ _ _ _ (by omega) (by omega) h0 (by omega)]
  rw [k 0 (by omega) (by omega), k 1 (by omega) (by omega), k 2 (by omega) (by omega), k 3 (by omega) (by omega)]
theorem rcm_p (E : World) (z : PX) (k a : Int) (d : ByteArray) :
    (hdP ([] : List MB).length [] (.t [.s, .i .i64]) (fun z y => CmQ k a d (y.s 90000) (y.n 90001)) z (fnTree (pe E) (orcR E) (tabL fns) 20000 Tryd.f17 [.a [.i false .i64 k, .i false .i64 a, .str false d]] (mkM z [] [] 0))) =
    ((([] : SW) = [] ∧ True) ∧ ∀ (y : PX), True ∧ True ∧ y.b (90000 : Nat) = vlF k a d → ((!y.b (90000 : Nat)) = true → ([] : SW) = [] ∧ True ∧ CmQ k a d (ByteArray.mk #[]) (1
      : Int)) ∧ ((!y.b (90000 : Nat)) = false → (([] : SW) = [] ∧ (0 : Int) ≤ IntKind.u32.wrap a ∧ IntKind.u32.wrap a ≤ (4294967295 : Int)) ∧ ∀ (y : PX), True ∧ True ∧ y.s
      (90000 : Nat) = wdT (IntKind.u32.wrap a) → ((bytesN [IntKind.u8.wrap k]).size + (y.s (90000 : Nat)).size).ble ((2 : Nat) ^ (62 : Nat)) = true ∧ ((bytesN [IntKind.u8.wrap
      k] ++ y.s (90000 : Nat)).size + d.size).ble ((2 : Nat) ^ (62 : Nat)) = true ∧ ([] : SW) = [] ∧ True ∧ CmQ k a d (bytesN [IntKind.u8.wrap k] ++ y.s (90000 : Nat) ++ d) (0 :
      Int))) := by kernel_rfl
theorem rcm_c (E : World) (k a : Int) (d : ByteArray) (z : PX) (hz : rgM z [] 0) (hp : (fun _ => True) z) : HD (pe E) 17 [.a [.i false .i64 k, .i false .i64 a, .str false d]] [] [] (.t [.s, .i .i64]) (fun z y => CmQ k a d (y.s 90000) (y.n 90001)) z := by
  refine HD.mk (by rfl) (fnTree_sound (P := pe E) orcR_ok tab_ok tab_sz mixed 20000 Tryd.func17 (by decide) [.a [.i false .i64 k, .i false .i64 a, .str false d]] _) ⟨?_⟩
  rw [rcm_p]
  refine ⟨⟨rfl, trivial⟩, fun y hy => ?_⟩
  have hb := hy.2.2
  rw [hb]
  refine ⟨fun h => ⟨rfl, trivial, ⟨fun _ => ⟨rfl, rfl⟩, fun h' => by rw [nv_t h] at h'; cases h'⟩⟩, fun h => ⟨⟨rfl, by rw [wu32]; omega, by rw [wu32]; omega⟩, fun y1 hy1 => ?_⟩⟩
  have hv := nv_f h
  have hd := (vl_rg hv).2.2
  rw [hy1.2.2]
  have s1 : (bytesN [IntKind.u8.wrap k]).size = 1 := by rw [size_bytesN]; rfl
  have s2 := wd_size (IntKind.u32.wrap a)
  have p : (2 : Nat) ^ 62 = 4611686018427387904 := rfl
  refine ⟨Nat.ble_eq_true_of_le (by omega), Nat.ble_eq_true_of_le (by rw [ByteArray.size_append]; omega), rfl, trivial, ⟨fun h' => (by rw [hv] at h'; cases h'), fun _ => ⟨?_, rfl⟩⟩⟩
  rw [cmT_eq]
  refine txt_ext ?_
  rw [txt_catB, txt_append, txt_append]
  simp only [List.map_cons, List.map_nil, List.flatten_cons, List.flatten_nil, List.append_nil, List.append_assoc]
theorem cz_p (E : World) (z : PX) (b : ByteArray) :
    (hdP ([] : List MB).length [] (.u [some 3, none] [.i .i64, .i .i64, .s, .i .i64]) (fun z y => CdZ b (y.n 90000) (y.n 90001) (y.s 90002) (y.n 90003)) z (fnTree (pe E) (orcR E) (tabL fns) 20000 Tryd.f18 [.c (.str false b)] (mkM z [] [] 0))) =
    ((decide ((↑b.size : Int) < (5 : Int)) = true → ([] : SW) = [] ∧ (True ∧ True) ∧ CdZ b (0 : Int) (0 : Int) (ByteArray.mk #[]) (30 : Int)) ∧ (decide ((↑b.size : Int) < (5 :
      Int)) = false → inB (0 : Int) b.size = true ∧ decide ((1 : Int) ≤ (↑b.size : Int)) = true ∧ decide ((5 : Int) ≤ (↑b.size : Int)) = true ∧ Nat.ble (4 : Nat) (strSl b (1 :
      Int) (↑b.size : Int)).size = true ∧ ((!vlF (IntKind.i64.wrap (strB b (0 : Int))) (IntKind.i64.wrap (nmF (strSl b (1 : Int) (↑b.size : Int)))) (strSl b (5 : Int) (↑b.size :
      Int))) = true → ([] : SW) = [] ∧ (True ∧ True) ∧ CdZ b (0 : Int) (0 : Int) (ByteArray.mk #[]) (30 : Int)) ∧ ((!vlF (IntKind.i64.wrap (strB b (0 : Int))) (IntKind.i64.wrap
      (nmF (strSl b (1 : Int) (↑b.size : Int)))) (strSl b (5 : Int) (↑b.size : Int))) = false → ([] : SW) = [] ∧ (True ∧ True) ∧ CdZ b (IntKind.i64.wrap (strB b (0 : Int)))
      (IntKind.i64.wrap (nmF (strSl b (1 : Int) (↑b.size : Int)))) (strSl b (5 : Int) (↑b.size : Int)) (0 : Int)))) := by kernel_rfl
theorem cz_c (E : World) (b : ByteArray) (z : PX) (hz : rgM z [] 0) (hp : (fun _ => b.size ≤ 4611686018427387904) z) : HD (pe E) 18 [.c (.str false b)] [] [] (.u [some 3, none] [.i .i64, .i .i64, .s, .i .i64]) (fun z y => CdZ b (y.n 90000) (y.n 90001) (y.s 90002) (y.n 90003)) z := by
  refine HD.mk (by rfl) (fnTree_sound (P := pe E) orcR_ok tab_ok tab_sz mixed 20000 Tryd.func18 (by decide) [.c (.str false b)] _) ⟨?_⟩
  rw [cz_p]
  simp only [decide_eq_true_eq, decide_eq_false_iff_not]
  refine ⟨fun h => ⟨by trivial, ⟨trivial, trivial⟩, ⟨fun _ => ⟨rfl, rfl, rfl, rfl⟩, fun h' => absurd h' (by omega)⟩⟩, fun h => ?_⟩
  have h0 := strB_bd b 0
  have h1 := nm_rg (strSl b 1 (b.size : Int))
  have z1 := size_strSl b 1 b.size (by omega) (by omega) (by omega)
  have i0 : IntKind.i64.wrap (strB b 0) = strB b 0 := by rw [wi64]; omega
  have i1 : IntKind.i64.wrap (nmF (strSl b 1 (b.size : Int))) = nmF (strSl b 1 (b.size : Int)) := by rw [wi64]; omega
  rw [i0, i1]
  refine ⟨by simp only [inB, Bool.and_eq_true, decide_eq_true_eq]; omega, by omega, by omega, Nat.ble_eq_true_of_le (by omega), fun h2 => ⟨by trivial, ⟨trivial, trivial⟩, ⟨fun _ => ⟨rfl, rfl, rfl, rfl⟩, fun _ h' => by rw [nv_t h2] at h'; cases h'⟩⟩, fun h2 => ⟨by trivial, ⟨trivial, trivial⟩, ⟨fun h' => ?_, fun _ _ => ⟨rfl, rfl, rfl, rfl⟩⟩⟩⟩
  rcases h' with h' | h'
  · omega
  · rw [nv_f h2] at h'; cases h'
theorem cy_p (E : World) (z : PX) (b : ByteArray) :
    (hdP ([] : List MB).length [] (.u [some 3, none] [.i .i64, .i .i64, .s, .i .i64]) (fun z y => CdZ b (y.n 90000) (y.n 90001) (y.s 90002) (y.n 90003)) z (fnTree (pe E) (orcR E) (tabL fns) 20000 Tryd.f19 [.c (.str false b)] (mkM z [] [] 0))) =
    ((decide ((↑b.size : Int) < (5 : Int)) = true → ([] : SW) = [] ∧ (True ∧ True) ∧ CdZ b (0 : Int) (0 : Int) (ByteArray.mk #[]) (30 : Int)) ∧ (decide ((↑b.size : Int) < (5 :
      Int)) = false → inB (0 : Int) b.size = true ∧ decide ((5 : Int) ≤ (↑b.size : Int)) = true ∧ decide ((5 : Int) ≤ (↑b.size : Int)) = true ∧ (([] : SW) = [] ∧ (4 : Nat) ≤
      (strSl b (1 : Int) (5 : Int)).size) ∧ ∀ (y : PX), True ∧ (((0 : Int) ≤ y.n (90000 : Nat) ∧ y.n (90000 : Nat) ≤ (4294967295 : Int)) ∧ True) ∧ y.n (90000 : Nat) = nmF (strSl
      b (1 : Int) (5 : Int)) → (([] : SW) = [] ∧ True) ∧ ∀ (y_1 : PX), True ∧ True ∧ y_1.b (90000 : Nat) = vlF (IntKind.i64.wrap (strB b (0 : Int))) (IntKind.i64.wrap (y.n
      (90000 : Nat))) (strSl b (5 : Int) (↑b.size : Int)) → ((!y_1.b (90000 : Nat)) = true → ([] : SW) = [] ∧ (True ∧ True) ∧ CdZ b (0 : Int) (0 : Int) (ByteArray.mk #[]) (30 :
      Int)) ∧ ((!y_1.b (90000 : Nat)) = false → ([] : SW) = [] ∧ (True ∧ True) ∧ CdZ b (IntKind.i64.wrap (strB b (0 : Int))) (IntKind.i64.wrap (y.n (90000 : Nat))) (strSl b (5 :
      Int) (↑b.size : Int)) (0 : Int)))) := by kernel_rfl
theorem cy_c (E : World) (b : ByteArray) (z : PX) (hz : rgM z [] 0) (hp : (fun _ => b.size ≤ 4611686018427387904) z) : HD (pe E) 19 [.c (.str false b)] [] [] (.u [some 3, none] [.i .i64, .i .i64, .s, .i .i64]) (fun z y => CdZ b (y.n 90000) (y.n 90001) (y.s 90002) (y.n 90003)) z := by
  refine HD.mk (by rfl) (fnTree_sound (P := pe E) orcR_ok tab_ok tab_sz mixed 20000 Tryd.func19 (by decide) [.c (.str false b)] _) ⟨?_⟩
  rw [cy_p]
  simp only [decide_eq_true_eq, decide_eq_false_iff_not]
  refine ⟨fun h => ⟨by trivial, ⟨trivial, trivial⟩, ⟨fun _ => ⟨rfl, rfl, rfl, rfl⟩, fun h' => absurd h' (by omega)⟩⟩, fun h => ?_⟩
  have h0 := strB_bd b 0
  have h1 := nm_rg (strSl b 1 (b.size : Int))
  have z1 := size_strSl b 1 5 (by omega) (by omega) (by omega)
  have i0 : IntKind.i64.wrap (strB b 0) = strB b 0 := by rw [wi64]; omega
  have i1 : IntKind.i64.wrap (nmF (strSl b 1 (b.size : Int))) = nmF (strSl b 1 (b.size : Int)) := by rw [wi64]; omega
  refine ⟨by simp only [inB, Bool.and_eq_true, decide_eq_true_eq]; omega, by omega, by omega, ⟨by trivial, by omega⟩, fun y hy => ⟨⟨by trivial, trivial⟩, fun y1 hy1 => ?_⟩⟩
  have e := hy1.2.2
  rw [hy.2.2, nm_15 b (by omega), i0, i1] at e
  rw [e, hy.2.2, nm_15 b (by omega), i0, i1]
  refine ⟨fun h2 => ⟨by trivial, ⟨trivial, trivial⟩, ⟨fun _ => ⟨rfl, rfl, rfl, rfl⟩, fun _ h' => by rw [nv_t h2] at h'; cases h'⟩⟩, fun h2 => ⟨by trivial, ⟨trivial, trivial⟩, ⟨fun h' => ?_, fun _ _ => ⟨rfl, rfl, rfl, rfl⟩⟩⟩⟩
  rcases h' with h' | h'
  · omega
  · rw [nv_f h2] at h'; cases h'
noncomputable def orcC (E : World) : Orc := fun g vs s => match g with
  | 17 => (match frGo [] vs s (fun vs0 π s1 s0 => match vs0 with
      | [.a [.i l1 .i64 k, .i l2 .i64 a, .str l3 d]] => some (hdG (pre := fun _ => True) (fun z hz hp => HD.args (vs := [.a [.i l1 .i64 k, .i l2 .i64 a, .str l3 d]]) (by simp [simL, SV.sim, C.sim]) (rcm_c E k a d z hz hp)) (by rfl) π s1 s0)
      | [.a [.i l1 .i64 k, .i l2 .i64 a, .strn l3 d]] => some (hdG (pre := fun _ => True) (fun z hz hp => HD.args (vs := [.a [.i l1 .i64 k, .i l2 .i64 a, .strn l3 d]]) (by simp [simL, SV.sim, C.sim]) (rcm_c E k a d z hz hp)) (by rfl) π s1 s0)
      | _ => none) with
    | some t => some t
    | none => (orcR E) g vs s)
  | 18 => (match frGo [] vs s (fun vs0 π s1 s0 => match vs0 with
      | [.c (.str l1 b)] => some (hdG (pre := fun _ => b.size ≤ 4611686018427387904) (fun z hz hp => HD.args (vs := [.c (.str l1 b)]) (by simp [simL, SV.sim, C.sim]) (cz_c E b z hz hp)) (by rfl) π s1 s0)
      | [.c (.strn l1 b)] => some (hdG (pre := fun _ => b.size ≤ 4611686018427387904) (fun z hz hp => HD.args (vs := [.c (.strn l1 b)]) (by simp [simL, SV.sim, C.sim]) (cz_c E b z hz hp)) (by rfl) π s1 s0)
      | _ => none) with
    | some t => some t
    | none => (orcR E) g vs s)
  | 19 => (match frGo [] vs s (fun vs0 π s1 s0 => match vs0 with
      | [.c (.str l1 b)] => some (hdG (pre := fun _ => b.size ≤ 4611686018427387904) (fun z hz hp => HD.args (vs := [.c (.str l1 b)]) (by simp [simL, SV.sim, C.sim]) (cy_c E b z hz hp)) (by rfl) π s1 s0)
      | [.c (.strn l1 b)] => some (hdG (pre := fun _ => b.size ≤ 4611686018427387904) (fun z hz hp => HD.args (vs := [.c (.strn l1 b)]) (by simp [simL, SV.sim, C.sim]) (cy_c E b z hz hp)) (by rfl) π s1 s0)
      | _ => none) with
    | some t => some t
    | none => (orcR E) g vs s)
  | g => (orcR E) g vs s
theorem orcC_ok {E : World} : OrcOK (pe E) (orcC E) := by
  intro g vs s t h
  unfold orcC at h
  split at h
  · split at h
    · rename_i hfr; cases h
      obtain ⟨π, s1, hq, hK, hv, hok, hpd⟩ := frGo_spec (P := pe E) hfr
      split at hK
      · rename_i heq; cases hK
        rw [heq] at hv hok
        exact hpd _ _ (hdG_ok _ _ π s1 hq hv hok)
      · rename_i heq; cases hK
        rw [heq] at hv hok
        exact hpd _ _ (hdG_ok _ _ π s1 hq hv hok)
      · cases hK
    · exact orcR_ok _ _ _ _ h
  · split at h
    · rename_i hfr; cases h
      obtain ⟨π, s1, hq, hK, hv, hok, hpd⟩ := frGo_spec (P := pe E) hfr
      split at hK
      · rename_i heq; cases hK
        rw [heq] at hv hok
        exact hpd _ _ (hdG_ok _ _ π s1 hq hv hok)
      · rename_i heq; cases hK
        rw [heq] at hv hok
        exact hpd _ _ (hdG_ok _ _ π s1 hq hv hok)
      · cases hK
    · exact orcR_ok _ _ _ _ h
  · split at h
    · rename_i hfr; cases h
      obtain ⟨π, s1, hq, hK, hv, hok, hpd⟩ := frGo_spec (P := pe E) hfr
      split at hK
      · rename_i heq; cases hK
        rw [heq] at hv hok
        exact hpd _ _ (hdG_ok _ _ π s1 hq hv hok)
      · rename_i heq; cases hK
        rw [heq] at hv hok
        exact hpd _ _ (hdG_ok _ _ π s1 hq hv hok)
      · cases hK
    · exact orcR_ok _ _ _ _ h
  · exact orcR_ok _ _ _ _ h
end Go.Proofs.YtnfmkfmgaohpfaaDoor

