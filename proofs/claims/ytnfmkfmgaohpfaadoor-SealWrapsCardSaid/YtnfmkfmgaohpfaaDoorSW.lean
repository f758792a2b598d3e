import Derived.Test.YtnfmkfmgaohpfaaDoorSV
set_option linter.unusedVariables false
set_option linter.unusedSimpArgs false
namespace Go.Proofs.YtnfmkfmgaohpfaaDoor
open Go Go.Proofs Go.Proofs.YtnfmkfmgaohpfaaDoor.Ev Go.Proofs.YtnfmkfmgaohpfaaDoor.Ev.Ho
set_option maxRecDepth 100000
theorem zrow (n : Nat) : (∀ p : Nat, p < n → rI (rRep [C.i true IntKind.u8 0] n) p = 0 ∧ rOk (rRep [C.i true IntKind.u8 0] n) p (.i .u8) = true) ∧ (rRep [C.i true IntKind.u8 0] n).length = n := by
  have hl : (rRep [C.i true IntKind.u8 0] n).length = n := by rw [len_rep]; simp
  refine ⟨fun p hp => ?_, hl⟩
  have hg : (rRep [C.i true IntKind.u8 0] n)[p]? = some (C.i true .u8 0) := by
    unfold rRep
    rw [List.getElem?_map, List.getElem?_range (by simp; omega)]
    simp [Nat.mod_one, rAt]
  exact ⟨by unfold rI rAt; rw [hg]; rfl, by simp only [rOk, hg]; rfl⟩
theorem zrow_u8 (n : Nat) : rowU8 (rRep [C.i true IntKind.u8 0] n) n = true := rowU8_iff.2 ⟨by rw [(zrow n).2]; omega, fun p hp => ((zrow n).1 p hp).2⟩
theorem zrow_t (n : Nat) : txt (rowT (rRep [C.i true IntKind.u8 0] n) n) = List.replicate n 0 := by
  rw [rowT_eq, txt_bytesN]
  refine List.ext_getElem? fun p => ?_
  by_cases hp : p < n
  · rw [List.getElem?_map, List.getElem?_map, List.getElem?_range hp, List.getElem?_replicate_of_lt hp]
    simp only [Option.map_some, ((zrow n).1 p hp).1]
    rfl
  · rw [List.getElem?_eq_none (by simp; omega), List.getElem?_eq_none (by simp; omega)]
theorem rw_p (E : World) (z : PX) (q : Int) (b : ByteArray) :
    (hdP ([] : List MB).length [] (.t [.s, .i .i64]) (fun z y => WrQ E q b (y.s 90000) (y.n 90001)) z (fnTree (pe E) (orcV E) (tabL fns) 20000 Tryd.f11 [.c (.i false .u32 q), .c (.str false b)] (mkM z [] [] 0))) =
    ((decide ((↑b.size : Int) > (51 : Int)) = true → ([] : SW) = [] ∧ True ∧ WrQ E q b (ByteArray.mk #[]) (2 : Int)) ∧ (decide ((↑b.size : Int) > (51 : Int)) = false → (([] :
      SW) = [] ∧ (0 : Int) ≤ q ∧ q ≤ (4294967295 : Int)) ∧ ∀ (y : PX), True ∧ True ∧ y.s (90000 : Nat) = wdT q → ((y.s (90000 : Nat)).size + (bytesN [IntKind.u8.wrap (↑b.size :
      Int)]).size).ble ((2 : Nat) ^ (62 : Nat)) = true ∧ ((y.s (90000 : Nat) ++ bytesN [IntKind.u8.wrap (↑b.size : Int)]).size + b.size).ble ((2 : Nat) ^ (62 : Nat)) = true ∧
      decide (IntKind.i64.wrap ((56 : Int) - (↑(y.s (90000 : Nat) ++ bytesN [IntKind.u8.wrap (↑b.size : Int)] ++ b).size : Int)) = IntKind.i64.wrap ((56 : Int) - (↑(y.s (90000 :
      Nat) ++ bytesN [IntKind.u8.wrap (↑b.size : Int)] ++ b).size : Int))) = true ∧ decide ((0 : Int) ≤ IntKind.i64.wrap ((56 : Int) - (↑(y.s (90000 : Nat) ++ bytesN
      [IntKind.u8.wrap (↑b.size : Int)] ++ b).size : Int))) = true ∧ decide (IntKind.i64.wrap ((56 : Int) - (↑(y.s (90000 : Nat) ++ bytesN [IntKind.u8.wrap (↑b.size : Int)] ++
      b).size : Int)) ≤ (1073741824 : Int)) = true ∧ decide ((1 : Nat) * (IntKind.i64.wrap ((56 : Int) - (↑(y.s (90000 : Nat) ++ bytesN [IntKind.u8.wrap (↑b.size : Int)] ++
      b).size : Int))).toNat ≤ (1099511627776 : Nat)) = true ∧ rowU8 (rRep [C.i true IntKind.u8 (0 : Int)] (IntKind.i64.wrap ((56 : Int) - (↑(y.s (90000 : Nat) ++ bytesN
      [IntKind.u8.wrap (↑b.size : Int)] ++ b).size : Int))).toNat) (IntKind.i64.wrap ((56 : Int) - (↑(y.s (90000 : Nat) ++ bytesN [IntKind.u8.wrap (↑b.size : Int)] ++ b).size :
      Int))).toNat = true ∧ ((y.s (90000 : Nat) ++ bytesN [IntKind.u8.wrap (↑b.size : Int)] ++ b).size + (rowT (rRep [C.i true IntKind.u8 (0 : Int)] (IntKind.i64.wrap ((56 :
      Int) - (↑(y.s (90000 : Nat) ++ bytesN [IntKind.u8.wrap (↑b.size : Int)] ++ b).size : Int))).toNat) (IntKind.i64.wrap ((56 : Int) - (↑(y.s (90000 : Nat) ++ bytesN
      [IntKind.u8.wrap (↑b.size : Int)] ++ b).size : Int))).toNat).size).ble ((2 : Nat) ^ (62 : Nat)) = true ∧ (([] : SW) = [] ∧ (GOK E ∧ HOK E) ∧ (y.s (90000 : Nat) ++ bytesN
      [IntKind.u8.wrap (↑b.size : Int)] ++ b ++ rowT (rRep [C.i true IntKind.u8 (0 : Int)] (IntKind.i64.wrap ((56 : Int) - (↑(y.s (90000 : Nat) ++ bytesN [IntKind.u8.wrap
      (↑b.size : Int)] ++ b).size : Int))).toNat) (IntKind.i64.wrap ((56 : Int) - (↑(y.s (90000 : Nat) ++ bytesN [IntKind.u8.wrap (↑b.size : Int)] ++ b).size :
      Int))).toNat).size ≤ (4611686018427387904 : Nat)) ∧ ∀ (y_1 : PX), True ∧ (((0 : Int) ≤ y_1.n (90000 : Nat) ∧ y_1.n (90000 : Nat) ≤ (4294967295 : Int)) ∧ True) ∧ y_1.n
      (90000 : Nat) = sumF E (y.s (90000 : Nat) ++ bytesN [IntKind.u8.wrap (↑b.size : Int)] ++ b ++ rowT (rRep [C.i true IntKind.u8 (0 : Int)] (IntKind.i64.wrap ((56 : Int) -
      (↑(y.s (90000 : Nat) ++ bytesN [IntKind.u8.wrap (↑b.size : Int)] ++ b).size : Int))).toNat) (IntKind.i64.wrap ((56 : Int) - (↑(y.s (90000 : Nat) ++ bytesN [IntKind.u8.wrap
      (↑b.size : Int)] ++ b).size : Int))).toNat) → (([] : SW) = [] ∧ (0 : Int) ≤ y_1.n (90000 : Nat) ∧ y_1.n (90000 : Nat) ≤ (4294967295 : Int)) ∧ ∀ (y_2 : PX), True ∧ True ∧
      y_2.s (90000 : Nat) = wdT (y_1.n (90000 : Nat)) → ((y.s (90000 : Nat) ++ bytesN [IntKind.u8.wrap (↑b.size : Int)] ++ b ++ rowT (rRep [C.i true IntKind.u8 (0 : Int)]
      (IntKind.i64.wrap ((56 : Int) - (↑(y.s (90000 : Nat) ++ bytesN [IntKind.u8.wrap (↑b.size : Int)] ++ b).size : Int))).toNat) (IntKind.i64.wrap ((56 : Int) - (↑(y.s (90000 :
      Nat) ++ bytesN [IntKind.u8.wrap (↑b.size : Int)] ++ b).size : Int))).toNat).size + (y_2.s (90000 : Nat)).size).ble ((2 : Nat) ^ (62 : Nat)) = true ∧ (([] : SW) = [] ∧ (0 :
      Int) ≤ q ∧ q ≤ (4294967295 : Int)) ∧ ∀ (y_3 : PX), True ∧ True ∧ y_3.s (90000 : Nat) = wdT q → ((y.s (90000 : Nat) ++ bytesN [IntKind.u8.wrap (↑b.size : Int)] ++ b ++ rowT
      (rRep [C.i true IntKind.u8 (0 : Int)] (IntKind.i64.wrap ((56 : Int) - (↑(y.s (90000 : Nat) ++ bytesN [IntKind.u8.wrap (↑b.size : Int)] ++ b).size : Int))).toNat)
      (IntKind.i64.wrap ((56 : Int) - (↑(y.s (90000 : Nat) ++ bytesN [IntKind.u8.wrap (↑b.size : Int)] ++ b).size : Int))).toNat ++ y_2.s (90000 : Nat)).size + (y_3.s (90000 :
      Nat)).size).ble ((2 : Nat) ^ (62 : Nat)) = true ∧ ([] : SW) = [] ∧ True ∧ WrQ E q b (y.s (90000 : Nat) ++ bytesN [IntKind.u8.wrap (↑b.size : Int)] ++ b ++ rowT (rRep [C.i
      true IntKind.u8 (0 : Int)] (IntKind.i64.wrap ((56 : Int) - (↑(y.s (90000 : Nat) ++ bytesN [IntKind.u8.wrap (↑b.size : Int)] ++ b).size : Int))).toNat) (IntKind.i64.wrap
      ((56 : Int) - (↑(y.s (90000 : Nat) ++ bytesN [IntKind.u8.wrap (↑b.size : Int)] ++ b).size : Int))).toNat ++ y_2.s (90000 : Nat) ++ y_3.s (90000 : Nat)) (0 : Int))) := by kernel_rfl
theorem rw_c (E : World) (q : Int) (b : ByteArray) (z : PX) (hz : rgM z [] 0) (hp : (fun _ => ((GOK E ∧ HOK E) ∧ b.size ≤ 4611686018427387904) ∧ 0 ≤ q ∧ q ≤ 4294967295) z) : HD (pe E) 11 [.c (.i false .u32 q), .c (.str false b)] [] [] (.t [.s, .i .i64]) (fun z y => WrQ E q b (y.s 90000) (y.n 90001)) z := by
  refine HD.mk (by rfl) (fnTree_sound (P := pe E) orcV_ok tab_ok tab_sz mixed 20000 Tryd.func11 (by decide) [.c (.i false .u32 q), .c (.str false b)] _) ⟨?_⟩
  rw [rw_p]
  obtain ⟨⟨⟨hG, hH⟩, hb⟩, hq⟩ := hp
  refine ⟨fun h => ⟨rfl, trivial, ⟨fun _ => ⟨rfl, rfl⟩, fun h' => ?_⟩⟩, fun h => ⟨⟨rfl, hq⟩, fun y hy => ?_⟩⟩
  · have h := of_decide_eq_true h; exfalso; omega
  have h := of_decide_eq_false h
  have hb51 : b.size ≤ 51 := by omega
  rw [hy.2.2]
  have s1 := wd_size q
  have s2 : (bytesN [IntKind.u8.wrap (b.size : Int)]).size = 1 := by rw [size_bytesN]; rfl
  have zT : (wdT q ++ bytesN [IntKind.u8.wrap (b.size : Int)] ++ b).size = 5 + b.size := by rw [ByteArray.size_append, ByteArray.size_append]; omega
  have p62 : (2 : Nat) ^ 62 = 4611686018427387904 := rfl
  have i1 : IntKind.i64.wrap (56 - ((wdT q ++ bytesN [IntKind.u8.wrap (b.size : Int)] ++ b).size : Int)) = ((51 - b.size : Nat) : Int) := by rw [zT, wi64]; omega
  have i2 : (((51 - b.size : Nat) : Int)).toNat = 51 - b.size := by omega
  have tZ := zrow_t (51 - b.size)
  have zZ : (rowT (rRep [C.i true IntKind.u8 0] (51 - b.size)) (51 - b.size)).size = 51 - b.size := by rw [size_txt, tZ, List.length_replicate]
  have hu := zrow_u8 (51 - b.size)
  have eT : wdT q ++ bytesN [IntKind.u8.wrap (b.size : Int)] ++ b ++ rowT (rRep [C.i true IntKind.u8 0] (51 - b.size)) (51 - b.size) = txT E q b := by
    refine txt_ext ?_
    rw [tx_txt E q b hb51, txt_append, txt_append, txt_append, tZ, txt_bytesN]
    have hs : IntKind.u8.wrap (b.size : Int) = (b.size : Int) := by rw [wu8]; omega
    simp only [List.map_cons, List.map_nil, hs, List.append_assoc]
    rfl
  have ht := tx_size E q b hb51
  rw [i1, i2, eT, zZ, ht]
  refine ⟨Nat.ble_eq_true_of_le (by omega), Nat.ble_eq_true_of_le (by rw [ByteArray.size_append]; omega), decide_eq_true rfl, decide_eq_true (by omega), decide_eq_true (by omega), decide_eq_true (by omega), hu, Nat.ble_eq_true_of_le (by omega), ⟨rfl, ⟨hG, hH⟩, by omega⟩, fun y1 hy1 => ⟨⟨rfl, hy1.2.1.1⟩, fun y2 hy2 => ?_⟩⟩
  rw [hy2.2.2, hy1.2.2]
  have s3 := wd_size (sumF E (txT E q b))
  refine ⟨Nat.ble_eq_true_of_le (by omega), ⟨rfl, hq⟩, fun y3 hy3 => ?_⟩
  rw [hy3.2.2]
  refine ⟨Nat.ble_eq_true_of_le (by rw [ByteArray.size_append]; omega), rfl, trivial, ⟨fun h' => by omega, fun _ => ⟨?_, rfl⟩⟩⟩
  rw [wrapT_eq]
  refine txt_ext ?_
  rw [txt_catB, txt_append, txt_append]
  simp only [List.map_cons, List.map_nil, List.flatten_cons, List.flatten_nil, List.append_nil, List.append_assoc]
noncomputable def orcW (E : World) : Orc := fun g vs s => match g with
  | 11 => (match frGo [] vs s (fun vs0 π s1 s0 => match vs0 with
      | [.c (.i l1 .u32 q), .c (.str l0 b)] => some (hdG (pre := fun _ => ((GOK E ∧ HOK E) ∧ b.size ≤ 4611686018427387904) ∧ 0 ≤ q ∧ q ≤ 4294967295) (fun z hz hp => HD.args (vs := [.c (.i l1 .u32 q), .c (.str l0 b)]) (by simp [simL, SV.sim, C.sim]) (rw_c E q b z hz hp)) (by rfl) π s1 s0)
      | [.c (.i l1 .u32 q), .c (.strn l0 b)] => some (hdG (pre := fun _ => ((GOK E ∧ HOK E) ∧ b.size ≤ 4611686018427387904) ∧ 0 ≤ q ∧ q ≤ 4294967295) (fun z hz hp => HD.args (vs := [.c (.i l1 .u32 q), .c (.strn l0 b)]) (by simp [simL, SV.sim, C.sim]) (rw_c E q b z hz hp)) (by rfl) π s1 s0)
      | _ => none) with
    | some t => some t
    | none => (orcV E) g vs s)
  | g => (orcV E) g vs s
theorem orcW_ok {E : World} : OrcOK (pe E) (orcW E) := by
  intro g vs s t h
  unfold orcW at h
  split at h
  · split at h
    · rename_i hfr; cases h
      obtain ⟨π, s1, hq, hK, hv, hok, hpd⟩ := frGo_spec (P := pe E) hfr
      split at hK
      · rename_i heq; cases hK
        rw [heq] at hv hok
        exact hpd _ _ (hdG_ok _ _ π s1 hq hv hok)
      · rename_i heq; cases hK
        rw [heq] at hv hok
        exact hpd _ _ (hdG_ok _ _ π s1 hq hv hok)
      · cases hK
    · exact orcV_ok _ _ _ _ h
  · exact orcV_ok _ _ _ _ h
end Go.Proofs.YtnfmkfmgaohpfaaDoor

