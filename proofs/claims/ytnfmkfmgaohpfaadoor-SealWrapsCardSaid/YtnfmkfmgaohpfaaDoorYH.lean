import Derived.Test.YtnfmkfmgaohpfaaDoorSY
import Derived.Test.YtnfmkfmgaohpfaaDoorEx
import Derived.Test.YtnfmkfmgaohpfaaDoorCards
import Derived.Test.YtnfmkfmgaohpfaaDoorTie
import Derived.ChangeSame
import Derived.ChangeVars
import Derived.JoinedOf
import Derived.RowKit
import Derived.LaidLaws
import Derived.LaidHandle
import Derived.Lay
import Derived.Lib.LaidU8
import Derived.SevenTiedAt
import Derived.Handed
/- The laws: each called with whatever input answers true, and each argument reads behind the call as it read before; the cards: their listed variables tied. -/
set_option linter.unusedVariables false
set_option linter.unusedSimpArgs false
namespace Go.Proofs.YtnfmkfmgaohpfaaDoor
open Go Go.Proofs Go.Proofs.YtnfmkfmgaohpfaaDoor.Ev Go.Proofs.YtnfmkfmgaohpfaaDoor.Ev.Ho Go.ChangeShapes Go.WideShapes Go.ChangeAt Go.RowKit
set_option maxRecDepth 100000
theorem own : ownKnob Tryd.prog.godebug = none := by kernel_rfl
theorem types_ok : TypesOK Tryd.prog := ⟨by kernel_rfl, by kernel_rfl, slices_full_of Tryd.prog (by kernel_rfl)⟩
noncomputable abbrev laidL : List (String × DataW Unit) := Rows.sealWrapsRow.laid
noncomputable def laidW (os : Os) : World := World.laidAll Tryd.prog os laidL
theorem laidW_met (os : Os) (args : Array Value) : laidMetH Tryd.prog laidL ((laidW os).forCall (fun _ _ => 0) ⟨#[], args, []⟩).memory := by
  rw [MakeChecks.laidMetH_plain _ _ _ (by kernel_rfl)]; exact laidMet_laidAll _ (by kernel_rfl) (by kernel_rfl)
theorem weights_at {H : Type} {P : Program} : ∀ (ts : List TypeId) (ds : List (DataW H)) (i : Nat) (t : TypeId) (d : DataW H), ts[i]? = some t → ds[i]? = some d → ∀ x ∈ d.weights P t, x ∈ DataW.weightsEach P ts ds
  | [], _, _, _, _, h, _, _, _ => by simp at h
  | _ :: _, [], _, _, _, _, h, _, _ => by simp at h
  | t' :: ts, d' :: ds, 0, t, d, h, h', x, hx => by
    simp only [List.getElem?_cons_zero, Option.some.injEq] at h h'
    subst h; subst h'
    simp only [DataW.weightsEach]
    exact List.mem_append_left _ hx
  | t' :: ts, d' :: ds, i + 1, t, d, h, h', x, hx => by
    simp only [List.getElem?_cons_succ] at h h'
    simp only [DataW.weightsEach]
    exact List.mem_append_right _ (weights_at ts ds i t d h h' x hx)
theorem str_small {H : Type} {P : Program} {ts : List TypeId} {ds : List (DataW H)} (h : (DataW.weightsEach P ts ds).all (· ≤ reachBytes) = true) (i : Nat) (t : TypeId) (s : ByteArray) (ht : ts[i]? = some t) (hd : ds[i]? = some (.lit (.string s.data.toList))) : s.size ≤ 140737488351232 := by
  have := of_decide_eq_true (List.all_eq_true.1 h _ (weights_at ts ds i t _ ht hd s.data.toList.length (by simp [DataW.weights])))
  have e : s.data.toList.length = s.size := by rw [Array.length_toList]; rfl
  have r : reachBytes = 140737488351232 := rfl
  omega
noncomputable def hbT : List Int := [0, 498536548, 997073096, 651767980, 1994146192, 1802195444, 1303535960, 1342533948, 3988292384, 4027552580, 3604390888, 3412177804, 2607071920, 2262029012, 2685067896, 3183342108]
theorem hb_reads {W : World} (hL : laidMetH Tryd.prog laidL W) : ∀ i : Nat, i < 16 → W.cell? ⟨0, i, none⟩ = some (.int .u32 (hbT.getD i 0)) := by
  rw [MakeChecks.laidMetH_plain _ _ _ (by kernel_rfl)] at hL
  obtain ⟨g, t, cs, fuel, p, hg, hty, hvar, hd⟩ := Lib.laidMet.reads hL (n := "cameo/seal.halfByte") (d := Lib.tabData .u32 hbT) (List.mem_cons_of_mem _ (List.mem_cons_self ..))
  have hgn : Tryd.prog.globalNamed "cameo/seal.halfByte" = some 0 := by kernel_rfl
  have hgt : (Tryd.prog.globals[0]?).map (·.type) = some 62 := by kernel_rfl
  obtain rfl := Option.some.inj (hgn.symm.trans hg)
  obtain rfl := Option.some.inj (hgt.symm.trans hty)
  have hcs := Lib.cells_of_tab Tryd.underlying62 Tryd.underlying22 (by kernel_rfl) (by kernel_rfl) hd
  intro i hi
  have := World.var?_cell hg hvar i
  rw [this, ← Array.getElem?_toList, hcs]
  have hl : hbT.length = 16 := rfl
  simp [List.getD, hl, hi]
theorem gok_of_laid {W : World} (hL : laidMetH Tryd.prog laidL W) : GOK W := by
  refine ⟨fun i hi => okE_eOk (a := ⟨0, 0, none⟩) (k := .i .u32) (v := .int .u32 (hbT.getD i 0)) ?_ ?_⟩
  · have : ∀ i : Nat, i < 16 → okE (.i .u32) (.int .u32 (hbT.getD i 0)) = true := by decide
    exact this i hi
  · have := hb_reads hL i hi
    have e : (Addr.mk 0 0 none).add i = ⟨0, i, none⟩ := by cases i <;> simp [Addr.add]
    rw [e]; exact this
theorem hok_of_laid {W : World} (hL : laidMetH Tryd.prog laidL W) : HOK W := by
  refine ⟨fun i hi => ?_⟩
  have h := hb_reads hL i hi
  have e : (Addr.mk 0 0 none).add (i * 1 + 0) = ⟨0, i, none⟩ := by rw [Nat.mul_one, Nat.add_zero]; cases i <;> simp [Addr.add]
  have k : ∀ i : Nat, i < 16 → hbT.getD i 0 = ((hbN.getD i 0 : Nat) : Int) := by decide
  rw [← k i hi]
  unfold eI eCell
  simp only []
  rw [e, h]
theorem sealWraps_lifted (os : Os) (started : os.Started) (H : Type) (enc : TypeId × Value → H) :
    ReturnsInHanded {} Tryd.checked os 3 .any (fun w args => (Rows.sealWrapsSpec.pre enc Tryd.prog Tryd.f3 [] false w args ∧ laidMetH Tryd.prog laidL w) ∧ sizedMet enc Tryd.prog Tryd.f3 (OpenSpec.ofChange Rows.sealWrapsSpec) false w args)
      (Rows.sealWrapsSpec.post enc Tryd.prog Tryd.f3 false true false false) := by
  refine returnsInHanded_of_change_and (C := Tryd.checked) (X := fun w _ => laidMetH Tryd.prog laidL w) (fun _ _ _ hh h => h.of_heap hh) own started (by kernel_rfl) Tryd.func3
    (ChangeSpec.witness_at (enc := enc) (C := Tryd.checked) (os := os) (X := fun w _ => laidMetH Tryd.prog laidL w) false (laidW os) #[.int .u32 0, .string .empty, .string .empty] 8 (World.laidAll_os _ _ _) (by kernel_rfl) (by kernel_rfl) (by kernel_rfl) (by kernel_rfl) (by kernel_rfl) (laidW_met os _)) ?_
  intro W base args ds gs before hval0 hW _ hZ hL _
  have hval : ∀ (j : Nat) t v, Tryd.f3.params[j]? = some t → args[j]? = some v → Value.okWide Tryd.prog W .any base t v := hval0
  have hW' := hW
  obtain ⟨p, q, hA0, hV, rfl, hfz, hnd⟩ := hW
  have hA : DataW.TrodAll enc Tryd.prog W 0 (fun _ => true) true Tryd.f3.params.toList args.toList ds p := hA0
  rw [Tryd.params3] at hA hval
  obtain ⟨v0, vs0, d0, ds0, p0, q0, hargs, rfl, rfl, h0, r0⟩ := trodAll_cons hA
  obtain ⟨v1, vs1, d1, ds1, p1, q1, rfl, rfl, rfl, h1, r1⟩ := trodAll_cons r0
  obtain ⟨v2, vs2, d2, ds2, p2, q2, rfl, rfl, rfl, h2, r2⟩ := trodAll_cons r1
  obtain ⟨rfl, rfl, rfl⟩ := trodAll_nil r2
  obtain rfl : args = #[v0, v1, v2] := by cases args; simp_all
  obtain ⟨rfl, rfl⟩ := trodVars_none hV
  obtain ⟨a0, rfl, rfl, rfl, w0⟩ := open_int Tryd.underlying22 (hval 0 22 v0 rfl rfl) h0
  have b0 := bounds_u32 w0
  obtain ⟨a1, rfl, rfl, rfl, w1⟩ := open_string Tryd.underlying9 (hval 1 9 v1 rfl rfl) h1
  obtain ⟨a2, rfl, rfl, rfl, w2⟩ := open_string Tryd.underlying9 (hval 2 9 v2 rfl rfl) h2
  have z1 := str_small hZ 1 9 a1 (by kernel_rfl) rfl
  have z2 := str_small hZ 2 9 a2 (by kernel_rfl) rfl
  have hG := gok_of_laid hL
  refine (HD.law (P := pe W) (wl_c W a0 a1 a2 default trivial ⟨⟨⟨⟨hG, hok_of_laid hL⟩, by omega⟩, by omega⟩, by omega, by omega⟩) (by simp [SV.ok, C.ok, okL]) _ rfl W rfl).mono fun e W' ⟨he, hg⟩ => ?_
  subst he
  exact ⟨_, rfl, law_post hW' rfl types_ok (by decide) rfl Tryd.underlying4 rfl rfl rfl hg⟩
theorem sealWraps_holds : Rows.SealWrapsSaid :=
  OpenClaim.holds_of_wide 3 Tryd.f3 rfl rfl rfl rfl rfl rfl rfl ⟨rfl, rfl, rfl, rfl, rfl⟩ rfl rfl rfl rfl rfl (by kernel_rfl) Tryd.func3 (by kernel_rfl)
    (of_decide_eq_true (by kernel_rfl)) (by unfold Func.isWrapper; first | (rw [if_pos (by decide +kernel)]; kernel_rfl) | (rw [if_neg (by decide +kernel)]; exact ⟨rfl, rfl⟩))
    (fun os started H enc _ => sealWraps_lifted os started H enc)
theorem sealWraps_card : Rows.SealWrapsCardSaid :=
  Claim7.holds_tied_plain_at .later [] [.data, .data, .pinned] true (true, "3c7969f3abe3668e93ff0c291ccfbdbbeb67ec40927dafd48e166d6803dcf988") false
    sealWraps_holds (fun _ h => by cases h) (by kernel_rfl) (fun _ h => by cases h) sealWraps_row_tie rfl ⟨rfl, rfl⟩ (by kernel_rfl) rfl
    (fun f fn hf hfn => by
      obtain rfl : f = 3 := Option.some.inj ((show Tryd.prog.funcNamed "cameo/cameolaw02.SealWraps" = some 3 by kernel_rfl).symm.trans hf) |>.symm
      obtain rfl : fn = Tryd.f3 := (Option.some.inj (Tryd.func3.symm.trans hfn)).symm
      refine ⟨by kernel_rfl, fun j t ht => ?_⟩
      rw [Tryd.params3] at ht
      match j, ht with
      | 0, ht => (obtain rfl : 22 = t := Option.some.inj ht; exact (show Tryd.prog.wantsStandIn 22 = false by kernel_rfl))
      | 1, ht => (obtain rfl : 9 = t := Option.some.inj ht; exact (show Tryd.prog.wantsStandIn 9 = false by kernel_rfl))
      | 2, ht => (obtain rfl : 9 = t := Option.some.inj ht; exact (show Tryd.prog.wantsStandIn 9 = false by kernel_rfl))
      | j + 3, ht => (simp at ht))
    (by kernel_rfl)
end Go.Proofs.YtnfmkfmgaohpfaaDoor

