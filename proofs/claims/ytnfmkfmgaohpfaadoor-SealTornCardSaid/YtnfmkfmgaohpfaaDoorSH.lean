import Derived.Test.YtnfmkfmgaohpfaaDoorSG
import Derived.Test.YtnfmkfmgaohpfaaDoorEx
import Derived.Test.YtnfmkfmgaohpfaaDoorCards
import Derived.Test.YtnfmkfmgaohpfaaDoorTie
import Derived.ChangeSame
import Derived.ChangeVars
import Derived.JoinedOf
import Derived.RowKit
import Derived.LaidLaws
import Derived.LaidHandle
import Derived.Lay
import Derived.Lib.LaidU8
import Derived.SevenTiedAt
import Derived.Handed
/- The laws: each called with whatever input answers true, and each argument reads behind the call as it read before; the cards: their listed variables tied. -/
set_option linter.unusedVariables false
set_option linter.unusedSimpArgs false
namespace Go.Proofs.YtnfmkfmgaohpfaaDoor
open Go Go.Proofs Go.Proofs.YtnfmkfmgaohpfaaDoor.Ev Go.Proofs.YtnfmkfmgaohpfaaDoor.Ev.Ho Go.ChangeShapes Go.WideShapes Go.ChangeAt Go.RowKit
set_option maxRecDepth 100000
theorem own : ownKnob Tryd.prog.godebug = none := by kernel_rfl
theorem types_ok : TypesOK Tryd.prog := ⟨by kernel_rfl, by kernel_rfl, slices_full_of Tryd.prog (by kernel_rfl)⟩
noncomputable abbrev laidL : List (String × DataW Unit) := Rows.sealTornRow.laid
noncomputable def laidW (os : Os) : World := World.laidAll Tryd.prog os laidL
theorem laidW_met (os : Os) (args : Array Value) : laidMetH Tryd.prog laidL ((laidW os).forCall (fun _ _ => 0) ⟨#[], args, []⟩).memory := by
  rw [MakeChecks.laidMetH_plain _ _ _ (by kernel_rfl)]; exact laidMet_laidAll _ (by kernel_rfl) (by kernel_rfl)
noncomputable def hbT : List Int := [0, 498536548, 997073096, 651767980, 1994146192, 1802195444, 1303535960, 1342533948, 3988292384, 4027552580, 3604390888, 3412177804, 2607071920, 2262029012, 2685067896, 3183342108]
theorem hb_reads {W : World} (hL : laidMetH Tryd.prog laidL W) : ∀ i : Nat, i < 16 → W.cell? ⟨0, i, none⟩ = some (.int .u32 (hbT.getD i 0)) := by
  rw [MakeChecks.laidMetH_plain _ _ _ (by kernel_rfl)] at hL
  obtain ⟨g, t, cs, fuel, p, hg, hty, hvar, hd⟩ := Lib.laidMet.reads hL (n := "cameo/seal.halfByte") (d := Lib.tabData .u32 hbT) (List.mem_cons_of_mem _ (List.mem_cons_self ..))
  have hgn : Tryd.prog.globalNamed "cameo/seal.halfByte" = some 0 := by kernel_rfl
  have hgt : (Tryd.prog.globals[0]?).map (·.type) = some 62 := by kernel_rfl
  obtain rfl := Option.some.inj (hgn.symm.trans hg)
  obtain rfl := Option.some.inj (hgt.symm.trans hty)
  have hcs := Lib.cells_of_tab Tryd.underlying62 Tryd.underlying22 (by kernel_rfl) (by kernel_rfl) hd
  intro i hi
  have := World.var?_cell hg hvar i
  rw [this, ← Array.getElem?_toList, hcs]
  have hl : hbT.length = 16 := rfl
  simp [List.getD, hl, hi]
theorem gok_of_laid {W : World} (hL : laidMetH Tryd.prog laidL W) : GOK W := by
  refine ⟨fun i hi => okE_eOk (a := ⟨0, 0, none⟩) (k := .i .u32) (v := .int .u32 (hbT.getD i 0)) ?_ ?_⟩
  · have : ∀ i : Nat, i < 16 → okE (.i .u32) (.int .u32 (hbT.getD i 0)) = true := by decide
    exact this i hi
  · have := hb_reads hL i hi
    have e : (Addr.mk 0 0 none).add i = ⟨0, i, none⟩ := by cases i <;> simp [Addr.add]
    rw [e]; exact this
theorem sealTorn_lifted (os : Os) (started : os.Started) (H : Type) (enc : TypeId × Value → H) :
    ReturnsInHanded {} Tryd.checked os 6 .any (fun w args => (Rows.sealTornSpec.pre enc Tryd.prog Tryd.f6 [] false w args ∧ laidMetH Tryd.prog laidL w) ∧ sizedMet enc Tryd.prog Tryd.f6 (OpenSpec.ofChange Rows.sealTornSpec) false w args)
      (Rows.sealTornSpec.post enc Tryd.prog Tryd.f6 false true false false) := by
  refine returnsInHanded_of_change_and (C := Tryd.checked) (X := fun w _ => laidMetH Tryd.prog laidL w) (fun _ _ _ hh h => h.of_heap hh) own started (by kernel_rfl) Tryd.func6
    (ChangeSpec.witness_at (enc := enc) (C := Tryd.checked) (os := os) (X := fun w _ => laidMetH Tryd.prog laidL w) false (laidW os) #[.agg #[.int .u32 0, .int .i64 0, .int .i64 0, .string .empty], .agg #[.int .u32 0, .int .i64 0, .int .i64 0, .string .empty], .int .i64 0] 8 (World.laidAll_os _ _ _) (by kernel_rfl) (by kernel_rfl) (by kernel_rfl) (by kernel_rfl) (by kernel_rfl) (laidW_met os _)) ?_
  intro W base args ds gs before hval0 hW _ _ hL _
  have hval : ∀ (j : Nat) t v, Tryd.f6.params[j]? = some t → args[j]? = some v → Value.okWide Tryd.prog W .any base t v := hval0
  have hW' := hW
  obtain ⟨p, q, hA0, hV, rfl, hfz, hnd⟩ := hW
  have hA : DataW.TrodAll enc Tryd.prog W 0 (fun _ => true) true Tryd.f6.params.toList args.toList ds p := hA0
  rw [Tryd.params6] at hA hval
  obtain ⟨v0, vs0, d0, ds0, p0, q0, hargs, rfl, rfl, h0, r0⟩ := trodAll_cons hA
  obtain ⟨v1, vs1, d1, ds1, p1, q1, rfl, rfl, rfl, h1, r1⟩ := trodAll_cons r0
  obtain ⟨v2, vs2, d2, ds2, p2, q2, rfl, rfl, rfl, h2, r2⟩ := trodAll_cons r1
  obtain ⟨rfl, rfl, rfl⟩ := trodAll_nil r2
  obtain rfl : args = #[v0, v1, v2] := by cases args; simp_all
  obtain ⟨rfl, rfl⟩ := trodVars_none hV
  obtain ⟨cs0, rfl, hf0⟩ := deep_open (ks := [.i .u32, .i .i64, .i .i64, .s]) Tryd.underlying48 (by kernel_rfl) (hval 0 48 v0 rfl rfl) h0
  obtain ⟨x0_0, cs0_1, rfl, w0_0, hf0_1⟩ := hf0.cons_i
  have b0_0 := bounds_u32 w0_0
  obtain ⟨x0_1, cs0_2, rfl, w0_1, hf0_2⟩ := hf0_1.cons_i
  have b0_1 := bounds_i64 w0_1
  obtain ⟨x0_2, cs0_3, rfl, w0_2, hf0_3⟩ := hf0_2.cons_i
  have b0_2 := bounds_i64 w0_2
  obtain ⟨x0_3, cs0_4, rfl, hf0_4⟩ := hf0_3.cons_s
  obtain rfl := hf0_4.nil
  obtain ⟨cs1, rfl, hf1⟩ := deep_open (ks := [.i .u32, .i .i64, .i .i64, .s]) Tryd.underlying48 (by kernel_rfl) (hval 1 48 v1 rfl rfl) h1
  obtain ⟨x1_0, cs1_1, rfl, w1_0, hf1_1⟩ := hf1.cons_i
  have b1_0 := bounds_u32 w1_0
  obtain ⟨x1_1, cs1_2, rfl, w1_1, hf1_2⟩ := hf1_1.cons_i
  have b1_1 := bounds_i64 w1_1
  obtain ⟨x1_2, cs1_3, rfl, w1_2, hf1_3⟩ := hf1_2.cons_i
  have b1_2 := bounds_i64 w1_2
  obtain ⟨x1_3, cs1_4, rfl, hf1_4⟩ := hf1_3.cons_s
  obtain rfl := hf1_4.nil
  obtain ⟨a2, rfl, rfl, rfl, w2⟩ := open_int Tryd.underlying3 (hval 2 3 v2 rfl rfl) h2
  have b2 := bounds_i64 w2
  have hG := gok_of_laid hL
  refine (HD.law (P := pe W) (torn_c W x0_0 x0_1 x0_2 x0_3 x1_0 x1_1 x1_2 x1_3 a2 default trivial ⟨hG, ⟨by omega, by omega⟩, by omega, by omega⟩) (by simp [SV.ok, C.ok, okL]) _ rfl W rfl).mono fun e W' ⟨he, hg⟩ => ?_
  subst he
  exact ⟨_, rfl, law_post hW' rfl types_ok (by decide) rfl Tryd.underlying4 rfl rfl rfl hg⟩
theorem sealTorn_holds : Rows.SealTornSaid :=
  OpenClaim.holds_of_wide 6 Tryd.f6 rfl rfl rfl rfl rfl rfl rfl ⟨rfl, rfl, rfl, rfl, rfl⟩ rfl rfl rfl rfl rfl (by kernel_rfl) Tryd.func6 (by kernel_rfl)
    (of_decide_eq_true (by kernel_rfl)) (by unfold Func.isWrapper; first | (rw [if_pos (by decide +kernel)]; kernel_rfl) | (rw [if_neg (by decide +kernel)]; exact ⟨rfl, rfl⟩))
    (fun os started H enc _ => sealTorn_lifted os started H enc)
theorem sealTorn_card : Rows.SealTornCardSaid :=
  Claim7.holds_tied_plain_at .later [] [.data, .data, .pinned] true (true, "3c7969f3abe3668e93ff0c291ccfbdbbeb67ec40927dafd48e166d6803dcf988") false
    sealTorn_holds (fun _ h => by cases h) (by kernel_rfl) (fun _ h => by cases h) sealTorn_row_tie rfl ⟨rfl, rfl⟩ (by kernel_rfl) rfl
    (fun f fn hf hfn => by
      obtain rfl : f = 6 := Option.some.inj ((show Tryd.prog.funcNamed "cameo/cameolaw02.SealTorn" = some 6 by kernel_rfl).symm.trans hf) |>.symm
      obtain rfl : fn = Tryd.f6 := (Option.some.inj (Tryd.func6.symm.trans hfn)).symm
      refine ⟨by kernel_rfl, fun j t ht => ?_⟩
      rw [Tryd.params6] at ht
      match j, ht with
      | 0, ht => (obtain rfl : 48 = t := Option.some.inj ht; exact (show Tryd.prog.wantsStandIn 48 = false by kernel_rfl))
      | 1, ht => (obtain rfl : 48 = t := Option.some.inj ht; exact (show Tryd.prog.wantsStandIn 48 = false by kernel_rfl))
      | 2, ht => (obtain rfl : 3 = t := Option.some.inj ht; exact (show Tryd.prog.wantsStandIn 3 = false by kernel_rfl))
      | j + 3, ht => (simp at ht))
    (by kernel_rfl)
end Go.Proofs.YtnfmkfmgaohpfaaDoor

