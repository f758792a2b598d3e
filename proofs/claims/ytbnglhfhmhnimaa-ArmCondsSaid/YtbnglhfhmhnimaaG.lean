import Derived.Test.YtbnglhfhmhnimaaD
set_option linter.unusedVariables false
set_option linter.unusedSimpArgs false
namespace Go.Proofs.Ytbnglhfhmhnimaa
open Go Go.Proofs Go.Proofs.Ytbnglhfhmhnimaa.Ev
theorem mk_eq (g : Nat → C) : mkCells ks g 0 = [.i false .i64 (intC (g 0)), .i false .i64 (intC (g 1)), .i false .i64 (intC (g 2)), .b false (boolC (g 3)), .i false .i64 (intC (g 4)), .i false .i64 (intC (g 5)), .i false .i64 (intC (g 6)), .i false .i64 (intC (g 7)), .i false .u32 (intC (g 8)), .b false (boolC (g 9)), .i false .i64 (intC (g 10)), .i false .i64 (intC (g 11)), .b false (boolC (g 12)), .b false (boolC (g 13)), .b false (boolC (g 14)), .b false (boolC (g 15)), .b false (boolC (g 16)), .b false (boolC (g 17)), .b false (boolC (g 18)), .b false (boolC (g 19)), .i false .i64 (intC (g 20)), .b false (boolC (g 21)), .b false (boolC (g 22)), .b false (boolC (g 23))] := rfl
noncomputable def gI (E : World) (m : Int) (j : Nat) : Int := intC ((pick (TT E m)).getD j dflt)
noncomputable def gB (E : World) (m : Int) (j : Nat) : Bool := boolC ((pick (TT E m)).getD j dflt)
theorem con_of (E : World) (v : List C) (g : Nat → C) (h : v = mkCells ks g 0) (T : Tree (SV × SW)) (hc : conP (.a (mkCells ks g 0)) T) : Holds (conP (.a v) T) := ⟨h ▸ hc⟩
def vv (gi : Int → Nat → Int) (gb : Int → Nat → Bool) (m : Int) : List C := [.i false .i64 (gi m 0), .i false .i64 (gi m 1), .i false .i64 (gi m 2), .b false (gb m 3), .i false .i64 (gi m 4), .i false .i64 (gi m 5), .i false .i64 (gi m 6), .i false .i64 (gi m 7), .i false .u32 (gi m 8), .b false (gb m 9), .i false .i64 (gi m 10), .i false .i64 (gi m 11), .b false (gb m 12), .b false (gb m 13), .b false (gb m 14), .b false (gb m 15), .b false (gb m 16), .b false (gb m 17), .b false (gb m 18), .b false (gb m 19), .i false .i64 (gi m 20), .b false (gb m 21), .b false (gb m 22), .b false (gb m 23)]
theorem apart_h (E : World) (w : Int) : Holds (conP (.a (vv (gI E) (gB E) (w % 268435456))) (TT E w)) :=
  con_of E _ (fun j => (pick (TT E (w % 268435456))).getD j dflt) (mk_eq _).symm _ (par_con _ _ (par_ok E w) (shape_ok E (w % 268435456)))
set_option maxRecDepth 100000 in
theorem apart_c (E : World) (l1 : Bool) (w : Int) (s : SW) : CallTree (pe E) 10 [.c (.i l1 .u32 w)] s (.leaf (.a (vv (gI E) (gB E) (w % 268435456)), s)) := by
  refine CallTree.args (vs' := [.c (.i false .u32 w)]) ⟨rfl, rfl⟩ ?_
  exact pure_contractH (fnTree_sound (P := pe E) orcNone_ok tab_ok tab_sz mixed 20000 Try.func10 (by decide) [.c (.i false .u32 w)] []) (by simp [SV.ok, C.ok, okL]) (v := .a (vv (gI E) (gB E) (w % 268435456))) rfl (apart_h E w) s
def orcX (gi : Int → Nat → Int) (gb : Int → Nat → Bool) (E : World) : Orc := fun g vs s => match g, vs with
  | 10, [.c (.i _ .u32 w)] => some (.leaf (.a (vv gi gb (w % 268435456)), s))
  | g, vs => orcA E g vs s
noncomputable def orcC (E : World) : Orc := orcX (gI E) (gB E) E
theorem orcC_ok {E : World} : OrcOK (pe E) (orcC E) := by
  intro g vs s t h
  unfold orcC orcX at h
  split at h
  · cases h
    exact apart_c E _ _ s
  · exact orcA_ok _ _ _ _ h
end Go.Proofs.Ytbnglhfhmhnimaa

