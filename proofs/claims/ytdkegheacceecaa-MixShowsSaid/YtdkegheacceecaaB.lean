import Derived.Test.YtdkegheacceecaaH
import Derived.Test.YtdkegheacceecaaEx
set_option linter.unusedVariables false
set_option linter.unusedSimpArgs false
namespace Go.Proofs.Ytdkegheacceecaa
open Go Go.Proofs Go.Proofs.Ytdkegheacceecaa.Ev Go.Proofs.Ytdkegheacceecaa.Ev.Ho
set_option maxRecDepth 100000

def palB : Bl := ⟨[.i true .u8 52, .i true .u8 18], 5⟩
def scB : Bl := ⟨[.i true .u16 0, .i true .u16 0, .i true .u16 0, .i true .u16 0, .i true .u16 0, .i true .u16 0, .i true .u16 0, .i true .u16 0, .i true .u16 0, .i true .u16 0, .i true .u16 0, .i true .u16 0, .i true .u16 0, .i true .i16 0, .i true .i16 0, .i true .i16 0, .i true .i16 0, .i true .i16 0, .i true .i16 0, .i true .i16 0, .i true .i16 0, .i true .i32 0, .i true .i32 0, .i true .i32 0, .i true .i32 0, .i true .u16 0, .x (Value.slice none 0 0), .slc 0 0 2 2, .x (Value.slice none 0 0)], 31⟩
def rgB : Bl := ⟨[.i true .u16 0, .i true .u16 0, .i true .u16 0, .i true .u16 0, .i true .u16 0, .i true .u16 0, .i true .u16 0, .i true .u16 0, .i true .u16 0], 34⟩
def layB : Bl := ⟨[.p 10 0, .i true .u16 0, .i true .i64 5] ++ (List.replicate 240 [C.i true .u16 32768, C.i true .i64 0, C.b true false]).flatten ++ List.replicate 240 (C.b true false) ++ List.replicate 960 (C.i true .u16 0) ++ [.x (Value.slice none 0 0), .i true .i64 0, .i true .i64 0, .i true .i64 0, .i true .i64 0, .i true .u16 4660, .i true .i64 5, .b true false], 105⟩
noncomputable def m9 : List MB := [.f palB, .f scB, .g 78, .g 78, .g 78, .g 78, .g 78, .g 78, .g 78, .g 78, .f rgB]
noncomputable def u240 : List Sp := List.replicate 240 (.i .u16)
noncomputable def mH : List MB := [.f palB, .f scB, .f ⟨[], 78⟩, .f ⟨[], 78⟩, .f ⟨[], 78⟩, .f ⟨[], 78⟩, .f ⟨[], 78⟩, .f ⟨[], 78⟩, .f ⟨[], 78⟩, .f ⟨[], 78⟩, .f rgB] ++ [.o u240 36, .o u240 36, .f layB]
theorem selI_rep (c : Int) (n : Nat) (i : Int) (h0 : 0 ≤ i) (h1 : i < n) : selI (List.replicate n c) i = c := by
  have h := selI_spec (List.replicate n c) i h0 (by simpa using h1)
  rw [List.getElem?_replicate, if_pos (by omega)] at h
  exact (Option.some.inj h).symm
theorem pix_p (E : World)  (z : PX) (x : Int) :
    (hoPrW true [false] mH [] (.c (.i .u16)) (fun _ y => y.n 90000 = 4660) z (fnTree (pe E) (orcNone) (tabL fns) 20000 Try.f23 [.c (.p 13 0), .c (.i false .i64 x)] (mkM z [] mH 0))) =
    (inB x (240 : Nat) = true ∧ inB x (240 : Nat) = true ∧ (bif selI [(32768 : Int), (32768 : Int), (32768 : Int), (32768 : Int), (32768 : Int), (32768 : Int), (32768 : Int),
      (32768 : Int), (32768 : Int), (32768 : Int), (32768 : Int), (32768 : Int), (32768 : Int), (32768 : Int), (32768 : Int), (32768 : Int), (32768 : Int), (32768 : Int), (32768
      : Int), (32768 : Int), (32768 : Int), (32768 : Int), (32768 : Int), (32768 : Int), (32768 : Int), (32768 : Int), (32768 : Int), (32768 : Int), (32768 : Int), (32768 :
      Int), (32768 : Int), (32768 : Int), (32768 : Int), (32768 : Int), (32768 : Int), (32768 : Int), (32768 : Int), (32768 : Int), (32768 : Int), (32768 : Int), (32768 : Int),
      (32768 : Int), (32768 : Int), (32768 : Int), (32768 : Int), (32768 : Int), (32768 : Int), (32768 : Int), (32768 : Int), (32768 : Int), (32768 : Int), (32768 : Int), (32768
      : Int), (32768 : Int), (32768 : Int), (32768 : Int), (32768 : Int), (32768 : Int), (32768 : Int), (32768 : Int), (32768 : Int), (32768 : Int), (32768 : Int), (32768 :
      Int), (32768 : Int), (32768 : Int), (32768 : Int), (32768 : Int), (32768 : Int), (32768 : Int), (32768 : Int), (32768 : Int), (32768 : Int), (32768 : Int), (32768 : Int),
      (32768 : Int), (32768 : Int), (32768 : Int), (32768 : Int), (32768 : Int), (32768 : Int), (32768 : Int), (32768 : Int), (32768 : Int), (32768 : Int), (32768 : Int), (32768
      : Int), (32768 : Int), (32768 : Int), (32768 : Int), (32768 : Int), (32768 : Int), (32768 : Int), (32768 : Int), (32768 : Int), (32768 : Int), (32768 : Int), (32768 :
      Int), (32768 : Int), (32768 : Int), (32768 : Int), (32768 : Int), (32768 : Int), (32768 : Int), (32768 : Int), (32768 : Int), (32768 : Int), (32768 : Int), (32768 : Int),
      (32768 : Int), (32768 : Int), (32768 : Int), (32768 : Int), (32768 : Int), (32768 : Int), (32768 : Int), (32768 : Int), (32768 : Int), (32768 : Int), (32768 : Int), (32768
      : Int), (32768 : Int), (32768 : Int), (32768 : Int), (32768 : Int), (32768 : Int), (32768 : Int), (32768 : Int), (32768 : Int), (32768 : Int), (32768 : Int), (32768 :
      Int), (32768 : Int), (32768 : Int), (32768 : Int), (32768 : Int), (32768 : Int), (32768 : Int), (32768 : Int), (32768 : Int), (32768 : Int), (32768 : Int), (32768 : Int),
      (32768 : Int), (32768 : Int), (32768 : Int), (32768 : Int), (32768 : Int), (32768 : Int), (32768 : Int), (32768 : Int), (32768 : Int), (32768 : Int), (32768 : Int), (32768
      : Int), (32768 : Int), (32768 : Int), (32768 : Int), (32768 : Int), (32768 : Int), (32768 : Int), (32768 : Int), (32768 : Int), (32768 : Int), (32768 : Int), (32768 :
      Int), (32768 : Int), (32768 : Int), (32768 : Int), (32768 : Int), (32768 : Int), (32768 : Int), (32768 : Int), (32768 : Int), (32768 : Int), (32768 : Int), (32768 : Int),
      (32768 : Int), (32768 : Int), (32768 : Int), (32768 : Int), (32768 : Int), (32768 : Int), (32768 : Int), (32768 : Int), (32768 : Int), (32768 : Int), (32768 : Int), (32768
      : Int), (32768 : Int), (32768 : Int), (32768 : Int), (32768 : Int), (32768 : Int), (32768 : Int), (32768 : Int), (32768 : Int), (32768 : Int), (32768 : Int), (32768 :
      Int), (32768 : Int), (32768 : Int), (32768 : Int), (32768 : Int), (32768 : Int), (32768 : Int), (32768 : Int), (32768 : Int), (32768 : Int), (32768 : Int), (32768 : Int),
      (32768 : Int), (32768 : Int), (32768 : Int), (32768 : Int), (32768 : Int), (32768 : Int), (32768 : Int), (32768 : Int), (32768 : Int), (32768 : Int), (32768 : Int), (32768
      : Int), (32768 : Int), (32768 : Int), (32768 : Int), (32768 : Int), (32768 : Int), (32768 : Int), (32768 : Int), (32768 : Int), (32768 : Int), (32768 : Int), (32768 :
      Int), (32768 : Int), (32768 : Int), (32768 : Int), (32768 : Int), (32768 : Int), (32768 : Int)] x != (32768 : Int) then true else false) = false ∧ True ∧ mkM z [] mH (0 :
      Nat) = mkM z [] mH (0 : Nat) ∧ (4660 : Int) = (4660 : Int)) := by kernel_rfl
theorem pix_c (E : World)  (x : Int) (z : PX) (hz : rgM z mH 0) (hp : (fun _ => 0 ≤ x ∧ x < 240) z) : HR (pe E) 23 [.c (.p 13 0), .c (.i false .i64 x)] mH [] (.c (.i .u16)) (fun _ y => y.n 90000 = 4660) z := by
  refine HR.mkW true [false] (by rfl) (by rfl) (fnTree_sound (P := pe E) orcNone_ok tab_ok tab_sz mixed 20000 Try.func23 (by decide) [.c (.p 13 0), .c (.i false .i64 x)] _) ⟨?_⟩
  rw [pix_p]
  obtain _ :=  hz
  obtain ⟨x0, x1⟩ := hp
  have hbad : (bif selI (List.replicate 240 (32768 : Int)) x != 32768 then true else false) = false := by rw [selI_rep 32768 240 x x0 x1]; decide
  have hin : inB x 240 = true := by simp only [inB, Bool.and_eq_true, decide_eq_true_eq]; omega
  (repeat' (first | exact hin | exact hbad | exact trivial | exact rfl | apply And.intro))
noncomputable def orcX (E : World) : Orc := fun g vs s => match g, vs, s with
  | 23, [.c (.p 13 0), .c (.i _ .i64 x)], [A, B, G2, G3, G4, G5, G6, G7, G8, G9, R, O1, O2, LB] => some (hoTr (pre := fun _ => 0 ≤ x ∧ x < 240) (fun z => pix_c E  x z) (by rfl) ([A, B, G2, G3, G4, G5, G6, G7, G8, G9, R, O1, O2, LB]))
  | g, vs, s => orcNone g vs s
theorem orcX_ok {E : World} : OrcOK (pe E) (orcX E) := by
  intro g vs s t h
  unfold orcX at h
  split at h
  · cases h; refine CallTree.args ?_ (hoTr_ok _ _ _ (by first | rfl | (simp only [List.length_cons, List.length_nil, mH, m9]; omega)) (by rfl)); simp [simL, SV.sim, C.sim]
  · exact orcNone_ok _ _ _ _ h
end Go.Proofs.Ytdkegheacceecaa

