import Derived.Test.YtdomhmajoclpeaaW6
set_option linter.unusedVariables false
set_option linter.unusedSimpArgs false
namespace Go.Proofs.Ytdomhmajoclpeaa
open Go Go.Proofs Go.Proofs.Ytdomhmajoclpeaa.Ev Go.Proofs.Ytdomhmajoclpeaa.Ev.Ho Go.IntKind
set_option maxRecDepth 100000
def LeN (l : List Int) : Prop := ∀ x : Int, 0 ≤ x → x < 240 → selI l x ≤ 32768
noncomputable def setK6 (t : Nat) : Tr → SW → Bool := fun tr _ => match tr.get t with | .c _ => true | _ => false
def eqB : List Int → List Int → Bool
  | a :: r, b :: q => (a == b && eqB r q)
  | _, _ => true
theorem eqB_self : ∀ l : List Int, eqB l l = true
  | [] => rfl
  | a :: r => by rw [eqB, eqB_self r, beq_self_eq_true]; rfl
theorem AllF_eq {F : Int → Int} {a b c d a' b' c' d' : List Int} (h : AllF 240 F a b c d) (h' : AllF 240 F a' b' c' d') (hl : (a ++ (b ++ (c ++ d))).length = 240) (hl' : (a' ++ (b' ++ (c' ++ d'))).length = 240) : a ++ (b ++ (c ++ d)) = a' ++ (b' ++ (c' ++ d')) := by
  apply List.ext_getElem?
  intro j
  by_cases hj : j < 240
  · rw [h j (by omega) (by omega), h' j (by omega) (by omega)]
  · rw [List.getElem?_eq_none (by omega), List.getElem?_eq_none (by omega)]
theorem eqB_AllF {F : Int → Int} {a b c d a' b' c' d' : List Int} (h : AllF 240 F a b c d) (h' : AllF 240 F a' b' c' d') (hl : (a ++ (b ++ (c ++ d))).length = 240) (hl' : (a' ++ (b' ++ (c' ++ d'))).length = 240) : eqB (a ++ (b ++ (c ++ d))) (a' ++ (b' ++ (c' ++ d'))) = true := by
  rw [AllF_eq h h' hl hl']; exact eqB_self _
theorem col_le (p : Int → Int) (pn : Nat) (n : Int) : colF p pn n ≤ 32768 := by unfold colF; split <;> omega
theorem vis_le (s : Sc) (n : Int) : visF s n ≤ 32768 := by
  unfold visF
  split
  · omega
  · exact col_le _ _ _
theorem tdot_le (s : Sc) (a b x y : Int) : tdotF s a b x y ≤ 32768 := by
  unfold tdotF
  dsimp only
  repeat' split
  all_goals first | exact vis_le _ _ | exact col_le _ _ _ | omega
theorem pix_le (s : Sc) (i x l b : Int) : pixF s i x l b ≤ 32768 := by
  unfold pixF
  split
  · unfold dirF; split <;> omega
  · split
    · unfold idxF; split
      · exact vis_le _ _
      · omega
    · split
      · unfold smlF; split <;> omega
      · split
        · unfold turnF
          dsimp only
          repeat' split
          all_goals first | exact vis_le _ _ | omega
        · unfold textF; exact tdot_le _ _ _ _ _
theorem dot_le (s : Sc) (i x line : Int) : dotF s i x line ≤ 32768 := by
  unfold dotF
  split
  · exact pix_le _ _ _ _ _
  · omega
theorem LeN_of {s : Sc} {i line : Int} {a b c d : List Int} (h : AllF 240 (fun x => dotF s i x line) a b c d) (hl : (a ++ (b ++ (c ++ d))).length = 240) : LeN (a ++ (b ++ (c ++ d))) := fun x h0 h1 => by
  rw [sel_AllF h hl h0 h1]; exact dot_le _ _ _ _
theorem AllF_none {s : Sc} {i line : Int} {a b c d : List Int} (h : AllF 240 (fun x => dotF s i x line) a b c d) (hn : nshP s.ctl i line) : AllF 240 (fun _ => 32768) a b c d := AllF_end h (by decide) (fun j => (dot_n hn j).symm)
theorem ba_refl (a : ByteArray) : (a == a) = true := by cases a with | mk d => exact beq_self_eq_true d
theorem u8_of {l : List C} {n : Nat} (h : Row [.r .u8 0 255] l) (hl : l.length = n) : rowU8 l n = true := rowU8_iff.2 ⟨by omega, fun p hp => h.rOk (q := .r .u8 0 255) (by omega) (by simp [Nat.mod_one]) rfl⟩
noncomputable def lawP_h0 (E : World) (a1 a2 a3 a4 : Option Addr) (n1 m1 n2 m2 n3 m3 n4 m4 : Nat) (c : Nat → Int) (i line : Int) (z : PX) : Hd := ⟨4, (setK6 101), (tdF Try.f6 2), [(1, .q (.i false .i64 i)), (2, .q (.i false .i64 line)), (100, .ai 240 .u16), (101, .r .i64 (0) (240))], [], fun y => LeN ((clS y 100000 91100 60) ++ ((clS y 100000 6091100 60) ++ ((clS y 100000 12091100 60) ++ ((clS y 100000 18091100 60))))), fun y => (240 - y.n 91101).toNat⟩
noncomputable def lawP_h1 (E : World) (a1 a2 a3 a4 : Option Addr) (n1 m1 n2 m2 n3 m3 n4 m4 : Nat) (c : Nat → Int) (i line : Int) (z : PX) : Hd := ⟨4, anyH, (tdF Try.f6 0), [(1, .q (.i false .i64 i)), (2, .q (.i false .i64 line)), (9, .c (.p 0 0)), (93, .ai 240 .u16), (94, .r .i64 (0) (240))], [mO], fun y => AllF 240 (fun _ => 32768) (clS y 100000 91093 60) (clS y 100000 6091093 60) (clS y 100000 12091093 60) (clS y 100000 18091093 60) ∧ LeN ((cl y 0 60) ++ ((cl y 60 60) ++ ((cl y 120 60) ++ (cl y 180 60)))), fun y => 1000 + (240 - y.n 91094).toNat⟩
noncomputable def lawP_hs (E : World) (a1 a2 a3 a4 : Option Addr) (n1 m1 n2 m2 n3 m3 n4 m4 : Nat) (c : Nat → Int) (i line : Int) (z : PX) : List Hd := [lawP_h0 E a1 a2 a3 a4 n1 m1 n2 m2 n3 m3 n4 m4 c i line z, lawP_h1 E a1 a2 a3 a4 n1 m1 n2 m2 n3 m3 n4 m4 c i line z]
end Go.Proofs.Ytdomhmajoclpeaa

