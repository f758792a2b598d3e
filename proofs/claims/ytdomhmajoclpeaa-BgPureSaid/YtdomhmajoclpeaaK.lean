import Derived.Test.YtdomhmajoclpeaaJ
set_option linter.unusedVariables false
set_option linter.unusedSimpArgs false
namespace Go.Proofs.Ytdomhmajoclpeaa
open Go Go.Proofs Go.Proofs.Ytdomhmajoclpeaa.Ev Go.Proofs.Ytdomhmajoclpeaa.Ev.Ho Go.IntKind
set_option maxRecDepth 100000
noncomputable def headP : List Bool → Tree Lf → List Item
  | _, .leaf lf => cond lf.ended [] lf.todo
  | [], .node _ _ _ => []
  | b :: p, .node _ t f => cond b (headP p t) (headP p f)
  | p, .need _ t => headP p t
  | p, .pin _ _ _ k => headP p (k default)
  | _, .fail => []
noncomputable def mO : MB := .o (List.replicate 240 (.i .u16)) 42
structure EqR (a b c a' b' c' : List C) : Prop where
  h1 : a = a'
  h2 : b = b'
  h3 : c = c'
noncomputable def pixF (s : Sc) (i x line below : Int) : Int :=
  if s.ctl % 8 = 3 then dirF s (pxF s i x below) (pyF s i x below)
  else if s.ctl % 8 = 4 then idxF s (pxF s i x below) (pyF s i x below)
  else if s.ctl % 8 = 5 then smlF s (pxF s i x below) (pyF s i x below)
  else if 0 < s.ctl % 8 ∧ 2 ≤ i then turnF s (selI s.bg i) (pxF s i x below) (pyF s i x below)
  else textF s i (selI s.bg i) x line
noncomputable def dotF (s : Sc) (i x line : Int) : Int :=
  @ite _ (shP s.ctl i ∧ 0 ≤ line ∧ line < 160) (Classical.propDecidable _) (pixF s i (x / wdF s i * wdF s i) (line - line % hgF s i) (line % hgF s i)) 32768
def AllP (x : Int) (F : Int → Int) (l : List Int) : Prop := ∀ j : Nat, j < l.length → (j : Int) < x → l[j]? = some (F j)
def AllF (x : Int) (F : Int → Int) (a b c d : List Int) : Prop := AllP x F (a ++ (b ++ (c ++ d)))
noncomputable def cloK (f : Nat) : Tr → SW → Bool := fun tr _ => match tr.get 13 with | .c (.clo g _) => Nat.beq g f | _ => false
noncomputable def mL0 : MB := .o [.c (.p 0 0), .r .i64 0 3, .r .u16 0 65535, .r .i64 0 159, .r .i64 0 15] 59
def nshP (c i line : Int) : Prop := ¬(shP c i ∧ 0 ≤ line ∧ line < 160)
structure Lay (s : Sc) (i line n c l b w : Int) : Prop where
  n : n = i
  c : c = selI s.bg i
  l : l = line - line % hgF s i
  b : b = line % hgF s i
  w : w = wdF s i
  sh : shP s.ctl i
  l0 : 0 ≤ line
  l1 : line < 160
structure DotP (s : Sc) (i line x d : Int) : Prop where
  d : 0 < x → d = dotF s i (x - 1) line
structure EqN (a b : List Int) : Prop where
  h : a = b
def updL (x v : Int) : Nat → List Int → List Int
  | _, [] => []
  | k, c :: cs => (bif x == ((k : Nat) : Int) then v else c) :: updL x v (k + 1) cs
theorem updL_len (x v : Int) : ∀ (k : Nat) (l : List Int), (updL x v k l).length = l.length
  | _, [] => rfl
  | k, _ :: cs => by simp [updL, updL_len x v (k + 1) cs]
theorem updL_get (x v : Int) : ∀ (k : Nat) (l : List Int) (j : Nat), (updL x v k l)[j]? = (l[j]?).map fun c => bif x == ((k + j : Nat) : Int) then v else c
  | _, [], j => by simp [updL]
  | k, c :: cs, 0 => by simp [updL]
  | k, c :: cs, j + 1 => by
    simp only [updL, List.getElem?_cons_succ, updL_get x v (k + 1) cs j]
    rw [show k + 1 + j = k + (j + 1) by omega]
theorem updL_app (x v : Int) : ∀ (k : Nat) (a b : List Int), updL x v k (a ++ b) = updL x v k a ++ updL x v (k + a.length) b
  | _, [], b => rfl
  | k, c :: cs, b => by
    simp only [List.cons_append, updL, updL_app x v (k + 1) cs b, List.length_cons]
    rw [show k + 1 + cs.length = k + (cs.length + 1) by omega]
theorem AllF_upd {x v : Int} {F : Int → Int} {a b c d : List Int} (h : AllF x F a b c d) (hv : v = F x) (h0 : 0 ≤ x) (ha : a.length = 60) (hb : b.length = 60) (hc : c.length = 60) : AllF (x + 1) F (updL x v 0 a) (updL x v 60 b) (updL x v 120 c) (updL x v 180 d) := by
  have e : updL x v 0 a ++ (updL x v 60 b ++ (updL x v 120 c ++ updL x v 180 d)) = updL x v 0 (a ++ (b ++ (c ++ d))) := by
    rw [updL_app, updL_app, updL_app, ha, hb, hc]
  unfold AllF at *
  rw [e]
  intro j hj hjx
  rw [updL_len] at hj
  rw [updL_get, Nat.zero_add]
  by_cases hc : x = (j : Int)
  · rw [List.getElem?_eq_getElem hj]
    subst hc
    simp [hv]
  · rw [h j hj (by omega)]
    have : (x == (j : Int)) = false := by simpa using hc
    simp [this]
theorem AllF_zero {F : Int → Int} {a b c d : List Int} : AllF 0 F a b c d := fun j _ h => absurd h (by omega)
theorem AllF_end {x : Int} {F G : Int → Int} {a b c d : List Int} (h : AllF x F a b c d) (hx : 240 ≤ x) (hg : ∀ j, F j = G j) : AllF 240 G a b c d := fun j hj hjx => by rw [← hg]; exact h j hj (by omega)
theorem shF_t {c i : Int} (h : shF c i = true) : shP c i := by unfold shF at h; exact @of_decide_eq_true _ (Classical.propDecidable _) h
theorem shF_f {c i : Int} (h : shF c i = false) : ¬shP c i := by unfold shF at h; exact @of_decide_eq_false _ (Classical.propDecidable _) h
theorem dot_n {s : Sc} {i line : Int} (h : nshP s.ctl i line) (x : Int) : (32768 : Int) = dotF s i x line := by unfold dotF; exact (@if_neg _ (Classical.propDecidable _) h _ _ _).symm
theorem dot_y {s : Sc} {i line x n c l b w : Int} (h : Lay s i line n c l b w) : dotF s i x line = pixF s i (x / w * w) l b := by
  unfold dotF
  rw [@if_pos _ (Classical.propDecidable _) ⟨h.sh, h.l0, h.l1⟩, h.w, h.l, h.b]
theorem div_m {x w : Int} (h0 : 0 ≤ x) (hw : 1 ≤ w ∧ w ≤ 16) (h : x % w = 0) : x / w * w = x := by
  have := Int.emod_add_mul_ediv x w
  rw [h, Int.zero_add, Int.mul_comm] at this
  exact this
theorem div_s {x w : Int} (h0 : 0 ≤ x) (hw : 1 ≤ w ∧ w ≤ 16) (h : x % w ≠ 0) : x / w = (x - 1) / w := by
  have : w = 1 ∨ w = 2 ∨ w = 3 ∨ w = 4 ∨ w = 5 ∨ w = 6 ∨ w = 7 ∨ w = 8 ∨ w = 9 ∨ w = 10 ∨ w = 11 ∨ w = 12 ∨ w = 13 ∨ w = 14 ∨ w = 15 ∨ w = 16 := by omega
  rcases this with rfl | rfl | rfl | rfl | rfl | rfl | rfl | rfl | rfl | rfl | rfl | rfl | rfl | rfl | rfl | rfl <;> omega
theorem DotP.next {s : Sc} {i line x d : Int} (h : d = dotF s i x line) : DotP s i line (x + 1) d := ⟨fun _ => by rw [Int.add_sub_cancel]; exact h⟩
theorem pix3 {s : Sc} {i x l b : Int} (h : s.ctl % 8 = 3) : pixF s i x l b = dirF s (pxF s i x b) (pyF s i x b) := by unfold pixF; rw [if_pos h]
theorem pix4 {s : Sc} {i x l b : Int} (h : s.ctl % 8 = 4) : pixF s i x l b = idxF s (pxF s i x b) (pyF s i x b) := by unfold pixF; rw [if_neg (by omega), if_pos h]
theorem pix5 {s : Sc} {i x l b : Int} (h : s.ctl % 8 = 5) : pixF s i x l b = smlF s (pxF s i x b) (pyF s i x b) := by unfold pixF; rw [if_neg (by omega), if_neg (by omega), if_pos h]
theorem pixA {s : Sc} {i x l b : Int} (h : 0 < s.ctl % 8 ∧ s.ctl % 8 < 3 ∧ 2 ≤ i) : pixF s i x l b = turnF s (selI s.bg i) (pxF s i x b) (pyF s i x b) := by unfold pixF; rw [if_neg (by omega), if_neg (by omega), if_neg (by omega), if_pos (by omega)]
theorem pixT {s : Sc} {i x l b : Int} (h : s.ctl % 8 = 0 ∨ (0 < s.ctl % 8 ∧ s.ctl % 8 < 3 ∧ i < 2)) : pixF s i x l b = textF s i (selI s.bg i) x l := by unfold pixF; rw [if_neg (by omega), if_neg (by omega), if_neg (by omega), if_neg (by omega)]
theorem rnR (f : FuncId) : renC (posN [0, 1, 2, 3, 4, 5, 6]) (C.clo f [(6, 0)]) = C.clo f [(6, 0)] := rfl
theorem rnE (f : FuncId) : renC (posN [0, 1, 2, 3]) (C.clo f [(3, 0)]) = C.clo f [(3, 0)] := rfl
theorem cand_t {p q : Prop} [Decidable p] [Decidable q] : (bif decide p then decide q else false) = true ↔ p ∧ q := by
  by_cases p <;> simp_all
theorem cand_f {p q : Prop} [Decidable p] [Decidable q] : (bif decide p then decide q else false) = false ↔ ¬(p ∧ q) := by
  by_cases p <;> simp_all
theorem mod_b {l h : Int} (h0 : 0 ≤ l) (h1 : l < 160) (hh : 1 ≤ h ∧ h ≤ 16) : (0 ≤ l % h ∧ l % h ≤ 15) ∧ 0 ≤ l - l % h ∧ l - l % h ≤ 159 := by
  have a := Int.emod_nonneg l (show h ≠ 0 by omega)
  have b := Int.emod_lt_of_pos l (show 0 < h by omega)
  have c := Int.emod_add_mul_ediv l h
  have d := Int.mul_nonneg (show 0 ≤ h by omega) (Int.ediv_nonneg h0 (show 0 ≤ h by omega))
  omega
noncomputable abbrev scZ (z : PX) : Sc := Sc.mk (z.n 0) [z.n 1, z.n 2, z.n 3, z.n 4] [z.n 5, z.n 6, z.n 7, z.n 8] [z.n 9, z.n 10, z.n 11, z.n 12] [z.n 13, z.n 14, z.n 15, z.n 16, z.n 17, z.n 18, z.n 19, z.n 20] [z.n 21, z.n 22, z.n 23, z.n 24] (z.n 25) (bR (z.l 1) (z.n 26).toNat) (z.n 26).toNat (bR (z.l 2) (z.n 27).toNat) (z.n 27).toNat
noncomputable def QdE (i line : Int) : PX → PX → Prop := fun z y => AllF 240 (fun x => dotF (scZ z) i x line) (cl y 90000 60) (cl y 90060 60) (cl y 90120 60) (cl y 90180 60) ∧ EqR (y.l 1) (y.l 2) (y.l 3) (z.l 1) (z.l 2) (z.l 3) ∧ EqN [y.n 0, y.n 1, y.n 2, y.n 3, y.n 4, y.n 5, y.n 6, y.n 7, y.n 8, y.n 9, y.n 10, y.n 11, y.n 12, y.n 13, y.n 14, y.n 15, y.n 16, y.n 17, y.n 18, y.n 19, y.n 20, y.n 21, y.n 22, y.n 23, y.n 24, y.n 25, y.n 26, y.n 27, y.n 28] [z.n 0, z.n 1, z.n 2, z.n 3, z.n 4, z.n 5, z.n 6, z.n 7, z.n 8, z.n 9, z.n 10, z.n 11, z.n 12, z.n 13, z.n 14, z.n 15, z.n 16, z.n 17, z.n 18, z.n 19, z.n 20, z.n 21, z.n 22, z.n 23, z.n 24, z.n 25, z.n 26, z.n 27, z.n 28]
noncomputable def td1R (E : World)  : List Item := headP [false] (run (pe E) (orcXR E) (tabL fns) 20000 (2 ^ 200 - 1) [.code (Try.f11.body.getD .skip)] ⟨Try.f11.ntmps, mkFrGo (Tr.mk 12) 0 [.c (.p 0 0), .c (.i false .i64 5), .c (.i false .i64 5)]⟩ (mkM default [] [mS 1, rowB, rowB, rowB] 0))
noncomputable def td2R (E : World)  : List Item := headP [true, true, false, true] (run (pe E) (orcXR E) (tabL fns) 20000 (2 ^ 200 - 1) [.code (Try.f11.body.getD .skip)] ⟨Try.f11.ntmps, mkFrGo (Tr.mk 12) 0 [.c (.p 0 0), .c (.i false .i64 5), .c (.i false .i64 5)]⟩ (mkM default [] [mS 1, rowB, rowB, rowB] 0))
noncomputable def SPR (k : Nat) : List Sp := [.r .u16 0 65535, .r .u16 0 65535, .r .u16 0 65535, .r .u16 0 65535, .r .u16 0 65535, .r .u16 0 65535, .r .u16 0 65535, .r .u16 0 65535, .r .u16 0 65535, .r .u16 0 65535, .r .u16 0 65535, .r .u16 0 65535, .r .u16 0 65535, .r .i16 (-32768) 32767, .r .i16 (-32768) 32767, .r .i16 (-32768) 32767, .r .i16 (-32768) 32767, .r .i16 (-32768) 32767, .r .i16 (-32768) 32767, .r .i16 (-32768) 32767, .r .i16 (-32768) 32767, .r .i32 (-2147483648) 2147483647, .r .i32 (-2147483648) 2147483647, .r .i32 (-2147483648) 2147483647, .r .i32 (-2147483648) 2147483647, .r .u16 0 65535, .v k 1, .v (k + 1) 1, .v (k + 2) 1]
noncomputable def drawR_h0 (E : World) (i line : Int) (z : PX) : Hd := ⟨5, anyH, (td1R E ), [(6, .c (.p 4 0)), (7, .c (.p 5 0)), (29, .r .i64 (0) (240))], [.f ⟨(spC z (SPR 1) 0), 31⟩, rowB, rowB, rowB, mO, mO], fun y => EqR (y.l 1) (y.l 2) (y.l 3) (z.l 1) (z.l 2) (z.l 3) ∧ AllF (y.n 91029) (fun _ => 32768) (cl y 500000 60) (cl y 500060 60) (cl y 500120 60) (cl y 500180 60) ∧ nshP (z.n 0) i line, fun y => (240 - y.n 91029).toNat⟩
noncomputable def drawR_h1 (E : World) (i line : Int) (z : PX) : Hd := ⟨4, (cloK 1000026), (td2R E ), [(6, .c (.p 4 0)), (7, .c (.p 5 0)), (10, .r .i64 (1) (16)), (13, .q (.clo 1000026 [(6, 0)])), (14, .r .u16 (0) (32768)), (62, .r .i64 (0) (240))], [.f ⟨(spC z (SPR 1) 0), 31⟩, rowB, rowB, rowB, mO, mO, mL0], fun y => EqR (y.l 1) (y.l 2) (y.l 3) (z.l 1) (z.l 2) (z.l 3) ∧ AllF (y.n 91062) (fun x => dotF (scZ z) i x line) (cl y 500000 60) (cl y 500060 60) (cl y 500120 60) (cl y 500180 60) ∧ Lay (scZ z) i line (y.n 600001) (y.n 600002) (y.n 600003) (y.n 600004) (y.n 91010) ∧ DotP (scZ z) i line (y.n 91062) (y.n 91014) ∧ z.n 0 % 8 = 3 ∧ 2 ≤ i, fun y => (240 - y.n 91062).toNat⟩
noncomputable def drawR_h2 (E : World) (i line : Int) (z : PX) : Hd := ⟨4, (cloK 1000027), (td2R E ), [(6, .c (.p 4 0)), (7, .c (.p 5 0)), (10, .r .i64 (1) (16)), (13, .q (.clo 1000027 [(6, 0)])), (14, .r .u16 (0) (32768)), (62, .r .i64 (0) (240))], [.f ⟨(spC z (SPR 1) 0), 31⟩, rowB, rowB, rowB, mO, mO, mL0], fun y => EqR (y.l 1) (y.l 2) (y.l 3) (z.l 1) (z.l 2) (z.l 3) ∧ AllF (y.n 91062) (fun x => dotF (scZ z) i x line) (cl y 500000 60) (cl y 500060 60) (cl y 500120 60) (cl y 500180 60) ∧ Lay (scZ z) i line (y.n 600001) (y.n 600002) (y.n 600003) (y.n 600004) (y.n 91010) ∧ DotP (scZ z) i line (y.n 91062) (y.n 91014) ∧ z.n 0 % 8 = 4 ∧ 2 ≤ i, fun y => (240 - y.n 91062).toNat⟩
noncomputable def drawR_h3 (E : World) (i line : Int) (z : PX) : Hd := ⟨4, (cloK 1000028), (td2R E ), [(6, .c (.p 4 0)), (7, .c (.p 5 0)), (10, .r .i64 (1) (16)), (13, .q (.clo 1000028 [(6, 0)])), (14, .r .u16 (0) (32768)), (62, .r .i64 (0) (240))], [.f ⟨(spC z (SPR 1) 0), 31⟩, rowB, rowB, rowB, mO, mO, mL0], fun y => EqR (y.l 1) (y.l 2) (y.l 3) (z.l 1) (z.l 2) (z.l 3) ∧ AllF (y.n 91062) (fun x => dotF (scZ z) i x line) (cl y 500000 60) (cl y 500060 60) (cl y 500120 60) (cl y 500180 60) ∧ Lay (scZ z) i line (y.n 600001) (y.n 600002) (y.n 600003) (y.n 600004) (y.n 91010) ∧ DotP (scZ z) i line (y.n 91062) (y.n 91014) ∧ z.n 0 % 8 = 5 ∧ 2 ≤ i, fun y => (240 - y.n 91062).toNat⟩
noncomputable def drawR_h4 (E : World) (i line : Int) (z : PX) : Hd := ⟨4, (cloK 1000029), (td2R E ), [(6, .c (.p 4 0)), (7, .c (.p 5 0)), (10, .r .i64 (1) (16)), (13, .q (.clo 1000029 [(6, 0)])), (14, .r .u16 (0) (32768)), (62, .r .i64 (0) (240))], [.f ⟨(spC z (SPR 1) 0), 31⟩, rowB, rowB, rowB, mO, mO, mL0], fun y => EqR (y.l 1) (y.l 2) (y.l 3) (z.l 1) (z.l 2) (z.l 3) ∧ AllF (y.n 91062) (fun x => dotF (scZ z) i x line) (cl y 500000 60) (cl y 500060 60) (cl y 500120 60) (cl y 500180 60) ∧ Lay (scZ z) i line (y.n 600001) (y.n 600002) (y.n 600003) (y.n 600004) (y.n 91010) ∧ DotP (scZ z) i line (y.n 91062) (y.n 91014) ∧ 0 < z.n 0 % 8 ∧ z.n 0 % 8 < 3 ∧ 2 ≤ i, fun y => (240 - y.n 91062).toNat⟩
noncomputable def drawR_h5 (E : World) (i line : Int) (z : PX) : Hd := ⟨4, (cloK 1000030), (td2R E ), [(6, .c (.p 4 0)), (7, .c (.p 5 0)), (10, .r .i64 (1) (16)), (13, .q (.clo 1000030 [(6, 0)])), (14, .r .u16 (0) (32768)), (62, .r .i64 (0) (240))], [.f ⟨(spC z (SPR 1) 0), 31⟩, rowB, rowB, rowB, mO, mO, mL0], fun y => EqR (y.l 1) (y.l 2) (y.l 3) (z.l 1) (z.l 2) (z.l 3) ∧ AllF (y.n 91062) (fun x => dotF (scZ z) i x line) (cl y 500000 60) (cl y 500060 60) (cl y 500120 60) (cl y 500180 60) ∧ Lay (scZ z) i line (y.n 600001) (y.n 600002) (y.n 600003) (y.n 600004) (y.n 91010) ∧ DotP (scZ z) i line (y.n 91062) (y.n 91014) ∧ (z.n 0 % 8 = 0 ∨ (0 < z.n 0 % 8 ∧ z.n 0 % 8 < 3 ∧ i < 2)), fun y => (240 - y.n 91062).toNat⟩
noncomputable def drawR_hs (E : World) (i line : Int) (z : PX) : List Hd := [drawR_h0 E i line z, drawR_h1 E i line z, drawR_h2 E i line z, drawR_h3 E i line z, drawR_h4 E i line z, drawR_h5 E i line z]
end Go.Proofs.Ytdomhmajoclpeaa

