import Derived.Test.YtnfmkfmgaohpfaaDoorSX
set_option linter.unusedVariables false
set_option linter.unusedSimpArgs false
namespace Go.Proofs.YtnfmkfmgaohpfaaDoor
open Go Go.Proofs Go.Proofs.YtnfmkfmgaohpfaaDoor.Ev Go.Proofs.YtnfmkfmgaohpfaaDoor.Ev.Ho
set_option maxRecDepth 100000
theorem WrQ.uq {E : World} {q : Int} {b s s' : ByteArray} {e e' : Int} (h : WrQ E q b s e) (h' : WrQ E q b s' e') : s' = s ∧ e' = e := by
  by_cases hb : b.size ≤ 51
  · obtain ⟨a1, a2⟩ := h.sh hb
    obtain ⟨b1, b2⟩ := h'.sh hb
    exact ⟨b1.trans a1.symm, b2.trans a2.symm⟩
  · obtain ⟨a1, a2⟩ := h.lg (by omega)
    obtain ⟨b1, b2⟩ := h'.lg (by omega)
    exact ⟨b1.trans a1.symm, b2.trans a2.symm⟩
theorem OpZ.uq {E : World} {x : ByteArray} {n n' : Int} {b b' : ByteArray} {e e' : Int} (h : OpZ E x n b e) (h' : OpZ E x n' b' e') : n' = n ∧ b' = b ∧ e' = e := by
  have fin : ∀ {N : Int} {B : ByteArray} {X : Int}, (e = X ∧ n = N ∧ b = B) → (e' = X ∧ n' = N ∧ b' = B) → n' = n ∧ b' = b ∧ e' = e := fun ⟨p, q, r⟩ ⟨p', q', r'⟩ => ⟨q'.trans q.symm, r'.trans r.symm, p'.trans p.symm⟩
  by_cases h1 : x.size = 64
  · by_cases h2 : strSl x 0 4 = strSl x 60 64
    · by_cases h3 : sumF E (strSl x 0 56) = nmF (strSl x 56 64)
      · by_cases h4 : strB x 4 ≤ 51
        · by_cases h5 : trimV (strSl x (5 + strB x 4) 56) = ByteArray.mk #[]
          · exact fin (h.ok h1 h2 h3 h4 h5) (h'.ok h1 h2 h3 h4 h5)
          · exact fin (h.form h1 h2 h3 (.inr h5)) (h'.form h1 h2 h3 (.inr h5))
        · exact fin (h.form h1 h2 h3 (.inl (by omega))) (h'.form h1 h2 h3 (.inl (by omega)))
      · exact fin (h.sum h1 h2 h3) (h'.sum h1 h2 h3)
    · exact fin (h.torn h1 h2) (h'.torn h1 h2)
  · exact fin (h.len h1) (h'.len h1)
noncomputable def orcY (E : World) : Orc := fun g vs s => match g with
  | 12 => (match frGo [] vs s (fun vs0 π s1 s0 => match vs0 with
      | [.c (.str l0 x)] => some (hdG (pre := fun _ => (GOK E ∧ HOK E) ∧ x.size ≤ 4611686018427387904) (fun z hz hp => HD.args (vs := [.c (.str l0 x)]) (by simp [simL, SV.sim, C.sim]) (oz_c E x z hz hp)) (by rfl) π s1 s0)
      | [.c (.strn l0 x)] => some (hdG (pre := fun _ => (GOK E ∧ HOK E) ∧ x.size ≤ 4611686018427387904) (fun z hz hp => HD.args (vs := [.c (.strn l0 x)]) (by simp [simL, SV.sim, C.sim]) (oz_c E x z hz hp)) (by rfl) π s1 s0)
      | _ => none) with
    | some t => some t
    | none => (orcW E) g vs s)
  | 13 => (match frGo [] vs s (fun vs0 π s1 s0 => match vs0 with
      | [.c (.str l0 x)] => some (hdG (pre := fun _ => (GOK E ∧ HOK E) ∧ x.size ≤ 4611686018427387904) (fun z hz hp => HD.args (vs := [.c (.str l0 x)]) (by simp [simL, SV.sim, C.sim]) (ox_c E x z hz hp)) (by rfl) π s1 s0)
      | [.c (.strn l0 x)] => some (hdG (pre := fun _ => (GOK E ∧ HOK E) ∧ x.size ≤ 4611686018427387904) (fun z hz hp => HD.args (vs := [.c (.strn l0 x)]) (by simp [simL, SV.sim, C.sim]) (ox_c E x z hz hp)) (by rfl) π s1 s0)
      | _ => none) with
    | some t => some t
    | none => (orcW E) g vs s)
  | g => (orcW E) g vs s
theorem orcY_ok {E : World} : OrcOK (pe E) (orcY E) := by
  intro g vs s t h
  unfold orcY at h
  split at h
  · split at h
    · rename_i hfr; cases h
      obtain ⟨π, s1, hq, hK, hv, hok, hpd⟩ := frGo_spec (P := pe E) hfr
      split at hK
      · rename_i heq; cases hK
        rw [heq] at hv hok
        exact hpd _ _ (hdG_ok _ _ π s1 hq hv hok)
      · rename_i heq; cases hK
        rw [heq] at hv hok
        exact hpd _ _ (hdG_ok _ _ π s1 hq hv hok)
      · cases hK
    · exact orcW_ok _ _ _ _ h
  · split at h
    · rename_i hfr; cases h
      obtain ⟨π, s1, hq, hK, hv, hok, hpd⟩ := frGo_spec (P := pe E) hfr
      split at hK
      · rename_i heq; cases hK
        rw [heq] at hv hok
        exact hpd _ _ (hdG_ok _ _ π s1 hq hv hok)
      · rename_i heq; cases hK
        rw [heq] at hv hok
        exact hpd _ _ (hdG_ok _ _ π s1 hq hv hok)
      · cases hK
    · exact orcW_ok _ _ _ _ h
  · exact orcW_ok _ _ _ _ h
theorem wl_p (E : World) (z : PX) (q : Int) (b x : ByteArray) :
    (hdP ([] : List MB).length [] (.c .b) (fun z y => y.b 90000 = true) z (fnTree (pe E) (orcY E) (tabL fns) 20000 Tryd.f3 [.c (.i false .u32 q), .c (.str false b), .c (.str false x)] (mkM z [] [] 0))) =
    ((([] : SW) = [] ∧ GOK E) ∧ ∀ (y : PX), True ∧ True ∧ True → (([] : SW) = [] ∧ (GOK E ∧ b.size ≤ (4611686018427387904 : Nat)) ∧ (0 : Int) ≤ q ∧ q ≤ (4294967295 : Int)) ∧ ∀
      (y : PX), True ∧ True ∧ WrQ E q b (y.s (90000 : Nat)) (y.n (90001 : Nat)) → (([] : SW) = [] ∧ ((GOK E ∧ HOK E) ∧ b.size ≤ (4611686018427387904 : Nat)) ∧ (0 : Int) ≤ q ∧ q
      ≤ (4294967295 : Int)) ∧ ∀ (y_1 : PX), True ∧ True ∧ WrQ E q b (y_1.s (90000 : Nat)) (y_1.n (90001 : Nat)) → (([] : SW) = [] ∧ (GOK E ∧ HOK E) ∧ x.size ≤
      (4611686018427387904 : Nat)) ∧ ∀ (y_2 : PX), True ∧ (((0 : Int) ≤ y_2.n (90000 : Nat) ∧ y_2.n (90000 : Nat) ≤ (4294967295 : Int)) ∧ True) ∧ OpZ E x (y_2.n (90000 : Nat))
      (y_2.s (90001 : Nat)) (y_2.n (90002 : Nat)) → (([] : SW) = [] ∧ (GOK E ∧ HOK E) ∧ x.size ≤ (4611686018427387904 : Nat)) ∧ ∀ (y_3 : PX), True ∧ (((0 : Int) ≤ y_3.n (90000 :
      Nat) ∧ y_3.n (90000 : Nat) ≤ (4294967295 : Int)) ∧ True) ∧ OpZ E x (y_3.n (90000 : Nat)) (y_3.s (90001 : Nat)) (y_3.n (90002 : Nat)) → (([] : SW) = [] ∧ GOK E ∧ b.size ≤
      (4611686018427387904 : Nat)) ∧ ∀ (y_4 : PX), True ∧ (((0 : Int) ≤ y_4.n (90000 : Nat) ∧ y_4.n (90000 : Nat) ≤ (4294967295 : Int)) ∧ True) ∧ y_4.n (90000 : Nat) = sumF E b
      → (([] : SW) = [] ∧ (GOK E ∧ HOK E) ∧ b.size ≤ (4611686018427387904 : Nat)) ∧ ∀ (y_5 : PX), True ∧ (((0 : Int) ≤ y_5.n (90000 : Nat) ∧ y_5.n (90000 : Nat) ≤ (4294967295 :
      Int)) ∧ True) ∧ y_5.n (90000 : Nat) = sumF E b → ((y_4.n (90000 : Nat) == y_5.n (90000 : Nat)) = true → ((false ^^ y.s (90000 : Nat) == y_1.s (90000 : Nat)) = true → ((y.n
      (90001 : Nat) == y_1.n (90001 : Nat)) = true → ((y_2.n (90000 : Nat) == y_3.n (90000 : Nat)) = true → ((false ^^ y_2.s (90001 : Nat) == y_3.s (90001 : Nat)) = true → ([] :
      SW) = [] ∧ True ∧ (y_2.n (90002 : Nat) == y_3.n (90002 : Nat)) = true) ∧ ((false ^^ y_2.s (90001 : Nat) == y_3.s (90001 : Nat)) = false → ([] : SW) = [] ∧ True ∧ false =
      true)) ∧ ((y_2.n (90000 : Nat) == y_3.n (90000 : Nat)) = false → ([] : SW) = [] ∧ True ∧ false = true)) ∧ ((y.n (90001 : Nat) == y_1.n (90001 : Nat)) = false → ([] : SW) =
      [] ∧ True ∧ false = true)) ∧ ((false ^^ y.s (90000 : Nat) == y_1.s (90000 : Nat)) = false → ([] : SW) = [] ∧ True ∧ false = true)) ∧ ((y_4.n (90000 : Nat) == y_5.n (90000
      : Nat)) = false → ([] : SW) = [] ∧ True ∧ false = true)) := by kernel_rfl
theorem wl_c (E : World) (q : Int) (b x : ByteArray) (z : PX) (hz : rgM z [] 0) (hp : (fun _ => (((GOK E ∧ HOK E) ∧ b.size ≤ 4611686018427387904) ∧ x.size ≤ 4611686018427387904) ∧ 0 ≤ q ∧ q ≤ 4294967295) z) : HD (pe E) 3 [.c (.i false .u32 q), .c (.str false b), .c (.str false x)] [] [] (.c .b) (fun z y => y.b 90000 = true) z := by
  refine HD.mk (by rfl) (fnTree_sound (P := pe E) orcY_ok tab_ok tab_sz mixed 20000 Tryd.func3 (by decide) [.c (.i false .u32 q), .c (.str false b), .c (.str false x)] _) ⟨?_⟩
  rw [wl_p]
  obtain ⟨⟨⟨⟨hG, hH⟩, hb⟩, hx⟩, hq⟩ := hp
  refine ⟨⟨rfl, hG⟩, fun y0 _ => ⟨⟨rfl, ⟨hG, hb⟩, hq⟩, fun y hy => ⟨⟨rfl, ⟨⟨hG, hH⟩, hb⟩, hq⟩, fun y1 hy1 => ⟨⟨rfl, ⟨hG, hH⟩, hx⟩, fun y2 hy2 => ⟨⟨rfl, ⟨hG, hH⟩, hx⟩, fun y3 hy3 => ⟨⟨rfl, hG, hb⟩, fun y4 hy4 => ⟨⟨rfl, ⟨hG, hH⟩, hb⟩, fun y5 hy5 => ?_⟩⟩⟩⟩⟩⟩⟩
  obtain ⟨a1, a2⟩ := hy.2.2.uq hy1.2.2
  obtain ⟨b1, b2, b3⟩ := hy2.2.2.uq hy3.2.2
  rw [a1, a2, b1, b2, b3, hy4.2.2, hy5.2.2]
  have D : ∀ x : ByteArray, (x == x) = true := fun x => beqE.2 rfl
  simp [D]
end Go.Proofs.YtnfmkfmgaohpfaaDoor

