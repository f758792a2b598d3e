import Derived.Test.YtnfmkfmgaohpfaaDoorST
set_option linter.unusedVariables false
set_option linter.unusedSimpArgs false
namespace Go.Proofs.YtnfmkfmgaohpfaaDoor
open Go Go.Proofs Go.Proofs.YtnfmkfmgaohpfaaDoor.Ev Go.Proofs.YtnfmkfmgaohpfaaDoor.Ev.Ho
set_option maxRecDepth 100000
theorem CmQ.uq {k a : Int} {d s s' : ByteArray} {e e' : Int} (h : CmQ k a d s e) (h' : CmQ k a d s' e') : s' = s ∧ e' = e ∧ (vlF k a d = false → e = 1) ∧ (vlF k a d = true → e = 0) := by
  cases hv : vlF k a d
  · obtain ⟨a1, a2⟩ := h.no hv
    obtain ⟨b1, b2⟩ := h'.no hv
    exact ⟨b1.trans a1.symm, b2.trans a2.symm, fun _ => a2, fun h => by cases h⟩
  · obtain ⟨a1, a2⟩ := h.ok hv
    obtain ⟨b1, b2⟩ := h'.ok hv
    exact ⟨b1.trans a1.symm, b2.trans a2.symm, fun h => (by cases h), fun _ => a2⟩
theorem CdZ.uq {b d d' : ByteArray} {k a e k' a' e' : Int} (h : CdZ b k a d e) (h' : CdZ b k' a' d' e') : k' = k ∧ a' = a ∧ d' = d ∧ e' = e := by
  by_cases hc : 5 ≤ b.size ∧ vlF (strB b 0) (nmF (strSl b 1 b.size)) (strSl b 5 b.size) = true
  · obtain ⟨a1, a2, a3, a4⟩ := h.ok hc.1 hc.2
    obtain ⟨b1, b2, b3, b4⟩ := h'.ok hc.1 hc.2
    exact ⟨b2.trans a2.symm, b3.trans a3.symm, b4.trans a4.symm, b1.trans a1.symm⟩
  · have hn : b.size < 5 ∨ vlF (strB b 0) (nmF (strSl b 1 b.size)) (strSl b 5 b.size) = false := by
      by_cases h5 : 5 ≤ b.size
      · right
        cases hv : vlF (strB b 0) (nmF (strSl b 1 b.size)) (strSl b 5 b.size)
        · rfl
        · exact absurd ⟨h5, hv⟩ hc
      · left; omega
    obtain ⟨a1, a2, a3, a4⟩ := h.no hn
    obtain ⟨b1, b2, b3, b4⟩ := h'.no hn
    exact ⟨b2.trans a2.symm, b3.trans a3.symm, b4.trans a4.symm, b1.trans a1.symm⟩
theorem ApQ.uq {E : World} {m d s s' : ByteArray} {k a e e' : Int} (h : ApQ E m k a d s e) (h' : ApQ E m k a d s' e') : s' = s ∧ e' = e := by
  by_cases hc : vlF k a d = true ∧ (k = 3 ∨ a + (dat E k d).size ≤ m.size)
  · obtain ⟨a1, a2⟩ := h.ok hc.1 hc.2
    obtain ⟨b1, b2⟩ := h'.ok hc.1 hc.2
    exact ⟨b1.trans a1.symm, b2.trans a2.symm⟩
  · have hn : vlF k a d = false ∨ (k ≠ 3 ∧ (m.size : Int) < a + (dat E k d).size) := by
      cases hv : vlF k a d
      · exact .inl rfl
      · right
        refine ⟨fun h3 => hc ⟨hv, .inl h3⟩, ?_⟩
        by_cases hf : a + (dat E k d).size ≤ m.size
        · exact absurd ⟨hv, .inr hf⟩ hc
        · omega
    obtain ⟨a1, a2⟩ := h.no hn
    obtain ⟨b1, b2⟩ := h'.no hn
    exact ⟨b1.trans a1.symm, b2.trans a2.symm⟩
noncomputable def orcE (E : World) : Orc := fun g vs s => match g with
  | 21 => (match frGo [] vs s (fun vs0 π s1 s0 => match vs0 with
      | [.c (.str l0 m), .a [.i l1 .i64 k, .i l2 .i64 a, .str l3 d]] => some (hdG (pre := fun _ => m.size ≤ 140737488351232) (fun z hz hp => HD.args (vs := [.c (.str l0 m), .a [.i l1 .i64 k, .i l2 .i64 a, .str l3 d]]) (by simp [simL, SV.sim, C.sim]) (rap_c E m k a d z hz hp)) (by rfl) π s1 s0)
      | [.c (.str l0 m), .a [.i l1 .i64 k, .i l2 .i64 a, .strn l3 d]] => some (hdG (pre := fun _ => m.size ≤ 140737488351232) (fun z hz hp => HD.args (vs := [.c (.str l0 m), .a [.i l1 .i64 k, .i l2 .i64 a, .strn l3 d]]) (by simp [simL, SV.sim, C.sim]) (rap_c E m k a d z hz hp)) (by rfl) π s1 s0)
      | [.c (.strn l0 m), .a [.i l1 .i64 k, .i l2 .i64 a, .str l3 d]] => some (hdG (pre := fun _ => m.size ≤ 140737488351232) (fun z hz hp => HD.args (vs := [.c (.strn l0 m), .a [.i l1 .i64 k, .i l2 .i64 a, .str l3 d]]) (by simp [simL, SV.sim, C.sim]) (rap_c E m k a d z hz hp)) (by rfl) π s1 s0)
      | [.c (.strn l0 m), .a [.i l1 .i64 k, .i l2 .i64 a, .strn l3 d]] => some (hdG (pre := fun _ => m.size ≤ 140737488351232) (fun z hz hp => HD.args (vs := [.c (.strn l0 m), .a [.i l1 .i64 k, .i l2 .i64 a, .strn l3 d]]) (by simp [simL, SV.sim, C.sim]) (rap_c E m k a d z hz hp)) (by rfl) π s1 s0)
      | _ => none) with
    | some t => some t
    | none => (orcC E) g vs s)
  | g => (orcC E) g vs s
theorem orcE_ok {E : World} : OrcOK (pe E) (orcE E) := by
  intro g vs s t h
  unfold orcE at h
  split at h
  · split at h
    · rename_i hfr; cases h
      obtain ⟨π, s1, hq, hK, hv, hok, hpd⟩ := frGo_spec (P := pe E) hfr
      split at hK
      · rename_i heq; cases hK
        rw [heq] at hv hok
        exact hpd _ _ (hdG_ok _ _ π s1 hq hv hok)
      · rename_i heq; cases hK
        rw [heq] at hv hok
        exact hpd _ _ (hdG_ok _ _ π s1 hq hv hok)
      · rename_i heq; cases hK
        rw [heq] at hv hok
        exact hpd _ _ (hdG_ok _ _ π s1 hq hv hok)
      · rename_i heq; cases hK
        rw [heq] at hv hok
        exact hpd _ _ (hdG_ok _ _ π s1 hq hv hok)
      · cases hK
    · exact orcC_ok _ _ _ _ h
  · exact orcC_ok _ _ _ _ h
theorem cl_p (E : World) (z : PX) (k a : Int) (d b m : ByteArray) :
    (hdP ([] : List MB).length [] (.c .b) (fun z y => y.b 90000 = true) z (fnTree (pe E) (orcE E) (tabL fns) 20000 Tryd.f4 [.a [.i false .i64 k, .i false .i64 a, .str false d], .c (.str false b), .c (.str false m)] (mkM z [] [] 0))) =
    ((([] : SW) = [] ∧ GOK E) ∧ ∀ (y : PX), True ∧ True ∧ True → (([] : SW) = [] ∧ True) ∧ ∀ (y : PX), True ∧ True ∧ CmQ k a d (y.s (90000 : Nat)) (y.n (90001 : Nat)) → (([] :
      SW) = [] ∧ True) ∧ ∀ (y_1 : PX), True ∧ True ∧ CmQ k a d (y_1.s (90000 : Nat)) (y_1.n (90001 : Nat)) → (([] : SW) = [] ∧ b.size ≤ (4611686018427387904 : Nat)) ∧ ∀ (y_2 :
      PX), True ∧ True ∧ CdZ b (y_2.n (90000 : Nat)) (y_2.n (90001 : Nat)) (y_2.s (90002 : Nat)) (y_2.n (90003 : Nat)) → (([] : SW) = [] ∧ b.size ≤ (4611686018427387904 : Nat))
      ∧ ∀ (y_3 : PX), True ∧ True ∧ CdZ b (y_3.n (90000 : Nat)) (y_3.n (90001 : Nat)) (y_3.s (90002 : Nat)) (y_3.n (90003 : Nat)) → (([] : SW) = [] ∧ m.size ≤ (140737488351232 :
      Nat)) ∧ ∀ (y_4 : PX), True ∧ True ∧ ApQ E m k a d (y_4.s (90000 : Nat)) (y_4.n (90001 : Nat)) → (([] : SW) = [] ∧ m.size ≤ (140737488351232 : Nat)) ∧ ∀ (y_5 : PX), True ∧
      True ∧ ApQ E m k a d (y_5.s (90000 : Nat)) (y_5.n (90001 : Nat)) → ((false ^^ y.s (90000 : Nat) == y_1.s (90000 : Nat)) = true → ((y.n (90001 : Nat) == y_1.n (90001 :
      Nat)) = true → ((!vlF k a d) = true → (((1 : Int) == y.n (90001 : Nat)) = true → ((false ^^ y_2.n (90000 : Nat) == y_3.n (90000 : Nat) && (y_2.n (90001 : Nat) == y_3.n
      (90001 : Nat) && (y_2.s (90002 : Nat) == y_3.s (90002 : Nat) && true))) = true → ((y_2.n (90003 : Nat) == y_3.n (90003 : Nat)) = true → ((false ^^ y_4.s (90000 : Nat) ==
      y_5.s (90000 : Nat)) = true → ([] : SW) = [] ∧ True ∧ (y_4.n (90001 : Nat) == y_5.n (90001 : Nat)) = true) ∧ ((false ^^ y_4.s (90000 : Nat) == y_5.s (90000 : Nat)) = false
      → ([] : SW) = [] ∧ True ∧ false = true)) ∧ ((y_2.n (90003 : Nat) == y_3.n (90003 : Nat)) = false → ([] : SW) = [] ∧ True ∧ false = true)) ∧ ((false ^^ y_2.n (90000 : Nat)
      == y_3.n (90000 : Nat) && (y_2.n (90001 : Nat) == y_3.n (90001 : Nat) && (y_2.s (90002 : Nat) == y_3.s (90002 : Nat) && true))) = false → ([] : SW) = [] ∧ True ∧ false =
      true)) ∧ (((1 : Int) == y.n (90001 : Nat)) = false → ([] : SW) = [] ∧ True ∧ false = true)) ∧ ((!vlF k a d) = false → (((0 : Int) == y.n (90001 : Nat)) = true → ((false ^^
      y_2.n (90000 : Nat) == y_3.n (90000 : Nat) && (y_2.n (90001 : Nat) == y_3.n (90001 : Nat) && (y_2.s (90002 : Nat) == y_3.s (90002 : Nat) && true))) = true → ((y_2.n (90003
      : Nat) == y_3.n (90003 : Nat)) = true → ((false ^^ y_4.s (90000 : Nat) == y_5.s (90000 : Nat)) = true → ([] : SW) = [] ∧ True ∧ (y_4.n (90001 : Nat) == y_5.n (90001 :
      Nat)) = true) ∧ ((false ^^ y_4.s (90000 : Nat) == y_5.s (90000 : Nat)) = false → ([] : SW) = [] ∧ True ∧ false = true)) ∧ ((y_2.n (90003 : Nat) == y_3.n (90003 : Nat)) =
      false → ([] : SW) = [] ∧ True ∧ false = true)) ∧ ((false ^^ y_2.n (90000 : Nat) == y_3.n (90000 : Nat) && (y_2.n (90001 : Nat) == y_3.n (90001 : Nat) && (y_2.s (90002 :
      Nat) == y_3.s (90002 : Nat) && true))) = false → ([] : SW) = [] ∧ True ∧ false = true)) ∧ (((0 : Int) == y.n (90001 : Nat)) = false → ([] : SW) = [] ∧ True ∧ false =
      true))) ∧ ((y.n (90001 : Nat) == y_1.n (90001 : Nat)) = false → ([] : SW) = [] ∧ True ∧ false = true)) ∧ ((false ^^ y.s (90000 : Nat) == y_1.s (90000 : Nat)) = false → ([]
      : SW) = [] ∧ True ∧ false = true)) := by kernel_rfl
theorem cl_c (E : World) (k a : Int) (d b m : ByteArray) (z : PX) (hz : rgM z [] 0) (hp : (fun _ => (GOK E ∧ b.size ≤ 4611686018427387904) ∧ m.size ≤ 140737488351232) z) : HD (pe E) 4 [.a [.i false .i64 k, .i false .i64 a, .str false d], .c (.str false b), .c (.str false m)] [] [] (.c .b) (fun z y => y.b 90000 = true) z := by
  refine HD.mk (by rfl) (fnTree_sound (P := pe E) orcE_ok tab_ok tab_sz mixed 20000 Tryd.func4 (by decide) [.a [.i false .i64 k, .i false .i64 a, .str false d], .c (.str false b), .c (.str false m)] _) ⟨?_⟩
  rw [cl_p]
  obtain ⟨⟨hG, hb⟩, hm⟩ := hp
  refine ⟨⟨rfl, hG⟩, fun y0 _ => ⟨⟨rfl, trivial⟩, fun y hy => ⟨⟨rfl, trivial⟩, fun y1 hy1 => ⟨⟨rfl, hb⟩, fun y2 hy2 => ⟨⟨rfl, hb⟩, fun y3 hy3 => ⟨⟨rfl, hm⟩, fun y4 hy4 => ⟨⟨rfl, hm⟩, fun y5 hy5 => ?_⟩⟩⟩⟩⟩⟩⟩
  obtain ⟨a1, a2, a3, a4⟩ := hy.2.2.uq hy1.2.2
  obtain ⟨b1, b2, b3, b4⟩ := hy2.2.2.uq hy3.2.2
  obtain ⟨c1, c2⟩ := hy4.2.2.uq hy5.2.2
  rw [a1, a2, b1, b2, b3, b4, c1, c2]
  have D : ∀ x : ByteArray, (x == x) = true := fun x => beqE.2 rfl
  cases hv : vlF k a d
  · rw [a3 hv]; simp [D]
  · rw [a4 hv]; simp [D]
end Go.Proofs.YtnfmkfmgaohpfaaDoor

