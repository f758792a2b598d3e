import Derived.Test.YtdkegheacceecaaB
set_option linter.unusedVariables false
set_option linter.unusedSimpArgs false
namespace Go.Proofs.Ytdkegheacceecaa
open Go Go.Proofs Go.Proofs.Ytdkegheacceecaa.Ev Go.Proofs.Ytdkegheacceecaa.Ev.Ho
set_option maxRecDepth 100000

noncomputable def line_td (E : World) : List Item := headOf (run (pe E) (orcX E) (tabL fns) 20000 (2 ^ 200 - 1) [.code (Try.f9.body.getD .skip)] ⟨Try.f9.ntmps, mkFrGo (Tr.mk 12) 0 [.c (.p 1 0), .c (.p 10 0), .c (.i true .i64 5)]⟩ (mkM default [] m9 0))
noncomputable def line_hs (E : World)  (z : PX)  : List Head := [⟨4, anyK, (line_td E), [(6, .c (.p 11 0)), (7, .c (.p 12 0)), (9, .c (.p 13 0)), (44, .r .i64 (0) (240))], mH, fun y => 10 ≤ y.n 91044 → y.n 1200009 = 4660, fun y => (240 - y.n 91044).toNat⟩]
theorem line_pro (E : World)  (z : PX)  :
    (loopP (pe E) Try.f9 (endP true m9 [] (.a u240) (fun _ y => y.n 90009 = 4660) z) (headP true [] Try.f9.ntmps none (line_hs E  z )) (run (pe E) (orcX E) (tabL fns) 20000 (2 ^ 200 - 1) [.code (Try.f9.body.getD .skip)] ⟨Try.f9.ntmps, mkFrGo (Tr.mk 12) 0 [.c (.p 1 0), .c (.p 10 0), .c (.i true .i64 5)]⟩ (mkM z [] m9 0))) =
    (line_td E = line_td E ∧ (54 : Nat) = (54 : Nat) ∧ (True ∧ True ∧ True ∧ (((0 : Int) ≤ (0 : Int) ∧ (0 : Int) ≤ (240 : Int)) ∧ True) ∧ True) ∧ (palB = palB ∧ scB = scB ∧
      Bl.mk [] (78 : TypeId) = Bl.mk [] (78 : TypeId) ∧ Bl.mk [] (78 : TypeId) = Bl.mk [] (78 : TypeId) ∧ Bl.mk [] (78 : TypeId) = Bl.mk [] (78 : TypeId) ∧ Bl.mk [] (78 :
      TypeId) = Bl.mk [] (78 : TypeId) ∧ Bl.mk [] (78 : TypeId) = Bl.mk [] (78 : TypeId) ∧ Bl.mk [] (78 : TypeId) = Bl.mk [] (78 : TypeId) ∧ Bl.mk [] (78 : TypeId) = Bl.mk []
      (78 : TypeId) ∧ Bl.mk [] (78 : TypeId) = Bl.mk [] (78 : TypeId) ∧ rgB = rgB ∧ (36 : Nat) = (36 : Nat) ∧ True ∧ (36 : Nat) = (36 : Nat) ∧ True ∧ layB = layB ∧ True) ∧ ((10
      : Int) ≤ (0 : Int) → (0 : Int) = (4660 : Int)) ∧ True) := by kernel_rfl
theorem line_r0 (E : World)  (z : PX)  (y : PX) :
    (loopP (pe E) Try.f9 (endP true m9 [] (.a u240) (fun _ y => y.n 90009 = 4660) z) (headP true [] Try.f9.ntmps (some ((fun y => (240 - y.n 91044).toNat) y)) (line_hs E  z ))  (run (pe E) (orcX E) (tabL fns) 20000 (2 ^ 200 - 1) (line_td E) (mkL Try.f9.ntmps (slC y [(6, .c (.p 11 0)), (7, .c (.p 12 0)), (9, .c (.p 13 0)), (44, .r .i64 (0) (240))])) (mkM y [] mH 0))) =
    ((decide (y.n (91044 : Nat) < (240 : Int)) = true → ((palB = palB ∧ scB = scB ∧ Bl.mk [] (78 : TypeId) = Bl.mk [] (78 : TypeId) ∧ Bl.mk [] (78 : TypeId) = Bl.mk [] (78 :
      TypeId) ∧ Bl.mk [] (78 : TypeId) = Bl.mk [] (78 : TypeId) ∧ Bl.mk [] (78 : TypeId) = Bl.mk [] (78 : TypeId) ∧ Bl.mk [] (78 : TypeId) = Bl.mk [] (78 : TypeId) ∧ Bl.mk []
      (78 : TypeId) = Bl.mk [] (78 : TypeId) ∧ Bl.mk [] (78 : TypeId) = Bl.mk [] (78 : TypeId) ∧ Bl.mk [] (78 : TypeId) = Bl.mk [] (78 : TypeId) ∧ rgB = rgB ∧ (36 : Nat) = (36 :
      Nat) ∧ True ∧ (36 : Nat) = (36 : Nat) ∧ True ∧ layB = layB ∧ ([] : SW) = []) ∧ (0 : Int) ≤ y.n (91044 : Nat) ∧ y.n (91044 : Nat) < (240 : Int)) ∧ ∀ (y_1 : PX), True ∧
      y_1.n (90000 : Nat) = (4660 : Int) → inB (y.n (91044 : Nat)) (240 : Nat) = true ∧ line_td E = line_td E ∧ (54 : Nat) = (54 : Nat) ∧ (True ∧ True ∧ True ∧ (((0 : Int) ≤
      IntKind.i64.wrap (y.n (91044 : Nat) + (1 : Int)) ∧ IntKind.i64.wrap (y.n (91044 : Nat) + (1 : Int)) ≤ (240 : Int)) ∧ True) ∧ True) ∧ (palB = palB ∧ scB = scB ∧ Bl.mk []
      (78 : TypeId) = Bl.mk [] (78 : TypeId) ∧ Bl.mk [] (78 : TypeId) = Bl.mk [] (78 : TypeId) ∧ Bl.mk [] (78 : TypeId) = Bl.mk [] (78 : TypeId) ∧ Bl.mk [] (78 : TypeId) = Bl.mk
      [] (78 : TypeId) ∧ Bl.mk [] (78 : TypeId) = Bl.mk [] (78 : TypeId) ∧ Bl.mk [] (78 : TypeId) = Bl.mk [] (78 : TypeId) ∧ Bl.mk [] (78 : TypeId) = Bl.mk [] (78 : TypeId) ∧
      Bl.mk [] (78 : TypeId) = Bl.mk [] (78 : TypeId) ∧ rgB = rgB ∧ (36 : Nat) = (36 : Nat) ∧ True ∧ (36 : Nat) = (36 : Nat) ∧ True ∧ layB = layB ∧ True) ∧ ((10 : Int) ≤
      IntKind.i64.wrap (y.n (91044 : Nat) + (1 : Int)) → (bif y.n (91044 : Nat) == (9 : Int) then y_1.n (90000 : Nat) else y.n (1200009 : Nat)) = (4660 : Int)) ∧ ((240 : Int) -
      IntKind.i64.wrap (y.n (91044 : Nat) + (1 : Int))).toNat < ((240 : Int) - y.n (91044 : Nat)).toNat ∧ True) ∧ (decide (y.n (91044 : Nat) < (240 : Int)) = false → True ∧
      (palB = palB ∧ scB = scB ∧ (78 : Nat) = (78 : Nat) ∧ (78 : Nat) = (78 : Nat) ∧ (78 : Nat) = (78 : Nat) ∧ (78 : Nat) = (78 : Nat) ∧ (78 : Nat) = (78 : Nat) ∧ (78 : Nat) =
      (78 : Nat) ∧ (78 : Nat) = (78 : Nat) ∧ (78 : Nat) = (78 : Nat) ∧ rgB = rgB ∧ True) ∧ y.n (1200009 : Nat) = (4660 : Int))) := by kernel_rfl
set_option maxHeartbeats 8000000 in
theorem line_c (E : World)   (z : PX) (hz : rgM z m9 0) (hp : (fun _ => True) z) : HC (pe E) 9 [.c (.p 1 0), .c (.p 10 0), .c (.i true .i64 5)] m9 [] (.a u240) (fun _ y => y.n 90009 = 4660) z := by
  refine HC.loop (P := pe E) orcX_ok tab_ok tab_sz mixed Try.func9 (c := Try.f9.body.getD .skip) rfl (by decide) (Nat.le_of_ble_eq_true rfl) true (by kernel_rfl) (by kernel_rfl) (by kernel_rfl) (by kernel_rfl) 20000 (2 ^ 200 - 1) (line_hs E  z ) (by kernel_rfl) ?_ (loopP_lfH ⟨?_⟩) ?_
  · intro h hmem
    simp only [line_hs, List.mem_cons, List.not_mem_nil, or_false] at hmem
    rcases hmem with hmem
    all_goals (subst hmem; exact ⟨by kernel_rfl, Nat.le_of_ble_eq_true rfl, fun y _ => okSW_mk y (by kernel_rfl)⟩)
  · rw [line_pro]
    obtain _ :=  hz
    (repeat' (first | exact trivial | (exact (show (_ : Bl) = layB by kernel_rfl)) | exact rfl | apply And.intro | intro _)) <;> omega
  · intro h hmem y hy1 hy2 hy3
    simp only [line_hs, List.mem_cons, List.not_mem_nil, or_false] at hmem
    rcases hmem with hmem
    · have e1 : h.td = (line_td E) := by rw [hmem]
      have e2 : h.fs = [(6, .c (.p 11 0)), (7, .c (.p 12 0)), (9, .c (.p 13 0)), (44, .r .i64 (0) (240))] := by rw [hmem]
      have e3 : h.ms = mH := by rw [hmem]
      have e4 : h.mu = (fun y => (240 - y.n 91044).toNat) := by rw [hmem]
      have e5 : h.H = (fun y => 10 ≤ y.n 91044 → y.n 1200009 = 4660) := by rw [hmem]
      rw [e3] at hy1
      rw [e2] at hy2
      rw [e5] at hy3
      rw [e1, e2, e3, e4]
      refine loopP_lfH ⟨?_⟩
      rw [line_r0]
      clear e1 e2 e3 e4 e5 hmem
      have hf : True ∧ True ∧ True ∧ (((0) ≤ y.n 91044 ∧ y.n 91044 ≤ (240)) ∧ True) ∧ True := hy2
      obtain ⟨_, _, _, ⟨g44, _⟩, _⟩ := hf
      skip
      refine ⟨fun hlt => ?_, fun hge => ?_⟩
      · replace hlt := of_decide_eq_true hlt
        have hin : inB (y.n 91044) 240 = true := by simp only [inB, Bool.and_eq_true, decide_eq_true_eq]; omega
        have w1 : IntKind.i64.wrap (y.n 91044 + 1) = y.n 91044 + 1 := by rw [wi64]; omega
        rw [w1]
        (repeat' (first | assumption | exact trivial | exact rfl | (exact ⟨g44.1, hlt⟩) | apply And.intro | (rintro y1 ⟨_, hq⟩) | intro _)) <;> (first | omega | skip)
        rename_i h10
        by_cases h9 : y.n 91044 = 9
        · simp [h9, hq]
        · have : (y.n 91044 == 9) = false := by simpa using h9
          rw [this]
          exact hy3 (by omega)
      · have hge := of_decide_eq_false hge
        have h4 := hy3 (by omega)
        (repeat' (first | assumption | exact trivial | exact rfl | apply And.intro))
end Go.Proofs.Ytdkegheacceecaa

