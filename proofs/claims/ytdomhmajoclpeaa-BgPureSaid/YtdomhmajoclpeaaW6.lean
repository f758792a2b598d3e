import Derived.Test.YtdomhmajoclpeaaU
set_option linter.unusedVariables false
set_option linter.unusedSimpArgs false
namespace Go.Proofs.Ytdomhmajoclpeaa
open Go Go.Proofs Go.Proofs.Ytdomhmajoclpeaa.Ev Go.Proofs.Ytdomhmajoclpeaa.Ev.Ho Go.IntKind
set_option maxRecDepth 100000
noncomputable def mZ : MB := .o [.c (.i true .u16 0), .c (.i true .u16 0), .c (.i true .u16 0), .c (.i true .u16 0), .c (.i true .u16 0), .c (.i true .u16 0), .c (.i true .u16 0), .c (.i true .u16 0), .c (.i true .u16 0), .c (.i true .u16 0), .c (.i true .u16 0), .c (.i true .u16 0), .c (.i true .u16 0), .c (.i true .i16 0), .c (.i true .i16 0), .c (.i true .i16 0), .c (.i true .i16 0), .c (.i true .i16 0), .c (.i true .i16 0), .c (.i true .i16 0), .c (.i true .i16 0), .c (.i true .i32 0), .c (.i true .i32 0), .c (.i true .i32 0), .c (.i true .i32 0), .c (.i true .u16 0), .c (.x (.slice none 0 0)), .c (.x (.slice none 0 0)), .c (.x (.slice none 0 0))] 31
noncomputable def filY (E : World) (a1 a2 a3 a4 : Option Addr) (n1 m1 n2 m2 n3 m3 n4 m4 : Nat) (x0 x1 x2 x3 x4 x5 x6 x7 x8 x9 x10 x11 x12 x13 x14 x15 x16 x17 x18 x19 x20 x21 x22 x23 x24 x25 x26 : Int) : PX := fnY (pe E) 9 [.a [.i false .u16 x0, .i false .u16 x1, .i false .u16 x2, .i false .u16 x3, .i false .u16 x4, .i false .u16 x5, .i false .u16 x6, .i false .u16 x7, .i false .u16 x8, .i false .u16 x9, .i false .u16 x10, .i false .u16 x11, .i false .u16 x12, .i false .i16 x13, .i false .i16 x14, .i false .i16 x15, .i false .i16 x16, .i false .i16 x17, .i false .i16 x18, .i false .i16 x19, .i false .i16 x20, .i false .i32 x21, .i false .i32 x22, .i false .i32 x23, .i false .i32 x24, .i false .u16 x25, .es a1 n1 m1, .es a2 n2 m2, .es a3 n3 m3, .i false .u32 x26, .es a4 n4 m4]] [] [mW 1, rowB, rowB, rowB] (.c (.c (.p 0 0))) (QF x0 x1 x2 x3 x4 x5 x6 x7 x8 x9 x10 x11 x12 x13 x14 x15 x16 x17 x18 x19 x20 x21 x22 x23 x24 x25) (fun _ => ()) (preK E a4 n4 x0 x1 x2 x3 x4 x5 x6 x7 x8 x9 x10 x11 x12 x13 x14 x15 x16 x17 x18 x19 x20 x21 x22 x23 x24 x25) ()
theorem filY_c (E : World) (a1 a2 a3 a4 : Option Addr) (n1 m1 n2 m2 n3 m3 n4 m4 : Nat) (x0 x1 x2 x3 x4 x5 x6 x7 x8 x9 x10 x11 x12 x13 x14 x15 x16 x17 x18 x19 x20 x21 x22 x23 x24 x25 x26 : Int) (z : PX) (hz : rgM z [] 0) (hp : (preK E a4 n4 x0 x1 x2 x3 x4 x5 x6 x7 x8 x9 x10 x11 x12 x13 x14 x15 x16 x17 x18 x19 x20 x21 x22 x23 x24 x25) z) : HD (pe E) 9 [.a [.i false .u16 x0, .i false .u16 x1, .i false .u16 x2, .i false .u16 x3, .i false .u16 x4, .i false .u16 x5, .i false .u16 x6, .i false .u16 x7, .i false .u16 x8, .i false .u16 x9, .i false .u16 x10, .i false .u16 x11, .i false .u16 x12, .i false .i16 x13, .i false .i16 x14, .i false .i16 x15, .i false .i16 x16, .i false .i16 x17, .i false .i16 x18, .i false .i16 x19, .i false .i16 x20, .i false .i32 x21, .i false .i32 x22, .i false .i32 x23, .i false .i32 x24, .i false .u16 x25, .es a1 n1 m1, .es a2 n2 m2, .es a3 n3 m3, .i false .u32 x26, .es a4 n4 m4]] [] [mW 1, rowB, rowB, rowB] (.c (.c (.p 0 0))) (fun z y => (QF x0 x1 x2 x3 x4 x5 x6 x7 x8 x9 x10 x11 x12 x13 x14 x15 x16 x17 x18 x19 x20 x21 x22 x23 x24 x25) z y ∧ y = filY E a1 a2 a3 a4 n1 m1 n2 m2 n3 m3 n4 m4 x0 x1 x2 x3 x4 x5 x6 x7 x8 x9 x10 x11 x12 x13 x14 x15 x16 x17 x18 x19 x20 x21 x22 x23 x24 x25 x26) z := by
  refine (HD.fn (T := fun _ => ()) (pre := preK E a4 n4 x0 x1 x2 x3 x4 x5 x6 x7 x8 x9 x10 x11 x12 x13 x14 x15 x16 x17 x18 x19 x20 x21 x22 x23 x24 x25) (fun _ _ _ => rfl) (fun _ _ _ _ h => h) (fun z hz hp => fil_c E a1 a2 a3 a4 n1 m1 n2 m2 n3 m3 n4 m4 x0 x1 x2 x3 x4 x5 x6 x7 x8 x9 x10 x11 x12 x13 x14 x15 x16 x17 x18 x19 x20 x21 x22 x23 x24 x25 x26 z hz hp) z hz hp).imp (fun y _ _ h => ⟨h.1, h.2⟩)
noncomputable def tdN (E : World) : List Item := headP [] (run (pe E) (orcL E) (tabL fns) 20000 (2 ^ 200 - 1) [.code (Try.f11.body.getD .skip)] ⟨Try.f11.ntmps, mkFrGo (Tr.mk 12) 0 [.c (.x (.pointer none)), .c (.i false .i64 5), .c (.i false .i64 5)]⟩ (mkM default [] [] 0))
noncomputable def drN_h0 (E : World) (i line : Int) (z : PX) : Hd := ⟨5, anyH, (tdN E), [(6, .c (.p 0 0)), (7, .c (.p 1 0)), (29, .r .i64 (0) (240))], [mO, mO], fun y => AllF (y.n 91029) (fun _ => 32768) (cl y 100000 60) (cl y 100060 60) (cl y 100120 60) (cl y 100180 60), fun y => (240 - y.n 91029).toNat⟩
noncomputable def drN_hs (E : World) (i line : Int) (z : PX) : List Hd := [drN_h0 E i line z]
theorem drN_pro (E : World) (i line : Int) (z : PX) :
    (loopP (pe E) Try.f11 (endR ([] : List MB).length [] (.a (List.replicate 240 (.i .u16))) (fun _ y => AllF 240 (fun _ => 32768) (cl y 90000 60) (cl y 90060 60) (cl y 90120 60) (cl y 90180 60)) z) (headR ([] : List MB).length Try.f11.ntmps none (drN_hs E i line z)) (run (pe E) (orcL E) (tabL fns) 20000 (2 ^ 200 - 1) [.code (Try.f11.body.getD .skip)] ⟨Try.f11.ntmps, mkFrGo (Tr.mk 12) 0 [.c (.x (.pointer none)), .c (.i false .i64 i), .c (.i false .i64 line)]⟩ (mkM z [] [] 0))) =
    (tdN E = tdN E ∧ 77 = 77 ∧ (True ∧ True ∧ (((0 : Int) ≤ (0 : Int) ∧ (0 : Int) ≤ 240) ∧ True) ∧ True) ∧ (42 = 42 ∧ True ∧ 42 = 42 ∧ True ∧ ([] : SW) = []) ∧ (∀ (j : Nat), j < ((List.replicate 60 (0 : Int)) ++ ((List.replicate 60 (0 : Int)) ++ ((List.replicate 60 (0 : Int)) ++ (List.replicate 60 (0 : Int))))).length → (↑j : Int) < 0 → ((List.replicate 60 (0 : Int)) ++ ((List.replicate 60 (0 : Int)) ++ ((List.replicate 60 (0 : Int)) ++ (List.replicate 60 (0 : Int)))))[j]? = some 32768) ∧ True) := by kernel_rfl
theorem drN_r0 (E : World) (i line : Int) (z : PX) (y : PX) :
    (loopP (pe E) Try.f11 (endR ([] : List MB).length [] (.a (List.replicate 240 (.i .u16))) (fun _ y => AllF 240 (fun _ => 32768) (cl y 90000 60) (cl y 90060 60) (cl y 90120 60) (cl y 90180 60)) z) (headR ([] : List MB).length Try.f11.ntmps (some ((fun y => (240 - y.n 91029).toNat) y)) (drN_hs E i line z))  (run (pe E) (orcL E) (tabL fns) 20000 (2 ^ 200 - 1) (tdN E) (mkL Try.f11.ntmps (slC y [(6, .c (.p 0 0)), (7, .c (.p 1 0)), (29, .r .i64 (0) (240))])) (mkM y [] [mO, mO] 0))) =
    ((decide (y.n 91029 < 240) = true → inB (y.n 91029) (240 : Nat) = true ∧ tdN E = tdN E ∧ 77 = 77 ∧ (True ∧ True ∧ ((0 ≤ i64.wrap (y.n 91029 + 1) ∧ i64.wrap (y.n 91029 + 1) ≤ 240) ∧ True) ∧ True) ∧ (42 = 42 ∧ True ∧ 42 = 42 ∧ True ∧ ([] : SW) = []) ∧ (∀ (j : Nat), j < ((updL (y.n 91029) ((32768 : Int)) 0 (cl y 100000 60)) ++ ((updL (y.n 91029) ((32768 : Int)) 60 (cl y 100060 60)) ++ ((updL (y.n 91029) ((32768 : Int)) 120 (cl y 100120 60)) ++ (updL (y.n 91029) ((32768 : Int)) 180 (cl y 100180 60))))).length → (↑j : Int) < i64.wrap (y.n 91029 + 1) → ((updL (y.n 91029) ((32768 : Int)) 0 (cl y 100000 60)) ++ ((updL (y.n 91029) ((32768 : Int)) 60 (cl y 100060 60)) ++ ((updL (y.n 91029) ((32768 : Int)) 120 (cl y 100120 60)) ++ (updL (y.n 91029) ((32768 : Int)) 180 (cl y 100180 60)))))[j]? = some 32768) ∧ (240 - i64.wrap (y.n 91029 + 1)).toNat < (240 - y.n 91029).toNat ∧ True) ∧ (decide (y.n 91029 < 240) = false → ([] : SW) = [] ∧ True ∧ AllF 240 (fun (x : Int) => 32768) (cl y 100000 60) (cl y 100060 60) (cl y 100120 60) (cl y 100180 60))) := by kernel_rfl
set_option maxHeartbeats 8000000 in
theorem drN_q0 (E : World) (i line : Int) (z : PX) (hp : (fun _ => True) z) (y : PX) (hy1 : rgM y [mO, mO] 0) (hy2 : rgF y [(6, .c (.p 0 0)), (7, .c (.p 1 0)), (29, .r .i64 (0) (240))]) (hy3 : (fun y => AllF (y.n 91029) (fun _ => 32768) (cl y 100000 60) (cl y 100060 60) (cl y 100120 60) (cl y 100180 60)) y) : Holds ((run (pe E) (orcL E) (tabL fns) 20000 (2 ^ 200 - 1) (tdN E) (mkL Try.f11.ntmps (slC y [(6, .c (.p 0 0)), (7, .c (.p 1 0)), (29, .r .i64 (0) (240))])) (mkM y [] [mO, mO] 0)).OK (lfP (pe E) Try.f11 (endR ([] : List MB).length [] (.a (List.replicate 240 (.i .u16))) (fun _ y => AllF 240 (fun _ => 32768) (cl y 90000 60) (cl y 90060 60) (cl y 90120 60) (cl y 90180 60)) z) (headR ([] : List MB).length Try.f11.ntmps (some ((fun y => (240 - y.n 91029).toNat) y)) (drN_hs E i line z)))) := by
  refine loopP_lfH ⟨?_⟩
  rw [drN_r0]
  have hf : True ∧ True ∧ (((0) ≤ y.n 91029 ∧ y.n 91029 ≤ (240)) ∧ True) ∧ True := hy2
  obtain ⟨_, _, ⟨g29, _⟩, _⟩ := hf
  have hA := hy3
  have g29' : 0 ≤ y.n 91029 ∧ y.n 91029 ≤ 240 := g29
  refine ⟨fun h => ?_, fun h => ?_⟩
  · have h := of_decide_eq_true h
    have w1 : IntKind.i64.wrap (y.n 91029 + 1) = y.n 91029 + 1 := wi64_in _ (by omega) (by omega)
    have hU := AllF_upd (v := 32768) hA rfl g29'.1 rfl rfl rfl
    have hin : inB (y.n 91029) 240 = true := inB_of g29'.1 (by omega)
    rw [w1]
    (repeat' (first | exact trivial | with_reducible rfl | exact hU | with_reducible assumption | apply And.intro)) <;> (first | omega | done)
  · have h := of_decide_eq_false h
    have hE := AllF_end (G := fun _ => 32768) hA (by omega) (fun j => rfl)
    (repeat' (first | exact trivial | with_reducible rfl | exact hE | with_reducible assumption | apply And.intro)) <;> (first | omega | done)
set_option maxHeartbeats 8000000 in
theorem drN_c (E : World) (i line : Int) (z : PX) (hz : rgM z [] 0) (hp : (fun _ => True) z) : HD (pe E) 11 [.c (.x (.pointer none)), .c (.i false .i64 i), .c (.i false .i64 line)] [] [] (.a (List.replicate 240 (.i .u16))) (fun _ y => AllF 240 (fun _ => 32768) (cl y 90000 60) (cl y 90060 60) (cl y 90120 60) (cl y 90180 60)) z := by
  refine HD.loop (P := pe E) orcL_ok tab_ok tab_sz mixed Try.func11 (c := Try.f11.body.getD .skip) rfl (by decide) (Nat.le_of_ble_eq_true rfl) (by rfl) 20000 (2 ^ 200 - 1) (drN_hs E i line z) (by rfl) (loopP_lfH ⟨?_⟩) ?_
  · rw [drN_pro]
    (repeat' (first | exact trivial | with_reducible rfl | exact AllF_zero | with_reducible assumption | apply And.intro)) <;> (first | omega | done)
  · intro h hmem y hy1 hy2 hy3
    simp only [drN_hs, List.mem_cons, List.not_mem_nil, or_false] at hmem
    rcases hmem with rfl
    · exact drN_q0 E i line z hp y hy1 hy2 hy3
noncomputable def tdZ (E : World) : List Item := headP [] (run (pe E) (orcL E) (tabL fns) 20000 (2 ^ 200 - 1) [.code (Try.f11.body.getD .skip)] ⟨Try.f11.ntmps, mkFrGo (Tr.mk 12) 0 [.c (.p 0 0), .c (.i true .i64 0), .c (.i true .i64 0)]⟩ (mkM default [] [mZ] 0))
noncomputable def drZ_h0 (E : World)  (z : PX) : Hd := ⟨5, anyH, (tdZ E), [(6, .c (.p 1 0)), (7, .c (.p 2 0)), (29, .r .i64 (0) (240))], [mZ, mO, mO], fun y => AllF (y.n 91029) (fun _ => 32768) (cl y 200000 60) (cl y 200060 60) (cl y 200120 60) (cl y 200180 60), fun y => (240 - y.n 91029).toNat⟩
noncomputable def drZ_hs (E : World)  (z : PX) : List Hd := [drZ_h0 E  z]
theorem drZ_pro (E : World)  (z : PX) :
    (loopP (pe E) Try.f11 (endR ([mZ] : List MB).length [mZ] (.a (List.replicate 240 (.i .u16))) (fun _ y => AllF 240 (fun _ => 32768) (cl y 90000 60) (cl y 90060 60) (cl y 90120 60) (cl y 90180 60)) z) (headR ([mZ] : List MB).length Try.f11.ntmps none (drZ_hs E  z)) (run (pe E) (orcL E) (tabL fns) 20000 (2 ^ 200 - 1) [.code (Try.f11.body.getD .skip)] ⟨Try.f11.ntmps, mkFrGo (Tr.mk 12) 0 [.c (.p 0 0), .c (.i true .i64 0), .c (.i true .i64 0)]⟩ (mkM z [] [mZ] 0))) =
    (tdZ E = tdZ E ∧ 77 = 77 ∧ (True ∧ True ∧ (((0 : Int) ≤ (0 : Int) ∧ (0 : Int) ≤ 240) ∧ True) ∧ True) ∧ (31 = 31 ∧ True ∧ 42 = 42 ∧ True ∧ 42 = 42 ∧ True ∧ ([] : SW) = []) ∧ (∀ (j : Nat), j < ((List.replicate 60 (0 : Int)) ++ ((List.replicate 60 (0 : Int)) ++ ((List.replicate 60 (0 : Int)) ++ (List.replicate 60 (0 : Int))))).length → (↑j : Int) < 0 → ((List.replicate 60 (0 : Int)) ++ ((List.replicate 60 (0 : Int)) ++ ((List.replicate 60 (0 : Int)) ++ (List.replicate 60 (0 : Int)))))[j]? = some 32768) ∧ True) := by kernel_rfl
theorem drZ_r0 (E : World)  (z : PX) (y : PX) :
    (loopP (pe E) Try.f11 (endR ([mZ] : List MB).length [mZ] (.a (List.replicate 240 (.i .u16))) (fun _ y => AllF 240 (fun _ => 32768) (cl y 90000 60) (cl y 90060 60) (cl y 90120 60) (cl y 90180 60)) z) (headR ([mZ] : List MB).length Try.f11.ntmps (some ((fun y => (240 - y.n 91029).toNat) y)) (drZ_hs E  z))  (run (pe E) (orcL E) (tabL fns) 20000 (2 ^ 200 - 1) (tdZ E) (mkL Try.f11.ntmps (slC y [(6, .c (.p 1 0)), (7, .c (.p 2 0)), (29, .r .i64 (0) (240))])) (mkM y [] [mZ, mO, mO] 0))) =
    ((decide (y.n 91029 < 240) = true → inB (y.n 91029) (240 : Nat) = true ∧ tdZ E = tdZ E ∧ 77 = 77 ∧ (True ∧ True ∧ ((0 ≤ i64.wrap (y.n 91029 + 1) ∧ i64.wrap (y.n 91029 + 1) ≤ 240) ∧ True) ∧ True) ∧ (31 = 31 ∧ True ∧ 42 = 42 ∧ True ∧ 42 = 42 ∧ True ∧ ([] : SW) = []) ∧ (∀ (j : Nat), j < ((updL (y.n 91029) ((32768 : Int)) 0 (cl y 200000 60)) ++ ((updL (y.n 91029) ((32768 : Int)) 60 (cl y 200060 60)) ++ ((updL (y.n 91029) ((32768 : Int)) 120 (cl y 200120 60)) ++ (updL (y.n 91029) ((32768 : Int)) 180 (cl y 200180 60))))).length → (↑j : Int) < i64.wrap (y.n 91029 + 1) → ((updL (y.n 91029) ((32768 : Int)) 0 (cl y 200000 60)) ++ ((updL (y.n 91029) ((32768 : Int)) 60 (cl y 200060 60)) ++ ((updL (y.n 91029) ((32768 : Int)) 120 (cl y 200120 60)) ++ (updL (y.n 91029) ((32768 : Int)) 180 (cl y 200180 60)))))[j]? = some 32768) ∧ (240 - i64.wrap (y.n 91029 + 1)).toNat < (240 - y.n 91029).toNat ∧ True) ∧ (decide (y.n 91029 < 240) = false → (31 = 31 ∧ True ∧ ([] : SW) = []) ∧ True ∧ AllF 240 (fun (x : Int) => 32768) (cl y 200000 60) (cl y 200060 60) (cl y 200120 60) (cl y 200180 60))) := by kernel_rfl
set_option maxHeartbeats 8000000 in
theorem drZ_q0 (E : World)  (z : PX) (hp : (fun _ => True) z) (y : PX) (hy1 : rgM y [mZ, mO, mO] 0) (hy2 : rgF y [(6, .c (.p 1 0)), (7, .c (.p 2 0)), (29, .r .i64 (0) (240))]) (hy3 : (fun y => AllF (y.n 91029) (fun _ => 32768) (cl y 200000 60) (cl y 200060 60) (cl y 200120 60) (cl y 200180 60)) y) : Holds ((run (pe E) (orcL E) (tabL fns) 20000 (2 ^ 200 - 1) (tdZ E) (mkL Try.f11.ntmps (slC y [(6, .c (.p 1 0)), (7, .c (.p 2 0)), (29, .r .i64 (0) (240))])) (mkM y [] [mZ, mO, mO] 0)).OK (lfP (pe E) Try.f11 (endR ([mZ] : List MB).length [mZ] (.a (List.replicate 240 (.i .u16))) (fun _ y => AllF 240 (fun _ => 32768) (cl y 90000 60) (cl y 90060 60) (cl y 90120 60) (cl y 90180 60)) z) (headR ([mZ] : List MB).length Try.f11.ntmps (some ((fun y => (240 - y.n 91029).toNat) y)) (drZ_hs E  z)))) := by
  refine loopP_lfH ⟨?_⟩
  rw [drZ_r0]
  have hf : True ∧ True ∧ (((0) ≤ y.n 91029 ∧ y.n 91029 ≤ (240)) ∧ True) ∧ True := hy2
  obtain ⟨_, _, ⟨g29, _⟩, _⟩ := hf
  have hA := hy3
  have g29' : 0 ≤ y.n 91029 ∧ y.n 91029 ≤ 240 := g29
  refine ⟨fun h => ?_, fun h => ?_⟩
  · have h := of_decide_eq_true h
    have w1 : IntKind.i64.wrap (y.n 91029 + 1) = y.n 91029 + 1 := wi64_in _ (by omega) (by omega)
    have hU := AllF_upd (v := 32768) hA rfl g29'.1 rfl rfl rfl
    have hin : inB (y.n 91029) 240 = true := inB_of g29'.1 (by omega)
    rw [w1]
    (repeat' (first | exact trivial | with_reducible rfl | exact hU | with_reducible assumption | apply And.intro)) <;> (first | omega | done)
  · have h := of_decide_eq_false h
    have hE := AllF_end (G := fun _ => 32768) hA (by omega) (fun j => rfl)
    (repeat' (first | exact trivial | with_reducible rfl | exact hE | with_reducible assumption | apply And.intro)) <;> (first | omega | done)
set_option maxHeartbeats 8000000 in
theorem drZ_c (E : World)  (z : PX) (hz : rgM z [mZ] 0) (hp : (fun _ => True) z) : HD (pe E) 11 [.c (.p 0 0), .c (.i true .i64 0), .c (.i true .i64 0)] [mZ] [mZ] (.a (List.replicate 240 (.i .u16))) (fun _ y => AllF 240 (fun _ => 32768) (cl y 90000 60) (cl y 90060 60) (cl y 90120 60) (cl y 90180 60)) z := by
  refine HD.loop (P := pe E) orcL_ok tab_ok tab_sz mixed Try.func11 (c := Try.f11.body.getD .skip) rfl (by decide) (Nat.le_of_ble_eq_true rfl) (by rfl) 20000 (2 ^ 200 - 1) (drZ_hs E  z) (by rfl) (loopP_lfH ⟨?_⟩) ?_
  · rw [drZ_pro]
    (repeat' (first | exact trivial | with_reducible rfl | exact AllF_zero | with_reducible assumption | apply And.intro)) <;> (first | omega | done)
  · intro h hmem y hy1 hy2 hy3
    simp only [drZ_hs, List.mem_cons, List.not_mem_nil, or_false] at hmem
    rcases hmem with rfl
    · exact drZ_q0 E  z hp y hy1 hy2 hy3
theorem drNR_c (E : World) (i line : Int) (z : PX) (hz : rgM z [] 0) (hp : (fun _ => True) z) : HR (pe E) 11 [.c (.x (.pointer none)), .c (.i false .i64 i), .c (.i false .i64 line)] [] [] (.a (List.replicate 240 (.i .u16))) (fun _ y => AllF 240 (fun _ => 32768) (cl y 90000 60) (cl y 90060 60) (cl y 90120 60) (cl y 90180 60)) z := HR.ofHD (drN_c E i line z hz hp) (fun _ _ => rfl) (fun _ _ h => h)
theorem drZR_c (E : World) (z : PX) (hz : rgM z [mZ] 0) (hp : (fun _ => True) z) : HR (pe E) 11 [.c (.p 0 0), .c (.i true .i64 0), .c (.i true .i64 0)] [mZ] [] (.a (List.replicate 240 (.i .u16))) (fun _ y => AllF 240 (fun _ => 32768) (cl y 90000 60) (cl y 90060 60) (cl y 90120 60) (cl y 90180 60)) z := HR.ofHD (drZ_c E z hz hp) (fun _ _ => rfl) (fun _ _ h => h)
noncomputable def orcG6 (E : World) : Orc := fun g vs s => match g with
  | 9 => (match frGo [] vs s (fun vs0 π s1 s0 => match vs0 with
      | [.a [.i l0 .u16 x0, .i l1 .u16 x1, .i l2 .u16 x2, .i l3 .u16 x3, .i l4 .u16 x4, .i l5 .u16 x5, .i l6 .u16 x6, .i l7 .u16 x7, .i l8 .u16 x8, .i l9 .u16 x9, .i l10 .u16 x10, .i l11 .u16 x11, .i l12 .u16 x12, .i l13 .i16 x13, .i l14 .i16 x14, .i l15 .i16 x15, .i l16 .i16 x16, .i l17 .i16 x17, .i l18 .i16 x18, .i l19 .i16 x19, .i l20 .i16 x20, .i l21 .i32 x21, .i l22 .i32 x22, .i l23 .i32 x23, .i l24 .i32 x24, .i l25 .u16 x25, .es a1 n1 m1, .es a2 n2 m2, .es a3 n3 m3, .i l26 .u32 x26, .es a4 n4 m4]] => some (hdG (pre := preK E a4 n4 x0 x1 x2 x3 x4 x5 x6 x7 x8 x9 x10 x11 x12 x13 x14 x15 x16 x17 x18 x19 x20 x21 x22 x23 x24 x25) (fun z hz hp => HD.args (vs := [.a [.i l0 .u16 x0, .i l1 .u16 x1, .i l2 .u16 x2, .i l3 .u16 x3, .i l4 .u16 x4, .i l5 .u16 x5, .i l6 .u16 x6, .i l7 .u16 x7, .i l8 .u16 x8, .i l9 .u16 x9, .i l10 .u16 x10, .i l11 .u16 x11, .i l12 .u16 x12, .i l13 .i16 x13, .i l14 .i16 x14, .i l15 .i16 x15, .i l16 .i16 x16, .i l17 .i16 x17, .i l18 .i16 x18, .i l19 .i16 x19, .i l20 .i16 x20, .i l21 .i32 x21, .i l22 .i32 x22, .i l23 .i32 x23, .i l24 .i32 x24, .i l25 .u16 x25, .es a1 n1 m1, .es a2 n2 m2, .es a3 n3 m3, .i l26 .u32 x26, .es a4 n4 m4]]) (by simp [simL, SV.sim, C.sim]) (filY_c E a1 a2 a3 a4 n1 m1 n2 m2 n3 m3 n4 m4 x0 x1 x2 x3 x4 x5 x6 x7 x8 x9 x10 x11 x12 x13 x14 x15 x16 x17 x18 x19 x20 x21 x22 x23 x24 x25 x26 z hz hp)) (by rfl) π s1 s0)
      | _ => none) with
    | some t => some t
    | none => (orcA E) g vs s)
  | g => (orcA E) g vs s
theorem orcG6_ok {E : World} : OrcOK (pe E) (orcG6 E) := by
  intro g vs s t h
  unfold orcG6 at h
  split at h
  · split at h
    · rename_i hfr; cases h
      obtain ⟨π, s1, hq, hK, hv, hok, hpd⟩ := frGo_spec (P := pe E) hfr
      split at hK
      · rename_i heq; cases hK
        rw [heq] at hv hok
        exact hpd _ _ (hdG_ok _ _ π s1 hq hv hok)
      · cases hK
    · exact orcA_ok _ _ _ _ h
  · exact orcA_ok _ _ _ _ h
noncomputable def orcW6 (E : World) : Orc := fun g vs s => match g with
  | 11 => (match frGo [] vs s (fun vs0 π s1 s0 => match vs0 with
      | [.c (.x (.pointer none)), .c (.i l2 .i64 i), .c (.i l3 .i64 line)] => some (hrG (pre := fun _ => True) (fun z hz hp => HR.args (vs := [.c (.x (.pointer none)), .c (.i l2 .i64 i), .c (.i l3 .i64 line)]) (by simp [simL, SV.sim, C.sim]) (drNR_c E i line z hz hp)) (by rfl) π s1 s0)
      | _ => none) with
    | some t => some t
    | none => (match frGo [mZ] vs s (fun vs0 π s1 s0 => match vs0 with
      | [.c (.p 0 0), .c (.i true .i64 0), .c (.i true .i64 0)] => some (hrG (pre := fun _ => True) (fun z hz hp => HR.args (vs := [.c (.p 0 0), .c (.i true .i64 0), .c (.i true .i64 0)]) (by simp [simL, SV.sim, C.sim]) (drZR_c E z hz hp)) (by rfl) π s1 s0)
      | _ => none) with
    | some t => some t
    | none => (match frGo [mS 1, rowB, rowB, rowB] vs s (fun vs0 π s1 s0 => match vs0 with
      | [.c (.p 0 0), .c (.i l2 .i64 i), .c (.i l3 .i64 line)] => some (hrG (pre := fun z => (ROk (z.l 1) (z.n 26).toNat ∧ ROk (z.l 2) (z.n 27).toNat) ∧ True) (fun z hz hp => HR.args (vs := [.c (.p 0 0), .c (.i l2 .i64 i), .c (.i l3 .i64 line)]) (by simp [simL, SV.sim, C.sim]) (drawHR_c E i line z hz hp)) (by rfl) π s1 s0)
      | _ => none) with
    | some t => some t
    | none => (orcG6 E) g vs s)))
  | 13 => (match frGo [mS 1, rowB, rowB, rowB] vs s (fun vs0 π s1 s0 => match vs0 with
      | [.c (.p 0 0), .c (.i l2 .i64 i)] => some (hrG (pre := fun _ => True) (fun z hz hp => HR.args (vs := [.c (.p 0 0), .c (.i l2 .i64 i)]) (by simp [simL, SV.sim, C.sim]) (shownR_c E i z hz hp)) (by rfl) π s1 s0)
      | _ => none) with
    | some t => some t
    | none => (orcG6 E) g vs s)
  | g => (orcG6 E) g vs s
theorem orcW6_ok {E : World} : OrcOK (pe E) (orcW6 E) := by
  intro g vs s t h
  unfold orcW6 at h
  split at h
  · split at h
    · rename_i hfr; cases h
      obtain ⟨π, s1, hq, hK, hv, hok, hpd⟩ := frGo_spec (P := pe E) hfr
      split at hK
      · rename_i heq; cases hK
        rw [heq] at hv hok
        exact hpd _ _ (hrG_ok _ _ (by rfl) π s1 hq hv hok)
      · cases hK
    · split at h
      · rename_i hfr; cases h
        obtain ⟨π, s1, hq, hK, hv, hok, hpd⟩ := frGo_spec (P := pe E) hfr
        split at hK
        · rename_i heq; cases hK
          rw [heq] at hv hok
          exact hpd _ _ (hrG_ok _ _ (by rfl) π s1 hq hv hok)
        · cases hK
      · split at h
        · rename_i hfr; cases h
          obtain ⟨π, s1, hq, hK, hv, hok, hpd⟩ := frGo_spec (P := pe E) hfr
          split at hK
          · rename_i heq; cases hK
            rw [heq] at hv hok
            exact hpd _ _ (hrG_ok _ _ (by rfl) π s1 hq hv hok)
          · cases hK
        · exact orcG6_ok _ _ _ _ h
  · split at h
    · rename_i hfr; cases h
      obtain ⟨π, s1, hq, hK, hv, hok, hpd⟩ := frGo_spec (P := pe E) hfr
      split at hK
      · rename_i heq; cases hK
        rw [heq] at hv hok
        exact hpd _ _ (hrG_ok _ _ (by rfl) π s1 hq hv hok)
      · cases hK
    · exact orcG6_ok _ _ _ _ h
  · exact orcG6_ok _ _ _ _ h
end Go.Proofs.Ytdomhmajoclpeaa

