import Derived.Test.YtdomhmajoclpeaaK
import Derived.Test.YtdomhmajoclpeaaL1
set_option linter.unusedVariables false
set_option linter.unusedSimpArgs false
namespace Go.Proofs.Ytdomhmajoclpeaa
open Go Go.Proofs Go.Proofs.Ytdomhmajoclpeaa.Ev Go.Proofs.Ytdomhmajoclpeaa.Ev.Ho Go.IntKind
set_option maxRecDepth 100000
noncomputable def mT : MB := .o [.c (.i true .u16 1027), .c (.i true .u16 0), .c (.i true .u16 0), .c (.i true .u16 0), .c (.i true .u16 0), .c (.i true .u16 0), .c (.i true .u16 0), .c (.i true .u16 0), .c (.i true .u16 0), .c (.i true .u16 0), .c (.i true .u16 0), .c (.i true .u16 0), .c (.i true .u16 0), .c (.i true .i16 256), .c (.i true .i16 0), .c (.i true .i16 0), .c (.i true .i16 256), .c (.i true .i16 0), .c (.i true .i16 0), .c (.i true .i16 0), .c (.i true .i16 0), .c (.i true .i32 0), .c (.i true .i32 0), .c (.i true .i32 0), .c (.i true .i32 0), .c (.i true .u16 0), .c (.slc 1 0 2 2), .c (.x (.slice none 0 0)), .c (.x (.slice none 0 0))] 31
noncomputable def mB2 : MB := .o [.c (.i true .u8 255), .c (.i true .u8 255)] 5
noncomputable def mLT : MB := .o [.c (.p 0 0), .c (.i true .i64 2), .c (.i true .u16 0), .c (.i true .i64 0), .c (.i true .i64 0)] 59
noncomputable def tdS2 (E : World) : List Item := headP [] (run (pe E) (orcL E) (tabL fns) 20000 (2 ^ 200 - 1) [.code (Try.f11.body.getD .skip)] ⟨Try.f11.ntmps, mkFrGo (Tr.mk 12) 0 [.c (.p 0 0), .c (.i true .i64 2), .c (.i true .i64 0)]⟩ (mkM default [] [mT, mB2] 0))
noncomputable def tdS1 (E : World) : List Item := headP [] (run (pe E) (orcL E) (tabL fns) 20000 (2 ^ 200 - 1) [.code (Try.f11.body.getD .skip)] ⟨Try.f11.ntmps, mkFrGo (Tr.mk 12) 0 [.c (.p 0 0), .c (.i true .i64 1), .c (.i true .i64 0)]⟩ (mkM default [] [mT, mB2] 0))
theorem wi32_in (x : Int) (h0 : -2147483648 ≤ x) (h1 : x ≤ 2147483647) : IntKind.i32.wrap x = x := by rw [wi32]; omega
theorem sxE (x : Int) (h : 0 ≤ x ∧ x ≤ 240) : IntKind.i64.wrap ((IntKind.i32.wrap (IntKind.i32.wrap (0 + IntKind.i32.wrap (IntKind.i32.wrap x * 256)) - 0)).fdiv 256) = x := by
  rw [wi32_in x (by omega) (by omega), wi32_in (x * 256) (by omega) (by omega), wi32_in (0 + x * 256) (by omega) (by omega), wi32_in (0 + x * 256 - 0) (by omega) (by omega), fd _ _ (by decide), wi64_in _ (by omega) (by omega)]; omega
theorem syE (x : Int) : IntKind.i64.wrap ((IntKind.i32.wrap (IntKind.i32.wrap (0 + IntKind.i32.wrap (IntKind.i32.wrap x * 0)) - 0)).fdiv 256) = 0 := by rw [Int.mul_zero]; decide
theorem saE (x : Int) (h : 0 ≤ x ∧ x ≤ 240) : IntKind.i64.wrap (2 * IntKind.i64.wrap (IntKind.i64.wrap (0 * 240) + x)) = 2 * x := by
  rw [show IntKind.i64.wrap (0 * 240) = 0 by decide, wi64_in (0 + x) (by omega) (by omega), wi64_in _ (by omega) (by omega)]; omega
theorem rnS (f : FuncId) : renC (posN [0, 1, 2, 3, 4]) (C.clo f [(4, 0)]) = C.clo f [(4, 0)] := rfl
noncomputable def dS1_h0 (E : World)  (z : PX) : Hd := ⟨5, anyH, (tdS1 E), [(6, .c (.p 2 0)), (7, .c (.p 3 0)), (29, .r .i64 (0) (240))], [mT, mB2, mO, mO], fun y => 0 < y.n 91029 → y.n 300000 = 32768, fun y => (240 - y.n 91029).toNat⟩
noncomputable def dS1_hs (E : World)  (z : PX) : List Hd := [dS1_h0 E  z]
theorem dS1_pro (E : World)  (z : PX) :
    (loopP (pe E) Try.f11 (endR ([mT, mB2] : List MB).length [mT, mB2] (.a (List.replicate 240 (.i .u16))) (fun _ y => y.n 90000 = 32768) z) (headR ([mT, mB2] : List MB).length Try.f11.ntmps none (dS1_hs E  z)) (run (pe E) (orcL E) (tabL fns) 20000 (2 ^ 200 - 1) [.code (Try.f11.body.getD .skip)] ⟨Try.f11.ntmps, mkFrGo (Tr.mk 12) 0 [.c (.p 0 0), .c (.i true .i64 1), .c (.i true .i64 0)]⟩ (mkM z [] [mT, mB2] 0))) =
    (tdS1 E = tdS1 E ∧ 77 = 77 ∧ (True ∧ True ∧ (((0 : Int) ≤ (0 : Int) ∧ (0 : Int) ≤ 240) ∧ True) ∧ True) ∧ (31 = 31 ∧ True ∧ 5 = 5 ∧ True ∧ 42 = 42 ∧ True ∧ 42 = 42 ∧ True ∧ ([] : SW) = []) ∧ ((0 : Int) < 0 → (0 : Int) = 32768) ∧ True) := by kernel_rfl
theorem dS1_r0 (E : World)  (z : PX) (y : PX) :
    (loopP (pe E) Try.f11 (endR ([mT, mB2] : List MB).length [mT, mB2] (.a (List.replicate 240 (.i .u16))) (fun _ y => y.n 90000 = 32768) z) (headR ([mT, mB2] : List MB).length Try.f11.ntmps (some ((fun y => (240 - y.n 91029).toNat) y)) (dS1_hs E  z))  (run (pe E) (orcL E) (tabL fns) 20000 (2 ^ 200 - 1) (tdS1 E) (mkL Try.f11.ntmps (slC y [(6, .c (.p 2 0)), (7, .c (.p 3 0)), (29, .r .i64 (0) (240))])) (mkM y [] [mT, mB2, mO, mO] 0))) =
    ((decide (y.n 91029 < 240) = true → inB (y.n 91029) (240 : Nat) = true ∧ tdS1 E = tdS1 E ∧ 77 = 77 ∧ (True ∧ True ∧ ((0 ≤ i64.wrap (y.n 91029 + 1) ∧ i64.wrap (y.n 91029 + 1) ≤ 240) ∧ True) ∧ True) ∧ (31 = 31 ∧ True ∧ 5 = 5 ∧ True ∧ 42 = 42 ∧ True ∧ 42 = 42 ∧ True ∧ ([] : SW) = []) ∧ (0 < i64.wrap (y.n 91029 + 1) → (bif y.n 91029 == 0 then (32768 : Int) else y.n 300000) = 32768) ∧ (240 - i64.wrap (y.n 91029 + 1)).toNat < (240 - y.n 91029).toNat ∧ True) ∧ (decide (y.n 91029 < 240) = false → (31 = 31 ∧ True ∧ 5 = 5 ∧ True ∧ ([] : SW) = []) ∧ True ∧ y.n 300000 = 32768)) := by kernel_rfl
set_option maxHeartbeats 8000000 in
theorem dS1_q0 (E : World)  (z : PX) (hp : (fun _ => True) z) (y : PX) (hy1 : rgM y [mT, mB2, mO, mO] 0) (hy2 : rgF y [(6, .c (.p 2 0)), (7, .c (.p 3 0)), (29, .r .i64 (0) (240))]) (hy3 : (fun y => 0 < y.n 91029 → y.n 300000 = 32768) y) : Holds ((run (pe E) (orcL E) (tabL fns) 20000 (2 ^ 200 - 1) (tdS1 E) (mkL Try.f11.ntmps (slC y [(6, .c (.p 2 0)), (7, .c (.p 3 0)), (29, .r .i64 (0) (240))])) (mkM y [] [mT, mB2, mO, mO] 0)).OK (lfP (pe E) Try.f11 (endR ([mT, mB2] : List MB).length [mT, mB2] (.a (List.replicate 240 (.i .u16))) (fun _ y => y.n 90000 = 32768) z) (headR ([mT, mB2] : List MB).length Try.f11.ntmps (some ((fun y => (240 - y.n 91029).toNat) y)) (dS1_hs E  z)))) := by
  refine loopP_lfH ⟨?_⟩
  rw [dS1_r0]
  have hf : True ∧ True ∧ (((0) ≤ y.n 91029 ∧ y.n 91029 ≤ (240)) ∧ True) ∧ True := hy2
  obtain ⟨_, _, ⟨g29, _⟩, _⟩ := hf
  have g : 0 ≤ y.n 91029 ∧ y.n 91029 ≤ 240 := g29
  clear g29
  generalize y.n 91029 = x at *
  generalize y.n 300000 = c0 at *
  refine ⟨fun h => ?_, fun h => ?_⟩
  · have h := of_decide_eq_true h
    rw [wi64_in (x + 1) (by omega) (by omega)]
    have hin : inB x 240 = true := inB_of g.1 (by omega)
    have k0 : (bif x == 0 then (32768 : Int) else c0) = 32768 := by
      by_cases hx : x = 0
      · rw [hx]; rfl
      · rw [show (x == 0) = false by simpa using hx]; exact hy3 (by omega)
    (repeat' (first | exact trivial | with_reducible rfl | (exact fun _ => k0) | with_reducible assumption | apply And.intro)) <;> (first | omega | decide)
  · have h := of_decide_eq_false h
    have k0 := hy3 (by omega)
    (repeat' (first | exact trivial | with_reducible rfl | with_reducible assumption | apply And.intro))
set_option maxHeartbeats 8000000 in
theorem dS1_c (E : World)  (z : PX) (hz : rgM z [mT, mB2] 0) (hp : (fun _ => True) z) : HD (pe E) 11 [.c (.p 0 0), .c (.i true .i64 1), .c (.i true .i64 0)] [mT, mB2] [mT, mB2] (.a (List.replicate 240 (.i .u16))) (fun _ y => y.n 90000 = 32768) z := by
  refine HD.loop (P := pe E) orcL_ok tab_ok tab_sz mixed Try.func11 (c := Try.f11.body.getD .skip) rfl (by decide) (Nat.le_of_ble_eq_true rfl) (by rfl) 20000 (2 ^ 200 - 1) (dS1_hs E  z) (by rfl) (loopP_lfH ⟨?_⟩) ?_
  · rw [dS1_pro]
    refine ⟨by first | rfl | trivial, by first | rfl | trivial, ?_⟩
    (repeat' (first | exact trivial | with_reducible rfl | apply And.intro)) <;> (first | omega | (intro h; omega))
  · intro h hmem y hy1 hy2 hy3
    simp only [dS1_hs, List.mem_cons, List.not_mem_nil, or_false] at hmem
    rcases hmem with rfl
    · exact dS1_q0 E  z hp y hy1 hy2 hy3
noncomputable def dS2_h0 (E : World)  (z : PX) : Hd := ⟨4, anyH, (tdS2 E), [(6, .c (.p 2 0)), (7, .c (.p 3 0)), (10, .c (.i true .i64 1)), (13, .q (.clo 1000026 [(4, 0)])), (14, .r .u16 (0) (32768)), (62, .r .i64 (0) (240))], [mT, mB2, mO, mO, mLT], fun y => (0 < y.n 91062 → y.n 300000 = 32767) ∧ (1 < y.n 91062 → y.n 300001 = 0), fun y => (240 - y.n 91062).toNat⟩
noncomputable def dS2_hs (E : World)  (z : PX) : List Hd := [dS2_h0 E  z]
theorem dS2_pro (E : World)  (z : PX) :
    (loopP (pe E) Try.f11 (endR ([mT, mB2] : List MB).length [mT, mB2] (.a (List.replicate 240 (.i .u16))) (fun _ y => y.n 90000 = 32767 ∧ y.n 90001 = 0) z) (headR ([mT, mB2] : List MB).length Try.f11.ntmps none (dS2_hs E  z)) (run (pe E) (orcL E) (tabL fns) 20000 (2 ^ 200 - 1) [.code (Try.f11.body.getD .skip)] ⟨Try.f11.ntmps, mkFrGo (Tr.mk 12) 0 [.c (.p 0 0), .c (.i true .i64 2), .c (.i true .i64 0)]⟩ (mkM z [] [mT, mB2] 0))) =
    (tdS2 E = tdS2 E ∧ 77 = 77 ∧ (True ∧ True ∧ True ∧ (renC (posN [0, 1, 2, 3, 4]) (C.clo (1000026 : Nat) [((4 : Nat), (0 : Nat))]) = C.clo (1000026 : FuncId) [((4 : Nat), (0 : Nat))] ∧ True) ∧ (((0 : Int) ≤ (32768 : Int) ∧ (32768 : Int) ≤ 32768) ∧ True) ∧ (((0 : Int) ≤ (0 : Int) ∧ (0 : Int) ≤ 240) ∧ True) ∧ True) ∧ (31 = 31 ∧ True ∧ 5 = 5 ∧ True ∧ 42 = 42 ∧ True ∧ 42 = 42 ∧ True ∧ 59 = 59 ∧ True ∧ ([] : SW) = []) ∧ (((0 : Int) < 0 → (0 : Int) = 32767) ∧ ((1 : Int) < 0 → (0 : Int) = 0)) ∧ True) := by kernel_rfl
theorem dS2_r0 (E : World)  (z : PX) (y : PX) :
    (loopP (pe E) Try.f11 (endR ([mT, mB2] : List MB).length [mT, mB2] (.a (List.replicate 240 (.i .u16))) (fun _ y => y.n 90000 = 32767 ∧ y.n 90001 = 0) z) (headR ([mT, mB2] : List MB).length Try.f11.ntmps (some ((fun y => (240 - y.n 91062).toNat) y)) (dS2_hs E  z))  (run (pe E) (orcL E) (tabL fns) 20000 (2 ^ 200 - 1) (tdS2 E) (mkL Try.f11.ntmps (slC y [(6, .c (.p 2 0)), (7, .c (.p 3 0)), (10, .c (.i true .i64 1)), (13, .q (.clo 1000026 [(4, 0)])), (14, .r .u16 (0) (32768)), (62, .r .i64 (0) (240))])) (mkM y [] [mT, mB2, mO, mO, mLT] 0))) =
    ((decide (y.n 91062 < 240) = true → (((y.n 91062).tmod (1 : Int) == 0) = true → ((!bif bif bif decide (i64.wrap ((i32.wrap (i32.wrap (0 + i32.wrap (i32.wrap (y.n 91062) * 256)) - 0)).fdiv 256) ≥ 0) then decide (i64.wrap ((i32.wrap (i32.wrap (0 + i32.wrap (i32.wrap (y.n 91062) * 256)) - 0)).fdiv 256) < 240) else false then decide (i64.wrap ((i32.wrap (i32.wrap (0 + i32.wrap (i32.wrap (y.n 91062) * 0)) - 0)).fdiv 256) ≥ 0) else false then decide (i64.wrap ((i32.wrap (i32.wrap (0 + i32.wrap (i32.wrap (y.n 91062) * 0)) - 0)).fdiv 256) < 160) else false) = true → inB (y.n 91062) (240 : Nat) = true ∧ tdS2 E = tdS2 E ∧ 77 = 77 ∧ (True ∧ True ∧ True ∧ (renC (posN [0, 1, 2, 3, 4]) (C.clo (1000026 : FuncId) [((4 : Nat), (0 : Nat))]) = C.clo (1000026 : FuncId) [((4 : Nat), (0 : Nat))] ∧ True) ∧ (((0 : Int) ≤ (32768 : Int) ∧ (32768 : Int) ≤ 32768) ∧ True) ∧ ((0 ≤ i64.wrap (y.n 91062 + 1) ∧ i64.wrap (y.n 91062 + 1) ≤ 240) ∧ True) ∧ True) ∧ (31 = 31 ∧ True ∧ 5 = 5 ∧ True ∧ 42 = 42 ∧ True ∧ 42 = 42 ∧ True ∧ 59 = 59 ∧ True ∧ ([] : SW) = []) ∧ ((0 < i64.wrap (y.n 91062 + 1) → (bif y.n 91062 == 0 then (32768 : Int) else y.n 300000) = 32767) ∧ (1 < i64.wrap (y.n 91062 + 1) → (bif y.n 91062 == 1 then (32768 : Int) else y.n 300001) = 0)) ∧ (240 - i64.wrap (y.n 91062 + 1)).toNat < (240 - y.n 91062).toNat ∧ True) ∧ ((!bif bif bif decide (i64.wrap ((i32.wrap (i32.wrap (0 + i32.wrap (i32.wrap (y.n 91062) * 256)) - 0)).fdiv 256) ≥ 0) then decide (i64.wrap ((i32.wrap (i32.wrap (0 + i32.wrap (i32.wrap (y.n 91062) * 256)) - 0)).fdiv 256) < 240) else false then decide (i64.wrap ((i32.wrap (i32.wrap (0 + i32.wrap (i32.wrap (y.n 91062) * 0)) - 0)).fdiv 256) ≥ 0) else false then decide (i64.wrap ((i32.wrap (i32.wrap (0 + i32.wrap (i32.wrap (y.n 91062) * 0)) - 0)).fdiv 256) < 160) else false) = false → ((bif decide (i64.wrap (2 * i64.wrap (i64.wrap (i64.wrap ((i32.wrap (i32.wrap (0 + i32.wrap (i32.wrap (y.n 91062) * 0)) - 0)).fdiv 256) * 240) + i64.wrap ((i32.wrap (i32.wrap (0 + i32.wrap
      (i32.wrap (y.n 91062) * 256)) - 0)).fdiv 256))) < 0) then true else decide (i64.wrap (2 * i64.wrap (i64.wrap (i64.wrap ((i32.wrap (i32.wrap (0 + i32.wrap (i32.wrap (y.n 91062) * 0)) - 0)).fdiv 256) * 240) + i64.wrap ((i32.wrap (i32.wrap (0 + i32.wrap (i32.wrap (y.n 91062) * 256)) - 0)).fdiv 256))) > 0)) = true → inB (y.n 91062) (240 : Nat) = true ∧ tdS2 E = tdS2 E ∧ 77 = 77 ∧ (True ∧ True ∧ True ∧ (renC (posN [0, 1, 2, 3, 4]) (C.clo (1000026 : FuncId) [((4 : Nat), (0 : Nat))]) = C.clo (1000026 : FuncId) [((4 : Nat), (0 : Nat))] ∧ True) ∧ (((0 : Int) ≤ (0 : Int) ∧ (0 : Int) ≤ 32768) ∧ True) ∧ ((0 ≤ i64.wrap (y.n 91062 + 1) ∧ i64.wrap (y.n 91062 + 1) ≤ 240) ∧ True) ∧ True) ∧ (31 = 31 ∧ True ∧ 5 = 5 ∧ True ∧ 42 = 42 ∧ True ∧ 42 = 42 ∧ True ∧ 59 = 59 ∧ True ∧ ([] : SW) = []) ∧ ((0 < i64.wrap (y.n 91062 + 1) → (bif y.n 91062 == 0 then (0 : Int) else y.n 300000) = 32767) ∧ (1 < i64.wrap (y.n 91062 + 1) → (bif y.n 91062 == 1 then (0 : Int) else y.n 300001) = 0)) ∧ (240 - i64.wrap (y.n 91062 + 1)).toNat < (240 - y.n 91062).toNat ∧ True) ∧ ((bif decide (i64.wrap (2 * i64.wrap (i64.wrap (i64.wrap ((i32.wrap (i32.wrap (0 + i32.wrap (i32.wrap (y.n 91062) * 0)) - 0)).fdiv 256) * 240) + i64.wrap ((i32.wrap (i32.wrap (0 + i32.wrap (i32.wrap (y.n 91062) * 256)) - 0)).fdiv 256))) < 0) then true else decide (i64.wrap (2 * i64.wrap (i64.wrap (i64.wrap ((i32.wrap (i32.wrap (0 + i32.wrap (i32.wrap (y.n 91062) * 0)) - 0)).fdiv 256) * 240) + i64.wrap ((i32.wrap (i32.wrap (0 + i32.wrap (i32.wrap (y.n 91062) * 256)) - 0)).fdiv 256))) > 0)) = false → inB (i64.wrap (2 * i64.wrap (i64.wrap (i64.wrap ((i32.wrap (i32.wrap (0 + i32.wrap (i32.wrap (y.n 91062) * 0)) - 0)).fdiv 256) * 240) + i64.wrap ((i32.wrap (i32.wrap (0 + i32.wrap (i32.wrap (y.n 91062) * 256)) - 0)).fdiv 256)))) (2 : Nat) = true ∧ inB (i64.wrap (i64.wrap (2 * i64.wrap (i64.wrap (i64.wrap ((i32.wrap (i32.wrap (0 + i32.wrap (i32.wrap (y.n 91062) * 0)) - 0)).fdiv 256) * 240) + i64.wrap ((i32.wrap (i32.wrap (0 + i32.wrap
      (i32.wrap (y.n 91062) * 256)) - 0)).fdiv 256))) + 1)) (2 : Nat) = true ∧ inB (y.n 91062) (240 : Nat) = true ∧ tdS2 E = tdS2 E ∧ 77 = 77 ∧ (True ∧ True ∧ True ∧ (renC (posN [0, 1, 2, 3, 4]) (C.clo (1000026 : FuncId) [((4 : Nat), (0 : Nat))]) = C.clo (1000026 : FuncId) [((4 : Nat), (0 : Nat))] ∧ True) ∧ ((0 ≤ bits BinOp.andNot u16 (bits BinOp.or u16 (u16.wrap (selI [255, 255] (i64.wrap (2 * i64.wrap (i64.wrap (i64.wrap ((i32.wrap (i32.wrap (0 + i32.wrap (i32.wrap (y.n 91062) * 0)) - 0)).fdiv 256) * 240) + i64.wrap ((i32.wrap (i32.wrap (0 + i32.wrap (i32.wrap (y.n 91062) * 256)) - 0)).fdiv 256)))))) (u16.wrap (u16.wrap (selI [255, 255] (i64.wrap (i64.wrap (2 * i64.wrap (i64.wrap (i64.wrap ((i32.wrap (i32.wrap (0 + i32.wrap (i32.wrap (y.n 91062) * 0)) - 0)).fdiv 256) * 240) + i64.wrap ((i32.wrap (i32.wrap (0 + i32.wrap (i32.wrap (y.n 91062) * 256)) - 0)).fdiv 256))) + 1))) * 256))) 32768 ∧ bits BinOp.andNot u16 (bits BinOp.or u16 (u16.wrap (selI [255, 255] (i64.wrap (2 * i64.wrap (i64.wrap (i64.wrap ((i32.wrap (i32.wrap (0 + i32.wrap (i32.wrap (y.n 91062) * 0)) - 0)).fdiv 256) * 240) + i64.wrap ((i32.wrap (i32.wrap (0 + i32.wrap (i32.wrap (y.n 91062) * 256)) - 0)).fdiv 256)))))) (u16.wrap (u16.wrap (selI [255, 255] (i64.wrap (i64.wrap (2 * i64.wrap (i64.wrap (i64.wrap ((i32.wrap (i32.wrap (0 + i32.wrap (i32.wrap (y.n 91062) * 0)) - 0)).fdiv 256) * 240) + i64.wrap ((i32.wrap (i32.wrap (0 + i32.wrap (i32.wrap (y.n 91062) * 256)) - 0)).fdiv 256))) + 1))) * 256))) (32768 : Int) ≤ 32768) ∧ True) ∧ ((0 ≤ i64.wrap (y.n 91062 + 1) ∧ i64.wrap (y.n 91062 + 1) ≤ 240) ∧ True) ∧ True) ∧ (31 = 31 ∧ True ∧ 5 = 5 ∧ True ∧ 42 = 42 ∧ True ∧ 42 = 42 ∧ True ∧ 59 = 59 ∧ True ∧ ([] : SW) = []) ∧ ((0 < i64.wrap (y.n 91062 + 1) → (bif y.n 91062 == 0 then bits BinOp.andNot u16 (bits BinOp.or u16 (u16.wrap (selI [255, 255] (i64.wrap (2 * i64.wrap (i64.wrap (i64.wrap ((i32.wrap (i32.wrap (0 + i32.wrap (i32.wrap (y.n 91062) * 0)) - 0)).fdiv 256) * 240) + i64.wrap ((i32.wrap (i32.wrap (0 +
      i32.wrap (i32.wrap (y.n 91062) * 256)) - 0)).fdiv 256)))))) (u16.wrap (u16.wrap (selI [255, 255] (i64.wrap (i64.wrap (2 * i64.wrap (i64.wrap (i64.wrap ((i32.wrap (i32.wrap (0 + i32.wrap (i32.wrap (y.n 91062) * 0)) - 0)).fdiv 256) * 240) + i64.wrap ((i32.wrap (i32.wrap (0 + i32.wrap (i32.wrap (y.n 91062) * 256)) - 0)).fdiv 256))) + 1))) * 256))) 32768 else y.n 300000) = 32767) ∧ (1 < i64.wrap (y.n 91062 + 1) → (bif y.n 91062 == 1 then bits BinOp.andNot u16 (bits BinOp.or u16 (u16.wrap (selI [255, 255] (i64.wrap (2 * i64.wrap (i64.wrap (i64.wrap ((i32.wrap (i32.wrap (0 + i32.wrap (i32.wrap (y.n 91062) * 0)) - 0)).fdiv 256) * 240) + i64.wrap ((i32.wrap (i32.wrap (0 + i32.wrap (i32.wrap (y.n 91062) * 256)) - 0)).fdiv 256)))))) (u16.wrap (u16.wrap (selI [255, 255] (i64.wrap (i64.wrap (2 * i64.wrap (i64.wrap (i64.wrap ((i32.wrap (i32.wrap (0 + i32.wrap (i32.wrap (y.n 91062) * 0)) - 0)).fdiv 256) * 240) + i64.wrap ((i32.wrap (i32.wrap (0 + i32.wrap (i32.wrap (y.n 91062) * 256)) - 0)).fdiv 256))) + 1))) * 256))) 32768 else y.n 300001) = 0)) ∧ (240 - i64.wrap (y.n 91062 + 1)).toNat < (240 - y.n 91062).toNat ∧ True))) ∧ (((y.n 91062).tmod (1 : Int) == 0) = false → inB (y.n 91062) (240 : Nat) = true ∧ tdS2 E = tdS2 E ∧ 77 = 77 ∧ (True ∧ True ∧ True ∧ (renC (posN [0, 1, 2, 3, 4]) (C.clo (1000026 : FuncId) [((4 : Nat), (0 : Nat))]) = C.clo (1000026 : FuncId) [((4 : Nat), (0 : Nat))] ∧ True) ∧ ((0 ≤ y.n 91014 ∧ y.n 91014 ≤ 32768) ∧ True) ∧ ((0 ≤ i64.wrap (y.n 91062 + 1) ∧ i64.wrap (y.n 91062 + 1) ≤ 240) ∧ True) ∧ True) ∧ (31 = 31 ∧ True ∧ 5 = 5 ∧ True ∧ 42 = 42 ∧ True ∧ 42 = 42 ∧ True ∧ 59 = 59 ∧ True ∧ ([] : SW) = []) ∧ ((0 < i64.wrap (y.n 91062 + 1) → (bif y.n 91062 == 0 then y.n 91014 else y.n 300000) = 32767) ∧ (1 < i64.wrap (y.n 91062 + 1) → (bif y.n 91062 == 1 then y.n 91014 else y.n 300001) = 0)) ∧ (240 - i64.wrap (y.n 91062 + 1)).toNat < (240 - y.n 91062).toNat ∧ True)) ∧ (decide (y.n 91062 < 240) = false → (31 = 31 ∧ True ∧ 5 = 5 ∧ True ∧ ([] : SW) = []) ∧ True ∧ y.n 300000 = 32767 ∧ y.n 300001 = 0)) := by kernel_rfl
set_option maxHeartbeats 8000000 in
theorem dS2_q0 (E : World)  (z : PX) (hp : (fun _ => True) z) (y : PX) (hy1 : rgM y [mT, mB2, mO, mO, mLT] 0) (hy2 : rgF y [(6, .c (.p 2 0)), (7, .c (.p 3 0)), (10, .c (.i true .i64 1)), (13, .q (.clo 1000026 [(4, 0)])), (14, .r .u16 (0) (32768)), (62, .r .i64 (0) (240))]) (hy3 : (fun y => (0 < y.n 91062 → y.n 300000 = 32767) ∧ (1 < y.n 91062 → y.n 300001 = 0)) y) : Holds ((run (pe E) (orcL E) (tabL fns) 20000 (2 ^ 200 - 1) (tdS2 E) (mkL Try.f11.ntmps (slC y [(6, .c (.p 2 0)), (7, .c (.p 3 0)), (10, .c (.i true .i64 1)), (13, .q (.clo 1000026 [(4, 0)])), (14, .r .u16 (0) (32768)), (62, .r .i64 (0) (240))])) (mkM y [] [mT, mB2, mO, mO, mLT] 0)).OK (lfP (pe E) Try.f11 (endR ([mT, mB2] : List MB).length [mT, mB2] (.a (List.replicate 240 (.i .u16))) (fun _ y => y.n 90000 = 32767 ∧ y.n 90001 = 0) z) (headR ([mT, mB2] : List MB).length Try.f11.ntmps (some ((fun y => (240 - y.n 91062).toNat) y)) (dS2_hs E  z)))) := by
  refine loopP_lfH ⟨?_⟩
  rw [dS2_r0]
  have hf : True ∧ True ∧ True ∧ True ∧ (((0) ≤ y.n 91014 ∧ y.n 91014 ≤ (32768)) ∧ True) ∧ (((0) ≤ y.n 91062 ∧ y.n 91062 ≤ (240)) ∧ True) ∧ True := hy2
  obtain ⟨_, _, _, _, ⟨g14, _⟩, ⟨g62, _⟩, _⟩ := hf
  obtain ⟨hA, hB⟩ := hy3
  have g : 0 ≤ y.n 91062 ∧ y.n 91062 ≤ 240 := g62
  have gd : 0 ≤ y.n 91014 ∧ y.n 91014 ≤ 32768 := g14
  clear g62 g14
  generalize y.n 91062 = x at *
  generalize y.n 300000 = c0 at *
  generalize y.n 300001 = c1 at *
  generalize y.n 91014 = dd at *
  rw [Int.tmod_eq_emod_of_nonneg g.1, Int.emod_one, sxE x g, syE x, saE x g]
  have w1 : x < 240 → IntKind.i64.wrap (x + 1) = x + 1 := fun h => wi64_in _ (by omega) (by omega)
  rw [ins_t, ins_f]
  refine ⟨fun h => ⟨fun _ => ⟨fun h1 => ?_, fun _ => ⟨fun h2 => ?_, fun h2 => ?_⟩⟩, fun h1 => by simp at h1⟩, fun h => ?_⟩
  · have h := of_decide_eq_true h; exact absurd ⟨g.1, h, by omega, by omega⟩ h1
  · have h := of_decide_eq_true h
    simp only [bandT, bandF, borT, borF, decide_eq_true_eq, decide_eq_false_iff_not, beq_iff_eq, beq_eq_false_iff_ne, bne_iff_ne, bne_eq_false_iff_eq, ne_eq, Bool.not_eq_true', Bool.not_eq_false'] at h2
    rw [w1 h]
    have hin : inB x 240 = true := inB_of g.1 (by omega)
    have k0 : (bif x == 0 then (0 : Int) else c0) = 32767 := by rw [show (x == 0) = false by simpa using (show x ≠ 0 by omega)]; exact hA (by omega)
    have k1 : 1 < x + 1 → (bif x == 1 then (0 : Int) else c1) = 0 := by
      intro _
      by_cases hx : x = 1
      · rw [hx]; rfl
      · rw [show (x == 1) = false by simpa using hx]; exact hB (by omega)
    (repeat' (first | exact trivial | with_reducible rfl | exact rnS _ | exact k1 | (exact fun _ => k0) | with_reducible assumption | apply And.intro)) <;> (first | omega | decide)
  · have h := of_decide_eq_true h
    simp only [bandT, bandF, borT, borF, decide_eq_true_eq, decide_eq_false_iff_not, beq_iff_eq, beq_eq_false_iff_ne, bne_iff_ne, bne_eq_false_iff_eq, ne_eq, Bool.not_eq_true', Bool.not_eq_false'] at h2
    have hx : x = 0 := by omega
    subst hx
    rw [w1 h]
    (repeat' (first | exact trivial | with_reducible rfl | exact rnS _ | with_reducible assumption | apply And.intro)) <;> (first | omega | decide | (intro _; first | omega | (rw [show ((0 : Int) == 0) = true from rfl, cond_true]; decide) | decide))
  · have h := of_decide_eq_false h
    have k0 := hA (by omega)
    have k1 := hB (by omega)
    (repeat' (first | exact trivial | with_reducible rfl | with_reducible assumption | apply And.intro))
set_option maxHeartbeats 8000000 in
theorem dS2_c (E : World)  (z : PX) (hz : rgM z [mT, mB2] 0) (hp : (fun _ => True) z) : HD (pe E) 11 [.c (.p 0 0), .c (.i true .i64 2), .c (.i true .i64 0)] [mT, mB2] [mT, mB2] (.a (List.replicate 240 (.i .u16))) (fun _ y => y.n 90000 = 32767 ∧ y.n 90001 = 0) z := by
  refine HD.loop (P := pe E) orcL_ok tab_ok tab_sz mixed Try.func11 (c := Try.f11.body.getD .skip) rfl (by decide) (Nat.le_of_ble_eq_true rfl) (by rfl) 20000 (2 ^ 200 - 1) (dS2_hs E  z) (by rfl) (loopP_lfH ⟨?_⟩) ?_
  · rw [dS2_pro]
    refine ⟨by first | rfl | trivial, by first | rfl | trivial, ?_⟩
    (repeat' (first | exact trivial | with_reducible rfl | exact rnS _ | apply And.intro)) <;> (first | omega | (intro h; omega))
  · intro h hmem y hy1 hy2 hy3
    simp only [dS2_hs, List.mem_cons, List.not_mem_nil, or_false] at hmem
    rcases hmem with rfl
    · exact dS2_q0 E  z hp y hy1 hy2 hy3
theorem dSJ_c (E : World) (i line : Int) (z : PX) (hz : rgM z [mT, mB2] 0) (hp : (fun _ => (i = 1 ∨ i = 2) ∧ line = 0) z) : HR (pe E) 11 [.c (.p 0 0), .c (.i false .i64 i), .c (.i false .i64 line)] [mT, mB2] [] (.a (List.replicate 240 (.i .u16))) (fun _ y => (i = 2 → y.n 90000 = 32767 ∧ y.n 90001 = 0) ∧ (i = 1 → y.n 90000 = 32768)) z := by
  obtain ⟨hi, hl⟩ := hp
  subst hl
  have hm : ∀ y : PX, mkM y [] [mT, mB2] 0 = mkM z [] [mT, mB2] 0 := fun y => rfl
  rcases hi with h | h <;> subst h
  · exact HR.args (by simp [simL, SV.sim, C.sim]) (HR.ofHD (dS1_c E z hz trivial) (fun y _ => hm y) (fun y _ hq => ⟨fun h => absurd h (by decide), fun _ => hq⟩))
  · exact HR.args (by simp [simL, SV.sim, C.sim]) (HR.ofHD (dS2_c E z hz trivial) (fun y _ => hm y) (fun y _ hq => ⟨fun _ => hq, fun h => absurd h (by decide)⟩))
noncomputable def orcS (E : World) : Orc := fun g vs s => match g with
  | 11 => (match frGo [mT, mB2] vs s (fun vs0 π s1 s0 => match vs0 with
      | [.c (.p 0 0), .c (.i l2 .i64 i), .c (.i l3 .i64 line)] => some (hrG (pre := fun _ => (i = 1 ∨ i = 2) ∧ line = 0) (fun z hz hp => HR.args (vs := [.c (.p 0 0), .c (.i l2 .i64 i), .c (.i l3 .i64 line)]) (by simp [simL, SV.sim, C.sim]) (dSJ_c E i line z hz hp)) (by rfl) π s1 s0)
      | _ => none) with
    | some t => some t
    | none => (orcL E) g vs s)
  | g => (orcL E) g vs s
theorem orcS_ok {E : World} : OrcOK (pe E) (orcS E) := by
  intro g vs s t h
  unfold orcS at h
  split at h
  · split at h
    · rename_i hfr; cases h
      obtain ⟨π, s1, hq, hK, hv, hok, hpd⟩ := frGo_spec (P := pe E) hfr
      split at hK
      · rename_i heq; cases hK
        rw [heq] at hv hok
        exact hpd _ _ (hrG_ok _ _ (by rfl) π s1 hq hv hok)
      · cases hK
    · exact orcL_ok _ _ _ _ h
  · exact orcL_ok _ _ _ _ h
end Go.Proofs.Ytdomhmajoclpeaa

