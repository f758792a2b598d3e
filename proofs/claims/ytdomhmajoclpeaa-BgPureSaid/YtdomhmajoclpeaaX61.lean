import Derived.Test.YtdomhmajoclpeaaX6
set_option linter.unusedVariables false
set_option linter.unusedSimpArgs false
namespace Go.Proofs.Ytdomhmajoclpeaa
open Go Go.Proofs Go.Proofs.Ytdomhmajoclpeaa.Ev Go.Proofs.Ytdomhmajoclpeaa.Ev.Ho Go.IntKind
set_option maxRecDepth 100000
theorem lawP_r1 (E : World) (a1 a2 a3 a4 : Option Addr) (n1 m1 n2 m2 n3 m3 n4 m4 : Nat) (c : Nat → Int) (i line : Int) (z : PX) (y : PX) :
    (loopP (pe E) Try.f6 (endR ([] : List MB).length [] (.c .b) (fun z y => y.b 90000 = true) z) (headR ([] : List MB).length Try.f6.ntmps (some ((fun y => 1000 + (240 - y.n 91094).toNat) y)) (lawP_hs E a1 a2 a3 a4 n1 m1 n2 m2 n3 m3 n4 m4 c i line z))  (run (pe E) (orcW6 E) (tabL fns) 20000 (2 ^ 200 - 1) (tdF Try.f6 0) (mkL Try.f6.ntmps (slC y [(1, .q (.i false .i64 i)), (2, .q (.i false .i64 line)), (9, .c (.p 0 0)), (93, .ai 240 .u16), (94, .r .i64 (0) (240))])) (mkM y [] [mO] 0))) =
    ((decide (y.n 91094 < 240) = true → inB (y.n 91094) (240 : Nat) = true ∧ ((selI (clS y 100000 91093 240) (y.n 91094) != 32768) = true → ([] : SW) = [] ∧ True ∧ false = true) ∧ ((selI (clS y 100000 91093 240) (y.n 91094) != 32768) = false → tdF Try.f6 (0 : Nat) = tdF Try.f6 (0 : Nat) ∧ 121 = 121 ∧ ((renC (posN [0]) (C.i false i64 i) = C.i false i64 i ∧ True) ∧ (renC (posN [0]) (C.i false i64 line) = C.i false i64 line ∧ True) ∧ True ∧ True ∧ ((0 ≤ i64.wrap (y.n 91094 + 1) ∧ i64.wrap (y.n 91094 + 1) ≤ 240) ∧ True) ∧ True) ∧ (42 = 42 ∧ True ∧ ([] : SW) = []) ∧ (AllF 240 (fun (x : Int) => 32768) (clS y 100000 91093 60) (clS y 100000 6091093 60) (clS y 100000 12091093 60) (clS y 100000 18091093 60) ∧ LeN ((cl y 0 60) ++ ((cl y 60 60) ++ ((cl y 120 60) ++ (cl y 180 60))))) ∧ (1000 : Nat) + (240 - i64.wrap (y.n 91094 + 1)).toNat < (1000 : Nat) + (240 - y.n 91094).toNat ∧ True)) ∧ (decide (y.n 91094 < 240) = false → tdF Try.f6 (2 : Nat) = tdF Try.f6 (2 : Nat) ∧ 121 = 121 ∧ ((renC (posN []) (C.i false i64 i) = C.i false i64 i ∧ True) ∧ (renC (posN []) (C.i false i64 line) = C.i false i64 line ∧ True) ∧ True ∧ (((0 : Int) ≤ (0 : Int) ∧ (0 : Int) ≤ 240) ∧ True) ∧ True) ∧ ([] : SW) = [] ∧ (∀ (x : Int), 0 ≤ x → x < 240 → selI ((cl y 0 60) ++ ((cl y 60 60) ++ ((cl y 120 60) ++ (cl y 180 60)))) x ≤ 32768) ∧ ((240 : Int) - 0).toNat < (1000 : Nat) + (240 - y.n 91094).toNat ∧ True)) := by kernel_rfl
set_option maxHeartbeats 8000000 in
theorem lawP_q1 (E : World) (a1 a2 a3 a4 : Option Addr) (n1 m1 n2 m2 n3 m3 n4 m4 : Nat) (c : Nat → Int) (i line : Int) (z : PX) (hp : (fun _ => RgC c ∧ PK E a4 n4) z) (y : PX) (hy1 : rgM y [mO] 0) (hy2 : rgF y [(1, .q (.i false .i64 i)), (2, .q (.i false .i64 line)), (9, .c (.p 0 0)), (93, .ai 240 .u16), (94, .r .i64 (0) (240))]) (hy3 : (fun y => AllF 240 (fun _ => 32768) (clS y 100000 91093 60) (clS y 100000 6091093 60) (clS y 100000 12091093 60) (clS y 100000 18091093 60) ∧ LeN ((cl y 0 60) ++ ((cl y 60 60) ++ ((cl y 120 60) ++ (cl y 180 60))))) y) : Holds ((run (pe E) (orcW6 E) (tabL fns) 20000 (2 ^ 200 - 1) (tdF Try.f6 0) (mkL Try.f6.ntmps (slC y [(1, .q (.i false .i64 i)), (2, .q (.i false .i64 line)), (9, .c (.p 0 0)), (93, .ai 240 .u16), (94, .r .i64 (0) (240))])) (mkM y [] [mO] 0)).OK (lfP (pe E) Try.f6 (endR ([] : List MB).length [] (.c .b) (fun z y => y.b 90000 = true) z) (headR ([] : List MB).length Try.f6.ntmps (some ((fun y => 1000 + (240 - y.n 91094).toNat) y)) (lawP_hs E a1 a2 a3 a4 n1 m1 n2 m2 n3 m3 n4 m4 c i line z)))) := by
  refine loopP_lfH ⟨?_⟩
  rw [lawP_r1]
  have hf : True ∧ True ∧ True ∧ True ∧ (((0) ≤ y.n 91094 ∧ y.n 91094 ≤ (240)) ∧ True) ∧ True := hy2
  obtain ⟨_, _, _, _, ⟨g94, _⟩, _⟩ := hf
  obtain ⟨hA, hL⟩ := hy3
  have g : 0 ≤ y.n 91094 ∧ y.n 91094 ≤ 240 := g94
  refine ⟨fun h => ?_, fun h => ?_⟩
  · have h := of_decide_eq_true h
    have w1 : IntKind.i64.wrap (y.n 91094 + 1) = y.n 91094 + 1 := wi64_in _ (by omega) (by omega)
    have hin : inB (y.n 91094) 240 = true := inB_of g.1 (by omega)
    have hb : (selI ((clS y 100000 91093 60) ++ ((clS y 100000 6091093 60) ++ ((clS y 100000 12091093 60) ++ ((clS y 100000 18091093 60))))) (y.n 91094) != 32768) = false := by rw [sel_AllF hA rfl g.1 h]; exact bne_self_eq_false _
    rw [w1]
    refine ⟨hin, fun h1 => absurd (h1.symm.trans hb) (by decide), fun _ => ?_⟩
    (repeat' (first | exact trivial | with_reducible rfl | exact rnIi _ _ _ _ | exact hA | exact hL | with_reducible assumption | apply And.intro)) <;> (first | omega | done)
  · have h := of_decide_eq_false h
    (repeat' (first | exact trivial | with_reducible rfl | exact rnIi _ _ _ _ | exact hL | with_reducible assumption | apply And.intro)) <;> (first | omega | done)
end Go.Proofs.Ytdomhmajoclpeaa

