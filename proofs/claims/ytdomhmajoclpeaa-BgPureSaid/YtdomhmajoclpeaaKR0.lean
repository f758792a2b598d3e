import Derived.Test.YtdomhmajoclpeaaK
set_option linter.unusedVariables false
set_option linter.unusedSimpArgs false
namespace Go.Proofs.Ytdomhmajoclpeaa
open Go Go.Proofs Go.Proofs.Ytdomhmajoclpeaa.Ev Go.Proofs.Ytdomhmajoclpeaa.Ev.Ho Go.IntKind
set_option maxRecDepth 100000
theorem drawR_r0 (E : World) (i line : Int) (z : PX) (y : PX) :
    (loopP (pe E) Try.f11 (endR ([mS 1, rowB, rowB, rowB] : List MB).length [mS 1, rowB, rowB, rowB] (.a (List.replicate 240 (.i .u16))) (QdE i line) z) (headR ([mS 1, rowB, rowB, rowB] : List MB).length Try.f11.ntmps (some ((fun y => (240 - y.n 91029).toNat) y)) (drawR_hs E i line z))  (run (pe E) (orcXR E) (tabL fns) 20000 (2 ^ 200 - 1) (td1R E ) (mkL Try.f11.ntmps (slC y [(6, .c (.p 4 0)), (7, .c (.p 5 0)), (29, .r .i64 (0) (240))])) (mkM y [] [.f ⟨(spC z (SPR 1) 0), 31⟩, rowB, rowB, rowB, mO, mO] 0))) =
    ((decide (y.n 91029 < 240) = true → inB (y.n 91029) (240 : Nat) = true ∧ td1R E = td1R E ∧ 77 = 77 ∧ (True ∧ True ∧ ((0 ≤ i64.wrap (y.n 91029 + 1) ∧ i64.wrap (y.n 91029 + 1) ≤ 240) ∧ True) ∧ True) ∧ (Bl.mk (spC z (SPR (1 : Nat)) (0 : Nat)) (31 : TypeId) = Bl.mk (spC z (SPR (1 : Nat)) (0 : Nat)) (31 : TypeId) ∧ rw3 y 1 (42 = 42 ∧ True ∧ 42 = 42 ∧ True ∧ ([] : SW) = [])) ∧ (EqR (y.l 1) (y.l 2) (y.l 3) (z.l 1) (z.l 2) (z.l 3) ∧ AllF (i64.wrap (y.n 91029 + 1)) (fun (x : Int) => 32768) (updL (y.n 91029) ((32768 : Int)) 0 (cl y 500000 60)) (updL (y.n 91029) ((32768 : Int)) 60 (cl y 500060 60)) (updL (y.n 91029) ((32768 : Int)) 120 (cl y 500120 60)) (updL (y.n 91029) ((32768 : Int)) 180 (cl y 500180 60)) ∧ nshP (z.n 0) i line) ∧ (240 - i64.wrap (y.n 91029 + 1)).toNat < (240 - y.n 91029).toNat ∧ True) ∧ (decide (y.n 91029 < 240) = false → (31 = 31 ∧ (rgS z 0 (True)) ∧ rw3 y 1 (([] : SW) = [])) ∧ True ∧ AllF 240 (fun (x : Int) => dotF (scZ z) i x line) (cl y 500000 60) (cl y 500060 60) (cl y 500120 60) (cl y 500180 60) ∧ EqR (y.l 1) (y.l 2) (y.l 3) (z.l 1) (z.l 2) (z.l 3) ∧ EqN [z.n 0, z.n 1, z.n 2, z.n 3, z.n 4, z.n 5, z.n 6, z.n 7, z.n 8, z.n 9, z.n 10, z.n 11, z.n 12, z.n 13, z.n 14, z.n 15, z.n 16, z.n 17, z.n 18, z.n 19, z.n 20, z.n 21, z.n 22, z.n 23, z.n 24, z.n 25, (↑(z.n 26).toNat : Int), (↑(z.n 27).toNat : Int), (↑(z.n 28).toNat : Int)] [z.n 0, z.n 1, z.n 2, z.n 3, z.n 4, z.n 5, z.n 6, z.n 7, z.n 8, z.n 9, z.n 10, z.n 11, z.n 12, z.n 13, z.n 14, z.n 15, z.n 16, z.n 17, z.n 18, z.n 19, z.n 20, z.n 21, z.n 22, z.n 23, z.n 24, z.n 25, z.n 26, z.n 27, z.n 28])) := by kernel_rfl
set_option maxHeartbeats 8000000 in
theorem drawR_q0 (E : World) (i line : Int) (z : PX) (hz : rgM z [mS 1, rowB, rowB, rowB] 0) (hp : (fun z => (ROk (z.l 1) (z.n 26).toNat ∧ ROk (z.l 2) (z.n 27).toNat) ∧ True) z) (y : PX) (hy1 : rgM y [.f ⟨(spC z (SPR 1) 0), 31⟩, rowB, rowB, rowB, mO, mO] 0) (hy2 : rgF y [(6, .c (.p 4 0)), (7, .c (.p 5 0)), (29, .r .i64 (0) (240))]) (hy3 : (fun y => EqR (y.l 1) (y.l 2) (y.l 3) (z.l 1) (z.l 2) (z.l 3) ∧ AllF (y.n 91029) (fun _ => 32768) (cl y 500000 60) (cl y 500060 60) (cl y 500120 60) (cl y 500180 60) ∧ nshP (z.n 0) i line) y) : Holds ((run (pe E) (orcXR E) (tabL fns) 20000 (2 ^ 200 - 1) (td1R E ) (mkL Try.f11.ntmps (slC y [(6, .c (.p 4 0)), (7, .c (.p 5 0)), (29, .r .i64 (0) (240))])) (mkM y [] [.f ⟨(spC z (SPR 1) 0), 31⟩, rowB, rowB, rowB, mO, mO] 0)).OK (lfP (pe E) Try.f11 (endR ([mS 1, rowB, rowB, rowB] : List MB).length [mS 1, rowB, rowB, rowB] (.a (List.replicate 240 (.i .u16))) (QdE i line) z) (headR ([mS 1, rowB, rowB, rowB] : List MB).length Try.f11.ntmps (some ((fun y => (240 - y.n 91029).toNat) y)) (drawR_hs E i line z)))) := by
  refine loopP_lfH ⟨?_⟩
  rw [drawR_r0]
  have hf : True ∧ True ∧ (((0) ≤ y.n 91029 ∧ y.n 91029 ≤ (240)) ∧ True) ∧ True := hy2
  obtain ⟨_, _, ⟨g29, _⟩, _⟩ := hf
  obtain ⟨⟨hK1, hK2⟩, _⟩ := hp
  obtain ⟨r0, r1, r2, r3, r4, r5, r6, r7, r8, r9, r10, r11, r12, r13, r14, r15, r16, r17, r18, r19, r20, r21, r22, r23, r24, r25, v26, v27, v28, _⟩ := hz.1
  replace r0 : 0 ≤ z.n 0 ∧ z.n 0 ≤ 65535 := r0
  have hF : flat [Sp.r .u8 0 255] = true := rfl
  replace v26 : 0 ≤ z.n 26 := v26
  replace v27 : 0 ≤ z.n 27 := v27
  replace v28 : 0 ≤ z.n 28 := v28
  have t26 := Int.toNat_of_nonneg v26
  have t27 := Int.toNat_of_nonneg v27
  have t28 := Int.toNat_of_nonneg v28
  have hR1 : Row [.r .u8 0 255] (y.l 1) := hy1.1.2
  have hR2 : Row [.r .u8 0 255] (y.l 2) := hy1.2.1.2
  have hR3 : Row [.r .u8 0 255] (y.l 3) := hy1.2.2.1.2
  obtain ⟨eR, hA, hn⟩ := hy3
  have g29' : 0 ≤ y.n 91029 ∧ y.n 91029 ≤ 240 := g29
  have eN : EqN [z.n 0, z.n 1, z.n 2, z.n 3, z.n 4, z.n 5, z.n 6, z.n 7, z.n 8, z.n 9, z.n 10, z.n 11, z.n 12, z.n 13, z.n 14, z.n 15, z.n 16, z.n 17, z.n 18, z.n 19, z.n 20, z.n 21, z.n 22, z.n 23, z.n 24, z.n 25, ((z.n 26).toNat : Int), ((z.n 27).toNat : Int), ((z.n 28).toNat : Int)] [z.n 0, z.n 1, z.n 2, z.n 3, z.n 4, z.n 5, z.n 6, z.n 7, z.n 8, z.n 9, z.n 10, z.n 11, z.n 12, z.n 13, z.n 14, z.n 15, z.n 16, z.n 17, z.n 18, z.n 19, z.n 20, z.n 21, z.n 22, z.n 23, z.n 24, z.n 25, z.n 26, z.n 27, z.n 28] := ⟨by rw [t26, t27, t28]⟩
  simp only [decide_eq_true_eq, decide_eq_false_iff_not]
  refine ⟨fun h => ?_, fun h => ?_⟩
  · have w1 : IntKind.i64.wrap (y.n 91029 + 1) = y.n 91029 + 1 := wi64_in _ (by omega) (by omega)
    have hU := AllF_upd (v := 32768) hA rfl g29'.1 rfl rfl rfl
    have hin : inB (y.n 91029) 240 = true := inB_of g29'.1 (by omega)
    rw [w1]
    (repeat' (first | exact trivial | with_reducible rfl | exact AllF_zero | exact hU | with_reducible assumption | apply And.intro | intro _)) <;> (first | omega | done)
  · have hE : AllF 240 (fun x => dotF (scZ z) i x line) (cl y 500000 60) (cl y 500060 60) (cl y 500120 60) (cl y 500180 60) := AllF_end hA (by omega) (fun j => dot_n (s := (scZ z)) hn j)
    (repeat' (first | exact trivial | with_reducible rfl | exact AllF_zero | exact hE | with_reducible assumption | apply And.intro | intro _)) <;> (first | omega | done)
end Go.Proofs.Ytdomhmajoclpeaa

