import Derived.Test.YtdomhmajoclpeaaX7
set_option linter.unusedVariables false
set_option linter.unusedSimpArgs false
namespace Go.Proofs.Ytdomhmajoclpeaa
open Go Go.Proofs Go.Proofs.Ytdomhmajoclpeaa.Ev Go.Proofs.Ytdomhmajoclpeaa.Ev.Ho Go.IntKind
set_option maxRecDepth 100000
theorem lawD_r0 (E : World) (a1 a2 a3 a4 : Option Addr) (n1 m1 n2 m2 n3 m3 n4 m4 : Nat) (c : Nat → Int) (line : Int) (z : PX) (y : PX) :
    (loopP (pe E) Try.f7 (endR ([] : List MB).length [] (.c .b) (fun z y => y.b 90000 = true) z) (headR ([] : List MB).length Try.f7.ntmps (some ((fun y => (240 - y.n 91046).toNat) y)) (lawD_hs E a1 a2 a3 a4 n1 m1 n2 m2 n3 m3 n4 m4 c line z))  (run (pe E) (orcWR E) (tabL fns) 20000 (2 ^ 200 - 1) (tdF Try.f7 0) (mkL Try.f7.ntmps (slC y [(1, .r .i64 (0) (159)), (5, .c (.p 0 0)), (45, .ai 240 .u16), (46, .r .i64 (0) (240))])) (mkM y [] [mS 1, rowB, rowB, rowB] 0))) =
    ((decide (y.n 91046 < 240) = true → inB (y.n 91046) (240 : Nat) = true ∧ inB (i64.wrap (2 * i64.wrap (i64.wrap (240 * y.n 91001) + y.n 91046))) (y.n 26).toNat = true ∧ rOk (y.l 1) (i64.wrap (2 * i64.wrap (i64.wrap (240 * y.n 91001) + y.n 91046))).toNat (EK.i u8) = true ∧ inB (i64.wrap (i64.wrap (2 * i64.wrap (i64.wrap (240 * y.n 91001) + y.n 91046)) + 1)) (y.n 26).toNat = true ∧ rOk (y.l 1) (i64.wrap (i64.wrap (2 * i64.wrap (i64.wrap (240 * y.n 91001) + y.n 91046)) + 1)).toNat (EK.i u8) = true ∧ ((selI (clS y 100000 91045 240) (y.n 91046) != bits BinOp.and u16 (bits BinOp.or u16 (u16.wrap (rI (y.l 1) (i64.wrap (2 * i64.wrap (i64.wrap (240 * y.n 91001) + y.n 91046))).toNat)) (u16.wrap (u16.wrap (rI (y.l 1) (i64.wrap (i64.wrap (2 * i64.wrap (i64.wrap (240 * y.n 91001) + y.n 91046)) + 1)).toNat) * 256))) 32767) = true → ([] : SW) = [] ∧ True ∧ false = true) ∧ ((selI (clS y 100000 91045 240) (y.n 91046) != bits BinOp.and u16 (bits BinOp.or u16 (u16.wrap (rI (y.l 1) (i64.wrap (2 * i64.wrap (i64.wrap (240 * y.n 91001) + y.n 91046))).toNat)) (u16.wrap (u16.wrap (rI (y.l 1) (i64.wrap (i64.wrap (2 * i64.wrap (i64.wrap (240 * y.n 91001) + y.n 91046)) + 1)).toNat) * 256))) 32767) = false → tdF Try.f7 (0 : Nat) = tdF Try.f7 (0 : Nat) ∧ 78 = 78 ∧ (((0 ≤ y.n 91001 ∧ y.n 91001 ≤ 159) ∧ True) ∧ True ∧ True ∧ ((0 ≤ i64.wrap (y.n 91046 + 1) ∧ i64.wrap (y.n 91046 + 1) ≤ 240) ∧ True) ∧ True) ∧ (31 = 31 ∧ (rgS y 0 (True)) ∧ rw3 y 1 (([] : SW) = [])) ∧ (ROk (y.l 1) (↑(y.n 26).toNat : Int).toNat ∧ (↑(y.n 26).toNat : Int) = 98304 ∧ DT (y.l 1) (y.n 91001) ((clS y 100000 91045 60) ++ ((clS y 100000 6091045 60) ++ ((clS y 100000 12091045 60) ++ (clS y 100000 18091045 60))))) ∧ (240 - i64.wrap (y.n 91046 + 1)).toNat < (240 - y.n 91046).toNat ∧ True)) ∧ (decide (y.n 91046 < 240) = false → ([] : SW) = [] ∧ True ∧ true = true)) := by kernel_rfl
set_option maxHeartbeats 8000000 in
theorem lawD_q0 (E : World) (a1 a2 a3 a4 : Option Addr) (n1 m1 n2 m2 n3 m3 n4 m4 : Nat) (c : Nat → Int) (line : Int) (z : PX) (hp : (fun _ => RgC c ∧ PK E a4 n4) z) (y : PX) (hy1 : rgM y [mS 1, rowB, rowB, rowB] 0) (hy2 : rgF y [(1, .r .i64 (0) (159)), (5, .c (.p 0 0)), (45, .ai 240 .u16), (46, .r .i64 (0) (240))]) (hy3 : (fun y => ROk (y.l 1) (y.n 26).toNat ∧ y.n 26 = 98304 ∧ DT (y.l 1) (y.n 91001) ((clS y 100000 91045 60) ++ ((clS y 100000 6091045 60) ++ ((clS y 100000 12091045 60) ++ ((clS y 100000 18091045 60)))))) y) : Holds ((run (pe E) (orcWR E) (tabL fns) 20000 (2 ^ 200 - 1) (tdF Try.f7 0) (mkL Try.f7.ntmps (slC y [(1, .r .i64 (0) (159)), (5, .c (.p 0 0)), (45, .ai 240 .u16), (46, .r .i64 (0) (240))])) (mkM y [] [mS 1, rowB, rowB, rowB] 0)).OK (lfP (pe E) Try.f7 (endR ([] : List MB).length [] (.c .b) (fun z y => y.b 90000 = true) z) (headR ([] : List MB).length Try.f7.ntmps (some ((fun y => (240 - y.n 91046).toNat) y)) (lawD_hs E a1 a2 a3 a4 n1 m1 n2 m2 n3 m3 n4 m4 c line z)))) := by
  refine loopP_lfH ⟨?_⟩
  rw [lawD_r0]
  have hf : (((0) ≤ y.n 91001 ∧ y.n 91001 ≤ (159)) ∧ True) ∧ True ∧ True ∧ (((0) ≤ y.n 91046 ∧ y.n 91046 ≤ (240)) ∧ True) ∧ True := hy2
  obtain ⟨⟨g1, _⟩, _, _, ⟨g46, _⟩, _⟩ := hf
  obtain ⟨hK1, e26, hD⟩ := hy3
  replace hK1 : ROk (y.l 1) (y.n 26).toNat := hK1
  replace e26 : y.n 26 = 98304 := e26
  have g1' : 0 ≤ y.n 91001 ∧ y.n 91001 ≤ 159 := g1
  have g46' : 0 ≤ y.n 91046 ∧ y.n 91046 ≤ 240 := g46
  have t26 : (((y.n 26).toNat : Nat) : Int) = 98304 := by rw [e26]; rfl
  simp only [Int.toNat_natCast]
  have w0 : IntKind.i64.wrap (240 * y.n 91001) = 240 * y.n 91001 := wi64_in _ (by omega) (by omega)
  have w1 : IntKind.i64.wrap (y.n 91046 + 1) = y.n 91046 + 1 := wi64_in _ (by omega) (by omega)
  have w2 : IntKind.i64.wrap (240 * y.n 91001 + y.n 91046) = 240 * y.n 91001 + y.n 91046 := wi64_in _ (by omega) (by omega)
  have w3 : IntKind.i64.wrap (2 * (240 * y.n 91001 + y.n 91046)) = 2 * (240 * y.n 91001 + y.n 91046) := wi64_in _ (by omega) (by omega)
  have w4 : IntKind.i64.wrap (2 * (240 * y.n 91001 + y.n 91046) + 1) = 2 * (240 * y.n 91001 + y.n 91046) + 1 := wi64_in _ (by omega) (by omega)
  rw [w0, w2, w3, w4, w1]
  have r0 : True := trivial
  have hF : flat [Sp.r .u8 0 255] = true := rfl
  obtain ⟨rg, ⟨_, R1⟩, ⟨_, R2⟩, ⟨_, R3⟩, _⟩ := hy1
  obtain ⟨q0, q1, q2, q3, q4, q5, q6, q7, q8, q9, q10, q11, q12, q13, q14, q15, q16, q17, q18, q19, q20, q21, q22, q23, q24, q25, _, _, _, _⟩ := rg
  refine ⟨fun h => ?_, fun h => by (repeat' (first | exact trivial | with_reducible rfl | with_reducible assumption | apply And.intro)) <;> (first | omega | done)⟩
  have h := of_decide_eq_true h
  have i1 : inB (y.n 91046) 240 = true := inB_of g46'.1 (by omega)
  obtain ⟨k1, k2, k3⟩ := rR hK1 (x := 2 * (240 * y.n 91001 + y.n 91046)) (by omega) (by omega)
  obtain ⟨l1, l2, l3⟩ := rR hK1 (x := 2 * (240 * y.n 91001 + y.n 91046) + 1) (by omega) (by omega)
  have ga := gR hK1 (2 * (240 * y.n 91001 + y.n 91046))
  have gb := gR hK1 (2 * (240 * y.n 91001 + y.n 91046) + 1)
  have hv : bits .and .u16 (bits .or .u16 (IntKind.u16.wrap (rI (y.l 1) (2 * (240 * y.n 91001 + y.n 91046)).toNat)) (IntKind.u16.wrap (IntKind.u16.wrap (rI (y.l 1) (2 * (240 * y.n 91001 + y.n 91046) + 1).toNat) * 256))) 32767 = halfF (bR (y.l 1) 98304) 98304 (2 * (240 * y.n 91001 + y.n 91046)) % 32768 := by
    rw [k1, l1, or8 ga gb, a15_, halfF_in (by omega) (by omega)]
    have e : (y.n 26).toNat = 98304 := by rw [e26]; rfl
    rw [e]
  have hb : (selI ((clS y 100000 91045 60) ++ ((clS y 100000 6091045 60) ++ ((clS y 100000 12091045 60) ++ ((clS y 100000 18091045 60))))) (y.n 91046) != bits .and .u16 (bits .or .u16 (IntKind.u16.wrap (rI (y.l 1) (2 * (240 * y.n 91001 + y.n 91046)).toNat)) (IntKind.u16.wrap (IntKind.u16.wrap (rI (y.l 1) (2 * (240 * y.n 91001 + y.n 91046) + 1).toNat) * 256))) 32767) = false := by
    rw [hv, hD (y.n 91046) g46'.1 h]; exact bne_self_eq_false _
  refine ⟨i1, k3, k2, l3, l2, fun h1 => absurd (h1.symm.trans hb) (by decide), fun _ => ?_⟩
  (repeat' (first | exact trivial | with_reducible rfl | exact hD | exact hK1 | with_reducible assumption | apply And.intro)) <;> (first | omega | done)
end Go.Proofs.Ytdomhmajoclpeaa

