import Derived.Test.YtdomhmajoclpeaaKR
set_option linter.unusedVariables false
set_option linter.unusedSimpArgs false
namespace Go.Proofs.Ytdomhmajoclpeaa
open Go Go.Proofs Go.Proofs.Ytdomhmajoclpeaa.Ev Go.Proofs.Ytdomhmajoclpeaa.Ev.Ho Go.IntKind
set_option maxRecDepth 100000
theorem drawHR_c (E : World) (i line : Int) (z : PX) (hz : rgM z [mS 1, rowB, rowB, rowB] 0) (hp : (fun z => (ROk (z.l 1) (z.n 26).toNat ∧ ROk (z.l 2) (z.n 27).toNat) ∧ True) z) : HR (pe E) 11 [.c (.p 0 0), .c (.i false .i64 i), .c (.i false .i64 line)] [mS 1, rowB, rowB, rowB] [] (.a (List.replicate 240 (.i .u16))) (fun z y => AllF 240 (fun x => dotF (Sc.mk (z.n 0) [(z.n 1), (z.n 2), (z.n 3), (z.n 4)] [(z.n 5), (z.n 6), (z.n 7), (z.n 8)] [(z.n 9), (z.n 10), (z.n 11), (z.n 12)] [(z.n 13), (z.n 14), (z.n 15), (z.n 16), (z.n 17), (z.n 18), (z.n 19), (z.n 20)] [(z.n 21), (z.n 22), (z.n 23), (z.n 24)] (z.n 25) (bR (z.l 1) (z.n 26).toNat) (z.n 26).toNat (bR (z.l 2) (z.n 27).toNat) (z.n 27).toNat) i x line) (cl y 90000 60) (cl y 90060 60) (cl y 90120 60) (cl y 90180 60)) z := by
  refine HR.ofHD (drawR_c E i line z hz hp) (fun y hq => ?_) (fun y _ hq => hq.1)
  obtain ⟨_, ⟨h1, h2, h3⟩, ⟨hn⟩⟩ := hq
  simp only [List.cons.injEq, and_true] at hn
  obtain ⟨e0, e1, e2, e3, e4, e5, e6, e7, e8, e9, e10, e11, e12, e13, e14, e15, e16, e17, e18, e19, e20, e21, e22, e23, e24, e25, e26, e27, e28⟩ := hn
  simp only [mkM, mS, rowB, spC, Nat.mul_zero, Nat.zero_add, Nat.reduceAdd, e0, e1, e2, e3, e4, e5, e6, e7, e8, e9, e10, e11, e12, e13, e14, e15, e16, e17, e18, e19, e20, e21, e22, e23, e24, e25, e26, e27, e28, h1, h2, h3]
noncomputable def orcDR (E : World) : Orc := fun g vs s => match g with
  | 11 => (match frGo [mS 1, rowB, rowB, rowB] vs s (fun vs0 π s1 s0 => match vs0 with
      | [.c (.p 0 0), .c (.i l2 .i64 i), .c (.i l3 .i64 line)] => some (hrG (pre := fun z => (ROk (z.l 1) (z.n 26).toNat ∧ ROk (z.l 2) (z.n 27).toNat) ∧ True) (fun z hz hp => HR.args (vs := [.c (.p 0 0), .c (.i l2 .i64 i), .c (.i l3 .i64 line)]) (by simp [simL, SV.sim, C.sim]) (drawHR_c E i line z hz hp)) (by rfl) π s1 s0)
      | _ => none) with
    | some t => some t
    | none => (orcXR E) g vs s)
  | g => (orcXR E) g vs s
theorem orcDR_ok {E : World} : OrcOK (pe E) (orcDR E) := by
  intro g vs s t h
  unfold orcDR at h
  split at h
  · split at h
    · rename_i hfr; cases h
      obtain ⟨π, s1, hq, hK, hv, hok, hpd⟩ := frGo_spec (P := pe E) hfr
      split at hK
      · rename_i heq; cases hK
        rw [heq] at hv hok
        exact hpd _ _ (hrG_ok _ _ (by rfl) π s1 hq hv hok)
      · cases hK
    · exact orcXR_ok _ _ _ _ h
  · exact orcXR_ok _ _ _ _ h
end Go.Proofs.Ytdomhmajoclpeaa

