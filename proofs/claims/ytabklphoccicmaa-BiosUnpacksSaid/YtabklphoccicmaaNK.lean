import Derived.Test.YtabklphoccicmaaNI
import Derived.Test.YtabklphoccicmaaNJ
set_option linter.unusedVariables false
set_option linter.unusedSimpArgs false
namespace Go.Proofs.Ytabklphoccicmaa
open Go Go.Proofs Go.Proofs.Ytabklphoccicmaa.Ev Go.Proofs.Ytabklphoccicmaa.Ev.Ho Go.IntKind
set_option maxRecDepth 100000
theorem pc_pro (E : World) (R : AU) (z : PX) :
    (loopP (pe E) Try.f39 (endR ([mS 2, mN 3 4, rowB, rowB, rowN] : List MB).length [mS 5, mN 3 6, .g HOLE, rowB, .g HOLE, rowB, rowN] (.t []) (fun z y => AU.mk (y.n 1) (OU.mk (Mm.mk (y.n 100000) (y.n 100001) (y.n 100002) (y.l 3) (y.l 6)) (vals (y.l 5))) = R ∧ (y.n 2 = z.n 2 ∧ y.n 3 = z.n 3) ∧ okM (Mm.mk (y.n 100000) (y.n 100001) (y.n 100002) (y.l 3) (y.l 6)) ∧ y.n 100002 + z.n 4 ≤ z.n 100002 + y.n 4 ∧ (y.l 5).length = (y.n 4).toNat ∧ y.n 4 ≤ y.n 3) z) (headR ([mS 2, mN 3 4, rowB, rowB, rowN] : List MB).length Try.f39.ntmps none (pc_hs E R z)) (run (pe E) (orcH E) (tabL fns) 20000 (2 ^ 200 - 1) [.code (Try.f39.body.getD .skip)] ⟨Try.f39.ntmps, mkFrGo (Tr.mk 12) 0 [.c (.p 0 0)]⟩ (mkM z [] [mS 2, mN 3 4, rowB, rowB, rowN] 0))) =
     (pc_td E = pc_td E ∧ 47 = 47 ∧ (True ∧ True) ∧ (eP (z.n 3) (z.l 3) (z.l 2) (z.l 4)) ∧ (PcI E (z.n 2) (z.n 3) (AU.mk (z.n 1) (OU.mk (Mm.mk (z.n 100000) (↑(z.n 100001).toNat : Int) (↑(z.n 100002).toNat : Int) (z.l 3) (z.l 4)) (vals (z.l 2)))) R ∧ (z.n 2 = z.n 2 ∧ z.n 3 = z.n 3) ∧ okM (Mm.mk (z.n 100000) (↑(z.n 100001).toNat : Int) (↑(z.n 100002).toNat : Int) (z.l 3) (z.l 4)) ∧ (↑(z.n 100002).toNat : Int) + z.n 4 ≤ z.n 100002 + (↑(z.n 4).toNat : Int) ∧ (z.l 2).length = (↑(z.n 4).toNat : Int).toNat ∧ (↑(z.n 4).toNat : Int) ≤ z.n 3) ∧ True) := by kernel_rfl
set_option maxHeartbeats 8000000 in
theorem pc_c (E : World) (R : AU) (z : PX) (hz : rgM z [mS 2, mN 3 4, rowB, rowB, rowN] 0) (hp : (fun z => okM (Mm.mk (z.n 100000) (z.n 100001) (z.n 100002) (z.l 3) (z.l 4)) ∧ z.n 100002 ≤ 200000 + z.n 4 ∧ (z.l 2).length = (z.n 4).toNat ∧ z.n 4 ≤ z.n 3 ∧ 0 ≤ z.n 4 ∧ PcI E (z.n 2) (z.n 3) (AU.mk (z.n 1) (OU.mk (Mm.mk (z.n 100000) (z.n 100001) (z.n 100002) (z.l 3) (z.l 4)) (vals (z.l 2)))) R) z) : HD (pe E) 39 [.c (.p 0 0)] [mS 2, mN 3 4, rowB, rowB, rowN] [mS 5, mN 3 6, .g HOLE, rowB, .g HOLE, rowB, rowN] (.t []) (fun z y => AU.mk (y.n 1) (OU.mk (Mm.mk (y.n 100000) (y.n 100001) (y.n 100002) (y.l 3) (y.l 6)) (vals (y.l 5))) = R ∧ (y.n 2 = z.n 2 ∧ y.n 3 = z.n 3) ∧ okM (Mm.mk (y.n 100000) (y.n 100001) (y.n 100002) (y.l 3) (y.l 6)) ∧ y.n 100002 + z.n 4 ≤ z.n 100002 + y.n 4 ∧ (y.l 5).length = (y.n 4).toNat ∧ y.n 4 ≤ y.n 3) z := by
  refine HD.loop (P := pe E) orcH_ok tab_ok tab_sz mixed Try.func39 (c := Try.f39.body.getD .skip) rfl (by decide) (Nat.le_of_ble_eq_true rfl) (by rfl) 20000 (2 ^ 200 - 1) (pc_hs E R z) (by rfl) (loopP_lfH ⟨?_⟩) ?_
  · rw [pc_pro]
    obtain ⟨hK, hnz, hl, hle, hz0, hPz⟩ := hp
    have hf1 : flat [Sp.r .u8 0 255] = true := rfl
    have hf2 : flat [Sp.i .u32, Sp.i .i64, Sp.i .u32] = true := rfl
    obtain ⟨usz, u4z, _⟩ : (0 ≤ z.n 3 ∧ z.n 3 ≤ 65535) ∧ 0 ≤ z.n 4 ∧ True := hz.1
    obtain ⟨b1z, b2z, _⟩ : 0 ≤ z.n 100001 ∧ 0 ≤ z.n 100002 ∧ True := hz.2.1
    have T1z : ((z.n 100001).toNat : Int) = z.n 100001 := Int.toNat_of_nonneg b1z
    have T2z : ((z.n 100002).toNat : Int) = z.n 100002 := Int.toNat_of_nonneg b2z
    have T4z : ((z.n 4).toNat : Int) = z.n 4 := Int.toNat_of_nonneg u4z
    have r2 : Row [.r .u8 0 255] (z.l 2) := hz.2.2.1.2
    have r3 : Row [.r .u8 0 255] (z.l 3) := hz.2.2.2.1.2
    have r4 : Row [.i .u32, .i .i64, .i .u32] (z.l 4) := hz.2.2.2.2.1.2
    simp only [T1z, T2z, T4z]
    ((repeat' (first | exact trivial | with_reducible rfl | assumption | exact rfl | apply And.intro)) <;> omega)
  · intro h hmem y hy1 hy2 hy3
    simp only [pc_hs, List.mem_cons, List.not_mem_nil, or_false] at hmem
    rcases hmem with rfl | rfl
    · exact pc_q0 E R z hp y hy1 hy2 hy3
    · exact pc_q1 E R z hp y hy1 hy2 hy3
end Go.Proofs.Ytabklphoccicmaa

