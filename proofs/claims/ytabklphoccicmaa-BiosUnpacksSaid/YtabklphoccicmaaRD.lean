import Derived.Test.YtabklphoccicmaaRA
set_option linter.unusedVariables false
set_option linter.unusedSimpArgs false
namespace Go.Proofs.Ytabklphoccicmaa
open Go Go.Proofs Go.Proofs.Ytabklphoccicmaa.Ev Go.Proofs.Ytabklphoccicmaa.Ev.Ho Go.IntKind
set_option maxRecDepth 100000
noncomputable def ad_td (E : World) : List Item := headP [] (run (pe E) (orcD E) (tabL fns) 20000 (2 ^ 200 - 1) [.code (Try.f44.body.getD .skip)] ⟨Try.f44.ntmps, mkFrGo (Tr.mk 12) 0 [.c (.p 0 0), .c (.p 1 0)]⟩ (mkM default [] [mSt 2, mO' 2 3, mN 4 5, rowI, rowB, rowN] 0))
noncomputable def adk_td (E : World) : List Item := headP [true] (run (pe E) (orcD E) (tabL fns) 20000 (2 ^ 200 - 1) (ad_td E) (mkL Try.f44.ntmps (slC default ([(0, .c (.p 0 0)), (1, .c (.p 1 0))]))) (mkM default [] [mSt 2, mO' 2 6, mN 4 7, .g HOLE, rowB, .g HOLE, rowI, rowN] 0))
noncomputable def adp_td (E : World) : List Item := headP [true, true, false] (run (pe E) (orcD E) (tabL fns) 20000 (2 ^ 200 - 1) (adk_td E) (mkL Try.f44.ntmps (slC default ([(0, .c (.p 0 0)), (1, .c (.p 1 0)), (4, .r .i64 (0) (255)), (5, .r .i64 (0) (8))]))) (mkM default [] [mSt 2, mO' 2 6, mN 4 7, .g HOLE, rowB, .g HOLE, rowI, rowN] 0))
theorem agF_d {E : World} {to sz k n : Int} {s : OU} (h : 0 < n) : agF E to sz k n.toNat s = agF E to sz k (n - 1).toNat (gvF E to sz (agX k s.o) s) := by
  have e : n.toNat = (n - 1).toNat + 1 := by omega
  rw [e]; rfl
theorem agF_z {E : World} {to sz k n : Int} {s : OU} (h : n ≤ 0) : agF E to sz k n.toNat s = s := by
  have e : n.toNat = 0 := by omega
  rw [e]; rfl
theorem agkD (a b : Int) (ha : 0 ≤ a ∧ a ≤ 255) (hb : 0 ≤ b ∧ b ≤ 255) : IntKind.i64.wrap (IntKind.i64.wrap (IntKind.i64.wrap (a.tmod 16 * 256) + b) + 1) = a % 16 * 256 + b + 1 := by
  rw [tmod_n _ _ (by omega), wi64, wi64, wi64]; omega
theorem agcD (a : Int) (ha : 0 ≤ a ∧ a ≤ 255) : IntKind.i64.wrap (IntKind.i64.wrap (a.tdiv 16) + 3) = a / 16 + 3 := by
  rw [show a.tdiv 16 = a / 16 from Int.tdiv_eq_ediv_of_nonneg ha.1, wi64, wi64]; omega
theorem bitD (fl k : Int) (h0 : 0 ≤ k) (h1 : k ≤ 7) (hf : 0 ≤ fl) : (fl.fdiv (2 ^ min k.toNat 64)).tmod 2 = fl / (2 : Int) ^ k.toNat % 2 := by
  have e : min k.toNat 64 = k.toNat := by omega
  have e2 : fl.fdiv (2 ^ k.toNat) = fl / (2 : Int) ^ k.toNat := Int.fdiv_eq_ediv_of_nonneg _ (Int.le_of_lt (Int.pow_pos (by decide)))
  rw [e, e2, tmod_n _ _ (Int.ediv_nonneg hf (Int.le_of_lt (Int.pow_pos (by decide))))]
end Go.Proofs.Ytabklphoccicmaa

