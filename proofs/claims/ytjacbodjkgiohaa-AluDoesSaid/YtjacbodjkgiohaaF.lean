import Derived.Test.YtjacbodjkgiohaaE
set_option linter.unusedVariables false
set_option linter.unusedSimpArgs false
namespace Go.Proofs.Ytjacbodjkgiohaa
open Go Go.Proofs Go.Proofs.Ytjacbodjkgiohaa.Ev
theorem does_l (m a b : Int) (n z c v sh : Bool) (ha : u32 a = true) (hb : u32 b = true) : lawP (fnTree Try.prog orc2 (tabL fns) 1000 Try.f3 [.a [.i false .i64 m, .i false .u32 a, .i false .u32 b, .b false n, .b false z, .b false c, .b false v, .b false sh]] []) := by
  rw [does_p]
  refine ⟨ha, hb, ha, hb, by simp, by simp, ?_⟩
  generalize bits .and .i64 m 15 = k
  simp +contextual
  omega
end Go.Proofs.Ytjacbodjkgiohaa

