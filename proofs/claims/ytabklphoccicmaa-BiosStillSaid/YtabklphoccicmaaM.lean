import Derived.Test.YtabklphoccicmaaS
set_option linter.unusedVariables false
set_option linter.unusedSimpArgs false
namespace Go.Proofs.Ytabklphoccicmaa
open Go Go.Proofs Go.Proofs.Ytabklphoccicmaa.Ev
theorem w4 (X : Int) (h0 : 0 ≤ X) (h1 : X < 4294967296) : IntKind.u32.wrap (IntKind.u32.wrap (IntKind.u32.wrap (IntKind.u32.wrap (IntKind.u32.wrap (IntKind.u32.wrap (IntKind.u32.wrap ((0 : Int) + IntKind.u32.wrap (IntKind.u8.wrap (IntKind.u32.wrap ((IntKind.u32.wrap ((IntKind.u32.wrap (X.tdiv (256 : Int))).tdiv (256 : Int))).tdiv (256 : Int))))) * (256 : Int)) + IntKind.u32.wrap (IntKind.u8.wrap (IntKind.u32.wrap ((IntKind.u32.wrap (X.tdiv (256 : Int))).tdiv (256 : Int))))) * (256 : Int)) + IntKind.u32.wrap (IntKind.u8.wrap (IntKind.u32.wrap (X.tdiv (256 : Int))))) * (256 : Int)) + IntKind.u32.wrap (IntKind.u8.wrap X)) = X := by
  have e1 : IntKind.u32.wrap (X.tdiv 256) = X / 256 := by rw [tdiv_n _ _ h0, wu32_in _ (by omega) (by omega)]
  have e2 : IntKind.u32.wrap ((X / 256).tdiv 256) = X / 65536 := by rw [tdiv_n _ _ (by omega), wu32_in _ (by omega) (by omega)]; omega
  have e3 : IntKind.u32.wrap ((X / 65536).tdiv 256) = X / 16777216 := by rw [tdiv_n _ _ (by omega), wu32_in _ (by omega) (by omega)]; omega
  rw [e1, e2, e3, wu8, wu8, wu8, wu8]
  have b0 : 0 ≤ X % 256 ∧ X % 256 < 256 := by omega
  have b1 : 0 ≤ X / 256 % 256 ∧ X / 256 % 256 < 256 := by omega
  have b2 : 0 ≤ X / 65536 % 256 ∧ X / 65536 % 256 < 256 := by omega
  have b3 : 0 ≤ X / 16777216 % 256 ∧ X / 16777216 % 256 < 256 := by omega
  have hx : ((X / 16777216 % 256 * 256 + X / 65536 % 256) * 256 + X / 256 % 256) * 256 + X % 256 = X := by omega
  generalize X % 256 = a0 at *
  generalize X / 256 % 256 = a1 at *
  generalize X / 65536 % 256 = a2 at *
  generalize X / 16777216 % 256 = a3 at *
  rw [wu32_in a0 (by omega) (by omega), wu32_in a1 (by omega) (by omega), wu32_in a2 (by omega) (by omega), wu32_in a3 (by omega) (by omega), Int.zero_add,
    wu32_in a3 (by omega) (by omega), wu32_in (a3 * 256) (by omega) (by omega), wu32_in (a3 * 256 + a2) (by omega) (by omega), wu32_in ((a3 * 256 + a2) * 256) (by omega) (by omega),
    wu32_in ((a3 * 256 + a2) * 256 + a1) (by omega) (by omega), wu32_in (((a3 * 256 + a2) * 256 + a1) * 256) (by omega) (by omega), wu32_in (((a3 * 256 + a2) * 256 + a1) * 256 + a0) (by omega) (by omega)]
  exact hx
theorem ang (k : Int) (h0 : 0 ≤ k) (h1 : k < 256) : (IntKind.u16.wrap (IntKind.i32.wrap (IntKind.i16.wrap (IntKind.u32.wrap (IntKind.u32.wrap (IntKind.u32.wrap ((0 : Int) + IntKind.u32.wrap (IntKind.u8.wrap (IntKind.u32.wrap ((IntKind.u32.wrap (k)).tdiv (256 : Int))))) * (256 : Int)) + IntKind.u32.wrap (IntKind.u8.wrap (IntKind.u32.wrap (k)))))))).fdiv (256 : Int) = 0 := by
  rw [wu32_in k h0 (by omega), tdiv_n _ _ h0, show k / 256 = 0 by omega, show IntKind.u8.wrap k = k by rw [wu8]; omega, wu32_in k h0 (by omega)]
  rw [show IntKind.u32.wrap (IntKind.u32.wrap ((0 : Int) + IntKind.u32.wrap (IntKind.u8.wrap (IntKind.u32.wrap 0))) * 256) = 0 by decide, Int.zero_add, wu32_in k h0 (by omega)]
  rw [wi16, wi32, wu16, fdiv_lit _ _ (by decide)]
  omega
set_option maxRecDepth 100000 in
theorem still_l (E : World) (x y a : Int) : Holds (lawP (fnTree (pe E) (orcF E) (tabL fns) 20000 Try.f9 [.c (.i false .i32 x), .c (.i false .i32 y), .c (.i false .u16 a)] [])) := ⟨by
  have hk : bits .and .u16 a 255 = a % 256 := and_m8 .u16 a (by decide)
  have hA := ang (a % 256) (by omega) (by omega)
  have s0 : sn (IntKind.i64.wrap 0) = 0 := by decide +kernel
  have s1 : sn (IntKind.i64.wrap (IntKind.i64.wrap 0 + 64)) = 16384 := by decide +kernel
  have c0 : IntKind.i16.wrap ((IntKind.i32.wrap ((256 : Int) * IntKind.i32.wrap 0)).fdiv 16384) = 0 := by decide +kernel
  have c1 : IntKind.i16.wrap ((IntKind.i32.wrap ((256 : Int) * IntKind.i32.wrap 16384)).fdiv 16384) = 256 := by decide +kernel
  have c2 : IntKind.i16.wrap ((IntKind.i32.wrap ((-256 : Int) * IntKind.i32.wrap 0)).fdiv 16384) = 0 := by decide +kernel
  have z0 : IntKind.i32.wrap (IntKind.i32.wrap 0 * 0) = 0 := by decide +kernel
  have z1 : IntKind.i32.wrap (IntKind.i32.wrap 256 * 0) = 0 := by decide +kernel
  have y32 : ∀ X : Int, 0 ≤ X → X < 4294967296 → IntKind.u32.wrap (IntKind.i32.wrap (IntKind.i32.wrap (IntKind.i32.wrap X - 0) - 0)) = X := by
    intro X h0 h1
    rw [wi32, wi32, wi32, wu32]; omega
  have hx : 0 ≤ IntKind.u32.wrap x ∧ IntKind.u32.wrap x < 4294967296 := by rw [wu32]; omega
  have hy : 0 ≤ IntKind.u32.wrap y ∧ IntKind.u32.wrap y < 4294967296 := by rw [wu32]; omega
  rw [still_p, hk, hA, s0, s1, c0, c1, c2, z0, z1]
  rw [w4 _ hx.1 hx.2, y32 _ hx.1 hx.2, w4 _ hx.1 hx.2]
  rw [w4 _ hy.1 hy.2, y32 _ hy.1 hy.2, w4 _ hy.1 hy.2]
  refine ⟨by decide +kernel, by decide +kernel, by decide +kernel, by decide +kernel, by decide +kernel, by decide +kernel, by decide +kernel, by decide +kernel, ?_⟩
  simp⟩
end Go.Proofs.Ytabklphoccicmaa

