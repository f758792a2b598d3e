import Derived.Test.YtpddbhfebhpohaaQ
set_option linter.unusedVariables false
set_option linter.unusedSimpArgs false
namespace Go.Proofs.Ytpddbhfebhpohaa
open Go Go.Proofs Go.Proofs.Ytpddbhfebhpohaa.Ev Go.Proofs.Ytpddbhfebhpohaa.Ev.Ho
set_option maxRecDepth 100000

def wd (i n : Int) : Int := if (decide (n / 1024 % 2 = 1) || fds i n) = true then 4 else 2
def mov (a d w : Int) : Int := if d = 1 then IntKind.u32.wrap (a - w) else if d = 2 then a else IntKind.u32.wrap (a + w)
def advC (w : Int) (i : Int) (c : Ch) : Ch := ⟨c.src, c.dst, c.count, c.control, mov c.at_ (c.control / 128 % 4) w, (if fds i c.control = true then c.to else mov c.to (c.control / 32 % 4) w), c.left, c.act, c.first, c.last⟩
def rep (n : Int) : Bool := decide (n / 512 % 2 = 1) && !decide (tm n = 0)
def endC (i : Int) (c : Ch) : Ch := if rep c.control = true then ⟨c.src, c.dst, c.count, c.control, c.at_, (if c.control / 32 % 4 = 3 then c.dst else c.to), ld i c.control c.count, false, true, c.last⟩
  else ⟨c.src, c.dst, c.count, c.control % 32768, c.at_, c.to, c.left, false, c.first, c.last⟩
theorem and10 (x : Int) (h0 : 0 ≤ x) (h1 : x ≤ 65535) : (bits .and .u16 x 1024 != 0) = decide (x / 1024 % 2 = 1) := by
  have e : bits .and .u16 x 1024 = x / 1024 % 2 * 1024 := and_sh .u16 rfl x h0 (by show x < 2 ^ 16; omega) 10 1 (by decide)
  rw [e]
  have : x / 1024 % 2 = 0 ∨ x / 1024 % 2 = 1 := by omega
  rcases this with h | h <;> rw [h] <;> decide
theorem and09 (x : Int) (h0 : 0 ≤ x) (h1 : x ≤ 65535) : (bits .and .u16 x 512 == 0) = !decide (x / 512 % 2 = 1) := by
  have e : bits .and .u16 x 512 = x / 512 % 2 * 512 := and_sh .u16 rfl x h0 (by show x < 2 ^ 16; omega) 9 1 (by decide)
  rw [e]
  have : x / 512 % 2 = 0 ∨ x / 512 % 2 = 1 := by omega
  rcases this with h | h <;> rw [h] <;> decide
theorem and14 (x : Int) (h0 : 0 ≤ x) (h1 : x ≤ 65535) : (bits .and .u16 x 16384 != 0) = decide (x / 16384 % 2 = 1) := by
  have e : bits .and .u16 x 16384 = x / 16384 % 2 * 16384 := and_sh .u16 rfl x h0 (by show x < 2 ^ 16; omega) 14 1 (by decide)
  rw [e]
  have : x / 16384 % 2 = 0 ∨ x / 16384 % 2 = 1 := by omega
  rcases this with h | h <;> rw [h] <;> decide
theorem s7 (x : Int) : IntKind.i64.wrap (bits .and .u16 (x.fdiv 128) 3) = x / 128 % 4 := by
  have e : bits .and .u16 (x.fdiv 128) 3 = x.fdiv 128 % 4 := and_mask .u16 _ 2 (.inl (by decide))
  rw [e, fdiv_lit _ _ (by decide), wi64]; omega
theorem s5 (x : Int) : IntKind.i64.wrap (bits .and .u16 (x.fdiv 32) 3) = x / 32 % 4 := by
  have e : bits .and .u16 (x.fdiv 32) 3 = x.fdiv 32 % 4 := and_mask .u16 _ 2 (.inl (by decide))
  rw [e, fdiv_lit _ _ (by decide), wi64]; omega
theorem s5' (x : Int) : bits .and .u16 (x.fdiv 32) 3 = x / 32 % 4 := by
  have e : bits .and .u16 (x.fdiv 32) 3 = x.fdiv 32 % 4 := and_mask .u16 _ 2 (.inl (by decide))
  rw [e, fdiv_lit _ _ (by decide)]
theorem andNot_u16 (a x : Int) (h0 : 0 ≤ x) (h1 : x < 65536) : bits .andNot .u16 a x = bits .and .u16 a (65535 - x) := by
  obtain ⟨n, rfl⟩ := Int.eq_ofNat_of_zero_le h0
  have := bits_andNot_n .u16 a n (by simp [IntKind.bits]; omega)
  simp [IntKind.bits] at this
  rw [this]; congr 1; omega
theorem an15 (x : Int) (h0 : 0 ≤ x) (h1 : x ≤ 65535) : bits .andNot .u16 x 32768 = x % 32768 := by
  rw [andNot_u16 _ _ (by decide) (by decide)]
  have : bits .and .u16 x 32767 = x % 32768 := and_mask .u16 _ 15 (.inl (by decide))
  exact this
theorem wr32 (x : Int) : 0 ≤ IntKind.u32.wrap x ∧ IntKind.u32.wrap x ≤ 4294967295 := by rw [wu32]; omega
end Go.Proofs.Ytpddbhfebhpohaa

