import Derived.Test.YtabklphoccicmaaW
set_option linter.unusedVariables false
set_option linter.unusedSimpArgs false
namespace Go.Proofs.Ytabklphoccicmaa
open Go Go.Proofs Go.Proofs.Ytabklphoccicmaa.Ev Go.Proofs.Ytabklphoccicmaa.Ev.Ho
set_option maxRecDepth 100000
def clN (n : Int) : Int := if n < 0 then 0 else if 256 < n then 256 else n
def tA (x k : Int) : Int := IntKind.i16.wrap ((x * k) / 16384)
def hS (x : Int) : Int := IntKind.i16.wrap x
def u32w (x : Int) : Int := IntKind.u32.wrap x
structure Tn where
  p0 : Int
  p1 : Int
  p2 : Int
  p3 : Int
noncomputable def tnF (E : World) (f : Int) (m : Mm) : Tn :=
  let sx := hS (rdv2 E f m)
  let sy := hS (rdv2 E (u32w (f + 2)) m)
  let an := rdv2 E (u32w (f + 4)) m / 256 % 256
  ⟨tA sx (sn (an + 64)), tA (-sx) (sn an), tA sy (sn an), tA sy (sn (an + 64))⟩
noncomputable def bgM (E : World) (f t : Int) (p : Tn) (m : Mm) : Mm :=
  let cx := rdv4 E f m
  let cy := rdv4 E (u32w (f + 4)) m
  let dx := hS (rdv2 E (u32w (f + 8)) m)
  let dy := hS (rdv2 E (u32w (f + 10)) m)
  wrm4 E (u32w (t + 12)) (u32w (cy - p.p2 * dx - p.p3 * dy)) (wrm4 E (u32w (t + 8)) (u32w (cx - p.p0 * dx - p.p1 * dy)) (wrm2 E (u32w (t + 6)) (p.p3 % 65536) (wrm2 E (u32w (t + 4)) (p.p2 % 65536) (wrm2 E (u32w (t + 2)) (p.p1 % 65536) (wrm2 E (u32w t) (p.p0 % 65536) m)))))
noncomputable def bgS (E : World) (f t : Int) (m : Mm) : Mm := bgM E f t (tnF E (u32w (f + 12)) m) m
noncomputable def bgF (E : World) : Nat → Int → Int → Mm → Mm
  | 0, _, _, m => m
  | n + 1, f, t, m => bgF E n (u32w (f + 20)) (u32w (t + 16)) (bgS E f t m)
noncomputable def obS (E : World) (f t ap : Int) (m : Mm) : Mm :=
  let p := tnF E f m
  wrm2 E (u32w (u32w (u32w (t + ap) + ap) + ap)) (p.p3 % 65536) (wrm2 E (u32w (u32w (t + ap) + ap)) (p.p2 % 65536) (wrm2 E (u32w (t + ap)) (p.p1 % 65536) (wrm2 E t (p.p0 % 65536) m)))
noncomputable def obF (E : World) (ap : Int) : Nat → Int → Int → Mm → Mm
  | 0, _, _, m => m
  | n + 1, f, t, m => obF E ap n (u32w (f + 8)) (u32w (u32w (u32w (u32w (t + ap) + ap) + ap) + ap)) (obS E f t ap m)
theorem hS_bd (x : Int) : -32768 ≤ hS x ∧ hS x ≤ 32768 := by unfold hS; rw [wi16]; omega
theorem hS_ng (x : Int) : -32768 ≤ -hS x ∧ -hS x ≤ 32768 := by unfold hS; rw [wi16]; omega
theorem e16 (x : Int) : IntKind.i32.wrap (IntKind.i16.wrap x) = hS x := by unfold hS; rw [wi16, wi32]; omega
theorem e16' (x : Int) : IntKind.i16.wrap x = hS x := rfl
theorem en32 (x : Int) : IntKind.i32.wrap (0 - hS x) = -hS x := by have := hS_ng x; rw [wi32]; omega
theorem en64 (x : Int) : IntKind.i64.wrap (0 - hS x) = -hS x := by have := hS_ng x; rw [wi64]; omega
theorem i32c (c : Int) (h : -16384 ≤ c ∧ c ≤ 16384) : IntKind.i32.wrap c = c := by rw [wi32]; omega
theorem mul_bd (a c : Int) (ha : -32768 ≤ a ∧ a ≤ 32768) (hc : -16384 ≤ c ∧ c ≤ 16384) : -536870912 ≤ a * c ∧ a * c ≤ 536870912 := by
  have h : (a * c).natAbs ≤ 32768 * 16384 := by rw [Int.natAbs_mul]; exact Nat.mul_le_mul (by omega) (by omega)
  omega
theorem eA (a c : Int) (ha : -32768 ≤ a ∧ a ≤ 32768) (hc : -16384 ≤ c ∧ c ≤ 16384) : hS ((IntKind.i32.wrap (a * c)).fdiv 16384) = tA a c := by
  have := mul_bd a c ha hc
  have e : IntKind.i32.wrap (a * c) = a * c := by rw [wi32]; omega
  rw [e, fdiv_lit _ _ (by decide)]; rfl
theorem eA' (a c : Int) (ha : -32768 ≤ a ∧ a ≤ 32768) (hc : -16384 ≤ c ∧ c ≤ 16384) : hS (IntKind.u32.wrap ((IntKind.i64.wrap (a * c)).fdiv 16384)) = tA a c := by
  have := mul_bd a c ha hc
  have e : IntKind.i64.wrap (a * c) = a * c := by rw [wi64]; omega
  rw [e, fdiv_lit _ _ (by decide)]
  unfold hS tA
  rw [wi16, wi16, wu32]; omega
theorem eM (x : Int) : bits .and .u32 (IntKind.u32.wrap x) 65535 = x % 65536 := by
  have e1 : bits .and .u32 (IntKind.u32.wrap x) 65535 = (IntKind.u32.wrap x) % 65536 := and_mask .u32 _ 16 (.inl (by decide))
  rw [e1, wu32]; omega
theorem eM' (x : Int) : (IntKind.u32.wrap x).tmod 65536 = x % 65536 := by
  rw [tmod_n _ _ (ur x).1, wu32]; omega
theorem eW (c a b : Int) : IntKind.u32.wrap (IntKind.i32.wrap (IntKind.i32.wrap (IntKind.i32.wrap c - IntKind.i32.wrap a) - IntKind.i32.wrap b)) = IntKind.u32.wrap (c - a - b) := by
  rw [wu32, wu32, wi32, wi32, wi32, wi32, wi32]; omega
theorem eW' (c a b : Int) : IntKind.u32.wrap (IntKind.i64.wrap (IntKind.i64.wrap (IntKind.i64.wrap c - IntKind.i64.wrap a) - IntKind.i64.wrap b)) = IntKind.u32.wrap (c - a - b) := by
  rw [wu32, wu32, wi64, wi64, wi64, wi64, wi64]; omega
theorem uadd (a b c : Int) : IntKind.u32.wrap (IntKind.u32.wrap (a + b) + c) = IntKind.u32.wrap (a + (b + c)) := by rw [wu32, wu32, wu32]; omega
theorem anP (x : Int) (h : 0 ≤ x ∧ x ≤ 65535) : IntKind.i64.wrap ((IntKind.u16.wrap (IntKind.i32.wrap (IntKind.i16.wrap x))).fdiv 256) = x / 256 % 256 := by
  rw [fdiv_lit _ _ (by decide), wu16, wi32, wi16, wi64]; omega
theorem anR (x : Int) (h : 0 ≤ x ∧ x ≤ 65535) : IntKind.i64.wrap ((IntKind.u32.wrap (x.tdiv 256)).tmod 256) = x / 256 % 256 := by
  have e : x.tdiv 256 = x / 256 := Int.tdiv_eq_ediv_of_nonneg h.1
  rw [e, tmod_n _ _ (ur _).1, wu32, wi64]; omega
theorem a64 (x : Int) : IntKind.i64.wrap (x / 256 % 256 + 64) = x / 256 % 256 + 64 := by rw [wi64]; omega
theorem a64b (x : Int) : 0 ≤ x / 256 % 256 ∧ x / 256 % 256 ≤ 1000 := by omega
theorem a64c (x : Int) : 0 ≤ x / 256 % 256 + 64 ∧ x / 256 % 256 + 64 ≤ 1000 := by omega
theorem bgF_s {E : World} {n i f t : Int} {m R : Mm} (h : bgF E (n - i).toNat f t m = R) (hi : i < n) : bgF E (n - (i + 1)).toNat (IntKind.u32.wrap (f + 20)) (IntKind.u32.wrap (t + 16)) (bgS E f t m) = R := by
  have e : (n - i).toNat = (n - (i + 1)).toNat + 1 := by omega
  rw [e] at h; exact h
theorem obF_s {E : World} {ap n i f t : Int} {m R : Mm} (h : obF E ap (n - i).toNat f t m = R) (hi : i < n) : obF E ap (n - (i + 1)).toNat (IntKind.u32.wrap (f + 8)) (IntKind.u32.wrap (IntKind.u32.wrap (IntKind.u32.wrap (IntKind.u32.wrap (t + ap) + ap) + ap) + ap)) (obS E f t ap m) = R := by
  have e : (n - i).toNat = (n - (i + 1)).toNat + 1 := by omega
  rw [e] at h; exact h
theorem cl_bd (n : Int) : 0 ≤ clN n ∧ clN n ≤ 256 := by unfold clN; split <;> (try split) <;> omega
noncomputable def c28_td (E : World) : List Item := headOf (run (pe E) (orcN E) (tabL fns) 20000 (2 ^ 200 - 1) [.code (Try.f28.body.getD .skip)] ⟨Try.f28.ntmps, mkFrGo (Tr.mk 12) 0 [.c (.ifc 36 0 0), .c (.i false .u32 0), .c (.i false .u32 0), .c (.i true .i64 5)]⟩ (mkM default [] [mB 2, rowB, rowN] 0))
noncomputable def c29_td (E : World) : List Item := headOf (run (pe E) (orcN E) (tabL fns) 20000 (2 ^ 200 - 1) [.code (Try.f29.body.getD .skip)] ⟨Try.f29.ntmps, mkFrGo (Tr.mk 12) 0 [.c (.p 0 0), .c (.i false .u32 0), .c (.i false .u32 0), .c (.i true .i64 5)]⟩ (mkM default [] [mB 2, rowB, rowN] 0))
noncomputable def c30_td (E : World) : List Item := headOf (run (pe E) (orcN E) (tabL fns) 20000 (2 ^ 200 - 1) [.code (Try.f30.body.getD .skip)] ⟨Try.f30.ntmps, mkFrGo (Tr.mk 12) 0 [.c (.ifc 36 0 0), .c (.i false .u32 0), .c (.i false .u32 0), .c (.i true .i64 5), .c (.i false .u32 0)]⟩ (mkM default [] [mB 2, rowB, rowN] 0))
noncomputable def c31_td (E : World) : List Item := headOf (run (pe E) (orcN E) (tabL fns) 20000 (2 ^ 200 - 1) [.code (Try.f31.body.getD .skip)] ⟨Try.f31.ntmps, mkFrGo (Tr.mk 12) 0 [.c (.p 0 0), .c (.i false .u32 0), .c (.i false .u32 0), .c (.i true .i64 5), .c (.i false .u32 0)]⟩ (mkM default [] [mB 2, rowB, rowN] 0))
end Go.Proofs.Ytabklphoccicmaa

