import Derived.Test.YthgcieloijmgdaaVA
set_option linter.unusedVariables false
set_option linter.unusedSimpArgs false
namespace Go.Proofs.Ythgcieloijmgdaa
open Go Go.Proofs Go.Proofs.Ythgcieloijmgdaa.Ev Go.Proofs.Ythgcieloijmgdaa.Ev.Ho
set_option maxRecDepth 100000
noncomputable def vF (t : ByteArray) (a : Int) : Nat → Int
  | 0 => 0
  | n + 1 => 2 * vF t a n + (strB t (a + n) - 48)
noncomputable def mW (w : Int) : MB := .o [.s, .c (.i true .i64 w), .r .i64 0 80, .b, .i .i64, .i .u64, .i .u64, .r .i64 0 68] 63
noncomputable def xB : MB := .o [.i .i64, .i .i64, .s] 36
theorem oF_ex (s : ByteArray) (u : Int) : ∃ x : Int, x = strB s u * 72057594037927936 + strB s (u + 1) * 281474976710656 + strB s (u + 2) * 1099511627776 + strB s (u + 3) * 4294967296 + strB s (u + 4) * 16777216 + strB s (u + 5) * 65536 + strB s (u + 6) * 256 + strB s (u + 7) := ⟨_, rfl⟩
noncomputable def oF (s : ByteArray) (u : Int) : Int := Classical.choose (oF_ex s u)
theorem oF_eq (s : ByteArray) (u : Int) : oF s u = strB s u * 72057594037927936 + strB s (u + 1) * 281474976710656 + strB s (u + 2) * 1099511627776 + strB s (u + 3) * 4294967296 + strB s (u + 4) * 16777216 + strB s (u + 5) * 65536 + strB s (u + 6) * 256 + strB s (u + 7) := Classical.choose_spec (oF_ex s u)
theorem apT_ex (s : ByteArray) (u d : Int) : ∃ b : ByteArray, b = catB [strSl s 0 u, byT d, strSl s (u + 8) s.size] := ⟨_, rfl⟩
noncomputable def apT (s : ByteArray) (u d : Int) : ByteArray := Classical.choose (apT_ex s u d)
theorem apT_eq (s : ByteArray) (u d : Int) : apT s u d = catB [strSl s 0 u, byT d, strSl s (u + 8) s.size] := Classical.choose_spec (apT_ex s u d)
structure ST (t : ByteArray) (L : Nat) (r : Bool) : Prop where
  l : t.size = L
  c0 : strB t 0 = 49
  c1 : strB t 1 = cond r 49 48
  dg : ∀ i : Int, 0 ≤ i → i < L → strB t i = 48 ∨ strB t i = 49
structure SI (r : Bool) (w : Nat) (t g0 g : ByteArray) (i tk : Int) (rd : Bool) (ad da : Int) : Prop where
  im : g = g0
  tk : tk = i
  rd : 2 ≤ i → rd = r
  ad : 1 ≤ i → ad = vF t 2 (Nat.min (i - 2).toNat w)
  da : 1 ≤ i → da = vF t (2 + w) (i - 2 - w).toNat
structure PW (w n : Nat) (t g0 g : ByteArray) (tk : Int) (ok : Bool) (k a : Int) (d : ByteArray) : Prop where
  tk : tk = 0
  ok : ok = true
  k : k = 1
  a : a = vF t 2 w * 8 % n
  d : d = byT (vF t (2 + w) 64)
  g : g = apT g0 (vF t 2 w * 8 % n) (vF t (2 + w) 64)
structure PR (w n : Nat) (t g0 g : ByteArray) (tk : Int) (ok rd : Bool) (out lf : Int) : Prop where
  tk : tk = 0
  ok : ok = false
  rd : rd = true
  out : out = oF g0 (vF t 2 w * 8 % n)
  lf : lf = 68
  g : g = g0
structure HI (p q : Prop) (i L : Int) : Prop where
  a : i < L → p
  b : i = L → q
noncomputable def sWa_td (E : World) : List Item := headOf (run (pe E) (orcV E) (tabL fns) 20000 (2 ^ 200 - 1) [.code (Try.f17.body.getD .skip)] ⟨Try.f17.ntmps, mkFrGo (Tr.mk 12) 0 [.c (.p 0 0), .c (.strn 81 default)]⟩ (mkM default [] [mW 14] 0))
noncomputable def sWb_td (E : World) : List Item := headOf (run (pe E) (orcV E) (tabL fns) 20000 (2 ^ 200 - 1) [.code (Try.f17.body.getD .skip)] ⟨Try.f17.ntmps, mkFrGo (Tr.mk 12) 0 [.c (.p 0 0), .c (.strn 73 default)]⟩ (mkM default [] [mW 6] 0))
noncomputable def ad (y : PX) : Int := (IntKind.i64.wrap (y.n 4 * 8)).tmod ((y.s 0).size : Int)
noncomputable def lna (L : Nat) (E : World) (t : ByteArray) (y : PX) (p : Prop) : Prop := sWa_td E = sWa_td E ∧ 26 = 26 ∧ (True ∧ (renC (posN [0, 1, 2]) (C.strn L t) = C.strn L t ∧ True) ∧ True ∧ True ∧ True ∧ True ∧ ((0 ≤ IntKind.i64.wrap (y.n 91011 + 1) ∧ IntKind.i64.wrap (y.n 91011 + 1) ≤ L) ∧ True) ∧ True) ∧ p
noncomputable def lnb (L : Nat) (E : World) (t : ByteArray) (y : PX) (p : Prop) : Prop := sWb_td E = sWb_td E ∧ 26 = 26 ∧ (True ∧ (renC (posN [0, 1, 2]) (C.strn L t) = C.strn L t ∧ True) ∧ True ∧ True ∧ True ∧ True ∧ ((0 ≤ IntKind.i64.wrap (y.n 91011 + 1) ∧ IntKind.i64.wrap (y.n 91011 + 1) ≤ L) ∧ True) ∧ True) ∧ p
theorem wlen (E : World) :
    ((sWa_td E).length = 1000 ∧ (sWb_td E).length = 1000) =
    ((4 : Nat) = (1000 : Nat) ∧ (4 : Nat) = (1000 : Nat)) := by kernel_rfl
end Go.Proofs.Ythgcieloijmgdaa

