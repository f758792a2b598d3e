import Derived.Test.YtchebhjbcjjhpaaA
set_option linter.unusedVariables false
set_option linter.unusedSimpArgs false
namespace Go.Proofs.Ytchebhjbcjjhpaa
open Go Go.Proofs Go.Proofs.Ytchebhjbcjjhpaa.Ev
def nn (n : Int) : Int := (n.tmod 200 + 200) % 200
def u6 (x : Int) : Int := x % 65536
noncomputable def c7 : Code := Try.f7.body.getD .skip
noncomputable def hd7 (E : World) : List Item := headOf (run (pe E) (orcA E) (tabL fns) 20000 1606938044258990275541962092341162602522202993782792835301375 [.code c7] ⟨Try.f7.ntmps, mkFrGo (Tr.mk 12) 0 [.c (.i true .u32 0), .c (.i true .i64 0)]⟩ [])
def lv7 (E : World) (st : Int) (n : Int) (x : Int × Int) : List (Nat × SV) := [(0, .c (.i false .u32 st)), (1, .c (.i false .i64 (nn n))), (5, .c (.p 0 0)), (6, .c (.i false .i64 x.2)), (7, .c (.i false .i64 x.1))]
def sv7 (E : World) (st : Int) (n : Int) (x : Int × Int) : SW := [⟨[.i true .u16 65535, .i true .u16 128, .i true .u16 65535, .i false .i64 (x.1 - 1), .i false .u16 (u6 st), .i true .u16 132, .i false .u16 x.2, .i true .i64 0, .i true .u16 0, .i true .u16 0, .i true .u16 0, .i true .i64 0, .i true .u16 0, .i true .u16 0, .i true .u16 0, .i true .i64 0], 56⟩]
def hh7 (E : World) (st : Int) (n : Int) (x : Int × Int) : Prop := (1 ≤ x.1 ∧ x.1 ≤ nn n + 1) ∧ u6 st ≤ x.2 ∧ x.2 ≤ 65535
def mu7 (E : World) (st : Int) (n : Int) (x : Int × Int) : Nat := (nn n + 1 - x.1).toNat
theorem chain_pro (E : World) (st : Int) (n : Int) :
    (loopP (pe E) Try.f7 (fun v _ => SV.sim v (.c (.b false true))) (fun todo fr s' => ∃ x : Int × Int, hh7 E st n x ∧ todo = hd7 E ∧ fr.nt = Try.f7.ntmps ∧ refP fr (lv7 E st n x) ∧ refT s' (sv7 E st n x)) (run (pe E) (orcA E) (tabL fns) 20000 1606938044258990275541962092341162602522202993782792835301375 [.code c7] ⟨Try.f7.ntmps, mkFrGo (Tr.mk 12) 0 [.c (.i false .u32 st), .c (.i false .i64 n)]⟩ [])) =
    (∃ (x : Int × Int), (((1 : Int) ≤ x.fst ∧ x.fst ≤ nn n + (1 : Int)) ∧ u6 st ≤ x.snd ∧ x.snd ≤ (65535 : Int)) ∧ hd7 E = hd7 E ∧ (65 : Nat) = (65 : Nat) ∧ ((IntKind.u32 =
      IntKind.u32 ∧ st = st) ∧ (IntKind.i64 = IntKind.i64 ∧ (IntKind.i64.wrap (n.tmod (200 : Int) + (200 : Int))).tmod (200 : Int) = nn n) ∧ C.p (0 : Nat) (0 : Nat) = C.p (0 :
      Nat) (0 : Nat) ∧ (IntKind.i64 = IntKind.i64 ∧ IntKind.i64.wrap (IntKind.u16.wrap st) = x.snd) ∧ IntKind.i64 = IntKind.i64 ∧ (1 : Int) = x.fst) ∧ ((56 : Nat) = (56 : Nat) ∧
      (IntKind.u16 = IntKind.u16 ∧ (65535 : Int) = (65535 : Int)) ∧ (IntKind.u16 = IntKind.u16 ∧ (128 : Int) = (128 : Int)) ∧ (IntKind.u16 = IntKind.u16 ∧ (65535 : Int) = (65535
      : Int)) ∧ (IntKind.i64 = IntKind.i64 ∧ (0 : Int) = x.fst - (1 : Int)) ∧ (IntKind.u16 = IntKind.u16 ∧ IntKind.u16.wrap st = u6 st) ∧ (IntKind.u16 = IntKind.u16 ∧ (132 :
      Int) = (132 : Int)) ∧ (IntKind.u16 = IntKind.u16 ∧ IntKind.u16.wrap st = x.snd) ∧ (IntKind.i64 = IntKind.i64 ∧ (0 : Int) = (0 : Int)) ∧ (IntKind.u16 = IntKind.u16 ∧ (0 :
      Int) = (0 : Int)) ∧ (IntKind.u16 = IntKind.u16 ∧ (0 : Int) = (0 : Int)) ∧ (IntKind.u16 = IntKind.u16 ∧ (0 : Int) = (0 : Int)) ∧ (IntKind.i64 = IntKind.i64 ∧ (0 : Int) = (0
      : Int)) ∧ (IntKind.u16 = IntKind.u16 ∧ (0 : Int) = (0 : Int)) ∧ (IntKind.u16 = IntKind.u16 ∧ (0 : Int) = (0 : Int)) ∧ (IntKind.u16 = IntKind.u16 ∧ (0 : Int) = (0 : Int)) ∧
      IntKind.i64 = IntKind.i64 ∧ (0 : Int) = (0 : Int)) ∧ True) := by kernel_rfl
theorem chain_round (E : World) (st : Int) (n : Int) (j : Int × Int) :
    (loopP (pe E) Try.f7 (fun v _ => SV.sim v (.c (.b false true))) (fun todo fr s' => ∃ x : Int × Int, hh7 E st n x ∧ mu7 E st n x < mu7 E st n j ∧ todo = hd7 E ∧ fr.nt = Try.f7.ntmps ∧ refP fr (lv7 E st n x) ∧ refT s' (sv7 E st n x)) (run (pe E) (orcA E) (tabL fns) 20000 1606938044258990275541962092341162602522202993782792835301375 (hd7 E) (mkL Try.f7.ntmps (lv7 E st n j)) (sv7 E st n j))) =
    ((decide (j.fst ≤ nn n) = true → (decide (IntKind.i64.wrap (j.fst - (1 : Int) + (1 : Int)) > j.fst) = true → ((IntKind.i64.wrap (j.snd + (1 : Int)) == (65536 : Int)) = true
      → (((0 : Int) != j.fst) = true → false = true) ∧ (((0 : Int) != j.fst) = false → false = true)) ∧ ((IntKind.i64.wrap (j.snd + (1 : Int)) == (65536 : Int)) = false → (((0 :
      Int) != j.fst) = true → false = true) ∧ (((0 : Int) != j.fst) = false → false = true))) ∧ (decide (IntKind.i64.wrap (j.fst - (1 : Int) + (1 : Int)) > j.fst) = false →
      ((IntKind.i64.wrap (j.fst - (1 : Int) + (1 : Int)) != IntKind.i64.wrap (j.fst - (1 : Int) + (1 : Int))) = true → ((IntKind.i64.wrap (j.snd + (1 : Int)) == (65536 : Int)) =
      true → ((IntKind.i64.wrap (j.fst - (1 : Int) + (1 : Int)) != j.fst) = true → false = true) ∧ ((IntKind.i64.wrap (j.fst - (1 : Int) + (1 : Int)) != j.fst) = false → false =
      true)) ∧ ((IntKind.i64.wrap (j.snd + (1 : Int)) == (65536 : Int)) = false → ((IntKind.i64.wrap (j.fst - (1 : Int) + (1 : Int)) != j.fst) = true → false = true) ∧
      ((IntKind.i64.wrap (j.fst - (1 : Int) + (1 : Int)) != j.fst) = false → false = true))) ∧ ((IntKind.i64.wrap (j.fst - (1 : Int) + (1 : Int)) != IntKind.i64.wrap (j.fst - (1
      : Int) + (1 : Int))) = false → ((j.snd != (65535 : Int)) = true → ((IntKind.i64.wrap (j.snd + (1 : Int)) == (65536 : Int)) = true → ((IntKind.i64.wrap (j.fst - (1 : Int) +
      (1 : Int)) != j.fst) = true → false = true) ∧ ((IntKind.i64.wrap (j.fst - (1 : Int) + (1 : Int)) != j.fst) = false → false = true)) ∧ ((IntKind.i64.wrap (j.snd + (1 :
      Int)) == (65536 : Int)) = false → ((IntKind.i64.wrap (j.fst - (1 : Int) + (1 : Int)) != j.fst) = true → false = true) ∧ ((IntKind.i64.wrap (j.fst - (1 : Int) + (1 : Int))
      != j.fst) = false → ((IntKind.i64.wrap (IntKind.u16.wrap (j.snd + (1 : Int))) != IntKind.i64.wrap (j.snd + (1 : Int))) = true → false = true) ∧ ((IntKind.i64.wrap
      (IntKind.u16.wrap (j.snd + (1 : Int))) != IntKind.i64.wrap (j.snd + (1 : Int))) = false → ∃ (x : Int × Int), (((1 : Int) ≤ x.fst ∧ x.fst ≤ nn n + (1 : Int)) ∧ u6 st ≤
      x.snd ∧ x.snd ≤ (65535 : Int)) ∧ mu7 E st n x < mu7 E st n j ∧ hd7 E = hd7 E ∧ (65 : Nat) = (65 : Nat) ∧ ((IntKind.u32 = IntKind.u32 ∧ st = st) ∧ (IntKind.i64 =
      IntKind.i64 ∧ nn n = nn n) ∧ C.p (0 : Nat) (0 : Nat) = C.p (0 : Nat) (0 : Nat) ∧ (IntKind.i64 = IntKind.i64 ∧ IntKind.i64.wrap (j.snd + (1 : Int)) = x.snd) ∧ IntKind.i64 =
      IntKind.i64 ∧ IntKind.i64.wrap (j.fst + (1 : Int)) = x.fst) ∧ ((56 : Nat) = (56 : Nat) ∧ (IntKind.u16 = IntKind.u16 ∧ (65535 : Int) = (65535 : Int)) ∧ (IntKind.u16 =
      IntKind.u16 ∧ (128 : Int) = (128 : Int)) ∧ (IntKind.u16 = IntKind.u16 ∧ (65535 : Int) = (65535 : Int)) ∧ (IntKind.i64 = IntKind.i64 ∧ IntKind.i64.wrap (j.fst - (1 : Int) +
      (1 : Int)) = x.fst - (1 : Int)) ∧ (IntKind.u16 = IntKind.u16 ∧ u6 st = u6 st) ∧ (IntKind.u16 = IntKind.u16 ∧ (132 : Int) = (132 : Int)) ∧ (IntKind.u16 = IntKind.u16 ∧
      IntKind.u16.wrap (j.snd + (1 : Int)) = x.snd) ∧ (IntKind.i64 = IntKind.i64 ∧ (0 : Int) = (0 : Int)) ∧ (IntKind.u16 = IntKind.u16 ∧ (0 : Int) = (0 : Int)) ∧ (IntKind.u16 =
      IntKind.u16 ∧ (0 : Int) = (0 : Int)) ∧ (IntKind.u16 = IntKind.u16 ∧ (0 : Int) = (0 : Int)) ∧ (IntKind.i64 = IntKind.i64 ∧ (0 : Int) = (0 : Int)) ∧ (IntKind.u16 =
      IntKind.u16 ∧ (0 : Int) = (0 : Int)) ∧ (IntKind.u16 = IntKind.u16 ∧ (0 : Int) = (0 : Int)) ∧ (IntKind.u16 = IntKind.u16 ∧ (0 : Int) = (0 : Int)) ∧ IntKind.i64 =
      IntKind.i64 ∧ (0 : Int) = (0 : Int)) ∧ True)))) ∧ ((j.snd != (65535 : Int)) = false → ((IntKind.i64.wrap (j.snd + (1 : Int)) == (65536 : Int)) = true → ((IntKind.i64.wrap
      (j.fst - (1 : Int) + (1 : Int)) != j.fst) = true → false = true) ∧ ((IntKind.i64.wrap (j.fst - (1 : Int) + (1 : Int)) != j.fst) = false → ((IntKind.i64.wrap (u6 st) !=
      IntKind.i64.wrap (IntKind.u16.wrap st)) = true → false = true) ∧ ((IntKind.i64.wrap (u6 st) != IntKind.i64.wrap (IntKind.u16.wrap st)) = false → ∃ (x : Int × Int), (((1 :
      Int) ≤ x.fst ∧ x.fst ≤ nn n + (1 : Int)) ∧ u6 st ≤ x.snd ∧ x.snd ≤ (65535 : Int)) ∧ mu7 E st n x < mu7 E st n j ∧ hd7 E = hd7 E ∧ (65 : Nat) = (65 : Nat) ∧ ((IntKind.u32 =
      IntKind.u32 ∧ st = st) ∧ (IntKind.i64 = IntKind.i64 ∧ nn n = nn n) ∧ C.p (0 : Nat) (0 : Nat) = C.p (0 : Nat) (0 : Nat) ∧ (IntKind.i64 = IntKind.i64 ∧ IntKind.i64.wrap
      (IntKind.u16.wrap st) = x.snd) ∧ IntKind.i64 = IntKind.i64 ∧ IntKind.i64.wrap (j.fst + (1 : Int)) = x.fst) ∧ ((56 : Nat) = (56 : Nat) ∧ (IntKind.u16 = IntKind.u16 ∧ (65535
      : Int) = (65535 : Int)) ∧ (IntKind.u16 = IntKind.u16 ∧ (128 : Int) = (128 : Int)) ∧ (IntKind.u16 = IntKind.u16 ∧ (65535 : Int) = (65535 : Int)) ∧ (IntKind.i64 =
      IntKind.i64 ∧ IntKind.i64.wrap (j.fst - (1 : Int) + (1 : Int)) = x.fst - (1 : Int)) ∧ (IntKind.u16 = IntKind.u16 ∧ u6 st = u6 st) ∧ (IntKind.u16 = IntKind.u16 ∧ (132 :
      Int) = (132 : Int)) ∧ (IntKind.u16 = IntKind.u16 ∧ u6 st = x.snd) ∧ (IntKind.i64 = IntKind.i64 ∧ (0 : Int) = (0 : Int)) ∧ (IntKind.u16 = IntKind.u16 ∧ (0 : Int) = (0 :
      Int)) ∧ (IntKind.u16 = IntKind.u16 ∧ (0 : Int) = (0 : Int)) ∧ (IntKind.u16 = IntKind.u16 ∧ (0 : Int) = (0 : Int)) ∧ (IntKind.i64 = IntKind.i64 ∧ (0 : Int) = (0 : Int)) ∧
      (IntKind.u16 = IntKind.u16 ∧ (0 : Int) = (0 : Int)) ∧ (IntKind.u16 = IntKind.u16 ∧ (0 : Int) = (0 : Int)) ∧ (IntKind.u16 = IntKind.u16 ∧ (0 : Int) = (0 : Int)) ∧
      IntKind.i64 = IntKind.i64 ∧ (0 : Int) = (0 : Int)) ∧ True))) ∧ ((IntKind.i64.wrap (j.snd + (1 : Int)) == (65536 : Int)) = false → ((IntKind.i64.wrap (j.fst - (1 : Int) +
      (1 : Int)) != j.fst) = true → false = true) ∧ ((IntKind.i64.wrap (j.fst - (1 : Int) + (1 : Int)) != j.fst) = false → false = true)))))) ∧ (decide (j.fst ≤ nn n) = false →
      true = true)) := by kernel_rfl
end Go.Proofs.Ytchebhjbcjjhpaa

