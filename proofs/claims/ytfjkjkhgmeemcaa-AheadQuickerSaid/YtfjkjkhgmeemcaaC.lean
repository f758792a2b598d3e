import Derived.Test.YtfjkjkhgmeemcaaA
set_option linter.unusedVariables false
set_option linter.unusedSimpArgs false
namespace Go.Proofs.Ytfjkjkhgmeemcaa
open Go Go.Proofs Go.Proofs.Ytfjkjkhgmeemcaa.Ev
def ss (s : Int) : Int := (s.tmod 8 + 8) % 8 + 1
def mo (s : Int) : Int := (s.tmod 8 + 8) % 8
noncomputable def c3 : Code := Try.f3.body.getD .skip
noncomputable def hd3 (E : World) : List Item := headOf (run (pe E) (orcA E) (tabL fns) 20000 1606938044258990275541962092341162602522202993782792835301375 [.code c3] ⟨Try.f3.ntmps, mkFrGo (Tr.mk 12) 0 [.c (.es none 0 0), .c (.i true .i64 0), .c (.i true .i64 0)]⟩ [])
def lv3 (E : World) (a : Option Addr) (n c : Nat) (s : Int) (m : Int) (x : Nat × Int × Int × Int) : List (Nat × SV) := [(1, .c (.i false .i64 (ss s))), (2, .c (.i false .i64 (mo m))), (7, .c (.p 0 0)), (8, .c (.i false .u32 x.2.1)), (37, .c (.es a n c)), (38, .c (.i false .i64 (n : Int))), (39, .c (.i false .i64 (x.1 : Int)))]
def sv3 (E : World) (a : Option Addr) (n c : Nat) (s : Int) (m : Int) (x : Nat × Int × Int × Int) : SW := [⟨[.i false .u32 x.2.1, .i false .i64 x.2.2.1, .i false .i64 x.2.2.2], 36⟩]
def hh3 (E : World) (a : Option Addr) (n c : Nat) (s : Int) (m : Int) (x : Nat × Int × Int × Int) : Prop := x.1 ≤ n ∧ (0 ≤ x.2.1 ∧ x.2.1 < 4294967296 ∧ x.2.1 % 2 = 0) ∧ (0 ≤ x.2.2.1 ∧ x.2.2.1 ≤ 8) ∧ 0 ≤ x.2.2.2 ∧ x.2.2.2 < ss s
def mu3 (E : World) (a : Option Addr) (n c : Nat) (s : Int) (m : Int) (x : Nat × Int × Int × Int) : Nat := n - x.1
theorem quick_pro (E : World) (a : Option Addr) (n c : Nat) (s : Int) (m : Int) :
    (loopP (pe E) Try.f3 (fun v _ => SV.sim v (.c (.b false true))) (fun todo fr s' => ∃ x : Nat × Int × Int × Int, hh3 E a n c s m x ∧ todo = hd3 E ∧ fr.nt = Try.f3.ntmps ∧ refP fr (lv3 E a n c s m x) ∧ refT s' (sv3 E a n c s m x)) (run (pe E) (orcA E) (tabL fns) 20000 1606938044258990275541962092341162602522202993782792835301375 [.code c3] ⟨Try.f3.ntmps, mkFrGo (Tr.mk 12) 0 [.c (.es a n c), .c (.i false .i64 s), .c (.i false .i64 m)]⟩ [])) =
    ((decide ((↑n : Int) > (200 : Int)) = true → true = true) ∧ (decide ((↑n : Int) > (200 : Int)) = false → (decide (IntKind.i64.wrap (IntKind.i64.wrap ((IntKind.i64.wrap
      (s.tmod (8 : Int) + (8 : Int))).tmod (8 : Int) + (1 : Int)) + (IntKind.i64.wrap (m.tmod (8 : Int) + (8 : Int))).tmod (8 : Int)) < (1 : Int)) = true → ∃ (x : Nat × Int ×
      Int × Int), (x.fst ≤ n ∧ ((0 : Int) ≤ x.snd.fst ∧ x.snd.fst < (4294967296 : Int) ∧ x.snd.fst % (2 : Int) = (0 : Int)) ∧ ((0 : Int) ≤ x.snd.snd.fst ∧ x.snd.snd.fst ≤ (8 :
      Int)) ∧ (0 : Int) ≤ x.snd.snd.snd ∧ x.snd.snd.snd < ss s) ∧ hd3 E = hd3 E ∧ (75 : Nat) = (75 : Nat) ∧ ((IntKind.i64 = IntKind.i64 ∧ IntKind.i64.wrap ((IntKind.i64.wrap
      (s.tmod (8 : Int) + (8 : Int))).tmod (8 : Int) + (1 : Int)) = ss s) ∧ (IntKind.i64 = IntKind.i64 ∧ (IntKind.i64.wrap (m.tmod (8 : Int) + (8 : Int))).tmod (8 : Int) = mo m)
      ∧ C.p (0 : Nat) (0 : Nat) = C.p (0 : Nat) (0 : Nat) ∧ (IntKind.u32 = IntKind.u32 ∧ (134217730 : Int) = x.snd.fst) ∧ C.es a n c = C.es a n c ∧ (IntKind.i64 = IntKind.i64 ∧
      (↑n : Int) = (↑n : Int)) ∧ IntKind.i64 = IntKind.i64 ∧ (0 : Int) = (↑x.fst : Int)) ∧ ((36 : Nat) = (36 : Nat) ∧ (IntKind.u32 = IntKind.u32 ∧ (0 : Int) = x.snd.fst) ∧
      (IntKind.i64 = IntKind.i64 ∧ (0 : Int) = x.snd.snd.fst) ∧ IntKind.i64 = IntKind.i64 ∧ (0 : Int) = x.snd.snd.snd) ∧ True) ∧ (decide (IntKind.i64.wrap (IntKind.i64.wrap
      ((IntKind.i64.wrap (s.tmod (8 : Int) + (8 : Int))).tmod (8 : Int) + (1 : Int)) + (IntKind.i64.wrap (m.tmod (8 : Int) + (8 : Int))).tmod (8 : Int)) < (1 : Int)) = false →
      (decide (IntKind.i64.wrap ((IntKind.i64.wrap (s.tmod (8 : Int) + (8 : Int))).tmod (8 : Int) + (1 : Int)) < (1 : Int)) = true → ∃ (x : Nat × Int × Int × Int), (x.fst ≤ n ∧
      ((0 : Int) ≤ x.snd.fst ∧ x.snd.fst < (4294967296 : Int) ∧ x.snd.fst % (2 : Int) = (0 : Int)) ∧ ((0 : Int) ≤ x.snd.snd.fst ∧ x.snd.snd.fst ≤ (8 : Int)) ∧ (0 : Int) ≤
      x.snd.snd.snd ∧ x.snd.snd.snd < ss s) ∧ hd3 E = hd3 E ∧ (75 : Nat) = (75 : Nat) ∧ ((IntKind.i64 = IntKind.i64 ∧ IntKind.i64.wrap ((IntKind.i64.wrap (s.tmod (8 : Int) + (8
      : Int))).tmod (8 : Int) + (1 : Int)) = ss s) ∧ (IntKind.i64 = IntKind.i64 ∧ (IntKind.i64.wrap (m.tmod (8 : Int) + (8 : Int))).tmod (8 : Int) = mo m) ∧ C.p (0 : Nat) (0 :
      Nat) = C.p (0 : Nat) (0 : Nat) ∧ (IntKind.u32 = IntKind.u32 ∧ (134217730 : Int) = x.snd.fst) ∧ C.es a n c = C.es a n c ∧ (IntKind.i64 = IntKind.i64 ∧ (↑n : Int) = (↑n :
      Int)) ∧ IntKind.i64 = IntKind.i64 ∧ (0 : Int) = (↑x.fst : Int)) ∧ ((36 : Nat) = (36 : Nat) ∧ (IntKind.u32 = IntKind.u32 ∧ (0 : Int) = x.snd.fst) ∧ (IntKind.i64 =
      IntKind.i64 ∧ (0 : Int) = x.snd.snd.fst) ∧ IntKind.i64 = IntKind.i64 ∧ (0 : Int) = x.snd.snd.snd) ∧ True) ∧ (decide (IntKind.i64.wrap ((IntKind.i64.wrap (s.tmod (8 : Int)
      + (8 : Int))).tmod (8 : Int) + (1 : Int)) < (1 : Int)) = false → ∃ (x : Nat × Int × Int × Int), (x.fst ≤ n ∧ ((0 : Int) ≤ x.snd.fst ∧ x.snd.fst < (4294967296 : Int) ∧
      x.snd.fst % (2 : Int) = (0 : Int)) ∧ ((0 : Int) ≤ x.snd.snd.fst ∧ x.snd.snd.fst ≤ (8 : Int)) ∧ (0 : Int) ≤ x.snd.snd.snd ∧ x.snd.snd.snd < ss s) ∧ hd3 E = hd3 E ∧ (75 :
      Nat) = (75 : Nat) ∧ ((IntKind.i64 = IntKind.i64 ∧ IntKind.i64.wrap ((IntKind.i64.wrap (s.tmod (8 : Int) + (8 : Int))).tmod (8 : Int) + (1 : Int)) = ss s) ∧ (IntKind.i64 =
      IntKind.i64 ∧ (IntKind.i64.wrap (m.tmod (8 : Int) + (8 : Int))).tmod (8 : Int) = mo m) ∧ C.p (0 : Nat) (0 : Nat) = C.p (0 : Nat) (0 : Nat) ∧ (IntKind.u32 = IntKind.u32 ∧
      (134217730 : Int) = x.snd.fst) ∧ C.es a n c = C.es a n c ∧ (IntKind.i64 = IntKind.i64 ∧ (↑n : Int) = (↑n : Int)) ∧ IntKind.i64 = IntKind.i64 ∧ (0 : Int) = (↑x.fst : Int))
      ∧ ((36 : Nat) = (36 : Nat) ∧ (IntKind.u32 = IntKind.u32 ∧ (134217730 : Int) = x.snd.fst) ∧ (IntKind.i64 = IntKind.i64 ∧ (0 : Int) = x.snd.snd.fst) ∧ IntKind.i64 =
      IntKind.i64 ∧ (0 : Int) = x.snd.snd.snd) ∧ True)))) := by kernel_rfl
theorem quick_round (E : World) (a : Option Addr) (n c : Nat) (s : Int) (m : Int) (j : Nat × Int × Int × Int) :
    (loopP (pe E) Try.f3 (fun v _ => SV.sim v (.c (.b false true))) (fun todo fr s' => ∃ x : Nat × Int × Int × Int, hh3 E a n c s m x ∧ mu3 E a n c s m x < mu3 E a n c s m j ∧ todo = hd3 E ∧ fr.nt = Try.f3.ntmps ∧ refP fr (lv3 E a n c s m x) ∧ refT s' (sv3 E a n c s m x)) (run (pe E) (orcA E) (tabL fns) 20000 1606938044258990275541962092341162602522202993782792835301375 (hd3 E) (mkL Try.f3.ntmps (lv3 E a n c s m j)) (sv3 E a n c s m j))) =
    ((decide ((↑j.fst : Int) < (↑n : Int)) = true → inB (↑j.fst : Int) n = true ∧ a.isSome = true ∧ eRow E a ((↑j.fst : Int).toNat * (1 : Nat) + (0 : Nat)) [EK.i IntKind.i64] =
      true ∧ (decide (eI E a ((↑j.fst : Int).toNat * (1 : Nat) + (0 : Nat)) < (1 : Int)) = true → (decide (IntKind.i64.wrap ((1 : Int) + (IntKind.i64.wrap ((eI E a ((↑j.fst :
      Int).toNat * (1 : Nat) + (0 : Nat))).tmod (2 : Int) + (2 : Int))).tmod (2 : Int)) < (1 : Int)) = true → false = true) ∧ (decide (IntKind.i64.wrap ((1 : Int) +
      (IntKind.i64.wrap ((eI E a ((↑j.fst : Int).toNat * (1 : Nat) + (0 : Nat))).tmod (2 : Int) + (2 : Int))).tmod (2 : Int)) < (1 : Int)) = false → (decide (IntKind.i64.wrap
      ((1 : Int) + (IntKind.i64.wrap ((eI E a ((↑j.fst : Int).toNat * (1 : Nat) + (0 : Nat))).tmod (2 : Int) + (2 : Int))).tmod (2 : Int)) > (2 : Int)) = true → false = true) ∧
      (decide (IntKind.i64.wrap ((1 : Int) + (IntKind.i64.wrap ((eI E a ((↑j.fst : Int).toNat * (1 : Nat) + (0 : Nat))).tmod (2 : Int) + (2 : Int))).tmod (2 : Int)) > (2 : Int))
      = false → (decide (IntKind.i64.wrap (ss s + mo m) < (1 : Int)) = true → false = true) ∧ (decide (IntKind.i64.wrap (ss s + mo m) < (1 : Int)) = false → (decide (ss s < (1 :
      Int)) = true → false = true) ∧ (decide (ss s < (1 : Int)) = false → ((true ^^ j.snd.fst == bits BinOp.andNot IntKind.u32 j.snd.fst (1 : Int) && (j.snd.snd.fst ==
      j.snd.snd.fst && (j.snd.snd.snd == j.snd.snd.snd && true))) = true → (decide (IntKind.i64.wrap (IntKind.i64.wrap (ss s + mo m) + IntKind.i64.wrap (ss s * IntKind.i64.wrap
      (IntKind.i64.wrap ((1 : Int) + (IntKind.i64.wrap ((eI E a ((↑j.fst : Int).toNat * (1 : Nat) + (0 : Nat))).tmod (2 : Int) + (2 : Int))).tmod (2 : Int)) - (1 : Int)))) < (1
      : Int)) = true → false = true) ∧ (decide (IntKind.i64.wrap (IntKind.i64.wrap (ss s + mo m) + IntKind.i64.wrap (ss s * IntKind.i64.wrap (IntKind.i64.wrap ((1 : Int) +
      (IntKind.i64.wrap ((eI E a ((↑j.fst : Int).toNat * (1 : Nat) + (0 : Nat))).tmod (2 : Int) + (2 : Int))).tmod (2 : Int)) - (1 : Int)))) < (1 : Int)) = false → (decide
      (IntKind.i64.wrap (IntKind.i64.wrap (ss s + mo m) + IntKind.i64.wrap (ss s * IntKind.i64.wrap (IntKind.i64.wrap ((1 : Int) + (IntKind.i64.wrap ((eI E a ((↑j.fst :
      Int).toNat * (1 : Nat) + (0 : Nat))).tmod (2 : Int) + (2 : Int))).tmod (2 : Int)) - (1 : Int)))) > IntKind.i64.wrap (IntKind.i64.wrap ((1 : Int) + (IntKind.i64.wrap ((eI E
      a ((↑j.fst : Int).toNat * (1 : Nat) + (0 : Nat))).tmod (2 : Int) + (2 : Int))).tmod (2 : Int)) * ss s)) = true → false = true) ∧ (decide (IntKind.i64.wrap
      (IntKind.i64.wrap (ss s + mo m) + IntKind.i64.wrap (ss s * IntKind.i64.wrap (IntKind.i64.wrap ((1 : Int) + (IntKind.i64.wrap ((eI E a ((↑j.fst : Int).toNat * (1 : Nat) +
      (0 : Nat))).tmod (2 : Int) + (2 : Int))).tmod (2 : Int)) - (1 : Int)))) > IntKind.i64.wrap (IntKind.i64.wrap ((1 : Int) + (IntKind.i64.wrap ((eI E a ((↑j.fst : Int).toNat
      * (1 : Nat) + (0 : Nat))).tmod (2 : Int) + (2 : Int))).tmod (2 : Int)) * ss s)) = false → ∃ (x : Nat × Int × Int × Int), (x.fst ≤ n ∧ ((0 : Int) ≤ x.snd.fst ∧ x.snd.fst <
      (4294967296 : Int) ∧ x.snd.fst % (2 : Int) = (0 : Int)) ∧ ((0 : Int) ≤ x.snd.snd.fst ∧ x.snd.snd.fst ≤ (8 : Int)) ∧ (0 : Int) ≤ x.snd.snd.snd ∧ x.snd.snd.snd < ss s) ∧ mu3
      E a n c s m x < mu3 E a n c s m j ∧ hd3 E = hd3 E ∧ (75 : Nat) = (75 : Nat) ∧ ((IntKind.i64 = IntKind.i64 ∧ ss s = ss s) ∧ (IntKind.i64 = IntKind.i64 ∧ mo m = mo m) ∧ C.p
      (0 : Nat) (0 : Nat) = C.p (0 : Nat) (0 : Nat) ∧ (IntKind.u32 = IntKind.u32 ∧ IntKind.u32.wrap (j.snd.fst + IntKind.u32.wrap (IntKind.i64.wrap ((2 : Int) * IntKind.i64.wrap
      ((1 : Int) + (IntKind.i64.wrap ((eI E a ((↑j.fst : Int).toNat * (1 : Nat) + (0 : Nat))).tmod (2 : Int) + (2 : Int))).tmod (2 : Int))))) = x.snd.fst) ∧ C.es a n c = C.es a
      n c ∧ (IntKind.i64 = IntKind.i64 ∧ (↑n : Int) = (↑n : Int)) ∧ IntKind.i64 = IntKind.i64 ∧ IntKind.i64.wrap ((↑j.fst : Int) + (1 : Int)) = (↑x.fst : Int)) ∧ ((36 : Nat) =
      (36 : Nat) ∧ (IntKind.u32 = IntKind.u32 ∧ IntKind.u32.wrap (bits BinOp.andNot IntKind.u32 j.snd.fst (1 : Int) + IntKind.u32.wrap ((2 : Int) * IntKind.u32.wrap
      (IntKind.i64.wrap ((1 : Int) + (IntKind.i64.wrap ((eI E a ((↑j.fst : Int).toNat * (1 : Nat) + (0 : Nat))).tmod (2 : Int) + (2 : Int))).tmod (2 : Int))))) = x.snd.fst) ∧
      (IntKind.i64 = IntKind.i64 ∧ (0 : Int) = x.snd.snd.fst) ∧ IntKind.i64 = IntKind.i64 ∧ (0 : Int) = x.snd.snd.snd) ∧ True))) ∧ ((true ^^ j.snd.fst == bits BinOp.andNot
      IntKind.u32 j.snd.fst (1 : Int) && (j.snd.snd.fst == j.snd.snd.fst && (j.snd.snd.snd == j.snd.snd.snd && true))) = false → (decide (j.snd.snd.fst ≥ IntKind.i64.wrap ((1 :
      Int) + (IntKind.i64.wrap ((eI E a ((↑j.fst : Int).toNat * (1 : Nat) + (0 : Nat))).tmod (2 : Int) + (2 : Int))).tmod (2 : Int))) = true → (decide ((1 : Int) >
      IntKind.i64.wrap (IntKind.i64.wrap ((1 : Int) + (IntKind.i64.wrap ((eI E a ((↑j.fst : Int).toNat * (1 : Nat) + (0 : Nat))).tmod (2 : Int) + (2 : Int))).tmod (2 : Int)) *
      ss s)) = true → false = true) ∧ (decide ((1 : Int) > IntKind.i64.wrap (IntKind.i64.wrap ((1 : Int) + (IntKind.i64.wrap ((eI E a ((↑j.fst : Int).toNat * (1 : Nat) + (0 :
      Nat))).tmod (2 : Int) + (2 : Int))).tmod (2 : Int)) * ss s)) = false → ∃ (x : Nat × Int × Int × Int), (x.fst ≤ n ∧ ((0 : Int) ≤ x.snd.fst ∧ x.snd.fst < (4294967296 : Int)
      ∧ x.snd.fst % (2 : Int) = (0 : Int)) ∧ ((0 : Int) ≤ x.snd.snd.fst ∧ x.snd.snd.fst ≤ (8 : Int)) ∧ (0 : Int) ≤ x.snd.snd.snd ∧ x.snd.snd.snd < ss s) ∧ mu3 E a n c s m x <
      mu3 E a n c s m j ∧ hd3 E = hd3 E ∧ (75 : Nat) = (75 : Nat) ∧ ((IntKind.i64 = IntKind.i64 ∧ ss s = ss s) ∧ (IntKind.i64 = IntKind.i64 ∧ mo m = mo m) ∧ C.p (0 : Nat) (0 :
      Nat) = C.p (0 : Nat) (0 : Nat) ∧ (IntKind.u32 = IntKind.u32 ∧ IntKind.u32.wrap (j.snd.fst + IntKind.u32.wrap (IntKind.i64.wrap ((2 : Int) * IntKind.i64.wrap ((1 : Int) +
      (IntKind.i64.wrap ((eI E a ((↑j.fst : Int).toNat * (1 : Nat) + (0 : Nat))).tmod (2 : Int) + (2 : Int))).tmod (2 : Int))))) = x.snd.fst) ∧ C.es a n c = C.es a n c ∧
      (IntKind.i64 = IntKind.i64 ∧ (↑n : Int) = (↑n : Int)) ∧ IntKind.i64 = IntKind.i64 ∧ IntKind.i64.wrap ((↑j.fst : Int) + (1 : Int)) = (↑x.fst : Int)) ∧ ((36 : Nat) = (36 :
      Nat) ∧ (IntKind.u32 = IntKind.u32 ∧ IntKind.u32.wrap (bits BinOp.andNot IntKind.u32 j.snd.fst (1 : Int) + IntKind.u32.wrap ((2 : Int) * IntKind.u32.wrap (IntKind.i64.wrap
      ((1 : Int) + (IntKind.i64.wrap ((eI E a ((↑j.fst : Int).toNat * (1 : Nat) + (0 : Nat))).tmod (2 : Int) + (2 : Int))).tmod (2 : Int))))) = x.snd.fst) ∧ (IntKind.i64 =
      IntKind.i64 ∧ IntKind.i64.wrap (j.snd.snd.fst - IntKind.i64.wrap ((1 : Int) + (IntKind.i64.wrap ((eI E a ((↑j.fst : Int).toNat * (1 : Nat) + (0 : Nat))).tmod (2 : Int) +
      (2 : Int))).tmod (2 : Int))) = x.snd.snd.fst) ∧ IntKind.i64 = IntKind.i64 ∧ j.snd.snd.snd = x.snd.snd.snd) ∧ True)) ∧ (decide (j.snd.snd.fst ≥ IntKind.i64.wrap ((1 : Int)
      + (IntKind.i64.wrap ((eI E a ((↑j.fst : Int).toNat * (1 : Nat) + (0 : Nat))).tmod (2 : Int) + (2 : Int))).tmod (2 : Int))) = false → (decide ((if IntKind.i64.wrap
      (IntKind.i64.wrap (ss s * IntKind.i64.wrap (IntKind.i64.wrap ((1 : Int) + (IntKind.i64.wrap ((eI E a ((↑j.fst : Int).toNat * (1 : Nat) + (0 : Nat))).tmod (2 : Int) + (2 :
      Int))).tmod (2 : Int)) - j.snd.snd.fst)) - j.snd.snd.snd) > (1 : Int) then IntKind.i64.wrap (IntKind.i64.wrap (ss s * IntKind.i64.wrap (IntKind.i64.wrap ((1 : Int) +
      (IntKind.i64.wrap ((eI E a ((↑j.fst : Int).toNat * (1 : Nat) + (0 : Nat))).tmod (2 : Int) + (2 : Int))).tmod (2 : Int)) - j.snd.snd.fst)) - j.snd.snd.snd) else (1 : Int))
      < (1 : Int)) = true → false = true) ∧ (decide ((if IntKind.i64.wrap (IntKind.i64.wrap (ss s * IntKind.i64.wrap (IntKind.i64.wrap ((1 : Int) + (IntKind.i64.wrap ((eI E a
      ((↑j.fst : Int).toNat * (1 : Nat) + (0 : Nat))).tmod (2 : Int) + (2 : Int))).tmod (2 : Int)) - j.snd.snd.fst)) - j.snd.snd.snd) > (1 : Int) then IntKind.i64.wrap
      (IntKind.i64.wrap (ss s * IntKind.i64.wrap (IntKind.i64.wrap ((1 : Int) + (IntKind.i64.wrap ((eI E a ((↑j.fst : Int).toNat * (1 : Nat) + (0 : Nat))).tmod (2 : Int) + (2 :
      Int))).tmod (2 : Int)) - j.snd.snd.fst)) - j.snd.snd.snd) else (1 : Int)) < (1 : Int)) = false → (decide ((if IntKind.i64.wrap (IntKind.i64.wrap (ss s * IntKind.i64.wrap
      (IntKind.i64.wrap ((1 : Int) + (IntKind.i64.wrap ((eI E a ((↑j.fst : Int).toNat * (1 : Nat) + (0 : Nat))).tmod (2 : Int) + (2 : Int))).tmod (2 : Int)) - j.snd.snd.fst)) -
      j.snd.snd.snd) > (1 : Int) then IntKind.i64.wrap (IntKind.i64.wrap (ss s * IntKind.i64.wrap (IntKind.i64.wrap ((1 : Int) + (IntKind.i64.wrap ((eI E a ((↑j.fst : Int).toNat
      * (1 : Nat) + (0 : Nat))).tmod (2 : Int) + (2 : Int))).tmod (2 : Int)) - j.snd.snd.fst)) - j.snd.snd.snd) else (1 : Int)) > IntKind.i64.wrap (IntKind.i64.wrap ((1 : Int) +
      (IntKind.i64.wrap ((eI E a ((↑j.fst : Int).toNat * (1 : Nat) + (0 : Nat))).tmod (2 : Int) + (2 : Int))).tmod (2 : Int)) * ss s)) = true → false = true) ∧ (decide ((if
      IntKind.i64.wrap (IntKind.i64.wrap (ss s * IntKind.i64.wrap (IntKind.i64.wrap ((1 : Int) + (IntKind.i64.wrap ((eI E a ((↑j.fst : Int).toNat * (1 : Nat) + (0 : Nat))).tmod
      (2 : Int) + (2 : Int))).tmod (2 : Int)) - j.snd.snd.fst)) - j.snd.snd.snd) > (1 : Int) then IntKind.i64.wrap (IntKind.i64.wrap (ss s * IntKind.i64.wrap (IntKind.i64.wrap
      ((1 : Int) + (IntKind.i64.wrap ((eI E a ((↑j.fst : Int).toNat * (1 : Nat) + (0 : Nat))).tmod (2 : Int) + (2 : Int))).tmod (2 : Int)) - j.snd.snd.fst)) - j.snd.snd.snd)
      else (1 : Int)) > IntKind.i64.wrap (IntKind.i64.wrap ((1 : Int) + (IntKind.i64.wrap ((eI E a ((↑j.fst : Int).toNat * (1 : Nat) + (0 : Nat))).tmod (2 : Int) + (2 :
      Int))).tmod (2 : Int)) * ss s)) = false → ∃ (x : Nat × Int × Int × Int), (x.fst ≤ n ∧ ((0 : Int) ≤ x.snd.fst ∧ x.snd.fst < (4294967296 : Int) ∧ x.snd.fst % (2 : Int) = (0
      : Int)) ∧ ((0 : Int) ≤ x.snd.snd.fst ∧ x.snd.snd.fst ≤ (8 : Int)) ∧ (0 : Int) ≤ x.snd.snd.snd ∧ x.snd.snd.snd < ss s) ∧ mu3 E a n c s m x < mu3 E a n c s m j ∧ hd3 E = hd3
      E ∧ (75 : Nat) = (75 : Nat) ∧ ((IntKind.i64 = IntKind.i64 ∧ ss s = ss s) ∧ (IntKind.i64 = IntKind.i64 ∧ mo m = mo m) ∧ C.p (0 : Nat) (0 : Nat) = C.p (0 : Nat) (0 : Nat) ∧
      (IntKind.u32 = IntKind.u32 ∧ IntKind.u32.wrap (j.snd.fst + IntKind.u32.wrap (IntKind.i64.wrap ((2 : Int) * IntKind.i64.wrap ((1 : Int) + (IntKind.i64.wrap ((eI E a
      ((↑j.fst : Int).toNat * (1 : Nat) + (0 : Nat))).tmod (2 : Int) + (2 : Int))).tmod (2 : Int))))) = x.snd.fst) ∧ C.es a n c = C.es a n c ∧ (IntKind.i64 = IntKind.i64 ∧ (↑n :
      Int) = (↑n : Int)) ∧ IntKind.i64 = IntKind.i64 ∧ IntKind.i64.wrap ((↑j.fst : Int) + (1 : Int)) = (↑x.fst : Int)) ∧ ((36 : Nat) = (36 : Nat) ∧ (IntKind.u32 = IntKind.u32 ∧
      IntKind.u32.wrap (bits BinOp.andNot IntKind.u32 j.snd.fst (1 : Int) + IntKind.u32.wrap ((2 : Int) * IntKind.u32.wrap (IntKind.i64.wrap ((1 : Int) + (IntKind.i64.wrap ((eI
      E a ((↑j.fst : Int).toNat * (1 : Nat) + (0 : Nat))).tmod (2 : Int) + (2 : Int))).tmod (2 : Int))))) = x.snd.fst) ∧ (IntKind.i64 = IntKind.i64 ∧ (0 : Int) = x.snd.snd.fst)
      ∧ IntKind.i64 = IntKind.i64 ∧ (0 : Int) = x.snd.snd.snd) ∧ True))))))))) ∧ (decide (eI E a ((↑j.fst : Int).toNat * (1 : Nat) + (0 : Nat)) < (1 : Int)) = false → (decide
      (ss s < (1 : Int)) = true → (decide (IntKind.i64.wrap ((1 : Int) + (IntKind.i64.wrap ((eI E a ((↑j.fst : Int).toNat * (1 : Nat) + (0 : Nat))).tmod (2 : Int) + (2 :
      Int))).tmod (2 : Int)) < (1 : Int)) = true → false = true) ∧ (decide (IntKind.i64.wrap ((1 : Int) + (IntKind.i64.wrap ((eI E a ((↑j.fst : Int).toNat * (1 : Nat) + (0 :
      Nat))).tmod (2 : Int) + (2 : Int))).tmod (2 : Int)) < (1 : Int)) = false → (decide (IntKind.i64.wrap ((1 : Int) + (IntKind.i64.wrap ((eI E a ((↑j.fst : Int).toNat * (1 :
      Nat) + (0 : Nat))).tmod (2 : Int) + (2 : Int))).tmod (2 : Int)) > (2 : Int)) = true → false = true) ∧ (decide (IntKind.i64.wrap ((1 : Int) + (IntKind.i64.wrap ((eI E a
      ((↑j.fst : Int).toNat * (1 : Nat) + (0 : Nat))).tmod (2 : Int) + (2 : Int))).tmod (2 : Int)) > (2 : Int)) = false → (decide (IntKind.i64.wrap (ss s + mo m) < (1 : Int)) =
      true → false = true) ∧ (decide (IntKind.i64.wrap (ss s + mo m) < (1 : Int)) = false → (decide (ss s < (1 : Int)) = true → false = true) ∧ (decide (ss s < (1 : Int)) =
      false → ((true ^^ j.snd.fst == bits BinOp.andNot IntKind.u32 j.snd.fst (1 : Int) && (j.snd.snd.fst == j.snd.snd.fst && (j.snd.snd.snd == j.snd.snd.snd && true))) = true →
      (decide (IntKind.i64.wrap (IntKind.i64.wrap (ss s + mo m) + IntKind.i64.wrap (ss s * IntKind.i64.wrap (IntKind.i64.wrap ((1 : Int) + (IntKind.i64.wrap ((eI E a ((↑j.fst :
      Int).toNat * (1 : Nat) + (0 : Nat))).tmod (2 : Int) + (2 : Int))).tmod (2 : Int)) - (1 : Int)))) < (1 : Int)) = true → false = true) ∧ (decide (IntKind.i64.wrap
      (IntKind.i64.wrap (ss s + mo m) + IntKind.i64.wrap (ss s * IntKind.i64.wrap (IntKind.i64.wrap ((1 : Int) + (IntKind.i64.wrap ((eI E a ((↑j.fst : Int).toNat * (1 : Nat) +
      (0 : Nat))).tmod (2 : Int) + (2 : Int))).tmod (2 : Int)) - (1 : Int)))) < (1 : Int)) = false → (decide (IntKind.i64.wrap (IntKind.i64.wrap (ss s + mo m) + IntKind.i64.wrap
      (ss s * IntKind.i64.wrap (IntKind.i64.wrap ((1 : Int) + (IntKind.i64.wrap ((eI E a ((↑j.fst : Int).toNat * (1 : Nat) + (0 : Nat))).tmod (2 : Int) + (2 : Int))).tmod (2 :
      Int)) - (1 : Int)))) > IntKind.i64.wrap (IntKind.i64.wrap ((1 : Int) + (IntKind.i64.wrap ((eI E a ((↑j.fst : Int).toNat * (1 : Nat) + (0 : Nat))).tmod (2 : Int) + (2 :
      Int))).tmod (2 : Int)) * ss s)) = true → false = true) ∧ (decide (IntKind.i64.wrap (IntKind.i64.wrap (ss s + mo m) + IntKind.i64.wrap (ss s * IntKind.i64.wrap
      (IntKind.i64.wrap ((1 : Int) + (IntKind.i64.wrap ((eI E a ((↑j.fst : Int).toNat * (1 : Nat) + (0 : Nat))).tmod (2 : Int) + (2 : Int))).tmod (2 : Int)) - (1 : Int)))) >
      IntKind.i64.wrap (IntKind.i64.wrap ((1 : Int) + (IntKind.i64.wrap ((eI E a ((↑j.fst : Int).toNat * (1 : Nat) + (0 : Nat))).tmod (2 : Int) + (2 : Int))).tmod (2 : Int)) *
      ss s)) = false → ∃ (x : Nat × Int × Int × Int), (x.fst ≤ n ∧ ((0 : Int) ≤ x.snd.fst ∧ x.snd.fst < (4294967296 : Int) ∧ x.snd.fst % (2 : Int) = (0 : Int)) ∧ ((0 : Int) ≤
      x.snd.snd.fst ∧ x.snd.snd.fst ≤ (8 : Int)) ∧ (0 : Int) ≤ x.snd.snd.snd ∧ x.snd.snd.snd < ss s) ∧ mu3 E a n c s m x < mu3 E a n c s m j ∧ hd3 E = hd3 E ∧ (75 : Nat) = (75 :
      Nat) ∧ ((IntKind.i64 = IntKind.i64 ∧ ss s = ss s) ∧ (IntKind.i64 = IntKind.i64 ∧ mo m = mo m) ∧ C.p (0 : Nat) (0 : Nat) = C.p (0 : Nat) (0 : Nat) ∧ (IntKind.u32 =
      IntKind.u32 ∧ IntKind.u32.wrap (j.snd.fst + IntKind.u32.wrap (IntKind.i64.wrap ((2 : Int) * IntKind.i64.wrap ((1 : Int) + (IntKind.i64.wrap ((eI E a ((↑j.fst : Int).toNat
      * (1 : Nat) + (0 : Nat))).tmod (2 : Int) + (2 : Int))).tmod (2 : Int))))) = x.snd.fst) ∧ C.es a n c = C.es a n c ∧ (IntKind.i64 = IntKind.i64 ∧ (↑n : Int) = (↑n : Int)) ∧
      IntKind.i64 = IntKind.i64 ∧ IntKind.i64.wrap ((↑j.fst : Int) + (1 : Int)) = (↑x.fst : Int)) ∧ ((36 : Nat) = (36 : Nat) ∧ (IntKind.u32 = IntKind.u32 ∧ IntKind.u32.wrap
      (bits BinOp.andNot IntKind.u32 j.snd.fst (1 : Int) + IntKind.u32.wrap ((2 : Int) * IntKind.u32.wrap (IntKind.i64.wrap ((1 : Int) + (IntKind.i64.wrap ((eI E a ((↑j.fst :
      Int).toNat * (1 : Nat) + (0 : Nat))).tmod (2 : Int) + (2 : Int))).tmod (2 : Int))))) = x.snd.fst) ∧ (IntKind.i64 = IntKind.i64 ∧ (0 : Int) = x.snd.snd.fst) ∧ IntKind.i64 =
      IntKind.i64 ∧ (0 : Int) = x.snd.snd.snd) ∧ True))) ∧ ((true ^^ j.snd.fst == bits BinOp.andNot IntKind.u32 j.snd.fst (1 : Int) && (j.snd.snd.fst == j.snd.snd.fst &&
      (j.snd.snd.snd == j.snd.snd.snd && true))) = false → (decide (j.snd.snd.fst ≥ IntKind.i64.wrap ((1 : Int) + (IntKind.i64.wrap ((eI E a ((↑j.fst : Int).toNat * (1 : Nat) +
      (0 : Nat))).tmod (2 : Int) + (2 : Int))).tmod (2 : Int))) = true → (decide ((1 : Int) > IntKind.i64.wrap (IntKind.i64.wrap ((1 : Int) + (IntKind.i64.wrap ((eI E a ((↑j.fst
      : Int).toNat * (1 : Nat) + (0 : Nat))).tmod (2 : Int) + (2 : Int))).tmod (2 : Int)) * ss s)) = true → false = true) ∧ (decide ((1 : Int) > IntKind.i64.wrap
      (IntKind.i64.wrap ((1 : Int) + (IntKind.i64.wrap ((eI E a ((↑j.fst : Int).toNat * (1 : Nat) + (0 : Nat))).tmod (2 : Int) + (2 : Int))).tmod (2 : Int)) * ss s)) = false → ∃
      (x : Nat × Int × Int × Int), (x.fst ≤ n ∧ ((0 : Int) ≤ x.snd.fst ∧ x.snd.fst < (4294967296 : Int) ∧ x.snd.fst % (2 : Int) = (0 : Int)) ∧ ((0 : Int) ≤ x.snd.snd.fst ∧
      x.snd.snd.fst ≤ (8 : Int)) ∧ (0 : Int) ≤ x.snd.snd.snd ∧ x.snd.snd.snd < ss s) ∧ mu3 E a n c s m x < mu3 E a n c s m j ∧ hd3 E = hd3 E ∧ (75 : Nat) = (75 : Nat) ∧
      ((IntKind.i64 = IntKind.i64 ∧ ss s = ss s) ∧ (IntKind.i64 = IntKind.i64 ∧ mo m = mo m) ∧ C.p (0 : Nat) (0 : Nat) = C.p (0 : Nat) (0 : Nat) ∧ (IntKind.u32 = IntKind.u32 ∧
      IntKind.u32.wrap (j.snd.fst + IntKind.u32.wrap (IntKind.i64.wrap ((2 : Int) * IntKind.i64.wrap ((1 : Int) + (IntKind.i64.wrap ((eI E a ((↑j.fst : Int).toNat * (1 : Nat) +
      (0 : Nat))).tmod (2 : Int) + (2 : Int))).tmod (2 : Int))))) = x.snd.fst) ∧ C.es a n c = C.es a n c ∧ (IntKind.i64 = IntKind.i64 ∧ (↑n : Int) = (↑n : Int)) ∧ IntKind.i64 =
      IntKind.i64 ∧ IntKind.i64.wrap ((↑j.fst : Int) + (1 : Int)) = (↑x.fst : Int)) ∧ ((36 : Nat) = (36 : Nat) ∧ (IntKind.u32 = IntKind.u32 ∧ IntKind.u32.wrap (bits BinOp.andNot
      IntKind.u32 j.snd.fst (1 : Int) + IntKind.u32.wrap ((2 : Int) * IntKind.u32.wrap (IntKind.i64.wrap ((1 : Int) + (IntKind.i64.wrap ((eI E a ((↑j.fst : Int).toNat * (1 :
      Nat) + (0 : Nat))).tmod (2 : Int) + (2 : Int))).tmod (2 : Int))))) = x.snd.fst) ∧ (IntKind.i64 = IntKind.i64 ∧ IntKind.i64.wrap (j.snd.snd.fst - IntKind.i64.wrap ((1 :
      Int) + (IntKind.i64.wrap ((eI E a ((↑j.fst : Int).toNat * (1 : Nat) + (0 : Nat))).tmod (2 : Int) + (2 : Int))).tmod (2 : Int))) = x.snd.snd.fst) ∧ IntKind.i64 =
      IntKind.i64 ∧ j.snd.snd.snd = x.snd.snd.snd) ∧ True)) ∧ (decide (j.snd.snd.fst ≥ IntKind.i64.wrap ((1 : Int) + (IntKind.i64.wrap ((eI E a ((↑j.fst : Int).toNat * (1 : Nat)
      + (0 : Nat))).tmod (2 : Int) + (2 : Int))).tmod (2 : Int))) = false → (decide ((if IntKind.i64.wrap (IntKind.i64.wrap (ss s * IntKind.i64.wrap (IntKind.i64.wrap ((1 : Int)
      + (IntKind.i64.wrap ((eI E a ((↑j.fst : Int).toNat * (1 : Nat) + (0 : Nat))).tmod (2 : Int) + (2 : Int))).tmod (2 : Int)) - j.snd.snd.fst)) - j.snd.snd.snd) > (1 : Int)
      then IntKind.i64.wrap (IntKind.i64.wrap (ss s * IntKind.i64.wrap (IntKind.i64.wrap ((1 : Int) + (IntKind.i64.wrap ((eI E a ((↑j.fst : Int).toNat * (1 : Nat) + (0 :
      Nat))).tmod (2 : Int) + (2 : Int))).tmod (2 : Int)) - j.snd.snd.fst)) - j.snd.snd.snd) else (1 : Int)) < (1 : Int)) = true → false = true) ∧ (decide ((if IntKind.i64.wrap
      (IntKind.i64.wrap (ss s * IntKind.i64.wrap (IntKind.i64.wrap ((1 : Int) + (IntKind.i64.wrap ((eI E a ((↑j.fst : Int).toNat * (1 : Nat) + (0 : Nat))).tmod (2 : Int) + (2 :
      Int))).tmod (2 : Int)) - j.snd.snd.fst)) - j.snd.snd.snd) > (1 : Int) then IntKind.i64.wrap (IntKind.i64.wrap (ss s * IntKind.i64.wrap (IntKind.i64.wrap ((1 : Int) +
      (IntKind.i64.wrap ((eI E a ((↑j.fst : Int).toNat * (1 : Nat) + (0 : Nat))).tmod (2 : Int) + (2 : Int))).tmod (2 : Int)) - j.snd.snd.fst)) - j.snd.snd.snd) else (1 : Int))
      < (1 : Int)) = false → (decide ((if IntKind.i64.wrap (IntKind.i64.wrap (ss s * IntKind.i64.wrap (IntKind.i64.wrap ((1 : Int) + (IntKind.i64.wrap ((eI E a ((↑j.fst :
      Int).toNat * (1 : Nat) + (0 : Nat))).tmod (2 : Int) + (2 : Int))).tmod (2 : Int)) - j.snd.snd.fst)) - j.snd.snd.snd) > (1 : Int) then IntKind.i64.wrap (IntKind.i64.wrap
      (ss s * IntKind.i64.wrap (IntKind.i64.wrap ((1 : Int) + (IntKind.i64.wrap ((eI E a ((↑j.fst : Int).toNat * (1 : Nat) + (0 : Nat))).tmod (2 : Int) + (2 : Int))).tmod (2 :
      Int)) - j.snd.snd.fst)) - j.snd.snd.snd) else (1 : Int)) > IntKind.i64.wrap (IntKind.i64.wrap ((1 : Int) + (IntKind.i64.wrap ((eI E a ((↑j.fst : Int).toNat * (1 : Nat) +
      (0 : Nat))).tmod (2 : Int) + (2 : Int))).tmod (2 : Int)) * ss s)) = true → false = true) ∧ (decide ((if IntKind.i64.wrap (IntKind.i64.wrap (ss s * IntKind.i64.wrap
      (IntKind.i64.wrap ((1 : Int) + (IntKind.i64.wrap ((eI E a ((↑j.fst : Int).toNat * (1 : Nat) + (0 : Nat))).tmod (2 : Int) + (2 : Int))).tmod (2 : Int)) - j.snd.snd.fst)) -
      j.snd.snd.snd) > (1 : Int) then IntKind.i64.wrap (IntKind.i64.wrap (ss s * IntKind.i64.wrap (IntKind.i64.wrap ((1 : Int) + (IntKind.i64.wrap ((eI E a ((↑j.fst : Int).toNat
      * (1 : Nat) + (0 : Nat))).tmod (2 : Int) + (2 : Int))).tmod (2 : Int)) - j.snd.snd.fst)) - j.snd.snd.snd) else (1 : Int)) > IntKind.i64.wrap (IntKind.i64.wrap ((1 : Int) +
      (IntKind.i64.wrap ((eI E a ((↑j.fst : Int).toNat * (1 : Nat) + (0 : Nat))).tmod (2 : Int) + (2 : Int))).tmod (2 : Int)) * ss s)) = false → ∃ (x : Nat × Int × Int × Int),
      (x.fst ≤ n ∧ ((0 : Int) ≤ x.snd.fst ∧ x.snd.fst < (4294967296 : Int) ∧ x.snd.fst % (2 : Int) = (0 : Int)) ∧ ((0 : Int) ≤ x.snd.snd.fst ∧ x.snd.snd.fst ≤ (8 : Int)) ∧ (0 :
      Int) ≤ x.snd.snd.snd ∧ x.snd.snd.snd < ss s) ∧ mu3 E a n c s m x < mu3 E a n c s m j ∧ hd3 E = hd3 E ∧ (75 : Nat) = (75 : Nat) ∧ ((IntKind.i64 = IntKind.i64 ∧ ss s = ss s)
      ∧ (IntKind.i64 = IntKind.i64 ∧ mo m = mo m) ∧ C.p (0 : Nat) (0 : Nat) = C.p (0 : Nat) (0 : Nat) ∧ (IntKind.u32 = IntKind.u32 ∧ IntKind.u32.wrap (j.snd.fst +
      IntKind.u32.wrap (IntKind.i64.wrap ((2 : Int) * IntKind.i64.wrap ((1 : Int) + (IntKind.i64.wrap ((eI E a ((↑j.fst : Int).toNat * (1 : Nat) + (0 : Nat))).tmod (2 : Int) +
      (2 : Int))).tmod (2 : Int))))) = x.snd.fst) ∧ C.es a n c = C.es a n c ∧ (IntKind.i64 = IntKind.i64 ∧ (↑n : Int) = (↑n : Int)) ∧ IntKind.i64 = IntKind.i64 ∧
      IntKind.i64.wrap ((↑j.fst : Int) + (1 : Int)) = (↑x.fst : Int)) ∧ ((36 : Nat) = (36 : Nat) ∧ (IntKind.u32 = IntKind.u32 ∧ IntKind.u32.wrap (bits BinOp.andNot IntKind.u32
      j.snd.fst (1 : Int) + IntKind.u32.wrap ((2 : Int) * IntKind.u32.wrap (IntKind.i64.wrap ((1 : Int) + (IntKind.i64.wrap ((eI E a ((↑j.fst : Int).toNat * (1 : Nat) + (0 :
      Nat))).tmod (2 : Int) + (2 : Int))).tmod (2 : Int))))) = x.snd.fst) ∧ (IntKind.i64 = IntKind.i64 ∧ (0 : Int) = x.snd.snd.fst) ∧ IntKind.i64 = IntKind.i64 ∧ (0 : Int) =
      x.snd.snd.snd) ∧ True))))))))) ∧ (decide (ss s < (1 : Int)) = false → (decide (j.snd.snd.fst ≥ (8 : Int)) = true → (decide (IntKind.i64.wrap ((1 : Int) + (IntKind.i64.wrap
      ((eI E a ((↑j.fst : Int).toNat * (1 : Nat) + (0 : Nat))).tmod (2 : Int) + (2 : Int))).tmod (2 : Int)) < (1 : Int)) = true → false = true) ∧ (decide (IntKind.i64.wrap ((1 :
      Int) + (IntKind.i64.wrap ((eI E a ((↑j.fst : Int).toNat * (1 : Nat) + (0 : Nat))).tmod (2 : Int) + (2 : Int))).tmod (2 : Int)) < (1 : Int)) = false → (decide
      (IntKind.i64.wrap ((1 : Int) + (IntKind.i64.wrap ((eI E a ((↑j.fst : Int).toNat * (1 : Nat) + (0 : Nat))).tmod (2 : Int) + (2 : Int))).tmod (2 : Int)) > (2 : Int)) = true
      → false = true) ∧ (decide (IntKind.i64.wrap ((1 : Int) + (IntKind.i64.wrap ((eI E a ((↑j.fst : Int).toNat * (1 : Nat) + (0 : Nat))).tmod (2 : Int) + (2 : Int))).tmod (2 :
      Int)) > (2 : Int)) = false → (decide (IntKind.i64.wrap (ss s + mo m) < (1 : Int)) = true → false = true) ∧ (decide (IntKind.i64.wrap (ss s + mo m) < (1 : Int)) = false →
      (decide (ss s < (1 : Int)) = true → false = true) ∧ (decide (ss s < (1 : Int)) = false → ((true ^^ j.snd.fst == bits BinOp.andNot IntKind.u32 j.snd.fst (1 : Int) &&
      (j.snd.snd.fst == j.snd.snd.fst && (j.snd.snd.snd == j.snd.snd.snd && true))) = true → (decide (IntKind.i64.wrap (IntKind.i64.wrap (ss s + mo m) + IntKind.i64.wrap (ss s *
      IntKind.i64.wrap (IntKind.i64.wrap ((1 : Int) + (IntKind.i64.wrap ((eI E a ((↑j.fst : Int).toNat * (1 : Nat) + (0 : Nat))).tmod (2 : Int) + (2 : Int))).tmod (2 : Int)) -
      (1 : Int)))) < (1 : Int)) = true → false = true) ∧ (decide (IntKind.i64.wrap (IntKind.i64.wrap (ss s + mo m) + IntKind.i64.wrap (ss s * IntKind.i64.wrap (IntKind.i64.wrap
      ((1 : Int) + (IntKind.i64.wrap ((eI E a ((↑j.fst : Int).toNat * (1 : Nat) + (0 : Nat))).tmod (2 : Int) + (2 : Int))).tmod (2 : Int)) - (1 : Int)))) < (1 : Int)) = false →
      (decide (IntKind.i64.wrap (IntKind.i64.wrap (ss s + mo m) + IntKind.i64.wrap (ss s * IntKind.i64.wrap (IntKind.i64.wrap ((1 : Int) + (IntKind.i64.wrap ((eI E a ((↑j.fst :
      Int).toNat * (1 : Nat) + (0 : Nat))).tmod (2 : Int) + (2 : Int))).tmod (2 : Int)) - (1 : Int)))) > IntKind.i64.wrap (IntKind.i64.wrap ((1 : Int) + (IntKind.i64.wrap ((eI E
      a ((↑j.fst : Int).toNat * (1 : Nat) + (0 : Nat))).tmod (2 : Int) + (2 : Int))).tmod (2 : Int)) * ss s)) = true → false = true) ∧ (decide (IntKind.i64.wrap
      (IntKind.i64.wrap (ss s + mo m) + IntKind.i64.wrap (ss s * IntKind.i64.wrap (IntKind.i64.wrap ((1 : Int) + (IntKind.i64.wrap ((eI E a ((↑j.fst : Int).toNat * (1 : Nat) +
      (0 : Nat))).tmod (2 : Int) + (2 : Int))).tmod (2 : Int)) - (1 : Int)))) > IntKind.i64.wrap (IntKind.i64.wrap ((1 : Int) + (IntKind.i64.wrap ((eI E a ((↑j.fst : Int).toNat
      * (1 : Nat) + (0 : Nat))).tmod (2 : Int) + (2 : Int))).tmod (2 : Int)) * ss s)) = false → ∃ (x : Nat × Int × Int × Int), (x.fst ≤ n ∧ ((0 : Int) ≤ x.snd.fst ∧ x.snd.fst <
      (4294967296 : Int) ∧ x.snd.fst % (2 : Int) = (0 : Int)) ∧ ((0 : Int) ≤ x.snd.snd.fst ∧ x.snd.snd.fst ≤ (8 : Int)) ∧ (0 : Int) ≤ x.snd.snd.snd ∧ x.snd.snd.snd < ss s) ∧ mu3
      E a n c s m x < mu3 E a n c s m j ∧ hd3 E = hd3 E ∧ (75 : Nat) = (75 : Nat) ∧ ((IntKind.i64 = IntKind.i64 ∧ ss s = ss s) ∧ (IntKind.i64 = IntKind.i64 ∧ mo m = mo m) ∧ C.p
      (0 : Nat) (0 : Nat) = C.p (0 : Nat) (0 : Nat) ∧ (IntKind.u32 = IntKind.u32 ∧ IntKind.u32.wrap (j.snd.fst + IntKind.u32.wrap (IntKind.i64.wrap ((2 : Int) * IntKind.i64.wrap
      ((1 : Int) + (IntKind.i64.wrap ((eI E a ((↑j.fst : Int).toNat * (1 : Nat) + (0 : Nat))).tmod (2 : Int) + (2 : Int))).tmod (2 : Int))))) = x.snd.fst) ∧ C.es a n c = C.es a
      n c ∧ (IntKind.i64 = IntKind.i64 ∧ (↑n : Int) = (↑n : Int)) ∧ IntKind.i64 = IntKind.i64 ∧ IntKind.i64.wrap ((↑j.fst : Int) + (1 : Int)) = (↑x.fst : Int)) ∧ ((36 : Nat) =
      (36 : Nat) ∧ (IntKind.u32 = IntKind.u32 ∧ IntKind.u32.wrap (bits BinOp.andNot IntKind.u32 j.snd.fst (1 : Int) + IntKind.u32.wrap ((2 : Int) * IntKind.u32.wrap
      (IntKind.i64.wrap ((1 : Int) + (IntKind.i64.wrap ((eI E a ((↑j.fst : Int).toNat * (1 : Nat) + (0 : Nat))).tmod (2 : Int) + (2 : Int))).tmod (2 : Int))))) = x.snd.fst) ∧
      (IntKind.i64 = IntKind.i64 ∧ (0 : Int) = x.snd.snd.fst) ∧ IntKind.i64 = IntKind.i64 ∧ (0 : Int) = x.snd.snd.snd) ∧ True))) ∧ ((true ^^ j.snd.fst == bits BinOp.andNot
      IntKind.u32 j.snd.fst (1 : Int) && (j.snd.snd.fst == j.snd.snd.fst && (j.snd.snd.snd == j.snd.snd.snd && true))) = false → (decide (j.snd.snd.fst ≥ IntKind.i64.wrap ((1 :
      Int) + (IntKind.i64.wrap ((eI E a ((↑j.fst : Int).toNat * (1 : Nat) + (0 : Nat))).tmod (2 : Int) + (2 : Int))).tmod (2 : Int))) = true → (decide ((1 : Int) >
      IntKind.i64.wrap (IntKind.i64.wrap ((1 : Int) + (IntKind.i64.wrap ((eI E a ((↑j.fst : Int).toNat * (1 : Nat) + (0 : Nat))).tmod (2 : Int) + (2 : Int))).tmod (2 : Int)) *
      ss s)) = true → false = true) ∧ (decide ((1 : Int) > IntKind.i64.wrap (IntKind.i64.wrap ((1 : Int) + (IntKind.i64.wrap ((eI E a ((↑j.fst : Int).toNat * (1 : Nat) + (0 :
      Nat))).tmod (2 : Int) + (2 : Int))).tmod (2 : Int)) * ss s)) = false → ∃ (x : Nat × Int × Int × Int), (x.fst ≤ n ∧ ((0 : Int) ≤ x.snd.fst ∧ x.snd.fst < (4294967296 : Int)
      ∧ x.snd.fst % (2 : Int) = (0 : Int)) ∧ ((0 : Int) ≤ x.snd.snd.fst ∧ x.snd.snd.fst ≤ (8 : Int)) ∧ (0 : Int) ≤ x.snd.snd.snd ∧ x.snd.snd.snd < ss s) ∧ mu3 E a n c s m x <
      mu3 E a n c s m j ∧ hd3 E = hd3 E ∧ (75 : Nat) = (75 : Nat) ∧ ((IntKind.i64 = IntKind.i64 ∧ ss s = ss s) ∧ (IntKind.i64 = IntKind.i64 ∧ mo m = mo m) ∧ C.p (0 : Nat) (0 :
      Nat) = C.p (0 : Nat) (0 : Nat) ∧ (IntKind.u32 = IntKind.u32 ∧ IntKind.u32.wrap (j.snd.fst + IntKind.u32.wrap (IntKind.i64.wrap ((2 : Int) * IntKind.i64.wrap ((1 : Int) +
      (IntKind.i64.wrap ((eI E a ((↑j.fst : Int).toNat * (1 : Nat) + (0 : Nat))).tmod (2 : Int) + (2 : Int))).tmod (2 : Int))))) = x.snd.fst) ∧ C.es a n c = C.es a n c ∧
      (IntKind.i64 = IntKind.i64 ∧ (↑n : Int) = (↑n : Int)) ∧ IntKind.i64 = IntKind.i64 ∧ IntKind.i64.wrap ((↑j.fst : Int) + (1 : Int)) = (↑x.fst : Int)) ∧ ((36 : Nat) = (36 :
      Nat) ∧ (IntKind.u32 = IntKind.u32 ∧ IntKind.u32.wrap (bits BinOp.andNot IntKind.u32 j.snd.fst (1 : Int) + IntKind.u32.wrap ((2 : Int) * IntKind.u32.wrap (IntKind.i64.wrap
      ((1 : Int) + (IntKind.i64.wrap ((eI E a ((↑j.fst : Int).toNat * (1 : Nat) + (0 : Nat))).tmod (2 : Int) + (2 : Int))).tmod (2 : Int))))) = x.snd.fst) ∧ (IntKind.i64 =
      IntKind.i64 ∧ IntKind.i64.wrap (j.snd.snd.fst - IntKind.i64.wrap ((1 : Int) + (IntKind.i64.wrap ((eI E a ((↑j.fst : Int).toNat * (1 : Nat) + (0 : Nat))).tmod (2 : Int) +
      (2 : Int))).tmod (2 : Int))) = x.snd.snd.fst) ∧ IntKind.i64 = IntKind.i64 ∧ j.snd.snd.snd = x.snd.snd.snd) ∧ True)) ∧ (decide (j.snd.snd.fst ≥ IntKind.i64.wrap ((1 : Int)
      + (IntKind.i64.wrap ((eI E a ((↑j.fst : Int).toNat * (1 : Nat) + (0 : Nat))).tmod (2 : Int) + (2 : Int))).tmod (2 : Int))) = false → (decide ((if IntKind.i64.wrap
      (IntKind.i64.wrap (ss s * IntKind.i64.wrap (IntKind.i64.wrap ((1 : Int) + (IntKind.i64.wrap ((eI E a ((↑j.fst : Int).toNat * (1 : Nat) + (0 : Nat))).tmod (2 : Int) + (2 :
      Int))).tmod (2 : Int)) - j.snd.snd.fst)) - j.snd.snd.snd) > (1 : Int) then IntKind.i64.wrap (IntKind.i64.wrap (ss s * IntKind.i64.wrap (IntKind.i64.wrap ((1 : Int) +
      (IntKind.i64.wrap ((eI E a ((↑j.fst : Int).toNat * (1 : Nat) + (0 : Nat))).tmod (2 : Int) + (2 : Int))).tmod (2 : Int)) - j.snd.snd.fst)) - j.snd.snd.snd) else (1 : Int))
      < (1 : Int)) = true → false = true) ∧ (decide ((if IntKind.i64.wrap (IntKind.i64.wrap (ss s * IntKind.i64.wrap (IntKind.i64.wrap ((1 : Int) + (IntKind.i64.wrap ((eI E a
      ((↑j.fst : Int).toNat * (1 : Nat) + (0 : Nat))).tmod (2 : Int) + (2 : Int))).tmod (2 : Int)) - j.snd.snd.fst)) - j.snd.snd.snd) > (1 : Int) then IntKind.i64.wrap
      (IntKind.i64.wrap (ss s * IntKind.i64.wrap (IntKind.i64.wrap ((1 : Int) + (IntKind.i64.wrap ((eI E a ((↑j.fst : Int).toNat * (1 : Nat) + (0 : Nat))).tmod (2 : Int) + (2 :
      Int))).tmod (2 : Int)) - j.snd.snd.fst)) - j.snd.snd.snd) else (1 : Int)) < (1 : Int)) = false → (decide ((if IntKind.i64.wrap (IntKind.i64.wrap (ss s * IntKind.i64.wrap
      (IntKind.i64.wrap ((1 : Int) + (IntKind.i64.wrap ((eI E a ((↑j.fst : Int).toNat * (1 : Nat) + (0 : Nat))).tmod (2 : Int) + (2 : Int))).tmod (2 : Int)) - j.snd.snd.fst)) -
      j.snd.snd.snd) > (1 : Int) then IntKind.i64.wrap (IntKind.i64.wrap (ss s * IntKind.i64.wrap (IntKind.i64.wrap ((1 : Int) + (IntKind.i64.wrap ((eI E a ((↑j.fst : Int).toNat
      * (1 : Nat) + (0 : Nat))).tmod (2 : Int) + (2 : Int))).tmod (2 : Int)) - j.snd.snd.fst)) - j.snd.snd.snd) else (1 : Int)) > IntKind.i64.wrap (IntKind.i64.wrap ((1 : Int) +
      (IntKind.i64.wrap ((eI E a ((↑j.fst : Int).toNat * (1 : Nat) + (0 : Nat))).tmod (2 : Int) + (2 : Int))).tmod (2 : Int)) * ss s)) = true → false = true) ∧ (decide ((if
      IntKind.i64.wrap (IntKind.i64.wrap (ss s * IntKind.i64.wrap (IntKind.i64.wrap ((1 : Int) + (IntKind.i64.wrap ((eI E a ((↑j.fst : Int).toNat * (1 : Nat) + (0 : Nat))).tmod
      (2 : Int) + (2 : Int))).tmod (2 : Int)) - j.snd.snd.fst)) - j.snd.snd.snd) > (1 : Int) then IntKind.i64.wrap (IntKind.i64.wrap (ss s * IntKind.i64.wrap (IntKind.i64.wrap
      ((1 : Int) + (IntKind.i64.wrap ((eI E a ((↑j.fst : Int).toNat * (1 : Nat) + (0 : Nat))).tmod (2 : Int) + (2 : Int))).tmod (2 : Int)) - j.snd.snd.fst)) - j.snd.snd.snd)
      else (1 : Int)) > IntKind.i64.wrap (IntKind.i64.wrap ((1 : Int) + (IntKind.i64.wrap ((eI E a ((↑j.fst : Int).toNat * (1 : Nat) + (0 : Nat))).tmod (2 : Int) + (2 :
      Int))).tmod (2 : Int)) * ss s)) = false → ∃ (x : Nat × Int × Int × Int), (x.fst ≤ n ∧ ((0 : Int) ≤ x.snd.fst ∧ x.snd.fst < (4294967296 : Int) ∧ x.snd.fst % (2 : Int) = (0
      : Int)) ∧ ((0 : Int) ≤ x.snd.snd.fst ∧ x.snd.snd.fst ≤ (8 : Int)) ∧ (0 : Int) ≤ x.snd.snd.snd ∧ x.snd.snd.snd < ss s) ∧ mu3 E a n c s m x < mu3 E a n c s m j ∧ hd3 E = hd3
      E ∧ (75 : Nat) = (75 : Nat) ∧ ((IntKind.i64 = IntKind.i64 ∧ ss s = ss s) ∧ (IntKind.i64 = IntKind.i64 ∧ mo m = mo m) ∧ C.p (0 : Nat) (0 : Nat) = C.p (0 : Nat) (0 : Nat) ∧
      (IntKind.u32 = IntKind.u32 ∧ IntKind.u32.wrap (j.snd.fst + IntKind.u32.wrap (IntKind.i64.wrap ((2 : Int) * IntKind.i64.wrap ((1 : Int) + (IntKind.i64.wrap ((eI E a
      ((↑j.fst : Int).toNat * (1 : Nat) + (0 : Nat))).tmod (2 : Int) + (2 : Int))).tmod (2 : Int))))) = x.snd.fst) ∧ C.es a n c = C.es a n c ∧ (IntKind.i64 = IntKind.i64 ∧ (↑n :
      Int) = (↑n : Int)) ∧ IntKind.i64 = IntKind.i64 ∧ IntKind.i64.wrap ((↑j.fst : Int) + (1 : Int)) = (↑x.fst : Int)) ∧ ((36 : Nat) = (36 : Nat) ∧ (IntKind.u32 = IntKind.u32 ∧
      IntKind.u32.wrap (bits BinOp.andNot IntKind.u32 j.snd.fst (1 : Int) + IntKind.u32.wrap ((2 : Int) * IntKind.u32.wrap (IntKind.i64.wrap ((1 : Int) + (IntKind.i64.wrap ((eI
      E a ((↑j.fst : Int).toNat * (1 : Nat) + (0 : Nat))).tmod (2 : Int) + (2 : Int))).tmod (2 : Int))))) = x.snd.fst) ∧ (IntKind.i64 = IntKind.i64 ∧ (0 : Int) = x.snd.snd.fst)
      ∧ IntKind.i64 = IntKind.i64 ∧ (0 : Int) = x.snd.snd.snd) ∧ True))))))))) ∧ (decide (j.snd.snd.fst ≥ (8 : Int)) = false → (!decide (IntKind.u64.wrap (ss s) = (0 : Int))) =
      true ∧ (decide (IntKind.u64.wrap ((IntKind.u64.wrap (IntKind.u64.wrap j.snd.snd.snd + IntKind.u64.wrap (eI E a ((↑j.fst : Int).toNat * (1 : Nat) + (0 : Nat))))).tdiv
      (IntKind.u64.wrap (ss s))) ≥ IntKind.u64.wrap (IntKind.i64.wrap ((8 : Int) - j.snd.snd.fst))) = true → (decide (IntKind.i64.wrap ((1 : Int) + (IntKind.i64.wrap ((eI E a
      ((↑j.fst : Int).toNat * (1 : Nat) + (0 : Nat))).tmod (2 : Int) + (2 : Int))).tmod (2 : Int)) < (1 : Int)) = true → false = true) ∧ (decide (IntKind.i64.wrap ((1 : Int) +
      (IntKind.i64.wrap ((eI E a ((↑j.fst : Int).toNat * (1 : Nat) + (0 : Nat))).tmod (2 : Int) + (2 : Int))).tmod (2 : Int)) < (1 : Int)) = false → (decide (IntKind.i64.wrap
      ((1 : Int) + (IntKind.i64.wrap ((eI E a ((↑j.fst : Int).toNat * (1 : Nat) + (0 : Nat))).tmod (2 : Int) + (2 : Int))).tmod (2 : Int)) > (2 : Int)) = true → false = true) ∧
      (decide (IntKind.i64.wrap ((1 : Int) + (IntKind.i64.wrap ((eI E a ((↑j.fst : Int).toNat * (1 : Nat) + (0 : Nat))).tmod (2 : Int) + (2 : Int))).tmod (2 : Int)) > (2 : Int))
      = false → (decide (IntKind.i64.wrap (ss s + mo m) < (1 : Int)) = true → false = true) ∧ (decide (IntKind.i64.wrap (ss s + mo m) < (1 : Int)) = false → (decide (ss s < (1 :
      Int)) = true → false = true) ∧ (decide (ss s < (1 : Int)) = false → ((true ^^ j.snd.fst == bits BinOp.andNot IntKind.u32 j.snd.fst (1 : Int) && ((8 : Int) == (8 : Int) &&
      ((0 : Int) == (0 : Int) && true))) = true → (decide (IntKind.i64.wrap (IntKind.i64.wrap (ss s + mo m) + IntKind.i64.wrap (ss s * IntKind.i64.wrap (IntKind.i64.wrap ((1 :
      Int) + (IntKind.i64.wrap ((eI E a ((↑j.fst : Int).toNat * (1 : Nat) + (0 : Nat))).tmod (2 : Int) + (2 : Int))).tmod (2 : Int)) - (1 : Int)))) < (1 : Int)) = true → false =
      true) ∧ (decide (IntKind.i64.wrap (IntKind.i64.wrap (ss s + mo m) + IntKind.i64.wrap (ss s * IntKind.i64.wrap (IntKind.i64.wrap ((1 : Int) + (IntKind.i64.wrap ((eI E a
      ((↑j.fst : Int).toNat * (1 : Nat) + (0 : Nat))).tmod (2 : Int) + (2 : Int))).tmod (2 : Int)) - (1 : Int)))) < (1 : Int)) = false → (decide (IntKind.i64.wrap
      (IntKind.i64.wrap (ss s + mo m) + IntKind.i64.wrap (ss s * IntKind.i64.wrap (IntKind.i64.wrap ((1 : Int) + (IntKind.i64.wrap ((eI E a ((↑j.fst : Int).toNat * (1 : Nat) +
      (0 : Nat))).tmod (2 : Int) + (2 : Int))).tmod (2 : Int)) - (1 : Int)))) > IntKind.i64.wrap (IntKind.i64.wrap ((1 : Int) + (IntKind.i64.wrap ((eI E a ((↑j.fst : Int).toNat
      * (1 : Nat) + (0 : Nat))).tmod (2 : Int) + (2 : Int))).tmod (2 : Int)) * ss s)) = true → false = true) ∧ (decide (IntKind.i64.wrap (IntKind.i64.wrap (ss s + mo m) +
      IntKind.i64.wrap (ss s * IntKind.i64.wrap (IntKind.i64.wrap ((1 : Int) + (IntKind.i64.wrap ((eI E a ((↑j.fst : Int).toNat * (1 : Nat) + (0 : Nat))).tmod (2 : Int) + (2 :
      Int))).tmod (2 : Int)) - (1 : Int)))) > IntKind.i64.wrap (IntKind.i64.wrap ((1 : Int) + (IntKind.i64.wrap ((eI E a ((↑j.fst : Int).toNat * (1 : Nat) + (0 : Nat))).tmod (2
      : Int) + (2 : Int))).tmod (2 : Int)) * ss s)) = false → ∃ (x : Nat × Int × Int × Int), (x.fst ≤ n ∧ ((0 : Int) ≤ x.snd.fst ∧ x.snd.fst < (4294967296 : Int) ∧ x.snd.fst %
      (2 : Int) = (0 : Int)) ∧ ((0 : Int) ≤ x.snd.snd.fst ∧ x.snd.snd.fst ≤ (8 : Int)) ∧ (0 : Int) ≤ x.snd.snd.snd ∧ x.snd.snd.snd < ss s) ∧ mu3 E a n c s m x < mu3 E a n c s m
      j ∧ hd3 E = hd3 E ∧ (75 : Nat) = (75 : Nat) ∧ ((IntKind.i64 = IntKind.i64 ∧ ss s = ss s) ∧ (IntKind.i64 = IntKind.i64 ∧ mo m = mo m) ∧ C.p (0 : Nat) (0 : Nat) = C.p (0 :
      Nat) (0 : Nat) ∧ (IntKind.u32 = IntKind.u32 ∧ IntKind.u32.wrap (j.snd.fst + IntKind.u32.wrap (IntKind.i64.wrap ((2 : Int) * IntKind.i64.wrap ((1 : Int) + (IntKind.i64.wrap
      ((eI E a ((↑j.fst : Int).toNat * (1 : Nat) + (0 : Nat))).tmod (2 : Int) + (2 : Int))).tmod (2 : Int))))) = x.snd.fst) ∧ C.es a n c = C.es a n c ∧ (IntKind.i64 =
      IntKind.i64 ∧ (↑n : Int) = (↑n : Int)) ∧ IntKind.i64 = IntKind.i64 ∧ IntKind.i64.wrap ((↑j.fst : Int) + (1 : Int)) = (↑x.fst : Int)) ∧ ((36 : Nat) = (36 : Nat) ∧
      (IntKind.u32 = IntKind.u32 ∧ IntKind.u32.wrap (bits BinOp.andNot IntKind.u32 j.snd.fst (1 : Int) + IntKind.u32.wrap ((2 : Int) * IntKind.u32.wrap (IntKind.i64.wrap ((1 :
      Int) + (IntKind.i64.wrap ((eI E a ((↑j.fst : Int).toNat * (1 : Nat) + (0 : Nat))).tmod (2 : Int) + (2 : Int))).tmod (2 : Int))))) = x.snd.fst) ∧ (IntKind.i64 = IntKind.i64
      ∧ (0 : Int) = x.snd.snd.fst) ∧ IntKind.i64 = IntKind.i64 ∧ (0 : Int) = x.snd.snd.snd) ∧ True))) ∧ ((true ^^ j.snd.fst == bits BinOp.andNot IntKind.u32 j.snd.fst (1 : Int)
      && ((8 : Int) == (8 : Int) && ((0 : Int) == (0 : Int) && true))) = false → (decide ((8 : Int) ≥ IntKind.i64.wrap ((1 : Int) + (IntKind.i64.wrap ((eI E a ((↑j.fst :
      Int).toNat * (1 : Nat) + (0 : Nat))).tmod (2 : Int) + (2 : Int))).tmod (2 : Int))) = true → (decide ((1 : Int) > IntKind.i64.wrap (IntKind.i64.wrap ((1 : Int) +
      (IntKind.i64.wrap ((eI E a ((↑j.fst : Int).toNat * (1 : Nat) + (0 : Nat))).tmod (2 : Int) + (2 : Int))).tmod (2 : Int)) * ss s)) = true → false = true) ∧ (decide ((1 :
      Int) > IntKind.i64.wrap (IntKind.i64.wrap ((1 : Int) + (IntKind.i64.wrap ((eI E a ((↑j.fst : Int).toNat * (1 : Nat) + (0 : Nat))).tmod (2 : Int) + (2 : Int))).tmod (2 :
      Int)) * ss s)) = false → ∃ (x : Nat × Int × Int × Int), (x.fst ≤ n ∧ ((0 : Int) ≤ x.snd.fst ∧ x.snd.fst < (4294967296 : Int) ∧ x.snd.fst % (2 : Int) = (0 : Int)) ∧ ((0 :
      Int) ≤ x.snd.snd.fst ∧ x.snd.snd.fst ≤ (8 : Int)) ∧ (0 : Int) ≤ x.snd.snd.snd ∧ x.snd.snd.snd < ss s) ∧ mu3 E a n c s m x < mu3 E a n c s m j ∧ hd3 E = hd3 E ∧ (75 : Nat)
      = (75 : Nat) ∧ ((IntKind.i64 = IntKind.i64 ∧ ss s = ss s) ∧ (IntKind.i64 = IntKind.i64 ∧ mo m = mo m) ∧ C.p (0 : Nat) (0 : Nat) = C.p (0 : Nat) (0 : Nat) ∧ (IntKind.u32 =
      IntKind.u32 ∧ IntKind.u32.wrap (j.snd.fst + IntKind.u32.wrap (IntKind.i64.wrap ((2 : Int) * IntKind.i64.wrap ((1 : Int) + (IntKind.i64.wrap ((eI E a ((↑j.fst : Int).toNat
      * (1 : Nat) + (0 : Nat))).tmod (2 : Int) + (2 : Int))).tmod (2 : Int))))) = x.snd.fst) ∧ C.es a n c = C.es a n c ∧ (IntKind.i64 = IntKind.i64 ∧ (↑n : Int) = (↑n : Int)) ∧
      IntKind.i64 = IntKind.i64 ∧ IntKind.i64.wrap ((↑j.fst : Int) + (1 : Int)) = (↑x.fst : Int)) ∧ ((36 : Nat) = (36 : Nat) ∧ (IntKind.u32 = IntKind.u32 ∧ IntKind.u32.wrap
      (bits BinOp.andNot IntKind.u32 j.snd.fst (1 : Int) + IntKind.u32.wrap ((2 : Int) * IntKind.u32.wrap (IntKind.i64.wrap ((1 : Int) + (IntKind.i64.wrap ((eI E a ((↑j.fst :
      Int).toNat * (1 : Nat) + (0 : Nat))).tmod (2 : Int) + (2 : Int))).tmod (2 : Int))))) = x.snd.fst) ∧ (IntKind.i64 = IntKind.i64 ∧ IntKind.i64.wrap ((8 : Int) -
      IntKind.i64.wrap ((1 : Int) + (IntKind.i64.wrap ((eI E a ((↑j.fst : Int).toNat * (1 : Nat) + (0 : Nat))).tmod (2 : Int) + (2 : Int))).tmod (2 : Int))) = x.snd.snd.fst) ∧
      IntKind.i64 = IntKind.i64 ∧ (0 : Int) = x.snd.snd.snd) ∧ True)) ∧ (decide ((8 : Int) ≥ IntKind.i64.wrap ((1 : Int) + (IntKind.i64.wrap ((eI E a ((↑j.fst : Int).toNat * (1
      : Nat) + (0 : Nat))).tmod (2 : Int) + (2 : Int))).tmod (2 : Int))) = false → (decide ((if IntKind.i64.wrap (IntKind.i64.wrap (ss s * IntKind.i64.wrap (IntKind.i64.wrap ((1
      : Int) + (IntKind.i64.wrap ((eI E a ((↑j.fst : Int).toNat * (1 : Nat) + (0 : Nat))).tmod (2 : Int) + (2 : Int))).tmod (2 : Int)) - (8 : Int))) - (0 : Int)) > (1 : Int)
      then IntKind.i64.wrap (IntKind.i64.wrap (ss s * IntKind.i64.wrap (IntKind.i64.wrap ((1 : Int) + (IntKind.i64.wrap ((eI E a ((↑j.fst : Int).toNat * (1 : Nat) + (0 :
      Nat))).tmod (2 : Int) + (2 : Int))).tmod (2 : Int)) - (8 : Int))) - (0 : Int)) else (1 : Int)) < (1 : Int)) = true → false = true) ∧ (decide ((if IntKind.i64.wrap
      (IntKind.i64.wrap (ss s * IntKind.i64.wrap (IntKind.i64.wrap ((1 : Int) + (IntKind.i64.wrap ((eI E a ((↑j.fst : Int).toNat * (1 : Nat) + (0 : Nat))).tmod (2 : Int) + (2 :
      Int))).tmod (2 : Int)) - (8 : Int))) - (0 : Int)) > (1 : Int) then IntKind.i64.wrap (IntKind.i64.wrap (ss s * IntKind.i64.wrap (IntKind.i64.wrap ((1 : Int) +
      (IntKind.i64.wrap ((eI E a ((↑j.fst : Int).toNat * (1 : Nat) + (0 : Nat))).tmod (2 : Int) + (2 : Int))).tmod (2 : Int)) - (8 : Int))) - (0 : Int)) else (1 : Int)) < (1 :
      Int)) = false → (decide ((if IntKind.i64.wrap (IntKind.i64.wrap (ss s * IntKind.i64.wrap (IntKind.i64.wrap ((1 : Int) + (IntKind.i64.wrap ((eI E a ((↑j.fst : Int).toNat *
      (1 : Nat) + (0 : Nat))).tmod (2 : Int) + (2 : Int))).tmod (2 : Int)) - (8 : Int))) - (0 : Int)) > (1 : Int) then IntKind.i64.wrap (IntKind.i64.wrap (ss s *
      IntKind.i64.wrap (IntKind.i64.wrap ((1 : Int) + (IntKind.i64.wrap ((eI E a ((↑j.fst : Int).toNat * (1 : Nat) + (0 : Nat))).tmod (2 : Int) + (2 : Int))).tmod (2 : Int)) -
      (8 : Int))) - (0 : Int)) else (1 : Int)) > IntKind.i64.wrap (IntKind.i64.wrap ((1 : Int) + (IntKind.i64.wrap ((eI E a ((↑j.fst : Int).toNat * (1 : Nat) + (0 : Nat))).tmod
      (2 : Int) + (2 : Int))).tmod (2 : Int)) * ss s)) = true → false = true) ∧ (decide ((if IntKind.i64.wrap (IntKind.i64.wrap (ss s * IntKind.i64.wrap (IntKind.i64.wrap ((1 :
      Int) + (IntKind.i64.wrap ((eI E a ((↑j.fst : Int).toNat * (1 : Nat) + (0 : Nat))).tmod (2 : Int) + (2 : Int))).tmod (2 : Int)) - (8 : Int))) - (0 : Int)) > (1 : Int) then
      IntKind.i64.wrap (IntKind.i64.wrap (ss s * IntKind.i64.wrap (IntKind.i64.wrap ((1 : Int) + (IntKind.i64.wrap ((eI E a ((↑j.fst : Int).toNat * (1 : Nat) + (0 : Nat))).tmod
      (2 : Int) + (2 : Int))).tmod (2 : Int)) - (8 : Int))) - (0 : Int)) else (1 : Int)) > IntKind.i64.wrap (IntKind.i64.wrap ((1 : Int) + (IntKind.i64.wrap ((eI E a ((↑j.fst :
      Int).toNat * (1 : Nat) + (0 : Nat))).tmod (2 : Int) + (2 : Int))).tmod (2 : Int)) * ss s)) = false → ∃ (x : Nat × Int × Int × Int), (x.fst ≤ n ∧ ((0 : Int) ≤ x.snd.fst ∧
      x.snd.fst < (4294967296 : Int) ∧ x.snd.fst % (2 : Int) = (0 : Int)) ∧ ((0 : Int) ≤ x.snd.snd.fst ∧ x.snd.snd.fst ≤ (8 : Int)) ∧ (0 : Int) ≤ x.snd.snd.snd ∧ x.snd.snd.snd <
      ss s) ∧ mu3 E a n c s m x < mu3 E a n c s m j ∧ hd3 E = hd3 E ∧ (75 : Nat) = (75 : Nat) ∧ ((IntKind.i64 = IntKind.i64 ∧ ss s = ss s) ∧ (IntKind.i64 = IntKind.i64 ∧ mo m =
      mo m) ∧ C.p (0 : Nat) (0 : Nat) = C.p (0 : Nat) (0 : Nat) ∧ (IntKind.u32 = IntKind.u32 ∧ IntKind.u32.wrap (j.snd.fst + IntKind.u32.wrap (IntKind.i64.wrap ((2 : Int) *
      IntKind.i64.wrap ((1 : Int) + (IntKind.i64.wrap ((eI E a ((↑j.fst : Int).toNat * (1 : Nat) + (0 : Nat))).tmod (2 : Int) + (2 : Int))).tmod (2 : Int))))) = x.snd.fst) ∧
      C.es a n c = C.es a n c ∧ (IntKind.i64 = IntKind.i64 ∧ (↑n : Int) = (↑n : Int)) ∧ IntKind.i64 = IntKind.i64 ∧ IntKind.i64.wrap ((↑j.fst : Int) + (1 : Int)) = (↑x.fst :
      Int)) ∧ ((36 : Nat) = (36 : Nat) ∧ (IntKind.u32 = IntKind.u32 ∧ IntKind.u32.wrap (bits BinOp.andNot IntKind.u32 j.snd.fst (1 : Int) + IntKind.u32.wrap ((2 : Int) *
      IntKind.u32.wrap (IntKind.i64.wrap ((1 : Int) + (IntKind.i64.wrap ((eI E a ((↑j.fst : Int).toNat * (1 : Nat) + (0 : Nat))).tmod (2 : Int) + (2 : Int))).tmod (2 : Int)))))
      = x.snd.fst) ∧ (IntKind.i64 = IntKind.i64 ∧ (0 : Int) = x.snd.snd.fst) ∧ IntKind.i64 = IntKind.i64 ∧ (0 : Int) = x.snd.snd.snd) ∧ True))))))))) ∧ (decide (IntKind.u64.wrap
      ((IntKind.u64.wrap (IntKind.u64.wrap j.snd.snd.snd + IntKind.u64.wrap (eI E a ((↑j.fst : Int).toNat * (1 : Nat) + (0 : Nat))))).tdiv (IntKind.u64.wrap (ss s))) ≥
      IntKind.u64.wrap (IntKind.i64.wrap ((8 : Int) - j.snd.snd.fst))) = false → (!decide (IntKind.u64.wrap (ss s) = (0 : Int))) = true ∧ (decide (IntKind.i64.wrap ((1 : Int) +
      (IntKind.i64.wrap ((eI E a ((↑j.fst : Int).toNat * (1 : Nat) + (0 : Nat))).tmod (2 : Int) + (2 : Int))).tmod (2 : Int)) < (1 : Int)) = true → false = true) ∧ (decide
      (IntKind.i64.wrap ((1 : Int) + (IntKind.i64.wrap ((eI E a ((↑j.fst : Int).toNat * (1 : Nat) + (0 : Nat))).tmod (2 : Int) + (2 : Int))).tmod (2 : Int)) < (1 : Int)) = false
      → (decide (IntKind.i64.wrap ((1 : Int) + (IntKind.i64.wrap ((eI E a ((↑j.fst : Int).toNat * (1 : Nat) + (0 : Nat))).tmod (2 : Int) + (2 : Int))).tmod (2 : Int)) > (2 :
      Int)) = true → false = true) ∧ (decide (IntKind.i64.wrap ((1 : Int) + (IntKind.i64.wrap ((eI E a ((↑j.fst : Int).toNat * (1 : Nat) + (0 : Nat))).tmod (2 : Int) + (2 :
      Int))).tmod (2 : Int)) > (2 : Int)) = false → (decide (IntKind.i64.wrap (ss s + mo m) < (1 : Int)) = true → false = true) ∧ (decide (IntKind.i64.wrap (ss s + mo m) < (1 :
      Int)) = false → (decide (ss s < (1 : Int)) = true → false = true) ∧ (decide (ss s < (1 : Int)) = false → ((true ^^ j.snd.fst == bits BinOp.andNot IntKind.u32 j.snd.fst (1
      : Int) && (IntKind.i64.wrap (j.snd.snd.fst + IntKind.i64.wrap (IntKind.u64.wrap ((IntKind.u64.wrap (IntKind.u64.wrap j.snd.snd.snd + IntKind.u64.wrap (eI E a ((↑j.fst :
      Int).toNat * (1 : Nat) + (0 : Nat))))).tdiv (IntKind.u64.wrap (ss s))))) == IntKind.i64.wrap (j.snd.snd.fst + IntKind.i64.wrap (IntKind.u64.wrap ((IntKind.u64.wrap
      (IntKind.u64.wrap j.snd.snd.snd + IntKind.u64.wrap (eI E a ((↑j.fst : Int).toNat * (1 : Nat) + (0 : Nat))))).tdiv (IntKind.u64.wrap (ss s))))) && (IntKind.i64.wrap
      ((IntKind.u64.wrap (IntKind.u64.wrap j.snd.snd.snd + IntKind.u64.wrap (eI E a ((↑j.fst : Int).toNat * (1 : Nat) + (0 : Nat))))).tmod (IntKind.u64.wrap (ss s))) ==
      IntKind.i64.wrap ((IntKind.u64.wrap (IntKind.u64.wrap j.snd.snd.snd + IntKind.u64.wrap (eI E a ((↑j.fst : Int).toNat * (1 : Nat) + (0 : Nat))))).tmod (IntKind.u64.wrap (ss
      s))) && true))) = true → (decide (IntKind.i64.wrap (IntKind.i64.wrap (ss s + mo m) + IntKind.i64.wrap (ss s * IntKind.i64.wrap (IntKind.i64.wrap ((1 : Int) +
      (IntKind.i64.wrap ((eI E a ((↑j.fst : Int).toNat * (1 : Nat) + (0 : Nat))).tmod (2 : Int) + (2 : Int))).tmod (2 : Int)) - (1 : Int)))) < (1 : Int)) = true → false = true)
      ∧ (decide (IntKind.i64.wrap (IntKind.i64.wrap (ss s + mo m) + IntKind.i64.wrap (ss s * IntKind.i64.wrap (IntKind.i64.wrap ((1 : Int) + (IntKind.i64.wrap ((eI E a ((↑j.fst
      : Int).toNat * (1 : Nat) + (0 : Nat))).tmod (2 : Int) + (2 : Int))).tmod (2 : Int)) - (1 : Int)))) < (1 : Int)) = false → (decide (IntKind.i64.wrap (IntKind.i64.wrap (ss s
      + mo m) + IntKind.i64.wrap (ss s * IntKind.i64.wrap (IntKind.i64.wrap ((1 : Int) + (IntKind.i64.wrap ((eI E a ((↑j.fst : Int).toNat * (1 : Nat) + (0 : Nat))).tmod (2 :
      Int) + (2 : Int))).tmod (2 : Int)) - (1 : Int)))) > IntKind.i64.wrap (IntKind.i64.wrap ((1 : Int) + (IntKind.i64.wrap ((eI E a ((↑j.fst : Int).toNat * (1 : Nat) + (0 :
      Nat))).tmod (2 : Int) + (2 : Int))).tmod (2 : Int)) * ss s)) = true → false = true) ∧ (decide (IntKind.i64.wrap (IntKind.i64.wrap (ss s + mo m) + IntKind.i64.wrap (ss s *
      IntKind.i64.wrap (IntKind.i64.wrap ((1 : Int) + (IntKind.i64.wrap ((eI E a ((↑j.fst : Int).toNat * (1 : Nat) + (0 : Nat))).tmod (2 : Int) + (2 : Int))).tmod (2 : Int)) -
      (1 : Int)))) > IntKind.i64.wrap (IntKind.i64.wrap ((1 : Int) + (IntKind.i64.wrap ((eI E a ((↑j.fst : Int).toNat * (1 : Nat) + (0 : Nat))).tmod (2 : Int) + (2 : Int))).tmod
      (2 : Int)) * ss s)) = false → ∃ (x : Nat × Int × Int × Int), (x.fst ≤ n ∧ ((0 : Int) ≤ x.snd.fst ∧ x.snd.fst < (4294967296 : Int) ∧ x.snd.fst % (2 : Int) = (0 : Int)) ∧
      ((0 : Int) ≤ x.snd.snd.fst ∧ x.snd.snd.fst ≤ (8 : Int)) ∧ (0 : Int) ≤ x.snd.snd.snd ∧ x.snd.snd.snd < ss s) ∧ mu3 E a n c s m x < mu3 E a n c s m j ∧ hd3 E = hd3 E ∧ (75 :
      Nat) = (75 : Nat) ∧ ((IntKind.i64 = IntKind.i64 ∧ ss s = ss s) ∧ (IntKind.i64 = IntKind.i64 ∧ mo m = mo m) ∧ C.p (0 : Nat) (0 : Nat) = C.p (0 : Nat) (0 : Nat) ∧
      (IntKind.u32 = IntKind.u32 ∧ IntKind.u32.wrap (j.snd.fst + IntKind.u32.wrap (IntKind.i64.wrap ((2 : Int) * IntKind.i64.wrap ((1 : Int) + (IntKind.i64.wrap ((eI E a
      ((↑j.fst : Int).toNat * (1 : Nat) + (0 : Nat))).tmod (2 : Int) + (2 : Int))).tmod (2 : Int))))) = x.snd.fst) ∧ C.es a n c = C.es a n c ∧ (IntKind.i64 = IntKind.i64 ∧ (↑n :
      Int) = (↑n : Int)) ∧ IntKind.i64 = IntKind.i64 ∧ IntKind.i64.wrap ((↑j.fst : Int) + (1 : Int)) = (↑x.fst : Int)) ∧ ((36 : Nat) = (36 : Nat) ∧ (IntKind.u32 = IntKind.u32 ∧
      IntKind.u32.wrap (bits BinOp.andNot IntKind.u32 j.snd.fst (1 : Int) + IntKind.u32.wrap ((2 : Int) * IntKind.u32.wrap (IntKind.i64.wrap ((1 : Int) + (IntKind.i64.wrap ((eI
      E a ((↑j.fst : Int).toNat * (1 : Nat) + (0 : Nat))).tmod (2 : Int) + (2 : Int))).tmod (2 : Int))))) = x.snd.fst) ∧ (IntKind.i64 = IntKind.i64 ∧ (0 : Int) = x.snd.snd.fst)
      ∧ IntKind.i64 = IntKind.i64 ∧ (0 : Int) = x.snd.snd.snd) ∧ True))) ∧ ((true ^^ j.snd.fst == bits BinOp.andNot IntKind.u32 j.snd.fst (1 : Int) && (IntKind.i64.wrap
      (j.snd.snd.fst + IntKind.i64.wrap (IntKind.u64.wrap ((IntKind.u64.wrap (IntKind.u64.wrap j.snd.snd.snd + IntKind.u64.wrap (eI E a ((↑j.fst : Int).toNat * (1 : Nat) + (0 :
      Nat))))).tdiv (IntKind.u64.wrap (ss s))))) == IntKind.i64.wrap (j.snd.snd.fst + IntKind.i64.wrap (IntKind.u64.wrap ((IntKind.u64.wrap (IntKind.u64.wrap j.snd.snd.snd +
      IntKind.u64.wrap (eI E a ((↑j.fst : Int).toNat * (1 : Nat) + (0 : Nat))))).tdiv (IntKind.u64.wrap (ss s))))) && (IntKind.i64.wrap ((IntKind.u64.wrap (IntKind.u64.wrap
      j.snd.snd.snd + IntKind.u64.wrap (eI E a ((↑j.fst : Int).toNat * (1 : Nat) + (0 : Nat))))).tmod (IntKind.u64.wrap (ss s))) == IntKind.i64.wrap ((IntKind.u64.wrap
      (IntKind.u64.wrap j.snd.snd.snd + IntKind.u64.wrap (eI E a ((↑j.fst : Int).toNat * (1 : Nat) + (0 : Nat))))).tmod (IntKind.u64.wrap (ss s))) && true))) = false → (decide
      (IntKind.i64.wrap (j.snd.snd.fst + IntKind.i64.wrap (IntKind.u64.wrap ((IntKind.u64.wrap (IntKind.u64.wrap j.snd.snd.snd + IntKind.u64.wrap (eI E a ((↑j.fst : Int).toNat *
      (1 : Nat) + (0 : Nat))))).tdiv (IntKind.u64.wrap (ss s))))) ≥ IntKind.i64.wrap ((1 : Int) + (IntKind.i64.wrap ((eI E a ((↑j.fst : Int).toNat * (1 : Nat) + (0 : Nat))).tmod
      (2 : Int) + (2 : Int))).tmod (2 : Int))) = true → (decide ((1 : Int) > IntKind.i64.wrap (IntKind.i64.wrap ((1 : Int) + (IntKind.i64.wrap ((eI E a ((↑j.fst : Int).toNat *
      (1 : Nat) + (0 : Nat))).tmod (2 : Int) + (2 : Int))).tmod (2 : Int)) * ss s)) = true → false = true) ∧ (decide ((1 : Int) > IntKind.i64.wrap (IntKind.i64.wrap ((1 : Int) +
      (IntKind.i64.wrap ((eI E a ((↑j.fst : Int).toNat * (1 : Nat) + (0 : Nat))).tmod (2 : Int) + (2 : Int))).tmod (2 : Int)) * ss s)) = false → ∃ (x : Nat × Int × Int × Int),
      (x.fst ≤ n ∧ ((0 : Int) ≤ x.snd.fst ∧ x.snd.fst < (4294967296 : Int) ∧ x.snd.fst % (2 : Int) = (0 : Int)) ∧ ((0 : Int) ≤ x.snd.snd.fst ∧ x.snd.snd.fst ≤ (8 : Int)) ∧ (0 :
      Int) ≤ x.snd.snd.snd ∧ x.snd.snd.snd < ss s) ∧ mu3 E a n c s m x < mu3 E a n c s m j ∧ hd3 E = hd3 E ∧ (75 : Nat) = (75 : Nat) ∧ ((IntKind.i64 = IntKind.i64 ∧ ss s = ss s)
      ∧ (IntKind.i64 = IntKind.i64 ∧ mo m = mo m) ∧ C.p (0 : Nat) (0 : Nat) = C.p (0 : Nat) (0 : Nat) ∧ (IntKind.u32 = IntKind.u32 ∧ IntKind.u32.wrap (j.snd.fst +
      IntKind.u32.wrap (IntKind.i64.wrap ((2 : Int) * IntKind.i64.wrap ((1 : Int) + (IntKind.i64.wrap ((eI E a ((↑j.fst : Int).toNat * (1 : Nat) + (0 : Nat))).tmod (2 : Int) +
      (2 : Int))).tmod (2 : Int))))) = x.snd.fst) ∧ C.es a n c = C.es a n c ∧ (IntKind.i64 = IntKind.i64 ∧ (↑n : Int) = (↑n : Int)) ∧ IntKind.i64 = IntKind.i64 ∧
      IntKind.i64.wrap ((↑j.fst : Int) + (1 : Int)) = (↑x.fst : Int)) ∧ ((36 : Nat) = (36 : Nat) ∧ (IntKind.u32 = IntKind.u32 ∧ IntKind.u32.wrap (bits BinOp.andNot IntKind.u32
      j.snd.fst (1 : Int) + IntKind.u32.wrap ((2 : Int) * IntKind.u32.wrap (IntKind.i64.wrap ((1 : Int) + (IntKind.i64.wrap ((eI E a ((↑j.fst : Int).toNat * (1 : Nat) + (0 :
      Nat))).tmod (2 : Int) + (2 : Int))).tmod (2 : Int))))) = x.snd.fst) ∧ (IntKind.i64 = IntKind.i64 ∧ IntKind.i64.wrap (IntKind.i64.wrap (j.snd.snd.fst + IntKind.i64.wrap
      (IntKind.u64.wrap ((IntKind.u64.wrap (IntKind.u64.wrap j.snd.snd.snd + IntKind.u64.wrap (eI E a ((↑j.fst : Int).toNat * (1 : Nat) + (0 : Nat))))).tdiv (IntKind.u64.wrap
      (ss s))))) - IntKind.i64.wrap ((1 : Int) + (IntKind.i64.wrap ((eI E a ((↑j.fst : Int).toNat * (1 : Nat) + (0 : Nat))).tmod (2 : Int) + (2 : Int))).tmod (2 : Int))) =
      x.snd.snd.fst) ∧ IntKind.i64 = IntKind.i64 ∧ IntKind.i64.wrap ((IntKind.u64.wrap (IntKind.u64.wrap j.snd.snd.snd + IntKind.u64.wrap (eI E a ((↑j.fst : Int).toNat * (1 :
      Nat) + (0 : Nat))))).tmod (IntKind.u64.wrap (ss s))) = x.snd.snd.snd) ∧ True)) ∧ (decide (IntKind.i64.wrap (j.snd.snd.fst + IntKind.i64.wrap (IntKind.u64.wrap
      ((IntKind.u64.wrap (IntKind.u64.wrap j.snd.snd.snd + IntKind.u64.wrap (eI E a ((↑j.fst : Int).toNat * (1 : Nat) + (0 : Nat))))).tdiv (IntKind.u64.wrap (ss s))))) ≥
      IntKind.i64.wrap ((1 : Int) + (IntKind.i64.wrap ((eI E a ((↑j.fst : Int).toNat * (1 : Nat) + (0 : Nat))).tmod (2 : Int) + (2 : Int))).tmod (2 : Int))) = false → (decide
      ((if IntKind.i64.wrap (IntKind.i64.wrap (ss s * IntKind.i64.wrap (IntKind.i64.wrap ((1 : Int) + (IntKind.i64.wrap ((eI E a ((↑j.fst : Int).toNat * (1 : Nat) + (0 :
      Nat))).tmod (2 : Int) + (2 : Int))).tmod (2 : Int)) - IntKind.i64.wrap (j.snd.snd.fst + IntKind.i64.wrap (IntKind.u64.wrap ((IntKind.u64.wrap (IntKind.u64.wrap
      j.snd.snd.snd + IntKind.u64.wrap (eI E a ((↑j.fst : Int).toNat * (1 : Nat) + (0 : Nat))))).tdiv (IntKind.u64.wrap (ss s))))))) - IntKind.i64.wrap ((IntKind.u64.wrap
      (IntKind.u64.wrap j.snd.snd.snd + IntKind.u64.wrap (eI E a ((↑j.fst : Int).toNat * (1 : Nat) + (0 : Nat))))).tmod (IntKind.u64.wrap (ss s)))) > (1 : Int) then
      IntKind.i64.wrap (IntKind.i64.wrap (ss s * IntKind.i64.wrap (IntKind.i64.wrap ((1 : Int) + (IntKind.i64.wrap ((eI E a ((↑j.fst : Int).toNat * (1 : Nat) + (0 : Nat))).tmod
      (2 : Int) + (2 : Int))).tmod (2 : Int)) - IntKind.i64.wrap (j.snd.snd.fst + IntKind.i64.wrap (IntKind.u64.wrap ((IntKind.u64.wrap (IntKind.u64.wrap j.snd.snd.snd +
      IntKind.u64.wrap (eI E a ((↑j.fst : Int).toNat * (1 : Nat) + (0 : Nat))))).tdiv (IntKind.u64.wrap (ss s))))))) - IntKind.i64.wrap ((IntKind.u64.wrap (IntKind.u64.wrap
      j.snd.snd.snd + IntKind.u64.wrap (eI E a ((↑j.fst : Int).toNat * (1 : Nat) + (0 : Nat))))).tmod (IntKind.u64.wrap (ss s)))) else (1 : Int)) < (1 : Int)) = true → false =
      true) ∧ (decide ((if IntKind.i64.wrap (IntKind.i64.wrap (ss s * IntKind.i64.wrap (IntKind.i64.wrap ((1 : Int) + (IntKind.i64.wrap ((eI E a ((↑j.fst : Int).toNat * (1 :
      Nat) + (0 : Nat))).tmod (2 : Int) + (2 : Int))).tmod (2 : Int)) - IntKind.i64.wrap (j.snd.snd.fst + IntKind.i64.wrap (IntKind.u64.wrap ((IntKind.u64.wrap (IntKind.u64.wrap
      j.snd.snd.snd + IntKind.u64.wrap (eI E a ((↑j.fst : Int).toNat * (1 : Nat) + (0 : Nat))))).tdiv (IntKind.u64.wrap (ss s))))))) - IntKind.i64.wrap ((IntKind.u64.wrap
      (IntKind.u64.wrap j.snd.snd.snd + IntKind.u64.wrap (eI E a ((↑j.fst : Int).toNat * (1 : Nat) + (0 : Nat))))).tmod (IntKind.u64.wrap (ss s)))) > (1 : Int) then
      IntKind.i64.wrap (IntKind.i64.wrap (ss s * IntKind.i64.wrap (IntKind.i64.wrap ((1 : Int) + (IntKind.i64.wrap ((eI E a ((↑j.fst : Int).toNat * (1 : Nat) + (0 : Nat))).tmod
      (2 : Int) + (2 : Int))).tmod (2 : Int)) - IntKind.i64.wrap (j.snd.snd.fst + IntKind.i64.wrap (IntKind.u64.wrap ((IntKind.u64.wrap (IntKind.u64.wrap j.snd.snd.snd +
      IntKind.u64.wrap (eI E a ((↑j.fst : Int).toNat * (1 : Nat) + (0 : Nat))))).tdiv (IntKind.u64.wrap (ss s))))))) - IntKind.i64.wrap ((IntKind.u64.wrap (IntKind.u64.wrap
      j.snd.snd.snd + IntKind.u64.wrap (eI E a ((↑j.fst : Int).toNat * (1 : Nat) + (0 : Nat))))).tmod (IntKind.u64.wrap (ss s)))) else (1 : Int)) < (1 : Int)) = false → (decide
      ((if IntKind.i64.wrap (IntKind.i64.wrap (ss s * IntKind.i64.wrap (IntKind.i64.wrap ((1 : Int) + (IntKind.i64.wrap ((eI E a ((↑j.fst : Int).toNat * (1 : Nat) + (0 :
      Nat))).tmod (2 : Int) + (2 : Int))).tmod (2 : Int)) - IntKind.i64.wrap (j.snd.snd.fst + IntKind.i64.wrap (IntKind.u64.wrap ((IntKind.u64.wrap (IntKind.u64.wrap
      j.snd.snd.snd + IntKind.u64.wrap (eI E a ((↑j.fst : Int).toNat * (1 : Nat) + (0 : Nat))))).tdiv (IntKind.u64.wrap (ss s))))))) - IntKind.i64.wrap ((IntKind.u64.wrap
      (IntKind.u64.wrap j.snd.snd.snd + IntKind.u64.wrap (eI E a ((↑j.fst : Int).toNat * (1 : Nat) + (0 : Nat))))).tmod (IntKind.u64.wrap (ss s)))) > (1 : Int) then
      IntKind.i64.wrap (IntKind.i64.wrap (ss s * IntKind.i64.wrap (IntKind.i64.wrap ((1 : Int) + (IntKind.i64.wrap ((eI E a ((↑j.fst : Int).toNat * (1 : Nat) + (0 : Nat))).tmod
      (2 : Int) + (2 : Int))).tmod (2 : Int)) - IntKind.i64.wrap (j.snd.snd.fst + IntKind.i64.wrap (IntKind.u64.wrap ((IntKind.u64.wrap (IntKind.u64.wrap j.snd.snd.snd +
      IntKind.u64.wrap (eI E a ((↑j.fst : Int).toNat * (1 : Nat) + (0 : Nat))))).tdiv (IntKind.u64.wrap (ss s))))))) - IntKind.i64.wrap ((IntKind.u64.wrap (IntKind.u64.wrap
      j.snd.snd.snd + IntKind.u64.wrap (eI E a ((↑j.fst : Int).toNat * (1 : Nat) + (0 : Nat))))).tmod (IntKind.u64.wrap (ss s)))) else (1 : Int)) > IntKind.i64.wrap
      (IntKind.i64.wrap ((1 : Int) + (IntKind.i64.wrap ((eI E a ((↑j.fst : Int).toNat * (1 : Nat) + (0 : Nat))).tmod (2 : Int) + (2 : Int))).tmod (2 : Int)) * ss s)) = true →
      false = true) ∧ (decide ((if IntKind.i64.wrap (IntKind.i64.wrap (ss s * IntKind.i64.wrap (IntKind.i64.wrap ((1 : Int) + (IntKind.i64.wrap ((eI E a ((↑j.fst : Int).toNat *
      (1 : Nat) + (0 : Nat))).tmod (2 : Int) + (2 : Int))).tmod (2 : Int)) - IntKind.i64.wrap (j.snd.snd.fst + IntKind.i64.wrap (IntKind.u64.wrap ((IntKind.u64.wrap
      (IntKind.u64.wrap j.snd.snd.snd + IntKind.u64.wrap (eI E a ((↑j.fst : Int).toNat * (1 : Nat) + (0 : Nat))))).tdiv (IntKind.u64.wrap (ss s))))))) - IntKind.i64.wrap
      ((IntKind.u64.wrap (IntKind.u64.wrap j.snd.snd.snd + IntKind.u64.wrap (eI E a ((↑j.fst : Int).toNat * (1 : Nat) + (0 : Nat))))).tmod (IntKind.u64.wrap (ss s)))) > (1 :
      Int) then IntKind.i64.wrap (IntKind.i64.wrap (ss s * IntKind.i64.wrap (IntKind.i64.wrap ((1 : Int) + (IntKind.i64.wrap ((eI E a ((↑j.fst : Int).toNat * (1 : Nat) + (0 :
      Nat))).tmod (2 : Int) + (2 : Int))).tmod (2 : Int)) - IntKind.i64.wrap (j.snd.snd.fst + IntKind.i64.wrap (IntKind.u64.wrap ((IntKind.u64.wrap (IntKind.u64.wrap
      j.snd.snd.snd + IntKind.u64.wrap (eI E a ((↑j.fst : Int).toNat * (1 : Nat) + (0 : Nat))))).tdiv (IntKind.u64.wrap (ss s))))))) - IntKind.i64.wrap ((IntKind.u64.wrap
      (IntKind.u64.wrap j.snd.snd.snd + IntKind.u64.wrap (eI E a ((↑j.fst : Int).toNat * (1 : Nat) + (0 : Nat))))).tmod (IntKind.u64.wrap (ss s)))) else (1 : Int)) >
      IntKind.i64.wrap (IntKind.i64.wrap ((1 : Int) + (IntKind.i64.wrap ((eI E a ((↑j.fst : Int).toNat * (1 : Nat) + (0 : Nat))).tmod (2 : Int) + (2 : Int))).tmod (2 : Int)) *
      ss s)) = false → ∃ (x : Nat × Int × Int × Int), (x.fst ≤ n ∧ ((0 : Int) ≤ x.snd.fst ∧ x.snd.fst < (4294967296 : Int) ∧ x.snd.fst % (2 : Int) = (0 : Int)) ∧ ((0 : Int) ≤
      x.snd.snd.fst ∧ x.snd.snd.fst ≤ (8 : Int)) ∧ (0 : Int) ≤ x.snd.snd.snd ∧ x.snd.snd.snd < ss s) ∧ mu3 E a n c s m x < mu3 E a n c s m j ∧ hd3 E = hd3 E ∧ (75 : Nat) = (75 :
      Nat) ∧ ((IntKind.i64 = IntKind.i64 ∧ ss s = ss s) ∧ (IntKind.i64 = IntKind.i64 ∧ mo m = mo m) ∧ C.p (0 : Nat) (0 : Nat) = C.p (0 : Nat) (0 : Nat) ∧ (IntKind.u32 =
      IntKind.u32 ∧ IntKind.u32.wrap (j.snd.fst + IntKind.u32.wrap (IntKind.i64.wrap ((2 : Int) * IntKind.i64.wrap ((1 : Int) + (IntKind.i64.wrap ((eI E a ((↑j.fst : Int).toNat
      * (1 : Nat) + (0 : Nat))).tmod (2 : Int) + (2 : Int))).tmod (2 : Int))))) = x.snd.fst) ∧ C.es a n c = C.es a n c ∧ (IntKind.i64 = IntKind.i64 ∧ (↑n : Int) = (↑n : Int)) ∧
      IntKind.i64 = IntKind.i64 ∧ IntKind.i64.wrap ((↑j.fst : Int) + (1 : Int)) = (↑x.fst : Int)) ∧ ((36 : Nat) = (36 : Nat) ∧ (IntKind.u32 = IntKind.u32 ∧ IntKind.u32.wrap
      (bits BinOp.andNot IntKind.u32 j.snd.fst (1 : Int) + IntKind.u32.wrap ((2 : Int) * IntKind.u32.wrap (IntKind.i64.wrap ((1 : Int) + (IntKind.i64.wrap ((eI E a ((↑j.fst :
      Int).toNat * (1 : Nat) + (0 : Nat))).tmod (2 : Int) + (2 : Int))).tmod (2 : Int))))) = x.snd.fst) ∧ (IntKind.i64 = IntKind.i64 ∧ (0 : Int) = x.snd.snd.fst) ∧ IntKind.i64 =
      IntKind.i64 ∧ (0 : Int) = x.snd.snd.snd) ∧ True))))))))))))) ∧ (decide ((↑j.fst : Int) < (↑n : Int)) = false → true = true)) := by kernel_rfl

theorem ss_bd (s : Int) : 1 ≤ ss s ∧ ss s ≤ 8 := by unfold ss; omega
theorem mo_bd (s : Int) : 0 ≤ mo s ∧ mo s ≤ 7 := by unfold mo; omega
theorem mo_of (n : Int) : (IntKind.i64.wrap (n.tmod 8 + 8)).tmod 8 = mo n := by
  have h1 := Int.tmod_lt_of_pos n (show (0 : Int) < 8 by decide)
  have h2 := Int.lt_tmod_of_pos n (show (0 : Int) < 8 by decide)
  rw [wi64_in _ (by omega) (by omega), tmod_n _ _ (by omega)]; rfl
theorem kk_of (n : Int) : IntKind.i64.wrap (1 + (IntKind.i64.wrap (n.tmod 2 + 2)).tmod 2) = 1 ∨ IntKind.i64.wrap (1 + (IntKind.i64.wrap (n.tmod 2 + 2)).tmod 2) = 2 := by
  have h1 := Int.tmod_lt_of_pos n (show (0 : Int) < 2 by decide)
  have h2 := Int.lt_tmod_of_pos n (show (0 : Int) < 2 by decide)
  rw [wi64_in (n.tmod 2 + 2) (by omega) (by omega), tmod_n _ _ (by omega), wi64_in _ (by omega) (by omega)]
  omega
theorem even_andNot (x : Int) (h0 : 0 ≤ x) (h1 : x < 4294967296) (h2 : x % 2 = 0) : bits .andNot .u32 x 1 = x := by
  obtain ⟨m, rfl⟩ := Int.eq_ofNat_of_zero_le h0
  have hm : m < 4294967296 := by omega
  rw [show bits .andNot .u32 (m : Int) 1 = _ from bits_andNot_n .u32 _ 1 (by decide)]
  rw [show bits .and .u32 (m : Int) ((2 ^ IntKind.u32.bits - 1 - 1 : Nat) : Int) = _ from bits_and_n .u32 rfl m _ (by show m < 4294967296; omega) (by decide)]
  congr 1
  apply Nat.eq_of_testBit_eq
  intro i
  rw [Nat.testBit_and]
  by_cases hi : i = 0
  · subst hi
    have : m % 2 = 0 := by omega
    rw [Nat.testBit_zero, this]; rfl
  · by_cases h32 : i < 32
    · have : Nat.testBit (2 ^ IntKind.u32.bits - 1 - 1) i = true := by
        have : i = 1 ∨ i = 2 ∨ i = 3 ∨ i = 4 ∨ i = 5 ∨ i = 6 ∨ i = 7 ∨ i = 8 ∨ i = 9 ∨ i = 10 ∨ i = 11 ∨ i = 12 ∨ i = 13 ∨ i = 14 ∨ i = 15 ∨ i = 16 ∨ i = 17 ∨ i = 18 ∨ i = 19 ∨ i = 20 ∨ i = 21 ∨ i = 22 ∨ i = 23 ∨ i = 24 ∨ i = 25 ∨ i = 26 ∨ i = 27 ∨ i = 28 ∨ i = 29 ∨ i = 30 ∨ i = 31 := by omega
        rcases this with h | h | h | h | h | h | h | h | h | h | h | h | h | h | h | h | h | h | h | h | h | h | h | h | h | h | h | h | h | h | h <;> subst h <;> rfl
      rw [this, Bool.and_true]
    · have : Nat.testBit m i = false := Nat.testBit_lt_two_pow (Nat.lt_of_lt_of_le hm (Nat.pow_le_pow_right (by decide) (by omega) : 2 ^ 32 ≤ 2 ^ i))
      rw [this, Bool.false_and]
theorem fetch (W : World) (a : Option Addr) (n c : Nat) (s m : Int) (i : Nat) (at0 h00 p00 k : Int) (hi : i < n) (hmx : n ≤ 9223372036854775807) (ha : 0 ≤ at0 ∧ at0 < 4294967296 ∧ at0 % 2 = 0) (hk : k = 1 ∨ k = 2) (h p : Int) (h0 : 0 ≤ h ∧ h ≤ 8) (p0 : 0 ≤ p ∧ p < ss s) :
    (decide (k < (1 : Int)) = true → false = true) ∧ (decide (k < (1 : Int)) = false → (decide (k > (2 : Int)) = true → false = true) ∧ (decide (k > (2 : Int)) = false → (decide (IntKind.i64.wrap (ss s + mo m) < (1 : Int)) = true → false = true) ∧ (decide (IntKind.i64.wrap (ss s + mo m) < (1 : Int)) = false → (decide (ss s < (1 : Int)) = true → false = true) ∧ (decide (ss s < (1 : Int)) = false → ((true ^^ at0 == bits BinOp.andNot IntKind.u32 at0 (1 : Int) && (h == h && (p == p && true))) = true → (decide (IntKind.i64.wrap (IntKind.i64.wrap (ss s + mo m) + IntKind.i64.wrap (ss s * IntKind.i64.wrap (k - (1 : Int)))) < (1 : Int)) = true → false = true) ∧ (decide (IntKind.i64.wrap (IntKind.i64.wrap (ss s + mo m) + IntKind.i64.wrap (ss s * IntKind.i64.wrap (k - (1 : Int)))) < (1 : Int)) = false → (decide (IntKind.i64.wrap (IntKind.i64.wrap (ss s + mo m) + IntKind.i64.wrap (ss s * IntKind.i64.wrap (k - (1 : Int)))) > IntKind.i64.wrap (k * ss s)) = true → false = true) ∧ (decide (IntKind.i64.wrap (IntKind.i64.wrap (ss s + mo m) + IntKind.i64.wrap (ss s * IntKind.i64.wrap (k - (1 : Int)))) > IntKind.i64.wrap (k * ss s)) = false → ∃ (x : Nat × Int × Int × Int), (x.fst ≤ n ∧ ((0 : Int) ≤ x.snd.fst ∧ x.snd.fst < (4294967296 : Int) ∧ x.snd.fst % (2 : Int) = (0 : Int)) ∧ ((0 : Int) ≤ x.snd.snd.fst ∧ x.snd.snd.fst ≤ (8 : Int)) ∧ (0 : Int) ≤ x.snd.snd.snd ∧ x.snd.snd.snd < ss s) ∧ mu3 W a n c s m x < mu3 W a n c s m (i, at0, h00, p00) ∧ hd3 W = hd3 W ∧ (75 : Nat) = (75 : Nat) ∧ ((IntKind.i64 = IntKind.i64 ∧ ss s = ss s) ∧ (IntKind.i64 = IntKind.i64 ∧ mo m = mo m) ∧ C.p (0 : Nat) (0 : Nat) = C.p (0 : Nat) (0 : Nat) ∧ (IntKind.u32 = IntKind.u32 ∧ IntKind.u32.wrap (at0 + IntKind.u32.wrap (IntKind.i64.wrap ((2 : Int) * k))) = x.snd.fst) ∧ C.es a n c = C.es a n c ∧ (IntKind.i64 = IntKind.i64 ∧ (↑n : Int) = (↑n : Int)) ∧ IntKind.i64 = IntKind.i64 ∧ IntKind.i64.wrap ((i : Int) + (1 : Int)) = (↑x.fst : Int)) ∧ ((36 : Nat) = (36 : Nat) ∧ (IntKind.u32 = IntKind.u32 ∧ IntKind.u32.wrap (bits BinOp.andNot IntKind.u32 at0 (1 : Int) + IntKind.u32.wrap ((2 : Int) * IntKind.u32.wrap (k))) = x.snd.fst) ∧ (IntKind.i64 = IntKind.i64 ∧ (0 : Int) = x.snd.snd.fst) ∧ IntKind.i64 = IntKind.i64 ∧ (0 : Int) = x.snd.snd.snd) ∧ True))) ∧ ((true ^^ at0 == bits BinOp.andNot IntKind.u32 at0 (1 : Int) && (h == h && (p == p && true))) = false → (decide (h ≥ k) = true → (decide ((1 : Int) > IntKind.i64.wrap (k * ss s)) = true → false = true) ∧ (decide ((1 : Int) > IntKind.i64.wrap (k * ss s)) = false → ∃ (x : Nat × Int × Int × Int), (x.fst ≤ n ∧ ((0 : Int) ≤ x.snd.fst ∧ x.snd.fst < (4294967296 : Int) ∧ x.snd.fst % (2 : Int) = (0 : Int)) ∧ ((0 : Int) ≤ x.snd.snd.fst ∧ x.snd.snd.fst ≤ (8 : Int)) ∧ (0 : Int) ≤ x.snd.snd.snd ∧ x.snd.snd.snd < ss s) ∧ mu3 W a n c s m x < mu3 W a n c s m (i, at0, h00, p00) ∧ hd3 W = hd3 W ∧ (75 : Nat) = (75 : Nat) ∧ ((IntKind.i64 = IntKind.i64 ∧ ss s = ss s) ∧ (IntKind.i64 = IntKind.i64 ∧ mo m = mo m) ∧ C.p (0 : Nat) (0 : Nat) = C.p (0 : Nat) (0 : Nat) ∧ (IntKind.u32 = IntKind.u32 ∧ IntKind.u32.wrap (at0 + IntKind.u32.wrap (IntKind.i64.wrap ((2 : Int) * k))) = x.snd.fst) ∧ C.es a n c = C.es a n c ∧ (IntKind.i64 = IntKind.i64 ∧ (↑n : Int) = (↑n : Int)) ∧ IntKind.i64 = IntKind.i64 ∧ IntKind.i64.wrap ((i : Int) + (1 : Int)) = (↑x.fst : Int)) ∧ ((36 : Nat) = (36 : Nat) ∧ (IntKind.u32 = IntKind.u32 ∧ IntKind.u32.wrap (bits BinOp.andNot IntKind.u32 at0 (1 : Int) + IntKind.u32.wrap ((2 : Int) * IntKind.u32.wrap (k))) = x.snd.fst) ∧ (IntKind.i64 = IntKind.i64 ∧ IntKind.i64.wrap (h - k) = x.snd.snd.fst) ∧ IntKind.i64 = IntKind.i64 ∧ p = x.snd.snd.snd) ∧ True)) ∧ (decide (h ≥ k) = false → (decide ((if IntKind.i64.wrap (IntKind.i64.wrap (ss s * IntKind.i64.wrap (k - h)) - p) > (1 : Int) then IntKind.i64.wrap (IntKind.i64.wrap (ss s * IntKind.i64.wrap (k - h)) - p) else (1 : Int)) < (1 : Int)) = true → false = true) ∧ (decide ((if IntKind.i64.wrap (IntKind.i64.wrap (ss s * IntKind.i64.wrap (k - h)) - p) > (1 : Int) then IntKind.i64.wrap (IntKind.i64.wrap (ss s * IntKind.i64.wrap (k - h)) - p) else (1 : Int)) < (1 : Int)) = false → (decide ((if IntKind.i64.wrap (IntKind.i64.wrap (ss s * IntKind.i64.wrap (k - h)) - p) > (1 : Int) then IntKind.i64.wrap (IntKind.i64.wrap (ss s * IntKind.i64.wrap (k - h)) - p) else (1 : Int)) > IntKind.i64.wrap (k * ss s)) = true → false = true) ∧ (decide ((if IntKind.i64.wrap (IntKind.i64.wrap (ss s * IntKind.i64.wrap (k - h)) - p) > (1 : Int) then IntKind.i64.wrap (IntKind.i64.wrap (ss s * IntKind.i64.wrap (k - h)) - p) else (1 : Int)) > IntKind.i64.wrap (k * ss s)) = false → ∃ (x : Nat × Int × Int × Int), (x.fst ≤ n ∧ ((0 : Int) ≤ x.snd.fst ∧ x.snd.fst < (4294967296 : Int) ∧ x.snd.fst % (2 : Int) = (0 : Int)) ∧ ((0 : Int) ≤ x.snd.snd.fst ∧ x.snd.snd.fst ≤ (8 : Int)) ∧ (0 : Int) ≤ x.snd.snd.snd ∧ x.snd.snd.snd < ss s) ∧ mu3 W a n c s m x < mu3 W a n c s m (i, at0, h00, p00) ∧ hd3 W = hd3 W ∧ (75 : Nat) = (75 : Nat) ∧ ((IntKind.i64 = IntKind.i64 ∧ ss s = ss s) ∧ (IntKind.i64 = IntKind.i64 ∧ mo m = mo m) ∧ C.p (0 : Nat) (0 : Nat) = C.p (0 : Nat) (0 : Nat) ∧ (IntKind.u32 = IntKind.u32 ∧ IntKind.u32.wrap (at0 + IntKind.u32.wrap (IntKind.i64.wrap ((2 : Int) * k))) = x.snd.fst) ∧ C.es a n c = C.es a n c ∧ (IntKind.i64 = IntKind.i64 ∧ (↑n : Int) = (↑n : Int)) ∧ IntKind.i64 = IntKind.i64 ∧ IntKind.i64.wrap ((i : Int) + (1 : Int)) = (↑x.fst : Int)) ∧ ((36 : Nat) = (36 : Nat) ∧ (IntKind.u32 = IntKind.u32 ∧ IntKind.u32.wrap (bits BinOp.andNot IntKind.u32 at0 (1 : Int) + IntKind.u32.wrap ((2 : Int) * IntKind.u32.wrap (k))) = x.snd.fst) ∧ (IntKind.i64 = IntKind.i64 ∧ (0 : Int) = x.snd.snd.fst) ∧ IntKind.i64 = IntKind.i64 ∧ (0 : Int) = x.snd.snd.snd) ∧ True)))))))) := by
  have hs := ss_bd s
  have hm := mo_bd m
  have w1 : IntKind.u32.wrap (IntKind.i64.wrap (2 * 1)) = 2 := by decide
  have w2 : IntKind.u32.wrap (IntKind.i64.wrap (2 * 2)) = 4 := by decide
  have v1 : IntKind.u32.wrap (2 * IntKind.u32.wrap 1) = 2 := by decide
  have v2 : IntKind.u32.wrap (2 * IntKind.u32.wrap 2) = 4 := by decide
  have hev := even_andNot at0 ha.1 ha.2.1 ha.2.2
  have hwi : IntKind.i64.wrap ((i : Int) + 1) = ((i + 1 : Nat) : Int) := by rw [wi64_in _ (by omega) (by omega)]; simp
  have hmu : ∀ y : Int × Int × Int, mu3 W a n c s m (i + 1, y) < mu3 W a n c s m (i, at0, h00, p00) := fun y => by show n - (i + 1) < n - i; omega
  have hne : ∀ x y : Int, ¬ ((true ^^ at0 == at0 && (x == x && (y == y && true))) = true) := by simp
  have a2 := Int.emod_nonneg (at0 + 2) (show (4294967296 : Int) ≠ 0 by decide)
  have c2 : (at0 + 2) % 4294967296 < 4294967296 ∧ (at0 + 2) % 4294967296 % 2 = 0 ∧ 0 ≤ (at0 + 4) % 4294967296 ∧ (at0 + 4) % 4294967296 < 4294967296 ∧ (at0 + 4) % 4294967296 % 2 = 0 := by omega
  rw [hev, hwi]
  have e1 : IntKind.i64.wrap (ss s + mo m) = ss s + mo m := wi64_in _ (by omega) (by omega)
  have e2 : IntKind.i64.wrap (1 * ss s) = ss s := by rw [wi64_in _ (by omega) (by omega)]; omega
  have e3 : IntKind.i64.wrap (2 * ss s) = 2 * ss s := wi64_in _ (by omega) (by omega)
  have key : ∀ (t : Int), (t < 1 → False) → (decide (t < 1) = true → false = true) := fun t ht h => absurd (of_decide_eq_true h) ht
  have dn : ∀ (q : Prop) [Decidable q], ¬ q → (decide q = true → false = true) := fun q _ hq h => absurd (of_decide_eq_true h) hq
  have up : ∀ x : Int, IntKind.u32.wrap x = x % 4294967296 := wu32
  rcases hk with rfl | rfl
  · have hA : 0 ≤ IntKind.u32.wrap (at0 + IntKind.u32.wrap (IntKind.i64.wrap (2 * 1))) ∧ IntKind.u32.wrap (at0 + IntKind.u32.wrap (IntKind.i64.wrap (2 * 1))) < 4294967296 ∧ IntKind.u32.wrap (at0 + IntKind.u32.wrap (IntKind.i64.wrap (2 * 1))) % 2 = 0 := by rw [w1, up]; omega
    have hB : IntKind.u32.wrap (at0 + IntKind.u32.wrap (2 * IntKind.u32.wrap 1)) = IntKind.u32.wrap (at0 + IntKind.u32.wrap (IntKind.i64.wrap (2 * 1))) := by rw [v1, w1]
    have h00 : (0 : Int) ≤ 0 ∧ (0 : Int) ≤ 8 := by omega
    have hz : (0 : Int) ≤ 0 ∧ (0 : Int) < ss s := by omega
    refine ⟨dn _ (by omega), fun _ => ⟨dn _ (by omega), fun _ => ⟨dn _ (by rw [e1]; omega), fun _ => ⟨dn _ (by omega), fun _ => ⟨fun hx => absurd hx (hne h p), fun _ => ⟨fun hh => ?_, fun hh => ?_⟩⟩⟩⟩⟩⟩
    · rw [decide_eq_true_eq] at hh
      have hwh : IntKind.i64.wrap (h - 1) = h - 1 := wi64_in _ (by omega) (by omega)
      have hH : 0 ≤ IntKind.i64.wrap (h - 1) ∧ IntKind.i64.wrap (h - 1) ≤ 8 := by rw [hwh]; omega
      exact ⟨dn _ (by rw [e2]; omega), fun _ => ⟨(i + 1, _, _, _), ⟨hi, hA, hH, p0⟩, hmu _, rfl, rfl, ⟨⟨rfl, rfl⟩, ⟨rfl, rfl⟩, rfl, ⟨rfl, rfl⟩, rfl, ⟨rfl, rfl⟩, rfl, rfl⟩, ⟨rfl, ⟨rfl, hB⟩, ⟨rfl, rfl⟩, rfl, rfl⟩, trivial⟩⟩
    · rw [decide_eq_false_iff_not] at hh
      have hX : ∃ X, IntKind.i64.wrap (IntKind.i64.wrap (ss s * IntKind.i64.wrap (1 - h)) - p) = X ∧ 1 ≤ X ∧ X ≤ 1 * ss s := by
        have : h = 0 ∨ h = 1 := by omega
        rcases this with rfl | rfl
        · have e : IntKind.i64.wrap (1 - 0) = 1 := by decide
          rw [e, wi64_in (ss s * 1) (by omega) (by omega), wi64_in _ (by omega) (by omega)]
          exact ⟨_, rfl, by omega, by omega⟩
        · omega
      obtain ⟨X, hXe, hX1, hX2⟩ := hX
      rw [hXe]
      have hif : 1 ≤ (if X > 1 then X else 1) ∧ (if X > 1 then X else 1) ≤ 1 * ss s := by split <;> omega
      exact ⟨dn _ (by omega), fun _ => ⟨dn _ (by rw [e2]; omega), fun _ => ⟨(i + 1, _, _, _), ⟨hi, hA, h00, hz⟩, hmu _, rfl, rfl, ⟨⟨rfl, rfl⟩, ⟨rfl, rfl⟩, rfl, ⟨rfl, rfl⟩, rfl, ⟨rfl, rfl⟩, rfl, rfl⟩, ⟨rfl, ⟨rfl, hB⟩, ⟨rfl, rfl⟩, rfl, rfl⟩, trivial⟩⟩⟩
  · have hA : 0 ≤ IntKind.u32.wrap (at0 + IntKind.u32.wrap (IntKind.i64.wrap (2 * 2))) ∧ IntKind.u32.wrap (at0 + IntKind.u32.wrap (IntKind.i64.wrap (2 * 2))) < 4294967296 ∧ IntKind.u32.wrap (at0 + IntKind.u32.wrap (IntKind.i64.wrap (2 * 2))) % 2 = 0 := by rw [w2, up]; omega
    have hB : IntKind.u32.wrap (at0 + IntKind.u32.wrap (2 * IntKind.u32.wrap 2)) = IntKind.u32.wrap (at0 + IntKind.u32.wrap (IntKind.i64.wrap (2 * 2))) := by rw [v2, w2]
    have h00 : (0 : Int) ≤ 0 ∧ (0 : Int) ≤ 8 := by omega
    have hz : (0 : Int) ≤ 0 ∧ (0 : Int) < ss s := by omega
    refine ⟨dn _ (by omega), fun _ => ⟨dn _ (by omega), fun _ => ⟨dn _ (by rw [e1]; omega), fun _ => ⟨dn _ (by omega), fun _ => ⟨fun hx => absurd hx (hne h p), fun _ => ⟨fun hh => ?_, fun hh => ?_⟩⟩⟩⟩⟩⟩
    · rw [decide_eq_true_eq] at hh
      have hwh : IntKind.i64.wrap (h - 2) = h - 2 := wi64_in _ (by omega) (by omega)
      have hH : 0 ≤ IntKind.i64.wrap (h - 2) ∧ IntKind.i64.wrap (h - 2) ≤ 8 := by rw [hwh]; omega
      exact ⟨dn _ (by rw [e3]; omega), fun _ => ⟨(i + 1, _, _, _), ⟨hi, hA, hH, p0⟩, hmu _, rfl, rfl, ⟨⟨rfl, rfl⟩, ⟨rfl, rfl⟩, rfl, ⟨rfl, rfl⟩, rfl, ⟨rfl, rfl⟩, rfl, rfl⟩, ⟨rfl, ⟨rfl, hB⟩, ⟨rfl, rfl⟩, rfl, rfl⟩, trivial⟩⟩
    · rw [decide_eq_false_iff_not] at hh
      have hX : ∃ X, IntKind.i64.wrap (IntKind.i64.wrap (ss s * IntKind.i64.wrap (2 - h)) - p) = X ∧ 1 ≤ X ∧ X ≤ 2 * ss s := by
        have : h = 0 ∨ h = 1 := by omega
        rcases this with rfl | rfl
        · have e : IntKind.i64.wrap (2 - 0) = 2 := by decide
          rw [e, wi64_in (ss s * 2) (by omega) (by omega), wi64_in _ (by omega) (by omega)]
          exact ⟨_, rfl, by omega, by omega⟩
        · have e : IntKind.i64.wrap (2 - 1) = 2 - 1 := by decide
          rw [e, wi64_in (ss s * (2 - 1)) (by omega) (by omega), wi64_in _ (by omega) (by omega)]
          exact ⟨_, rfl, by omega, by omega⟩
      obtain ⟨X, hXe, hX1, hX2⟩ := hX
      rw [hXe]
      have hif : 1 ≤ (if X > 1 then X else 1) ∧ (if X > 1 then X else 1) ≤ 2 * ss s := by split <;> omega
      exact ⟨dn _ (by omega), fun _ => ⟨dn _ (by rw [e3]; omega), fun _ => ⟨(i + 1, _, _, _), ⟨hi, hA, h00, hz⟩, hmu _, rfl, rfl, ⟨⟨rfl, rfl⟩, ⟨rfl, rfl⟩, rfl, ⟨rfl, rfl⟩, rfl, ⟨rfl, rfl⟩, rfl, rfl⟩, ⟨rfl, ⟨rfl, hB⟩, ⟨rfl, rfl⟩, rfl, rfl⟩, trivial⟩⟩⟩
end Go.Proofs.Ytfjkjkhgmeemcaa

