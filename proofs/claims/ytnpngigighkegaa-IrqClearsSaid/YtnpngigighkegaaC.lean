import Derived.Test.YtnpngigighkegaaA
set_option linter.unusedVariables false
set_option linter.unusedSimpArgs false
namespace Go.Proofs.Ytnpngigighkegaa
open Go Go.Proofs Go.Proofs.Ytnpngigighkegaa.Ev
noncomputable def c4 : Code := Try.f4.body.getD .skip
noncomputable def hd4 (E : World) : List Item := headOf (run (pe E) (orcA E) (tabL fns) 20000 1606938044258990275541962092341162602522202993782792835301375 [.code c4] ⟨Try.f4.ntmps, mkFrGo (Tr.mk 12) 0 [.c (.es none 0 0), .c (.i true .u16 0)]⟩ [])
def lv4 (E : World) (a : Option Addr) (n c : Nat) (mask : Int) (x : Nat × Int × Int × Int × Int × Bool) : List (Nat × SV) := [(0, .c (.es a n c)), (1, .c (.i false .u16 mask)), (5, .c (.p 0 0)), (15, .c (.es a n c)), (16, .c (.i false .i64 (n : Int))), (17, .c (.i false .i64 (x.1 : Int)))]
def sv4 (E : World) (a : Option Addr) (n c : Nat) (mask : Int) (x : Nat × Int × Int × Int × Int × Bool) : SW := [⟨[.i false .u16 x.2.1, .i false .u16 x.2.2.1, .i false .u16 x.2.2.2.1, .i false .u16 x.2.2.2.2.1, .b false x.2.2.2.2.2], 45⟩]
def hh4 (E : World) (a : Option Addr) (n c : Nat) (mask : Int) (x : Nat × Int × Int × Int × Int × Bool) : Prop := x.1 ≤ n ∧ 0 ≤ x.2.2.1 ∧ x.2.2.1 < 16384
def mu4 (E : World) (a : Option Addr) (n c : Nat) (mask : Int) (x : Nat × Int × Int × Int × Int × Bool) : Nat := n - x.1
theorem clears_pro (E : World) (a : Option Addr) (n c : Nat) (mask : Int) :
    (loopP (pe E) Try.f4 (fun v _ => SV.sim v (.c (.b false true))) (fun todo fr s' => ∃ x : Nat × Int × Int × Int × Int × Bool, hh4 E a n c mask x ∧ todo = hd4 E ∧ fr.nt = Try.f4.ntmps ∧ refP fr (lv4 E a n c mask x) ∧ refT s' (sv4 E a n c mask x)) (run (pe E) (orcA E) (tabL fns) 20000 1606938044258990275541962092341162602522202993782792835301375 [.code c4] ⟨Try.f4.ntmps, mkFrGo (Tr.mk 12) 0 [.c (.es a n c), .c (.i false .u16 mask)]⟩ [])) =
    ((decide ((↑n : Int) > (300 : Int)) = true → true = true) ∧ (decide ((↑n : Int) > (300 : Int)) = false → ∃ (x : Nat × Int × Int × Int × Int × Bool), (x.fst ≤ n ∧ (0 : Int)
      ≤ x.snd.snd.fst ∧ x.snd.snd.fst < (16384 : Int)) ∧ hd4 E = hd4 E ∧ (50 : Nat) = (50 : Nat) ∧ (C.es a n c = C.es a n c ∧ (IntKind.u16 = IntKind.u16 ∧ mask = mask) ∧ C.p (0
      : Nat) (0 : Nat) = C.p (0 : Nat) (0 : Nat) ∧ C.es a n c = C.es a n c ∧ (IntKind.i64 = IntKind.i64 ∧ (↑n : Int) = (↑n : Int)) ∧ IntKind.i64 = IntKind.i64 ∧ (0 : Int) =
      (↑x.fst : Int)) ∧ ((45 : Nat) = (45 : Nat) ∧ (IntKind.u16 = IntKind.u16 ∧ (0 : Int) = x.snd.fst) ∧ (IntKind.u16 = IntKind.u16 ∧ (0 : Int) = x.snd.snd.fst) ∧ (IntKind.u16 =
      IntKind.u16 ∧ (0 : Int) = x.snd.snd.snd.fst) ∧ (IntKind.u16 = IntKind.u16 ∧ (0 : Int) = x.snd.snd.snd.snd.fst) ∧ false = x.snd.snd.snd.snd.snd) ∧ True)) := by kernel_rfl
theorem clears_round (E : World) (a : Option Addr) (n c : Nat) (mask : Int) (j : Nat × Int × Int × Int × Int × Bool) :
    (loopP (pe E) Try.f4 (fun v _ => SV.sim v (.c (.b false true))) (fun todo fr s' => ∃ x : Nat × Int × Int × Int × Int × Bool, hh4 E a n c mask x ∧ mu4 E a n c mask x < mu4 E a n c mask j ∧ todo = hd4 E ∧ fr.nt = Try.f4.ntmps ∧ refP fr (lv4 E a n c mask x) ∧ refT s' (sv4 E a n c mask x)) (run (pe E) (orcA E) (tabL fns) 20000 1606938044258990275541962092341162602522202993782792835301375 (hd4 E) (mkL Try.f4.ntmps (lv4 E a n c mask j)) (sv4 E a n c mask j))) =
    ((decide ((↑j.fst : Int) < (↑n : Int)) = true → inB (↑j.fst : Int) n = true ∧ a.isSome = true ∧ eRow E a ((↑j.fst : Int).toNat * (3 : Nat) + (0 : Nat)) ([EK.i IntKind.i64]
      ++ ([EK.i IntKind.i64] ++ ([EK.i IntKind.u16] ++ []))) = true ∧ ((eI E a ((↑j.fst : Int).toNat * (3 : Nat) + (0 : Nat)) == (1 : Int)) = true → ((eI E a ((↑j.fst :
      Int).toNat * (3 : Nat) + (1 : Nat)) == (306 : Int)) = true → ((bits BinOp.and IntKind.u16 (bits BinOp.and IntKind.u16 (eI E a ((↑j.fst : Int).toNat * (3 : Nat) + (2 :
      Nat))) (50175 : Int)) (16384 : Int) == (0 : Int)) = true → ∃ (x : Nat × Int × Int × Int × Int × Bool), (x.fst ≤ n ∧ (0 : Int) ≤ x.snd.snd.fst ∧ x.snd.snd.fst < (16384 :
      Int)) ∧ mu4 E a n c mask x < mu4 E a n c mask j ∧ hd4 E = hd4 E ∧ (50 : Nat) = (50 : Nat) ∧ (C.es a n c = C.es a n c ∧ (IntKind.u16 = IntKind.u16 ∧ mask = mask) ∧ C.p (0 :
      Nat) (0 : Nat) = C.p (0 : Nat) (0 : Nat) ∧ C.es a n c = C.es a n c ∧ (IntKind.i64 = IntKind.i64 ∧ (↑n : Int) = (↑n : Int)) ∧ IntKind.i64 = IntKind.i64 ∧ IntKind.i64.wrap
      ((↑j.fst : Int) + (1 : Int)) = (↑x.fst : Int)) ∧ ((45 : Nat) = (45 : Nat) ∧ (IntKind.u16 = IntKind.u16 ∧ j.snd.fst = x.snd.fst) ∧ (IntKind.u16 = IntKind.u16 ∧
      j.snd.snd.fst = x.snd.snd.fst) ∧ (IntKind.u16 = IntKind.u16 ∧ bits BinOp.and IntKind.u16 (eI E a ((↑j.fst : Int).toNat * (3 : Nat) + (2 : Nat))) (50175 : Int) =
      x.snd.snd.snd.fst) ∧ (IntKind.u16 = IntKind.u16 ∧ j.snd.snd.snd.snd.fst = x.snd.snd.snd.snd.fst) ∧ j.snd.snd.snd.snd.snd = x.snd.snd.snd.snd.snd) ∧ True) ∧ ((bits
      BinOp.and IntKind.u16 (bits BinOp.and IntKind.u16 (eI E a ((↑j.fst : Int).toNat * (3 : Nat) + (2 : Nat))) (50175 : Int)) (16384 : Int) == (0 : Int)) = false → ((bits
      BinOp.and IntKind.u16 (bits BinOp.and IntKind.u16 (eI E a ((↑j.fst : Int).toNat * (3 : Nat) + (2 : Nat))) (50175 : Int)) (32768 : Int) != (0 : Int)) = true → ((bits
      BinOp.and IntKind.u16 j.snd.snd.snd.snd.fst (bits BinOp.and IntKind.u16 (bits BinOp.and IntKind.u16 (eI E a ((↑j.fst : Int).toNat * (3 : Nat) + (2 : Nat))) (50175 : Int))
      (1023 : Int)) == bits BinOp.and IntKind.u16 (bits BinOp.and IntKind.u16 (eI E a ((↑j.fst : Int).toNat * (3 : Nat) + (2 : Nat))) (50175 : Int)) (1023 : Int)) = true → ∃ (x
      : Nat × Int × Int × Int × Int × Bool), (x.fst ≤ n ∧ (0 : Int) ≤ x.snd.snd.fst ∧ x.snd.snd.fst < (16384 : Int)) ∧ mu4 E a n c mask x < mu4 E a n c mask j ∧ hd4 E = hd4 E ∧
      (50 : Nat) = (50 : Nat) ∧ (C.es a n c = C.es a n c ∧ (IntKind.u16 = IntKind.u16 ∧ mask = mask) ∧ C.p (0 : Nat) (0 : Nat) = C.p (0 : Nat) (0 : Nat) ∧ C.es a n c = C.es a n
      c ∧ (IntKind.i64 = IntKind.i64 ∧ (↑n : Int) = (↑n : Int)) ∧ IntKind.i64 = IntKind.i64 ∧ IntKind.i64.wrap ((↑j.fst : Int) + (1 : Int)) = (↑x.fst : Int)) ∧ ((45 : Nat) = (45
      : Nat) ∧ (IntKind.u16 = IntKind.u16 ∧ j.snd.fst = x.snd.fst) ∧ (IntKind.u16 = IntKind.u16 ∧ bits BinOp.or IntKind.u16 j.snd.snd.fst (4096 : Int) = x.snd.snd.fst) ∧
      (IntKind.u16 = IntKind.u16 ∧ bits BinOp.and IntKind.u16 (eI E a ((↑j.fst : Int).toNat * (3 : Nat) + (2 : Nat))) (50175 : Int) = x.snd.snd.snd.fst) ∧ (IntKind.u16 =
      IntKind.u16 ∧ j.snd.snd.snd.snd.fst = x.snd.snd.snd.snd.fst) ∧ j.snd.snd.snd.snd.snd = x.snd.snd.snd.snd.snd) ∧ True) ∧ ((bits BinOp.and IntKind.u16 j.snd.snd.snd.snd.fst
      (bits BinOp.and IntKind.u16 (bits BinOp.and IntKind.u16 (eI E a ((↑j.fst : Int).toNat * (3 : Nat) + (2 : Nat))) (50175 : Int)) (1023 : Int)) == bits BinOp.and IntKind.u16
      (bits BinOp.and IntKind.u16 (eI E a ((↑j.fst : Int).toNat * (3 : Nat) + (2 : Nat))) (50175 : Int)) (1023 : Int)) = false → ((bits BinOp.and IntKind.u16 (bits BinOp.and
      IntKind.u16 (eI E a ((↑j.fst : Int).toNat * (3 : Nat) + (2 : Nat))) (50175 : Int)) (32768 : Int) == (0 : Int)) = true → ((bits BinOp.and IntKind.u16 j.snd.snd.snd.snd.fst
      (bits BinOp.and IntKind.u16 (bits BinOp.and IntKind.u16 (eI E a ((↑j.fst : Int).toNat * (3 : Nat) + (2 : Nat))) (50175 : Int)) (1023 : Int)) != (0 : Int)) = true → ∃ (x :
      Nat × Int × Int × Int × Int × Bool), (x.fst ≤ n ∧ (0 : Int) ≤ x.snd.snd.fst ∧ x.snd.snd.fst < (16384 : Int)) ∧ mu4 E a n c mask x < mu4 E a n c mask j ∧ hd4 E = hd4 E ∧
      (50 : Nat) = (50 : Nat) ∧ (C.es a n c = C.es a n c ∧ (IntKind.u16 = IntKind.u16 ∧ mask = mask) ∧ C.p (0 : Nat) (0 : Nat) = C.p (0 : Nat) (0 : Nat) ∧ C.es a n c = C.es a n
      c ∧ (IntKind.i64 = IntKind.i64 ∧ (↑n : Int) = (↑n : Int)) ∧ IntKind.i64 = IntKind.i64 ∧ IntKind.i64.wrap ((↑j.fst : Int) + (1 : Int)) = (↑x.fst : Int)) ∧ ((45 : Nat) = (45
      : Nat) ∧ (IntKind.u16 = IntKind.u16 ∧ j.snd.fst = x.snd.fst) ∧ (IntKind.u16 = IntKind.u16 ∧ bits BinOp.or IntKind.u16 j.snd.snd.fst (4096 : Int) = x.snd.snd.fst) ∧
      (IntKind.u16 = IntKind.u16 ∧ bits BinOp.and IntKind.u16 (eI E a ((↑j.fst : Int).toNat * (3 : Nat) + (2 : Nat))) (50175 : Int) = x.snd.snd.snd.fst) ∧ (IntKind.u16 =
      IntKind.u16 ∧ j.snd.snd.snd.snd.fst = x.snd.snd.snd.snd.fst) ∧ j.snd.snd.snd.snd.snd = x.snd.snd.snd.snd.snd) ∧ True) ∧ ((bits BinOp.and IntKind.u16 j.snd.snd.snd.snd.fst
      (bits BinOp.and IntKind.u16 (bits BinOp.and IntKind.u16 (eI E a ((↑j.fst : Int).toNat * (3 : Nat) + (2 : Nat))) (50175 : Int)) (1023 : Int)) != (0 : Int)) = false → ∃ (x :
      Nat × Int × Int × Int × Int × Bool), (x.fst ≤ n ∧ (0 : Int) ≤ x.snd.snd.fst ∧ x.snd.snd.fst < (16384 : Int)) ∧ mu4 E a n c mask x < mu4 E a n c mask j ∧ hd4 E = hd4 E ∧
      (50 : Nat) = (50 : Nat) ∧ (C.es a n c = C.es a n c ∧ (IntKind.u16 = IntKind.u16 ∧ mask = mask) ∧ C.p (0 : Nat) (0 : Nat) = C.p (0 : Nat) (0 : Nat) ∧ C.es a n c = C.es a n
      c ∧ (IntKind.i64 = IntKind.i64 ∧ (↑n : Int) = (↑n : Int)) ∧ IntKind.i64 = IntKind.i64 ∧ IntKind.i64.wrap ((↑j.fst : Int) + (1 : Int)) = (↑x.fst : Int)) ∧ ((45 : Nat) = (45
      : Nat) ∧ (IntKind.u16 = IntKind.u16 ∧ j.snd.fst = x.snd.fst) ∧ (IntKind.u16 = IntKind.u16 ∧ j.snd.snd.fst = x.snd.snd.fst) ∧ (IntKind.u16 = IntKind.u16 ∧ bits BinOp.and
      IntKind.u16 (eI E a ((↑j.fst : Int).toNat * (3 : Nat) + (2 : Nat))) (50175 : Int) = x.snd.snd.snd.fst) ∧ (IntKind.u16 = IntKind.u16 ∧ j.snd.snd.snd.snd.fst =
      x.snd.snd.snd.snd.fst) ∧ j.snd.snd.snd.snd.snd = x.snd.snd.snd.snd.snd) ∧ True)) ∧ ((bits BinOp.and IntKind.u16 (bits BinOp.and IntKind.u16 (eI E a ((↑j.fst : Int).toNat *
      (3 : Nat) + (2 : Nat))) (50175 : Int)) (32768 : Int) == (0 : Int)) = false → ∃ (x : Nat × Int × Int × Int × Int × Bool), (x.fst ≤ n ∧ (0 : Int) ≤ x.snd.snd.fst ∧
      x.snd.snd.fst < (16384 : Int)) ∧ mu4 E a n c mask x < mu4 E a n c mask j ∧ hd4 E = hd4 E ∧ (50 : Nat) = (50 : Nat) ∧ (C.es a n c = C.es a n c ∧ (IntKind.u16 = IntKind.u16
      ∧ mask = mask) ∧ C.p (0 : Nat) (0 : Nat) = C.p (0 : Nat) (0 : Nat) ∧ C.es a n c = C.es a n c ∧ (IntKind.i64 = IntKind.i64 ∧ (↑n : Int) = (↑n : Int)) ∧ IntKind.i64 =
      IntKind.i64 ∧ IntKind.i64.wrap ((↑j.fst : Int) + (1 : Int)) = (↑x.fst : Int)) ∧ ((45 : Nat) = (45 : Nat) ∧ (IntKind.u16 = IntKind.u16 ∧ j.snd.fst = x.snd.fst) ∧
      (IntKind.u16 = IntKind.u16 ∧ j.snd.snd.fst = x.snd.snd.fst) ∧ (IntKind.u16 = IntKind.u16 ∧ bits BinOp.and IntKind.u16 (eI E a ((↑j.fst : Int).toNat * (3 : Nat) + (2 :
      Nat))) (50175 : Int) = x.snd.snd.snd.fst) ∧ (IntKind.u16 = IntKind.u16 ∧ j.snd.snd.snd.snd.fst = x.snd.snd.snd.snd.fst) ∧ j.snd.snd.snd.snd.snd = x.snd.snd.snd.snd.snd) ∧
      True))) ∧ ((bits BinOp.and IntKind.u16 (bits BinOp.and IntKind.u16 (eI E a ((↑j.fst : Int).toNat * (3 : Nat) + (2 : Nat))) (50175 : Int)) (32768 : Int) != (0 : Int)) =
      false → ((bits BinOp.and IntKind.u16 (bits BinOp.and IntKind.u16 (eI E a ((↑j.fst : Int).toNat * (3 : Nat) + (2 : Nat))) (50175 : Int)) (32768 : Int) == (0 : Int)) = true
      → ((bits BinOp.and IntKind.u16 j.snd.snd.snd.snd.fst (bits BinOp.and IntKind.u16 (bits BinOp.and IntKind.u16 (eI E a ((↑j.fst : Int).toNat * (3 : Nat) + (2 : Nat))) (50175
      : Int)) (1023 : Int)) != (0 : Int)) = true → ∃ (x : Nat × Int × Int × Int × Int × Bool), (x.fst ≤ n ∧ (0 : Int) ≤ x.snd.snd.fst ∧ x.snd.snd.fst < (16384 : Int)) ∧ mu4 E a
      n c mask x < mu4 E a n c mask j ∧ hd4 E = hd4 E ∧ (50 : Nat) = (50 : Nat) ∧ (C.es a n c = C.es a n c ∧ (IntKind.u16 = IntKind.u16 ∧ mask = mask) ∧ C.p (0 : Nat) (0 : Nat)
      = C.p (0 : Nat) (0 : Nat) ∧ C.es a n c = C.es a n c ∧ (IntKind.i64 = IntKind.i64 ∧ (↑n : Int) = (↑n : Int)) ∧ IntKind.i64 = IntKind.i64 ∧ IntKind.i64.wrap ((↑j.fst : Int)
      + (1 : Int)) = (↑x.fst : Int)) ∧ ((45 : Nat) = (45 : Nat) ∧ (IntKind.u16 = IntKind.u16 ∧ j.snd.fst = x.snd.fst) ∧ (IntKind.u16 = IntKind.u16 ∧ bits BinOp.or IntKind.u16
      j.snd.snd.fst (4096 : Int) = x.snd.snd.fst) ∧ (IntKind.u16 = IntKind.u16 ∧ bits BinOp.and IntKind.u16 (eI E a ((↑j.fst : Int).toNat * (3 : Nat) + (2 : Nat))) (50175 : Int)
      = x.snd.snd.snd.fst) ∧ (IntKind.u16 = IntKind.u16 ∧ j.snd.snd.snd.snd.fst = x.snd.snd.snd.snd.fst) ∧ j.snd.snd.snd.snd.snd = x.snd.snd.snd.snd.snd) ∧ True) ∧ ((bits
      BinOp.and IntKind.u16 j.snd.snd.snd.snd.fst (bits BinOp.and IntKind.u16 (bits BinOp.and IntKind.u16 (eI E a ((↑j.fst : Int).toNat * (3 : Nat) + (2 : Nat))) (50175 : Int))
      (1023 : Int)) != (0 : Int)) = false → ∃ (x : Nat × Int × Int × Int × Int × Bool), (x.fst ≤ n ∧ (0 : Int) ≤ x.snd.snd.fst ∧ x.snd.snd.fst < (16384 : Int)) ∧ mu4 E a n c
      mask x < mu4 E a n c mask j ∧ hd4 E = hd4 E ∧ (50 : Nat) = (50 : Nat) ∧ (C.es a n c = C.es a n c ∧ (IntKind.u16 = IntKind.u16 ∧ mask = mask) ∧ C.p (0 : Nat) (0 : Nat) =
      C.p (0 : Nat) (0 : Nat) ∧ C.es a n c = C.es a n c ∧ (IntKind.i64 = IntKind.i64 ∧ (↑n : Int) = (↑n : Int)) ∧ IntKind.i64 = IntKind.i64 ∧ IntKind.i64.wrap ((↑j.fst : Int) +
      (1 : Int)) = (↑x.fst : Int)) ∧ ((45 : Nat) = (45 : Nat) ∧ (IntKind.u16 = IntKind.u16 ∧ j.snd.fst = x.snd.fst) ∧ (IntKind.u16 = IntKind.u16 ∧ j.snd.snd.fst = x.snd.snd.fst)
      ∧ (IntKind.u16 = IntKind.u16 ∧ bits BinOp.and IntKind.u16 (eI E a ((↑j.fst : Int).toNat * (3 : Nat) + (2 : Nat))) (50175 : Int) = x.snd.snd.snd.fst) ∧ (IntKind.u16 =
      IntKind.u16 ∧ j.snd.snd.snd.snd.fst = x.snd.snd.snd.snd.fst) ∧ j.snd.snd.snd.snd.snd = x.snd.snd.snd.snd.snd) ∧ True)) ∧ ((bits BinOp.and IntKind.u16 (bits BinOp.and
      IntKind.u16 (eI E a ((↑j.fst : Int).toNat * (3 : Nat) + (2 : Nat))) (50175 : Int)) (32768 : Int) == (0 : Int)) = false → ∃ (x : Nat × Int × Int × Int × Int × Bool), (x.fst
      ≤ n ∧ (0 : Int) ≤ x.snd.snd.fst ∧ x.snd.snd.fst < (16384 : Int)) ∧ mu4 E a n c mask x < mu4 E a n c mask j ∧ hd4 E = hd4 E ∧ (50 : Nat) = (50 : Nat) ∧ (C.es a n c = C.es a
      n c ∧ (IntKind.u16 = IntKind.u16 ∧ mask = mask) ∧ C.p (0 : Nat) (0 : Nat) = C.p (0 : Nat) (0 : Nat) ∧ C.es a n c = C.es a n c ∧ (IntKind.i64 = IntKind.i64 ∧ (↑n : Int) =
      (↑n : Int)) ∧ IntKind.i64 = IntKind.i64 ∧ IntKind.i64.wrap ((↑j.fst : Int) + (1 : Int)) = (↑x.fst : Int)) ∧ ((45 : Nat) = (45 : Nat) ∧ (IntKind.u16 = IntKind.u16 ∧
      j.snd.fst = x.snd.fst) ∧ (IntKind.u16 = IntKind.u16 ∧ j.snd.snd.fst = x.snd.snd.fst) ∧ (IntKind.u16 = IntKind.u16 ∧ bits BinOp.and IntKind.u16 (eI E a ((↑j.fst :
      Int).toNat * (3 : Nat) + (2 : Nat))) (50175 : Int) = x.snd.snd.snd.fst) ∧ (IntKind.u16 = IntKind.u16 ∧ j.snd.snd.snd.snd.fst = x.snd.snd.snd.snd.fst) ∧
      j.snd.snd.snd.snd.snd = x.snd.snd.snd.snd.snd) ∧ True)))) ∧ ((eI E a ((↑j.fst : Int).toNat * (3 : Nat) + (1 : Nat)) == (306 : Int)) = false → ((eI E a ((↑j.fst :
      Int).toNat * (3 : Nat) + (1 : Nat)) == (512 : Int)) = true → ∃ (x : Nat × Int × Int × Int × Int × Bool), (x.fst ≤ n ∧ (0 : Int) ≤ x.snd.snd.fst ∧ x.snd.snd.fst < (16384 :
      Int)) ∧ mu4 E a n c mask x < mu4 E a n c mask j ∧ hd4 E = hd4 E ∧ (50 : Nat) = (50 : Nat) ∧ (C.es a n c = C.es a n c ∧ (IntKind.u16 = IntKind.u16 ∧ mask = mask) ∧ C.p (0 :
      Nat) (0 : Nat) = C.p (0 : Nat) (0 : Nat) ∧ C.es a n c = C.es a n c ∧ (IntKind.i64 = IntKind.i64 ∧ (↑n : Int) = (↑n : Int)) ∧ IntKind.i64 = IntKind.i64 ∧ IntKind.i64.wrap
      ((↑j.fst : Int) + (1 : Int)) = (↑x.fst : Int)) ∧ ((45 : Nat) = (45 : Nat) ∧ (IntKind.u16 = IntKind.u16 ∧ bits BinOp.and IntKind.u16 (eI E a ((↑j.fst : Int).toNat * (3 :
      Nat) + (2 : Nat))) (16383 : Int) = x.snd.fst) ∧ (IntKind.u16 = IntKind.u16 ∧ j.snd.snd.fst = x.snd.snd.fst) ∧ (IntKind.u16 = IntKind.u16 ∧ j.snd.snd.snd.fst =
      x.snd.snd.snd.fst) ∧ (IntKind.u16 = IntKind.u16 ∧ j.snd.snd.snd.snd.fst = x.snd.snd.snd.snd.fst) ∧ j.snd.snd.snd.snd.snd = x.snd.snd.snd.snd.snd) ∧ True) ∧ ((eI E a
      ((↑j.fst : Int).toNat * (3 : Nat) + (1 : Nat)) == (512 : Int)) = false → ((eI E a ((↑j.fst : Int).toNat * (3 : Nat) + (1 : Nat)) == (514 : Int)) = true → ∃ (x : Nat × Int
      × Int × Int × Int × Bool), (x.fst ≤ n ∧ (0 : Int) ≤ x.snd.snd.fst ∧ x.snd.snd.fst < (16384 : Int)) ∧ mu4 E a n c mask x < mu4 E a n c mask j ∧ hd4 E = hd4 E ∧ (50 : Nat) =
      (50 : Nat) ∧ (C.es a n c = C.es a n c ∧ (IntKind.u16 = IntKind.u16 ∧ mask = mask) ∧ C.p (0 : Nat) (0 : Nat) = C.p (0 : Nat) (0 : Nat) ∧ C.es a n c = C.es a n c ∧
      (IntKind.i64 = IntKind.i64 ∧ (↑n : Int) = (↑n : Int)) ∧ IntKind.i64 = IntKind.i64 ∧ IntKind.i64.wrap ((↑j.fst : Int) + (1 : Int)) = (↑x.fst : Int)) ∧ ((45 : Nat) = (45 :
      Nat) ∧ (IntKind.u16 = IntKind.u16 ∧ j.snd.fst = x.snd.fst) ∧ (IntKind.u16 = IntKind.u16 ∧ bits BinOp.andNot IntKind.u16 j.snd.snd.fst (eI E a ((↑j.fst : Int).toNat * (3 :
      Nat) + (2 : Nat))) = x.snd.snd.fst) ∧ (IntKind.u16 = IntKind.u16 ∧ j.snd.snd.snd.fst = x.snd.snd.snd.fst) ∧ (IntKind.u16 = IntKind.u16 ∧ j.snd.snd.snd.snd.fst =
      x.snd.snd.snd.snd.fst) ∧ j.snd.snd.snd.snd.snd = x.snd.snd.snd.snd.snd) ∧ True) ∧ ((eI E a ((↑j.fst : Int).toNat * (3 : Nat) + (1 : Nat)) == (514 : Int)) = false → ((eI E
      a ((↑j.fst : Int).toNat * (3 : Nat) + (1 : Nat)) == (520 : Int)) = true → ∃ (x : Nat × Int × Int × Int × Int × Bool), (x.fst ≤ n ∧ (0 : Int) ≤ x.snd.snd.fst ∧
      x.snd.snd.fst < (16384 : Int)) ∧ mu4 E a n c mask x < mu4 E a n c mask j ∧ hd4 E = hd4 E ∧ (50 : Nat) = (50 : Nat) ∧ (C.es a n c = C.es a n c ∧ (IntKind.u16 = IntKind.u16
      ∧ mask = mask) ∧ C.p (0 : Nat) (0 : Nat) = C.p (0 : Nat) (0 : Nat) ∧ C.es a n c = C.es a n c ∧ (IntKind.i64 = IntKind.i64 ∧ (↑n : Int) = (↑n : Int)) ∧ IntKind.i64 =
      IntKind.i64 ∧ IntKind.i64.wrap ((↑j.fst : Int) + (1 : Int)) = (↑x.fst : Int)) ∧ ((45 : Nat) = (45 : Nat) ∧ (IntKind.u16 = IntKind.u16 ∧ j.snd.fst = x.snd.fst) ∧
      (IntKind.u16 = IntKind.u16 ∧ j.snd.snd.fst = x.snd.snd.fst) ∧ (IntKind.u16 = IntKind.u16 ∧ j.snd.snd.snd.fst = x.snd.snd.snd.fst) ∧ (IntKind.u16 = IntKind.u16 ∧
      j.snd.snd.snd.snd.fst = x.snd.snd.snd.snd.fst) ∧ (bits BinOp.and IntKind.u16 (eI E a ((↑j.fst : Int).toNat * (3 : Nat) + (2 : Nat))) (1 : Int) != (0 : Int)) =
      x.snd.snd.snd.snd.snd) ∧ True) ∧ ((eI E a ((↑j.fst : Int).toNat * (3 : Nat) + (1 : Nat)) == (520 : Int)) = false → ∃ (x : Nat × Int × Int × Int × Int × Bool), (x.fst ≤ n ∧
      (0 : Int) ≤ x.snd.snd.fst ∧ x.snd.snd.fst < (16384 : Int)) ∧ mu4 E a n c mask x < mu4 E a n c mask j ∧ hd4 E = hd4 E ∧ (50 : Nat) = (50 : Nat) ∧ (C.es a n c = C.es a n c ∧
      (IntKind.u16 = IntKind.u16 ∧ mask = mask) ∧ C.p (0 : Nat) (0 : Nat) = C.p (0 : Nat) (0 : Nat) ∧ C.es a n c = C.es a n c ∧ (IntKind.i64 = IntKind.i64 ∧ (↑n : Int) = (↑n :
      Int)) ∧ IntKind.i64 = IntKind.i64 ∧ IntKind.i64.wrap ((↑j.fst : Int) + (1 : Int)) = (↑x.fst : Int)) ∧ ((45 : Nat) = (45 : Nat) ∧ (IntKind.u16 = IntKind.u16 ∧ j.snd.fst =
      x.snd.fst) ∧ (IntKind.u16 = IntKind.u16 ∧ j.snd.snd.fst = x.snd.snd.fst) ∧ (IntKind.u16 = IntKind.u16 ∧ j.snd.snd.snd.fst = x.snd.snd.snd.fst) ∧ (IntKind.u16 = IntKind.u16
      ∧ j.snd.snd.snd.snd.fst = x.snd.snd.snd.snd.fst) ∧ j.snd.snd.snd.snd.snd = x.snd.snd.snd.snd.snd) ∧ True))))) ∧ ((eI E a ((↑j.fst : Int).toNat * (3 : Nat) + (0 : Nat)) ==
      (1 : Int)) = false → (decide (eI E a ((↑j.fst : Int).toNat * (3 : Nat) + (1 : Nat)) ≥ (0 : Int)) = true → (decide (eI E a ((↑j.fst : Int).toNat * (3 : Nat) + (1 : Nat)) <
      (14 : Int)) = true → decide ((0 : Int) ≤ eI E a ((↑j.fst : Int).toNat * (3 : Nat) + (1 : Nat))) = true ∧ ∃ (x : Nat × Int × Int × Int × Int × Bool), (x.fst ≤ n ∧ (0 : Int)
      ≤ x.snd.snd.fst ∧ x.snd.snd.fst < (16384 : Int)) ∧ mu4 E a n c mask x < mu4 E a n c mask j ∧ hd4 E = hd4 E ∧ (50 : Nat) = (50 : Nat) ∧ (C.es a n c = C.es a n c ∧
      (IntKind.u16 = IntKind.u16 ∧ mask = mask) ∧ C.p (0 : Nat) (0 : Nat) = C.p (0 : Nat) (0 : Nat) ∧ C.es a n c = C.es a n c ∧ (IntKind.i64 = IntKind.i64 ∧ (↑n : Int) = (↑n :
      Int)) ∧ IntKind.i64 = IntKind.i64 ∧ IntKind.i64.wrap ((↑j.fst : Int) + (1 : Int)) = (↑x.fst : Int)) ∧ ((45 : Nat) = (45 : Nat) ∧ (IntKind.u16 = IntKind.u16 ∧ j.snd.fst =
      x.snd.fst) ∧ (IntKind.u16 = IntKind.u16 ∧ bits BinOp.or IntKind.u16 j.snd.snd.fst (IntKind.u16.wrap ((1 : Int) * (2 : Int) ^ min (eI E a ((↑j.fst : Int).toNat * (3 : Nat)
      + (1 : Nat))).toNat (16 : Nat))) = x.snd.snd.fst) ∧ (IntKind.u16 = IntKind.u16 ∧ j.snd.snd.snd.fst = x.snd.snd.snd.fst) ∧ (IntKind.u16 = IntKind.u16 ∧
      j.snd.snd.snd.snd.fst = x.snd.snd.snd.snd.fst) ∧ j.snd.snd.snd.snd.snd = x.snd.snd.snd.snd.snd) ∧ True) ∧ (decide (eI E a ((↑j.fst : Int).toNat * (3 : Nat) + (1 : Nat)) <
      (14 : Int)) = false → ∃ (x : Nat × Int × Int × Int × Int × Bool), (x.fst ≤ n ∧ (0 : Int) ≤ x.snd.snd.fst ∧ x.snd.snd.fst < (16384 : Int)) ∧ mu4 E a n c mask x < mu4 E a n
      c mask j ∧ hd4 E = hd4 E ∧ (50 : Nat) = (50 : Nat) ∧ (C.es a n c = C.es a n c ∧ (IntKind.u16 = IntKind.u16 ∧ mask = mask) ∧ C.p (0 : Nat) (0 : Nat) = C.p (0 : Nat) (0 :
      Nat) ∧ C.es a n c = C.es a n c ∧ (IntKind.i64 = IntKind.i64 ∧ (↑n : Int) = (↑n : Int)) ∧ IntKind.i64 = IntKind.i64 ∧ IntKind.i64.wrap ((↑j.fst : Int) + (1 : Int)) =
      (↑x.fst : Int)) ∧ ((45 : Nat) = (45 : Nat) ∧ (IntKind.u16 = IntKind.u16 ∧ j.snd.fst = x.snd.fst) ∧ (IntKind.u16 = IntKind.u16 ∧ j.snd.snd.fst = x.snd.snd.fst) ∧
      (IntKind.u16 = IntKind.u16 ∧ j.snd.snd.snd.fst = x.snd.snd.snd.fst) ∧ (IntKind.u16 = IntKind.u16 ∧ j.snd.snd.snd.snd.fst = x.snd.snd.snd.snd.fst) ∧ j.snd.snd.snd.snd.snd =
      x.snd.snd.snd.snd.snd) ∧ True)) ∧ (decide (eI E a ((↑j.fst : Int).toNat * (3 : Nat) + (1 : Nat)) ≥ (0 : Int)) = false → ∃ (x : Nat × Int × Int × Int × Int × Bool), (x.fst
      ≤ n ∧ (0 : Int) ≤ x.snd.snd.fst ∧ x.snd.snd.fst < (16384 : Int)) ∧ mu4 E a n c mask x < mu4 E a n c mask j ∧ hd4 E = hd4 E ∧ (50 : Nat) = (50 : Nat) ∧ (C.es a n c = C.es a
      n c ∧ (IntKind.u16 = IntKind.u16 ∧ mask = mask) ∧ C.p (0 : Nat) (0 : Nat) = C.p (0 : Nat) (0 : Nat) ∧ C.es a n c = C.es a n c ∧ (IntKind.i64 = IntKind.i64 ∧ (↑n : Int) =
      (↑n : Int)) ∧ IntKind.i64 = IntKind.i64 ∧ IntKind.i64.wrap ((↑j.fst : Int) + (1 : Int)) = (↑x.fst : Int)) ∧ ((45 : Nat) = (45 : Nat) ∧ (IntKind.u16 = IntKind.u16 ∧
      j.snd.fst = x.snd.fst) ∧ (IntKind.u16 = IntKind.u16 ∧ j.snd.snd.fst = x.snd.snd.fst) ∧ (IntKind.u16 = IntKind.u16 ∧ j.snd.snd.snd.fst = x.snd.snd.snd.fst) ∧ (IntKind.u16 =
      IntKind.u16 ∧ j.snd.snd.snd.snd.fst = x.snd.snd.snd.snd.fst) ∧ j.snd.snd.snd.snd.snd = x.snd.snd.snd.snd.snd) ∧ True))) ∧ (decide ((↑j.fst : Int) < (↑n : Int)) = false →
      ((bits BinOp.andNot IntKind.u16 j.snd.snd.fst mask == bits BinOp.andNot IntKind.u16 j.snd.snd.fst mask) = true → decide (j.snd.snd.fst < (16384 : Int)) = true) ∧ ((bits
      BinOp.andNot IntKind.u16 j.snd.snd.fst mask == bits BinOp.andNot IntKind.u16 j.snd.snd.fst mask) = false → false = true))) := by kernel_rfl
end Go.Proofs.Ytnpngigighkegaa

