import Derived.Test.YtabklphoccicmaaXC
set_option linter.unusedVariables false
set_option linter.unusedSimpArgs false
namespace Go.Proofs.Ytabklphoccicmaa
open Go Go.Proofs Go.Proofs.Ytabklphoccicmaa.Ev Go.Proofs.Ytabklphoccicmaa.Ev.Ho
set_option maxRecDepth 100000
theorem turns_p (E : World) (z : PX) (a : Option Addr) (n m : Nat) (f t c k p : Int) (fast : Bool) :
    (hdP ([] : List MB).length [] (.c .b) (fun z y => y.b 90000 = true) z (fnTree (pe E) (orcT E) (tabL fns) 20000 Try.f8 [.a [.es a n m, .i false .u32 f, .i false .u32 t, .i false .u32 c, .b false fast, .i false .i64 k, .i false .u32 p]] (mkM z [] [] 0))) =
    ((decide ((↑n : Int) > (10000 : Int)) = true → ([] : SW) = [] ∧ True ∧ true = true) ∧ (decide ((↑n : Int) > (10000 : Int)) = false → (([] : SW) = [] ∧ n ≤ (10000 : Nat) ∧
      eRows E a n (1 : Nat) [EK.i IntKind.u8] = true) ∧ ∀ (y : PX), (((0 : Int) ≤ y.n (1 : Nat) ∧ (0 : Int) ≤ y.n (2 : Nat) ∧ True) ∧ ((0 : Int) ≤ y.n (100001 : Nat) ∧ (0 : Int)
      ≤ y.n (100002 : Nat) ∧ True) ∧ (flat [Sp.r IntKind.u8 (0 : Int) (255 : Int)] = true ∧ Row [Sp.r IntKind.u8 (0 : Int) (255 : Int)] (y.l (2 : Nat))) ∧ (flat [Sp.i
      IntKind.u32, Sp.i IntKind.i64, Sp.i IntKind.u32] = true ∧ Row [Sp.i IntKind.u32, Sp.i IntKind.i64, Sp.i IntKind.u32] (y.l (3 : Nat))) ∧ (flat [Sp.r IntKind.u8 (0 : Int)
      (255 : Int)] = true ∧ Row [Sp.r IntKind.u8 (0 : Int) (255 : Int)] (y.l (4 : Nat))) ∧ (flat [Sp.i IntKind.u32, Sp.i IntKind.i64, Sp.i IntKind.u32] = true ∧ Row [Sp.i
      IntKind.u32, Sp.i IntKind.i64, Sp.i IntKind.u32] (y.l (5 : Nat))) ∧ True) ∧ True ∧ (Mm.mk (y.n (0 : Nat)) (y.n (1 : Nat)) (y.n (2 : Nat)) (y.l (2 : Nat)) (y.l (3 : Nat)) =
      Mm.mk (y.n (100000 : Nat)) (y.n (100001 : Nat)) (y.n (100002 : Nat)) (y.l (4 : Nat)) (y.l (5 : Nat)) ∧ okM (Mm.mk (y.n (0 : Nat)) (y.n (1 : Nat)) (y.n (2 : Nat)) (y.l (2 :
      Nat)) (y.l (3 : Nat)))) ∧ y.n (2 : Nat) = (0 : Int) → (((44 : Nat) = (44 : Nat) ∧ True ∧ (5 : Nat) = (5 : Nat) ∧ (flat [Sp.r IntKind.u8 (0 : Int) (255 : Int)] = true ∧ Row
      [Sp.r IntKind.u8 (0 : Int) (255 : Int)] (y.l (2 : Nat))) ∧ (59 : Nat) = (59 : Nat) ∧ (flat [Sp.i IntKind.u32, Sp.i IntKind.i64, Sp.i IntKind.u32] = true ∧ Row [Sp.i
      IntKind.u32, Sp.i IntKind.i64, Sp.i IntKind.u32] (y.l (3 : Nat))) ∧ ([] : SW) = []) ∧ okM (Mm.mk (y.n (0 : Nat)) (↑(y.n (1 : Nat)).toNat : Int) (↑(y.n (2 : Nat)).toNat :
      Int) (y.l (2 : Nat)) (y.l (3 : Nat))) ∧ (↑(y.n (2 : Nat)).toNat : Int) ≤ (100000 : Int) ∧ ((0 : Int) ≤ f ∧ f ≤ (4294967295 : Int)) ∧ (0 : Int) ≤ t ∧ t ≤ (4294967295 :
      Int)) ∧ ∀ (y_1 : PX), (((0 : Int) ≤ y_1.n (1 : Nat) ∧ (0 : Int) ≤ y_1.n (2 : Nat) ∧ True) ∧ (flat [Sp.r IntKind.u8 (0 : Int) (255 : Int)] = true ∧ Row [Sp.r IntKind.u8 (0
      : Int) (255 : Int)] (y_1.l (1 : Nat))) ∧ (flat [Sp.i IntKind.u32, Sp.i IntKind.i64, Sp.i IntKind.u32] = true ∧ Row [Sp.i IntKind.u32, Sp.i IntKind.i64, Sp.i IntKind.u32]
      (y_1.l (3 : Nat))) ∧ True) ∧ (((0 : Int) ≤ y_1.n (90000 : Nat) ∧ y_1.n (90000 : Nat) ≤ (256 : Int)) ∧ True) ∧ (Mm.mk (y_1.n (0 : Nat)) (y_1.n (1 : Nat)) (y_1.n (2 : Nat))
      (y_1.l (1 : Nat)) (y_1.l (3 : Nat)) = bgF E (clN k).toNat f t (Mm.mk (y.n (0 : Nat)) (↑(y.n (1 : Nat)).toNat : Int) (↑(y.n (2 : Nat)).toNat : Int) (y.l (2 : Nat)) (y.l (3
      : Nat))) ∧ y_1.n (90000 : Nat) = clN k) ∧ okM (Mm.mk (y_1.n (0 : Nat)) (y_1.n (1 : Nat)) (y_1.n (2 : Nat)) (y_1.l (1 : Nat)) (y_1.l (3 : Nat))) ∧ y_1.n (2 : Nat) = (↑(y.n
      (2 : Nat)).toNat : Int) + (6 : Int) * clN k → decide (a = a) = true ∧ decide (n = n) = true ∧ decide (m = m) = true ∧ decide (f = f) = true ∧ decide (t = t) = true ∧
      decide (c = c) = true ∧ decide (fast = fast) = true ∧ decide (k = k) = true ∧ decide (p = p) = true ∧ (((44 : Nat) = (44 : Nat) ∧ True ∧ (5 : Nat) = (5 : Nat) ∧ (flat
      [Sp.r IntKind.u8 (0 : Int) (255 : Int)] = true ∧ Row [Sp.r IntKind.u8 (0 : Int) (255 : Int)] (y.l (4 : Nat))) ∧ (59 : Nat) = (59 : Nat) ∧ (flat [Sp.i IntKind.u32, Sp.i
      IntKind.i64, Sp.i IntKind.u32] = true ∧ Row [Sp.i IntKind.u32, Sp.i IntKind.i64, Sp.i IntKind.u32] (y.l (5 : Nat))) ∧ ([] : SW) = []) ∧ okM (Mm.mk (y.n (100000 : Nat))
      (↑(y.n (100001 : Nat)).toNat : Int) (↑(y.n (100002 : Nat)).toNat : Int) (y.l (4 : Nat)) (y.l (5 : Nat))) ∧ (↑(y.n (100002 : Nat)).toNat : Int) ≤ (100000 : Int) ∧ ((0 :
      Int) ≤ f ∧ f ≤ (4294967295 : Int)) ∧ (0 : Int) ≤ t ∧ t ≤ (4294967295 : Int)) ∧ ∀ (y_2 : PX), (((0 : Int) ≤ y_2.n (1 : Nat) ∧ (0 : Int) ≤ y_2.n (2 : Nat) ∧ True) ∧ (flat
      [Sp.r IntKind.u8 (0 : Int) (255 : Int)] = true ∧ Row [Sp.r IntKind.u8 (0 : Int) (255 : Int)] (y_2.l (1 : Nat))) ∧ (flat [Sp.i IntKind.u32, Sp.i IntKind.i64, Sp.i
      IntKind.u32] = true ∧ Row [Sp.i IntKind.u32, Sp.i IntKind.i64, Sp.i IntKind.u32] (y_2.l (3 : Nat))) ∧ True) ∧ (((0 : Int) ≤ y_2.n (90000 : Nat) ∧ y_2.n (90000 : Nat) ≤
      (256 : Int)) ∧ True) ∧ (Mm.mk (y_2.n (0 : Nat)) (y_2.n (1 : Nat)) (y_2.n (2 : Nat)) (y_2.l (1 : Nat)) (y_2.l (3 : Nat)) = bgF E (clN k).toNat f t (Mm.mk (y.n (100000 :
      Nat)) (↑(y.n (100001 : Nat)).toNat : Int) (↑(y.n (100002 : Nat)).toNat : Int) (y.l (4 : Nat)) (y.l (5 : Nat))) ∧ y_2.n (90000 : Nat) = clN k) ∧ okM (Mm.mk (y_2.n (0 :
      Nat)) (y_2.n (1 : Nat)) (y_2.n (2 : Nat)) (y_2.l (1 : Nat)) (y_2.l (3 : Nat))) ∧ y_2.n (2 : Nat) = (↑(y.n (100002 : Nat)).toNat : Int) + (6 : Int) * clN k → decide (a = a)
      = true ∧ decide (n = n) = true ∧ decide (m = m) = true ∧ decide (f = f) = true ∧ decide (t = t) = true ∧ decide (c = c) = true ∧ decide (fast = fast) = true ∧ decide (k =
      k) = true ∧ decide (p = p) = true ∧ ((y_1.n (90000 : Nat) != y_2.n (90000 : Nat)) = true → ([] : SW) = [] ∧ True ∧ false = true) ∧ ((y_1.n (90000 : Nat) != y_2.n (90000 :
      Nat)) = false → (((59 : Nat) = (59 : Nat) ∧ (flat [Sp.i IntKind.u32, Sp.i IntKind.i64, Sp.i IntKind.u32] = true ∧ Row [Sp.i IntKind.u32, Sp.i IntKind.i64, Sp.i
      IntKind.u32] (y_1.l (3 : Nat))) ∧ (59 : Nat) = (59 : Nat) ∧ (flat [Sp.i IntKind.u32, Sp.i IntKind.i64, Sp.i IntKind.u32] = true ∧ Row [Sp.i IntKind.u32, Sp.i IntKind.i64,
      Sp.i IntKind.u32] (y_2.l (3 : Nat))) ∧ ([] : SW) = []) ∧ ((y_1.n (2 : Nat)).toNat = (y_2.n (2 : Nat)).toNat ∧ EqL (y_1.l (3 : Nat)) (y_2.l (3 : Nat))) ∧ (y_1.l (3 :
      Nat)).length = (y_1.n (2 : Nat)).toNat * (3 : Nat) ∧ (y_1.n (2 : Nat)).toNat ≤ (1000000 : Nat)) ∧ ∀ (y : PX), ((flat [Sp.i IntKind.u32, Sp.i IntKind.i64, Sp.i IntKind.u32]
      = true ∧ Row [Sp.i IntKind.u32, Sp.i IntKind.i64, Sp.i IntKind.u32] (y.l (0 : Nat))) ∧ (flat [Sp.i IntKind.u32, Sp.i IntKind.i64, Sp.i IntKind.u32] = true ∧ Row [Sp.i
      IntKind.u32, Sp.i IntKind.i64, Sp.i IntKind.u32] (y.l (1 : Nat))) ∧ True) ∧ True ∧ y.b (90000 : Nat) = true → ((!y.b (90000 : Nat)) = true → ([] : SW) = [] ∧ True ∧ false
      = true) ∧ ((!y.b (90000 : Nat)) = false → (([] : SW) = [] ∧ n ≤ (10000 : Nat) ∧ eRows E a n (1 : Nat) [EK.i IntKind.u8] = true) ∧ ∀ (y : PX), (((0 : Int) ≤ y.n (1 : Nat) ∧
      (0 : Int) ≤ y.n (2 : Nat) ∧ True) ∧ ((0 : Int) ≤ y.n (100001 : Nat) ∧ (0 : Int) ≤ y.n (100002 : Nat) ∧ True) ∧ (flat [Sp.r IntKind.u8 (0 : Int) (255 : Int)] = true ∧ Row
      [Sp.r IntKind.u8 (0 : Int) (255 : Int)] (y.l (2 : Nat))) ∧ (flat [Sp.i IntKind.u32, Sp.i IntKind.i64, Sp.i IntKind.u32] = true ∧ Row [Sp.i IntKind.u32, Sp.i IntKind.i64,
      Sp.i IntKind.u32] (y.l (3 : Nat))) ∧ (flat [Sp.r IntKind.u8 (0 : Int) (255 : Int)] = true ∧ Row [Sp.r IntKind.u8 (0 : Int) (255 : Int)] (y.l (4 : Nat))) ∧ (flat [Sp.i
      IntKind.u32, Sp.i IntKind.i64, Sp.i IntKind.u32] = true ∧ Row [Sp.i IntKind.u32, Sp.i IntKind.i64, Sp.i IntKind.u32] (y.l (5 : Nat))) ∧ True) ∧ True ∧ (Mm.mk (y.n (0 :
      Nat)) (y.n (1 : Nat)) (y.n (2 : Nat)) (y.l (2 : Nat)) (y.l (3 : Nat)) = Mm.mk (y.n (100000 : Nat)) (y.n (100001 : Nat)) (y.n (100002 : Nat)) (y.l (4 : Nat)) (y.l (5 :
      Nat)) ∧ okM (Mm.mk (y.n (0 : Nat)) (y.n (1 : Nat)) (y.n (2 : Nat)) (y.l (2 : Nat)) (y.l (3 : Nat)))) ∧ y.n (2 : Nat) = (0 : Int) → (((44 : Nat) = (44 : Nat) ∧ True ∧ (5 :
      Nat) = (5 : Nat) ∧ (flat [Sp.r IntKind.u8 (0 : Int) (255 : Int)] = true ∧ Row [Sp.r IntKind.u8 (0 : Int) (255 : Int)] (y.l (2 : Nat))) ∧ (59 : Nat) = (59 : Nat) ∧ (flat
      [Sp.i IntKind.u32, Sp.i IntKind.i64, Sp.i IntKind.u32] = true ∧ Row [Sp.i IntKind.u32, Sp.i IntKind.i64, Sp.i IntKind.u32] (y.l (3 : Nat))) ∧ ([] : SW) = []) ∧ okM (Mm.mk
      (y.n (0 : Nat)) (↑(y.n (1 : Nat)).toNat : Int) (↑(y.n (2 : Nat)).toNat : Int) (y.l (2 : Nat)) (y.l (3 : Nat))) ∧ (↑(y.n (2 : Nat)).toNat : Int) ≤ (100000 : Int) ∧ ((0 :
      Int) ≤ f ∧ f ≤ (4294967295 : Int)) ∧ ((0 : Int) ≤ t ∧ t ≤ (4294967295 : Int)) ∧ (0 : Int) ≤ p ∧ p ≤ (4294967295 : Int)) ∧ ∀ (y_3 : PX), (((0 : Int) ≤ y_3.n (1 : Nat) ∧ (0
      : Int) ≤ y_3.n (2 : Nat) ∧ True) ∧ (flat [Sp.r IntKind.u8 (0 : Int) (255 : Int)] = true ∧ Row [Sp.r IntKind.u8 (0 : Int) (255 : Int)] (y_3.l (1 : Nat))) ∧ (flat [Sp.i
      IntKind.u32, Sp.i IntKind.i64, Sp.i IntKind.u32] = true ∧ Row [Sp.i IntKind.u32, Sp.i IntKind.i64, Sp.i IntKind.u32] (y_3.l (3 : Nat))) ∧ True) ∧ (((0 : Int) ≤ y_3.n
      (90000 : Nat) ∧ y_3.n (90000 : Nat) ≤ (256 : Int)) ∧ True) ∧ (Mm.mk (y_3.n (0 : Nat)) (y_3.n (1 : Nat)) (y_3.n (2 : Nat)) (y_3.l (1 : Nat)) (y_3.l (3 : Nat)) = obF E p
      (clN k).toNat f t (Mm.mk (y.n (0 : Nat)) (↑(y.n (1 : Nat)).toNat : Int) (↑(y.n (2 : Nat)).toNat : Int) (y.l (2 : Nat)) (y.l (3 : Nat))) ∧ y_3.n (90000 : Nat) = clN k) ∧
      okM (Mm.mk (y_3.n (0 : Nat)) (y_3.n (1 : Nat)) (y_3.n (2 : Nat)) (y_3.l (1 : Nat)) (y_3.l (3 : Nat))) ∧ y_3.n (2 : Nat) = (↑(y.n (2 : Nat)).toNat : Int) + (4 : Int) * clN
      k → decide (a = a) = true ∧ decide (n = n) = true ∧ decide (m = m) = true ∧ decide (f = f) = true ∧ decide (t = t) = true ∧ decide (c = c) = true ∧ decide (fast = fast) =
      true ∧ decide (k = k) = true ∧ decide (p = p) = true ∧ (((44 : Nat) = (44 : Nat) ∧ True ∧ (5 : Nat) = (5 : Nat) ∧ (flat [Sp.r IntKind.u8 (0 : Int) (255 : Int)] = true ∧
      Row [Sp.r IntKind.u8 (0 : Int) (255 : Int)] (y.l (4 : Nat))) ∧ (59 : Nat) = (59 : Nat) ∧ (flat [Sp.i IntKind.u32, Sp.i IntKind.i64, Sp.i IntKind.u32] = true ∧ Row [Sp.i
      IntKind.u32, Sp.i IntKind.i64, Sp.i IntKind.u32] (y.l (5 : Nat))) ∧ ([] : SW) = []) ∧ okM (Mm.mk (y.n (100000 : Nat)) (↑(y.n (100001 : Nat)).toNat : Int) (↑(y.n (100002 :
      Nat)).toNat : Int) (y.l (4 : Nat)) (y.l (5 : Nat))) ∧ (↑(y.n (100002 : Nat)).toNat : Int) ≤ (100000 : Int) ∧ ((0 : Int) ≤ f ∧ f ≤ (4294967295 : Int)) ∧ ((0 : Int) ≤ t ∧ t
      ≤ (4294967295 : Int)) ∧ (0 : Int) ≤ p ∧ p ≤ (4294967295 : Int)) ∧ ∀ (y_4 : PX), (((0 : Int) ≤ y_4.n (1 : Nat) ∧ (0 : Int) ≤ y_4.n (2 : Nat) ∧ True) ∧ (flat [Sp.r
      IntKind.u8 (0 : Int) (255 : Int)] = true ∧ Row [Sp.r IntKind.u8 (0 : Int) (255 : Int)] (y_4.l (1 : Nat))) ∧ (flat [Sp.i IntKind.u32, Sp.i IntKind.i64, Sp.i IntKind.u32] =
      true ∧ Row [Sp.i IntKind.u32, Sp.i IntKind.i64, Sp.i IntKind.u32] (y_4.l (3 : Nat))) ∧ True) ∧ (((0 : Int) ≤ y_4.n (90000 : Nat) ∧ y_4.n (90000 : Nat) ≤ (256 : Int)) ∧
      True) ∧ (Mm.mk (y_4.n (0 : Nat)) (y_4.n (1 : Nat)) (y_4.n (2 : Nat)) (y_4.l (1 : Nat)) (y_4.l (3 : Nat)) = obF E p (clN k).toNat f t (Mm.mk (y.n (100000 : Nat)) (↑(y.n
      (100001 : Nat)).toNat : Int) (↑(y.n (100002 : Nat)).toNat : Int) (y.l (4 : Nat)) (y.l (5 : Nat))) ∧ y_4.n (90000 : Nat) = clN k) ∧ okM (Mm.mk (y_4.n (0 : Nat)) (y_4.n (1 :
      Nat)) (y_4.n (2 : Nat)) (y_4.l (1 : Nat)) (y_4.l (3 : Nat))) ∧ y_4.n (2 : Nat) = (↑(y.n (100002 : Nat)).toNat : Int) + (4 : Int) * clN k → decide (a = a) = true ∧ decide
      (n = n) = true ∧ decide (m = m) = true ∧ decide (f = f) = true ∧ decide (t = t) = true ∧ decide (c = c) = true ∧ decide (fast = fast) = true ∧ decide (k = k) = true ∧
      decide (p = p) = true ∧ ((y_3.n (90000 : Nat) == y_4.n (90000 : Nat)) = true → (((59 : Nat) = (59 : Nat) ∧ (flat [Sp.i IntKind.u32, Sp.i IntKind.i64, Sp.i IntKind.u32] =
      true ∧ Row [Sp.i IntKind.u32, Sp.i IntKind.i64, Sp.i IntKind.u32] (y_3.l (3 : Nat))) ∧ (59 : Nat) = (59 : Nat) ∧ (flat [Sp.i IntKind.u32, Sp.i IntKind.i64, Sp.i
      IntKind.u32] = true ∧ Row [Sp.i IntKind.u32, Sp.i IntKind.i64, Sp.i IntKind.u32] (y_4.l (3 : Nat))) ∧ ([] : SW) = []) ∧ ((y_3.n (2 : Nat)).toNat = (y_4.n (2 : Nat)).toNat
      ∧ EqL (y_3.l (3 : Nat)) (y_4.l (3 : Nat))) ∧ (y_3.l (3 : Nat)).length = (y_3.n (2 : Nat)).toNat * (3 : Nat) ∧ (y_3.n (2 : Nat)).toNat ≤ (1000000 : Nat)) ∧ ∀ (y : PX),
      ((flat [Sp.i IntKind.u32, Sp.i IntKind.i64, Sp.i IntKind.u32] = true ∧ Row [Sp.i IntKind.u32, Sp.i IntKind.i64, Sp.i IntKind.u32] (y.l (0 : Nat))) ∧ (flat [Sp.i
      IntKind.u32, Sp.i IntKind.i64, Sp.i IntKind.u32] = true ∧ Row [Sp.i IntKind.u32, Sp.i IntKind.i64, Sp.i IntKind.u32] (y.l (1 : Nat))) ∧ True) ∧ True ∧ y.b (90000 : Nat) =
      true → (y.b (90000 : Nat) = true → ([] : SW) = [] ∧ True ∧ true = true) ∧ (y.b (90000 : Nat) = false → ([] : SW) = [] ∧ True ∧ false = true)) ∧ ((y_3.n (90000 : Nat) ==
      y_4.n (90000 : Nat)) = false → ([] : SW) = [] ∧ True ∧ false = true))))) := by kernel_rfl
set_option maxHeartbeats 8000000 in
theorem turns_c (E : World) (a : Option Addr) (n m : Nat) (f t c k p : Int) (fast : Bool) (z : PX) (hz : rgM z [] 0) (hp : (fun _ => eRows E a n 1 [.i .u8] = true ∧ (0 ≤ f ∧ f ≤ 4294967295) ∧ (0 ≤ t ∧ t ≤ 4294967295) ∧ (0 ≤ p ∧ p ≤ 4294967295)) z) : HD (pe E) 8 [.a [.es a n m, .i false .u32 f, .i false .u32 t, .i false .u32 c, .b false fast, .i false .i64 k, .i false .u32 p]] [] [] (.c .b) (fun z y => y.b 90000 = true) z := by
  refine HD.mk (by rfl) (fnTree_sound (P := pe E) orcT_ok tab_ok tab_sz mixed 20000 Try.func8 (by decide) [.a [.es a n m, .i false .u32 f, .i false .u32 t, .i false .u32 c, .b false fast, .i false .i64 k, .i false .u32 p]] _) ⟨?_⟩
  rw [turns_p]
  obtain ⟨hr, hf0, ht0, hp0⟩ := hp
  have hf1 : flat [Sp.r .u8 0 255] = true := rfl
  have hf2 : flat [Sp.i .u32, Sp.i .i64, Sp.i .u32] = true := rfl
  have hcb := cl_bd k
  refine ⟨fun _ => ⟨rfl, trivial, rfl⟩, fun hn => ?_⟩
  have hn := of_decide_eq_false hn
  refine ⟨⟨rfl, by omega, hr⟩, ?_⟩
  rintro y ⟨⟨⟨p1, p2, _⟩, ⟨s1, s2, _⟩, ⟨_, r2⟩, ⟨_, r3⟩, ⟨_, r4⟩, ⟨_, r5⟩, _⟩, _, ⟨hM, hK⟩, h0⟩
  have T1y1 : ((y.n 1).toNat : Int) = y.n 1 := Int.toNat_of_nonneg (by assumption)
  have T2y1 : ((y.n 2).toNat : Int) = y.n 2 := Int.toNat_of_nonneg (by assumption)
  have T3y1 : ((y.n 100001).toNat : Int) = y.n 100001 := Int.toNat_of_nonneg (by assumption)
  have T4y1 : ((y.n 100002).toNat : Int) = y.n 100002 := Int.toNat_of_nonneg (by assumption)
  have hK2 : okM (Mm.mk (y.n 100000) (y.n 100001) (y.n 100002) (y.l 4) (y.l 5)) := by rw [← hM]; exact hK
  have h02 : y.n 100002 = 0 := by rw [← h0]; exact (congrArg Mm.nn hM).symm
  simp only [T1y1, T2y1, T3y1, T4y1]
  refine ⟨by ((repeat' (first | exact trivial | with_reducible rfl | assumption | exact rfl | apply And.intro)) <;> omega), ?_⟩
  rintro y1 ⟨⟨⟨a1, a2, _⟩, ⟨_, a3⟩, ⟨_, a4⟩, _⟩, _, ⟨hq1, hq2⟩, hk1, hn1⟩
  repeat (refine ⟨decide_eq_true trivial, ?_⟩)
  refine ⟨by ((repeat' (first | exact trivial | with_reducible rfl | assumption | exact rfl | apply And.intro)) <;> omega), ?_⟩
  rintro y2 ⟨⟨⟨b1, b2, _⟩, ⟨_, b3⟩, ⟨_, b4⟩, _⟩, _, ⟨hv1, hv2⟩, hk2, hn2⟩
  have hE : (Mm.mk (y1.n 0) (y1.n 1) (y1.n 2) (y1.l 1) (y1.l 3)) = (Mm.mk (y2.n 0) (y2.n 1) (y2.n 2) (y2.l 1) (y2.l 3)) := by rw [hq1, hv1, hM]
  have e2 : y1.n 2 = y2.n 2 := congrArg Mm.nn hE
  have e5 : EqL (y1.l 3) (y2.l 3) := ⟨congrArg Mm.n hE⟩
  have hl : (y1.l 3).length = (y1.n 2).toNat * 3 := hk1.nl
  have hm : y1.n 2 ≤ 1000000 := hk1.n1
  have hb : (y1.n 90000 == y2.n 90000) = true := by rw [hq2, hv2]; exact beq_self_eq_true _
  have hb2 : (y1.n 90000 != y2.n 90000) = false := by rw [hq2, hv2]; exact bne_self_eq_false _
  have e6 : (y1.n 2).toNat = (y2.n 2).toNat := by rw [e2]
  repeat (refine ⟨decide_eq_true trivial, ?_⟩)
  refine ⟨fun h => (by rw [hb2] at h; cases h), fun _ => ⟨by ((repeat' (first | exact trivial | with_reducible rfl | assumption | exact rfl | apply And.intro)) <;> omega), ?_⟩⟩
  rintro x1 ⟨_, _, hx1⟩
  refine ⟨fun h => (by rw [hx1] at h; cases h), fun _ => ⟨⟨by trivial, by omega, hr⟩, ?_⟩⟩
  clear hM hK h0 hK2 h02 hq1 hq2 hk1 hn1 hv1 hv2 hk2 hn2 hE e2 e5 hl hm hb hb2 e6
  rintro w ⟨⟨⟨p1, p2, _⟩, ⟨s1, s2, _⟩, ⟨_, r2⟩, ⟨_, r3⟩, ⟨_, r4⟩, ⟨_, r5⟩, _⟩, _, ⟨hM, hK⟩, h0⟩
  have T1y3 : ((w.n 1).toNat : Int) = w.n 1 := Int.toNat_of_nonneg (by assumption)
  have T2y3 : ((w.n 2).toNat : Int) = w.n 2 := Int.toNat_of_nonneg (by assumption)
  have T3y3 : ((w.n 100001).toNat : Int) = w.n 100001 := Int.toNat_of_nonneg (by assumption)
  have T4y3 : ((w.n 100002).toNat : Int) = w.n 100002 := Int.toNat_of_nonneg (by assumption)
  have hK2 : okM (Mm.mk (w.n 100000) (w.n 100001) (w.n 100002) (w.l 4) (w.l 5)) := by rw [← hM]; exact hK
  have h02 : w.n 100002 = 0 := by rw [← h0]; exact (congrArg Mm.nn hM).symm
  simp only [T1y3, T2y3, T3y3, T4y3]
  refine ⟨by ((repeat' (first | exact trivial | with_reducible rfl | assumption | exact rfl | apply And.intro)) <;> omega), ?_⟩
  rintro y3 ⟨⟨⟨a1, a2, _⟩, ⟨_, a3⟩, ⟨_, a4⟩, _⟩, _, ⟨hq1, hq2⟩, hk1, hn1⟩
  repeat (refine ⟨decide_eq_true trivial, ?_⟩)
  refine ⟨by ((repeat' (first | exact trivial | with_reducible rfl | assumption | exact rfl | apply And.intro)) <;> omega), ?_⟩
  rintro y4 ⟨⟨⟨b1, b2, _⟩, ⟨_, b3⟩, ⟨_, b4⟩, _⟩, _, ⟨hv1, hv2⟩, hk2, hn2⟩
  have hE : (Mm.mk (y3.n 0) (y3.n 1) (y3.n 2) (y3.l 1) (y3.l 3)) = (Mm.mk (y4.n 0) (y4.n 1) (y4.n 2) (y4.l 1) (y4.l 3)) := by rw [hq1, hv1, hM]
  have e2 : y3.n 2 = y4.n 2 := congrArg Mm.nn hE
  have e5 : EqL (y3.l 3) (y4.l 3) := ⟨congrArg Mm.n hE⟩
  have hl : (y3.l 3).length = (y3.n 2).toNat * 3 := hk1.nl
  have hm : y3.n 2 ≤ 1000000 := hk1.n1
  have hb : (y3.n 90000 == y4.n 90000) = true := by rw [hq2, hv2]; exact beq_self_eq_true _
  have hb2 : (y3.n 90000 != y4.n 90000) = false := by rw [hq2, hv2]; exact bne_self_eq_false _
  have e6 : (y3.n 2).toNat = (y4.n 2).toNat := by rw [e2]
  repeat (refine ⟨decide_eq_true trivial, ?_⟩)
  refine ⟨fun _ => ⟨by ((repeat' (first | exact trivial | with_reducible rfl | assumption | exact rfl | apply And.intro)) <;> omega), ?_⟩, fun h => (by rw [hb] at h; cases h)⟩
  rintro x2 ⟨_, _, hx2⟩
  exact ⟨fun _ => ⟨by trivial, by trivial, by trivial⟩, fun h => (by rw [hx2] at h; cases h)⟩
end Go.Proofs.Ytabklphoccicmaa

