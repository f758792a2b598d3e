import Derived.Test.YtnfmkfmgaohpfaaDoorSTl
set_option linter.unusedVariables false
set_option linter.unusedSimpArgs false
namespace Go.Proofs.YtnfmkfmgaohpfaaDoor
open Go Go.Proofs Go.Proofs.YtnfmkfmgaohpfaaDoor.Ev Go.Proofs.YtnfmkfmgaohpfaaDoor.Ev.Ho
set_option maxRecDepth 100000
noncomputable def rap_h0 (E : World) (m : ByteArray) (k a : Int) (d : ByteArray) (z : PX) : Hd := ⟨4, anyH, (t21_td E), [(0, .q (.str false m)), (3, .c (.p 0 0)), (6, .i .i64), (7, .q (.rs 1 1 m.size)), (8, .r .i64 (0) (140737488351232))], [xC k a d, rowB], fun y => RH E m k a d (y.n 91006) (y.l 1) (y.n 91008), fun y => ((m.size : Int) - y.n 91008).toNat⟩
noncomputable def rap_hs (E : World) (m : ByteArray) (k a : Int) (d : ByteArray) (z : PX) : List Hd := [rap_h0 E m k a d z]
theorem rap_pro (E : World) (m : ByteArray) (k a : Int) (d : ByteArray) (z : PX) :
    (loopP (pe E) Tryd.f21 (endR ([] : List MB).length [] (.t [.s, .i .i64]) (fun z y => ApQ E m k a d (y.s 90000) (y.n 90001)) z) (headR ([] : List MB).length Tryd.f21.ntmps none (rap_hs E m k a d z)) (run (pe E) (orcC E) (tabL fns) 20000 (2 ^ 200 - 1) [.code (Tryd.f21.body.getD .skip)] ⟨Tryd.f21.ntmps, mkFrGo (Tr.mk 12) 0 [.c (.str false m), .a [.i false .i64 k, .i false .i64 a, .str false d]]⟩ (mkM z [] [] 0))) =
    ((([] : SW) = [] ∧ True) ∧ ∀ (y : PX), True ∧ True ∧ y.b (90000 : Nat) = vlF k a d → ((!y.b (90000 : Nat)) = true → ([] : SW) = [] ∧ True ∧ ApQ E m k a d (ByteArray.mk #[])
      (1 : Int)) ∧ ((!y.b (90000 : Nat)) = false → ((k == (2 : Int)) = true → ((k != (3 : Int)) = true → (decide (a > IntKind.i64.wrap ((↑m.size : Int) - (4096 : Int))) = true →
      ([] : SW) = [] ∧ True ∧ ApQ E m k a d (ByteArray.mk #[]) (1 : Int)) ∧ (decide (a > IntKind.i64.wrap ((↑m.size : Int) - (4096 : Int))) = false → t21_td E = t21_td E ∧ (91 :
      Nat) = (91 : Nat) ∧ ((renC (posN [(0 : Nat), (1 : Nat)]) (C.str false m) = C.str false m ∧ True) ∧ True ∧ True ∧ (renC (posN [(0 : Nat), (1 : Nat)]) (C.rs (1 : Nat) (1 :
      Nat) m.size) = C.rs (1 : Nat) (1 : Nat) m.size ∧ True) ∧ (((0 : Int) ≤ (0 : Int) ∧ (0 : Int) ≤ (140737488351232 : Int)) ∧ True) ∧ True) ∧ ((36 : Nat) = (36 : Nat) ∧ (C.i
      false IntKind.i64 k = C.i false IntKind.i64 k ∧ C.i false IntKind.i64 a = C.i false IntKind.i64 a ∧ C.str false d = C.str false d ∧ True) ∧ (5 : Nat) = (5 : Nat) ∧ (flat
      [Sp.r IntKind.u8 (0 : Int) (255 : Int)] = true ∧ Row [Sp.r IntKind.u8 (0 : Int) (255 : Int)] (rOf m)) ∧ ([] : SW) = []) ∧ RH E m k a d (4096 : Int) (rOf m) (0 : Int) ∧
      True)) ∧ ((k != (3 : Int)) = false → t21_td E = t21_td E ∧ (91 : Nat) = (91 : Nat) ∧ ((renC (posN [(0 : Nat), (1 : Nat)]) (C.str false m) = C.str false m ∧ True) ∧ True ∧
      True ∧ (renC (posN [(0 : Nat), (1 : Nat)]) (C.rs (1 : Nat) (1 : Nat) m.size) = C.rs (1 : Nat) (1 : Nat) m.size ∧ True) ∧ (((0 : Int) ≤ (0 : Int) ∧ (0 : Int) ≤
      (140737488351232 : Int)) ∧ True) ∧ True) ∧ ((36 : Nat) = (36 : Nat) ∧ (C.i false IntKind.i64 k = C.i false IntKind.i64 k ∧ C.i false IntKind.i64 a = C.i false IntKind.i64
      a ∧ C.str false d = C.str false d ∧ True) ∧ (5 : Nat) = (5 : Nat) ∧ (flat [Sp.r IntKind.u8 (0 : Int) (255 : Int)] = true ∧ Row [Sp.r IntKind.u8 (0 : Int) (255 : Int)] (rOf
      m)) ∧ ([] : SW) = []) ∧ RH E m k a d (4096 : Int) (rOf m) (0 : Int) ∧ True)) ∧ ((k == (2 : Int)) = false → ((k != (3 : Int)) = true → (decide (a > IntKind.i64.wrap
      ((↑m.size : Int) - (↑d.size : Int))) = true → ([] : SW) = [] ∧ True ∧ ApQ E m k a d (ByteArray.mk #[]) (1 : Int)) ∧ (decide (a > IntKind.i64.wrap ((↑m.size : Int) -
      (↑d.size : Int))) = false → t21_td E = t21_td E ∧ (91 : Nat) = (91 : Nat) ∧ ((renC (posN [(0 : Nat), (1 : Nat)]) (C.str false m) = C.str false m ∧ True) ∧ True ∧ True ∧
      (renC (posN [(0 : Nat), (1 : Nat)]) (C.rs (1 : Nat) (1 : Nat) m.size) = C.rs (1 : Nat) (1 : Nat) m.size ∧ True) ∧ (((0 : Int) ≤ (0 : Int) ∧ (0 : Int) ≤ (140737488351232 :
      Int)) ∧ True) ∧ True) ∧ ((36 : Nat) = (36 : Nat) ∧ (C.i false IntKind.i64 k = C.i false IntKind.i64 k ∧ C.i false IntKind.i64 a = C.i false IntKind.i64 a ∧ C.str false d =
      C.str false d ∧ True) ∧ (5 : Nat) = (5 : Nat) ∧ (flat [Sp.r IntKind.u8 (0 : Int) (255 : Int)] = true ∧ Row [Sp.r IntKind.u8 (0 : Int) (255 : Int)] (rOf m)) ∧ ([] : SW) =
      []) ∧ RH E m k a d (↑d.size : Int) (rOf m) (0 : Int) ∧ True)) ∧ ((k != (3 : Int)) = false → t21_td E = t21_td E ∧ (91 : Nat) = (91 : Nat) ∧ ((renC (posN [(0 : Nat), (1 :
      Nat)]) (C.str false m) = C.str false m ∧ True) ∧ True ∧ True ∧ (renC (posN [(0 : Nat), (1 : Nat)]) (C.rs (1 : Nat) (1 : Nat) m.size) = C.rs (1 : Nat) (1 : Nat) m.size ∧
      True) ∧ (((0 : Int) ≤ (0 : Int) ∧ (0 : Int) ≤ (140737488351232 : Int)) ∧ True) ∧ True) ∧ ((36 : Nat) = (36 : Nat) ∧ (C.i false IntKind.i64 k = C.i false IntKind.i64 k ∧
      C.i false IntKind.i64 a = C.i false IntKind.i64 a ∧ C.str false d = C.str false d ∧ True) ∧ (5 : Nat) = (5 : Nat) ∧ (flat [Sp.r IntKind.u8 (0 : Int) (255 : Int)] = true ∧
      Row [Sp.r IntKind.u8 (0 : Int) (255 : Int)] (rOf m)) ∧ ([] : SW) = []) ∧ RH E m k a d (↑d.size : Int) (rOf m) (0 : Int) ∧ True)))) := by kernel_rfl
theorem rap_r0 (E : World) (m : ByteArray) (k a : Int) (d : ByteArray) (z : PX) (y : PX) :
    (loopP (pe E) Tryd.f21 (endR ([] : List MB).length [] (.t [.s, .i .i64]) (fun z y => ApQ E m k a d (y.s 90000) (y.n 90001)) z) (headR ([] : List MB).length Tryd.f21.ntmps (some ((fun y => ((m.size : Int) - y.n 91008).toNat) y)) (rap_hs E m k a d z))  (run (pe E) (orcC E) (tabL fns) 20000 (2 ^ 200 - 1) (t21_td E) (mkL Tryd.f21.ntmps (slC y [(0, .q (.str false m)), (3, .c (.p 0 0)), (6, .i .i64), (7, .q (.rs 1 1 m.size)), (8, .r .i64 (0) (140737488351232))])) (mkM y [] [xC k a d, rowB] 0))) =
    ((decide (y.n (91008 : Nat) < (↑m.size : Int)) = true → ((k == (3 : Int)) = true → inB (y.n (91008 : Nat)) m.size = true ∧ decide ((y.n (91008 : Nat)).toNat + (1 : Nat) ≤
      (y.l (1 : Nat)).length) = true ∧ ((k == (1 : Int)) = true → (decide (y.n (91008 : Nat) ≥ a) = true → (decide (y.n (91008 : Nat) < IntKind.i64.wrap (a + y.n (91006 : Nat)))
      = true → inB (IntKind.i64.wrap (y.n (91008 : Nat) - a)) d.size = true ∧ inB (y.n (91008 : Nat)) m.size = true ∧ decide ((y.n (91008 : Nat)).toNat + (1 : Nat) ≤ (rSet (y.l
      (1 : Nat)) (y.n (91008 : Nat)).toNat [ofCell (Value.int IntKind.u8 (255 : Int))]).length) = true ∧ t21_td E = t21_td E ∧ (91 : Nat) = (91 : Nat) ∧ ((renC (posN [(0 : Nat),
      (1 : Nat)]) (C.str false m) = C.str false m ∧ True) ∧ True ∧ True ∧ (renC (posN [(0 : Nat), (1 : Nat)]) (C.rs (1 : Nat) (1 : Nat) m.size) = C.rs (1 : Nat) (1 : Nat) m.size
      ∧ True) ∧ (((0 : Int) ≤ IntKind.i64.wrap (y.n (91008 : Nat) + (1 : Int)) ∧ IntKind.i64.wrap (y.n (91008 : Nat) + (1 : Int)) ≤ (140737488351232 : Int)) ∧ True) ∧ True) ∧
      ((36 : Nat) = (36 : Nat) ∧ (C.i false IntKind.i64 k = C.i false IntKind.i64 k ∧ C.i false IntKind.i64 a = C.i false IntKind.i64 a ∧ C.str false d = C.str false d ∧ True) ∧
      (5 : Nat) = (5 : Nat) ∧ (flat [Sp.r IntKind.u8 (0 : Int) (255 : Int)] = true ∧ Row [Sp.r IntKind.u8 (0 : Int) (255 : Int)] (rSet (rSet (y.l (1 : Nat)) (y.n (91008 :
      Nat)).toNat [ofCell (Value.int IntKind.u8 (255 : Int))]) (y.n (91008 : Nat)).toNat [C.i false IntKind.u8 (strB d (IntKind.i64.wrap (y.n (91008 : Nat) - a)))])) ∧ ([] : SW)
      = []) ∧ RH E m k a d (y.n (91006 : Nat)) (rSet (rSet (y.l (1 : Nat)) (y.n (91008 : Nat)).toNat [ofCell (Value.int IntKind.u8 (255 : Int))]) (y.n (91008 : Nat)).toNat [C.i
      false IntKind.u8 (strB d (IntKind.i64.wrap (y.n (91008 : Nat) - a)))]) (IntKind.i64.wrap (y.n (91008 : Nat) + (1 : Int))) ∧ ((↑m.size : Int) - IntKind.i64.wrap (y.n (91008
      : Nat) + (1 : Int))).toNat < ((↑m.size : Int) - y.n (91008 : Nat)).toNat ∧ True) ∧ (decide (y.n (91008 : Nat) < IntKind.i64.wrap (a + y.n (91006 : Nat))) = false → t21_td
      E = t21_td E ∧ (91 : Nat) = (91 : Nat) ∧ ((renC (posN [(0 : Nat), (1 : Nat)]) (C.str false m) = C.str false m ∧ True) ∧ True ∧ True ∧ (renC (posN [(0 : Nat), (1 : Nat)])
      (C.rs (1 : Nat) (1 : Nat) m.size) = C.rs (1 : Nat) (1 : Nat) m.size ∧ True) ∧ (((0 : Int) ≤ IntKind.i64.wrap (y.n (91008 : Nat) + (1 : Int)) ∧ IntKind.i64.wrap (y.n (91008
      : Nat) + (1 : Int)) ≤ (140737488351232 : Int)) ∧ True) ∧ True) ∧ ((36 : Nat) = (36 : Nat) ∧ (C.i false IntKind.i64 k = C.i false IntKind.i64 k ∧ C.i false IntKind.i64 a =
      C.i false IntKind.i64 a ∧ C.str false d = C.str false d ∧ True) ∧ (5 : Nat) = (5 : Nat) ∧ (flat [Sp.r IntKind.u8 (0 : Int) (255 : Int)] = true ∧ Row [Sp.r IntKind.u8 (0 :
      Int) (255 : Int)] (rSet (y.l (1 : Nat)) (y.n (91008 : Nat)).toNat [ofCell (Value.int IntKind.u8 (255 : Int))])) ∧ ([] : SW) = []) ∧ RH E m k a d (y.n (91006 : Nat)) (rSet
      (y.l (1 : Nat)) (y.n (91008 : Nat)).toNat [ofCell (Value.int IntKind.u8 (255 : Int))]) (IntKind.i64.wrap (y.n (91008 : Nat) + (1 : Int))) ∧ ((↑m.size : Int) -
      IntKind.i64.wrap (y.n (91008 : Nat) + (1 : Int))).toNat < ((↑m.size : Int) - y.n (91008 : Nat)).toNat ∧ True)) ∧ (decide (y.n (91008 : Nat) ≥ a) = false → t21_td E =
      t21_td E ∧ (91 : Nat) = (91 : Nat) ∧ ((renC (posN [(0 : Nat), (1 : Nat)]) (C.str false m) = C.str false m ∧ True) ∧ True ∧ True ∧ (renC (posN [(0 : Nat), (1 : Nat)]) (C.rs
      (1 : Nat) (1 : Nat) m.size) = C.rs (1 : Nat) (1 : Nat) m.size ∧ True) ∧ (((0 : Int) ≤ IntKind.i64.wrap (y.n (91008 : Nat) + (1 : Int)) ∧ IntKind.i64.wrap (y.n (91008 :
      Nat) + (1 : Int)) ≤ (140737488351232 : Int)) ∧ True) ∧ True) ∧ ((36 : Nat) = (36 : Nat) ∧ (C.i false IntKind.i64 k = C.i false IntKind.i64 k ∧ C.i false IntKind.i64 a =
      C.i false IntKind.i64 a ∧ C.str false d = C.str false d ∧ True) ∧ (5 : Nat) = (5 : Nat) ∧ (flat [Sp.r IntKind.u8 (0 : Int) (255 : Int)] = true ∧ Row [Sp.r IntKind.u8 (0 :
      Int) (255 : Int)] (rSet (y.l (1 : Nat)) (y.n (91008 : Nat)).toNat [ofCell (Value.int IntKind.u8 (255 : Int))])) ∧ ([] : SW) = []) ∧ RH E m k a d (y.n (91006 : Nat)) (rSet
      (y.l (1 : Nat)) (y.n (91008 : Nat)).toNat [ofCell (Value.int IntKind.u8 (255 : Int))]) (IntKind.i64.wrap (y.n (91008 : Nat) + (1 : Int))) ∧ ((↑m.size : Int) -
      IntKind.i64.wrap (y.n (91008 : Nat) + (1 : Int))).toNat < ((↑m.size : Int) - y.n (91008 : Nat)).toNat ∧ True)) ∧ ((k == (1 : Int)) = false → t21_td E = t21_td E ∧ (91 :
      Nat) = (91 : Nat) ∧ ((renC (posN [(0 : Nat), (1 : Nat)]) (C.str false m) = C.str false m ∧ True) ∧ True ∧ True ∧ (renC (posN [(0 : Nat), (1 : Nat)]) (C.rs (1 : Nat) (1 :
      Nat) m.size) = C.rs (1 : Nat) (1 : Nat) m.size ∧ True) ∧ (((0 : Int) ≤ IntKind.i64.wrap (y.n (91008 : Nat) + (1 : Int)) ∧ IntKind.i64.wrap (y.n (91008 : Nat) + (1 : Int))
      ≤ (140737488351232 : Int)) ∧ True) ∧ True) ∧ ((36 : Nat) = (36 : Nat) ∧ (C.i false IntKind.i64 k = C.i false IntKind.i64 k ∧ C.i false IntKind.i64 a = C.i false
      IntKind.i64 a ∧ C.str false d = C.str false d ∧ True) ∧ (5 : Nat) = (5 : Nat) ∧ (flat [Sp.r IntKind.u8 (0 : Int) (255 : Int)] = true ∧ Row [Sp.r IntKind.u8 (0 : Int) (255
      : Int)] (rSet (y.l (1 : Nat)) (y.n (91008 : Nat)).toNat [ofCell (Value.int IntKind.u8 (255 : Int))])) ∧ ([] : SW) = []) ∧ RH E m k a d (y.n (91006 : Nat)) (rSet (y.l (1 :
      Nat)) (y.n (91008 : Nat)).toNat [ofCell (Value.int IntKind.u8 (255 : Int))]) (IntKind.i64.wrap (y.n (91008 : Nat) + (1 : Int))) ∧ ((↑m.size : Int) - IntKind.i64.wrap (y.n
      (91008 : Nat) + (1 : Int))).toNat < ((↑m.size : Int) - y.n (91008 : Nat)).toNat ∧ True)) ∧ ((k == (3 : Int)) = false → ((k == (2 : Int)) = true → (decide (y.n (91008 :
      Nat) ≥ a) = true → (decide (y.n (91008 : Nat) < IntKind.i64.wrap (a + (4096 : Int))) = true → inB (y.n (91008 : Nat)) m.size = true ∧ decide ((y.n (91008 : Nat)).toNat +
      (1 : Nat) ≤ (y.l (1 : Nat)).length) = true ∧ ((k == (1 : Int)) = true → (decide (y.n (91008 : Nat) ≥ a) = true → (decide (y.n (91008 : Nat) < IntKind.i64.wrap (a + y.n
      (91006 : Nat))) = true → inB (IntKind.i64.wrap (y.n (91008 : Nat) - a)) d.size = true ∧ inB (y.n (91008 : Nat)) m.size = true ∧ decide ((y.n (91008 : Nat)).toNat + (1 :
      Nat) ≤ (rSet (y.l (1 : Nat)) (y.n (91008 : Nat)).toNat [ofCell (Value.int IntKind.u8 (255 : Int))]).length) = true ∧ t21_td E = t21_td E ∧ (91 : Nat) = (91 : Nat) ∧ ((renC
      (posN [(0 : Nat), (1 : Nat)]) (C.str false m) = C.str false m ∧ True) ∧ True ∧ True ∧ (renC (posN [(0 : Nat), (1 : Nat)]) (C.rs (1 : Nat) (1 : Nat) m.size) = C.rs (1 :
      Nat) (1 : Nat) m.size ∧ True) ∧ (((0 : Int) ≤ IntKind.i64.wrap (y.n (91008 : Nat) + (1 : Int)) ∧ IntKind.i64.wrap (y.n (91008 : Nat) + (1 : Int)) ≤ (140737488351232 :
      Int)) ∧ True) ∧ True) ∧ ((36 : Nat) = (36 : Nat) ∧ (C.i false IntKind.i64 k = C.i false IntKind.i64 k ∧ C.i false IntKind.i64 a = C.i false IntKind.i64 a ∧ C.str false d =
      C.str false d ∧ True) ∧ (5 : Nat) = (5 : Nat) ∧ (flat [Sp.r IntKind.u8 (0 : Int) (255 : Int)] = true ∧ Row [Sp.r IntKind.u8 (0 : Int) (255 : Int)] (rSet (rSet (y.l (1 :
      Nat)) (y.n (91008 : Nat)).toNat [ofCell (Value.int IntKind.u8 (255 : Int))]) (y.n (91008 : Nat)).toNat [C.i false IntKind.u8 (strB d (IntKind.i64.wrap (y.n (91008 : Nat) -
      a)))])) ∧ ([] : SW) = []) ∧ RH E m k a d (y.n (91006 : Nat)) (rSet (rSet (y.l (1 : Nat)) (y.n (91008 : Nat)).toNat [ofCell (Value.int IntKind.u8 (255 : Int))]) (y.n (91008
      : Nat)).toNat [C.i false IntKind.u8 (strB d (IntKind.i64.wrap (y.n (91008 : Nat) - a)))]) (IntKind.i64.wrap (y.n (91008 : Nat) + (1 : Int))) ∧ ((↑m.size : Int) -
      IntKind.i64.wrap (y.n (91008 : Nat) + (1 : Int))).toNat < ((↑m.size : Int) - y.n (91008 : Nat)).toNat ∧ True) ∧ (decide (y.n (91008 : Nat) < IntKind.i64.wrap (a + y.n
      (91006 : Nat))) = false → t21_td E = t21_td E ∧ (91 : Nat) = (91 : Nat) ∧ ((renC (posN [(0 : Nat), (1 : Nat)]) (C.str false m) = C.str false m ∧ True) ∧ True ∧ True ∧
      (renC (posN [(0 : Nat), (1 : Nat)]) (C.rs (1 : Nat) (1 : Nat) m.size) = C.rs (1 : Nat) (1 : Nat) m.size ∧ True) ∧ (((0 : Int) ≤ IntKind.i64.wrap (y.n (91008 : Nat) + (1 :
      Int)) ∧ IntKind.i64.wrap (y.n (91008 : Nat) + (1 : Int)) ≤ (140737488351232 : Int)) ∧ True) ∧ True) ∧ ((36 : Nat) = (36 : Nat) ∧ (C.i false IntKind.i64 k = C.i false
      IntKind.i64 k ∧ C.i false IntKind.i64 a = C.i false IntKind.i64 a ∧ C.str false d = C.str false d ∧ True) ∧ (5 : Nat) = (5 : Nat) ∧ (flat [Sp.r IntKind.u8 (0 : Int) (255 :
      Int)] = true ∧ Row [Sp.r IntKind.u8 (0 : Int) (255 : Int)] (rSet (y.l (1 : Nat)) (y.n (91008 : Nat)).toNat [ofCell (Value.int IntKind.u8 (255 : Int))])) ∧ ([] : SW) = [])
      ∧ RH E m k a d (y.n (91006 : Nat)) (rSet (y.l (1 : Nat)) (y.n (91008 : Nat)).toNat [ofCell (Value.int IntKind.u8 (255 : Int))]) (IntKind.i64.wrap (y.n (91008 : Nat) + (1 :
      Int))) ∧ ((↑m.size : Int) - IntKind.i64.wrap (y.n (91008 : Nat) + (1 : Int))).toNat < ((↑m.size : Int) - y.n (91008 : Nat)).toNat ∧ True)) ∧ (decide (y.n (91008 : Nat) ≥
      a) = false → t21_td E = t21_td E ∧ (91 : Nat) = (91 : Nat) ∧ ((renC (posN [(0 : Nat), (1 : Nat)]) (C.str false m) = C.str false m ∧ True) ∧ True ∧ True ∧ (renC (posN [(0 :
      Nat), (1 : Nat)]) (C.rs (1 : Nat) (1 : Nat) m.size) = C.rs (1 : Nat) (1 : Nat) m.size ∧ True) ∧ (((0 : Int) ≤ IntKind.i64.wrap (y.n (91008 : Nat) + (1 : Int)) ∧
      IntKind.i64.wrap (y.n (91008 : Nat) + (1 : Int)) ≤ (140737488351232 : Int)) ∧ True) ∧ True) ∧ ((36 : Nat) = (36 : Nat) ∧ (C.i false IntKind.i64 k = C.i false IntKind.i64 k
      ∧ C.i false IntKind.i64 a = C.i false IntKind.i64 a ∧ C.str false d = C.str false d ∧ True) ∧ (5 : Nat) = (5 : Nat) ∧ (flat [Sp.r IntKind.u8 (0 : Int) (255 : Int)] = true
      ∧ Row [Sp.r IntKind.u8 (0 : Int) (255 : Int)] (rSet (y.l (1 : Nat)) (y.n (91008 : Nat)).toNat [ofCell (Value.int IntKind.u8 (255 : Int))])) ∧ ([] : SW) = []) ∧ RH E m k a
      d (y.n (91006 : Nat)) (rSet (y.l (1 : Nat)) (y.n (91008 : Nat)).toNat [ofCell (Value.int IntKind.u8 (255 : Int))]) (IntKind.i64.wrap (y.n (91008 : Nat) + (1 : Int))) ∧
      ((↑m.size : Int) - IntKind.i64.wrap (y.n (91008 : Nat) + (1 : Int))).toNat < ((↑m.size : Int) - y.n (91008 : Nat)).toNat ∧ True)) ∧ ((k == (1 : Int)) = false → t21_td E =
      t21_td E ∧ (91 : Nat) = (91 : Nat) ∧ ((renC (posN [(0 : Nat), (1 : Nat)]) (C.str false m) = C.str false m ∧ True) ∧ True ∧ True ∧ (renC (posN [(0 : Nat), (1 : Nat)]) (C.rs
      (1 : Nat) (1 : Nat) m.size) = C.rs (1 : Nat) (1 : Nat) m.size ∧ True) ∧ (((0 : Int) ≤ IntKind.i64.wrap (y.n (91008 : Nat) + (1 : Int)) ∧ IntKind.i64.wrap (y.n (91008 :
      Nat) + (1 : Int)) ≤ (140737488351232 : Int)) ∧ True) ∧ True) ∧ ((36 : Nat) = (36 : Nat) ∧ (C.i false IntKind.i64 k = C.i false IntKind.i64 k ∧ C.i false IntKind.i64 a =
      C.i false IntKind.i64 a ∧ C.str false d = C.str false d ∧ True) ∧ (5 : Nat) = (5 : Nat) ∧ (flat [Sp.r IntKind.u8 (0 : Int) (255 : Int)] = true ∧ Row [Sp.r IntKind.u8 (0 :
      Int) (255 : Int)] (rSet (y.l (1 : Nat)) (y.n (91008 : Nat)).toNat [ofCell (Value.int IntKind.u8 (255 : Int))])) ∧ ([] : SW) = []) ∧ RH E m k a d (y.n (91006 : Nat)) (rSet
      (y.l (1 : Nat)) (y.n (91008 : Nat)).toNat [ofCell (Value.int IntKind.u8 (255 : Int))]) (IntKind.i64.wrap (y.n (91008 : Nat) + (1 : Int))) ∧ ((↑m.size : Int) -
      IntKind.i64.wrap (y.n (91008 : Nat) + (1 : Int))).toNat < ((↑m.size : Int) - y.n (91008 : Nat)).toNat ∧ True)) ∧ (decide (y.n (91008 : Nat) < IntKind.i64.wrap (a + (4096 :
      Int))) = false → ((k == (1 : Int)) = true → (decide (y.n (91008 : Nat) ≥ a) = true → (decide (y.n (91008 : Nat) < IntKind.i64.wrap (a + y.n (91006 : Nat))) = true → inB
      (IntKind.i64.wrap (y.n (91008 : Nat) - a)) d.size = true ∧ inB (y.n (91008 : Nat)) m.size = true ∧ decide ((y.n (91008 : Nat)).toNat + (1 : Nat) ≤ (y.l (1 : Nat)).length)
      = true ∧ t21_td E = t21_td E ∧ (91 : Nat) = (91 : Nat) ∧ ((renC (posN [(0 : Nat), (1 : Nat)]) (C.str false m) = C.str false m ∧ True) ∧ True ∧ True ∧ (renC (posN [(0 :
      Nat), (1 : Nat)]) (C.rs (1 : Nat) (1 : Nat) m.size) = C.rs (1 : Nat) (1 : Nat) m.size ∧ True) ∧ (((0 : Int) ≤ IntKind.i64.wrap (y.n (91008 : Nat) + (1 : Int)) ∧
      IntKind.i64.wrap (y.n (91008 : Nat) + (1 : Int)) ≤ (140737488351232 : Int)) ∧ True) ∧ True) ∧ ((36 : Nat) = (36 : Nat) ∧ (C.i false IntKind.i64 k = C.i false IntKind.i64 k
      ∧ C.i false IntKind.i64 a = C.i false IntKind.i64 a ∧ C.str false d = C.str false d ∧ True) ∧ (5 : Nat) = (5 : Nat) ∧ (flat [Sp.r IntKind.u8 (0 : Int) (255 : Int)] = true
      ∧ Row [Sp.r IntKind.u8 (0 : Int) (255 : Int)] (rSet (y.l (1 : Nat)) (y.n (91008 : Nat)).toNat [C.i false IntKind.u8 (strB d (IntKind.i64.wrap (y.n (91008 : Nat) - a)))]))
      ∧ ([] : SW) = []) ∧ RH E m k a d (y.n (91006 : Nat)) (rSet (y.l (1 : Nat)) (y.n (91008 : Nat)).toNat [C.i false IntKind.u8 (strB d (IntKind.i64.wrap (y.n (91008 : Nat) -
      a)))]) (IntKind.i64.wrap (y.n (91008 : Nat) + (1 : Int))) ∧ ((↑m.size : Int) - IntKind.i64.wrap (y.n (91008 : Nat) + (1 : Int))).toNat < ((↑m.size : Int) - y.n (91008 :
      Nat)).toNat ∧ True) ∧ (decide (y.n (91008 : Nat) < IntKind.i64.wrap (a + y.n (91006 : Nat))) = false → t21_td E = t21_td E ∧ (91 : Nat) = (91 : Nat) ∧ ((renC (posN [(0 :
      Nat), (1 : Nat)]) (C.str false m) = C.str false m ∧ True) ∧ True ∧ True ∧ (renC (posN [(0 : Nat), (1 : Nat)]) (C.rs (1 : Nat) (1 : Nat) m.size) = C.rs (1 : Nat) (1 : Nat)
      m.size ∧ True) ∧ (((0 : Int) ≤ IntKind.i64.wrap (y.n (91008 : Nat) + (1 : Int)) ∧ IntKind.i64.wrap (y.n (91008 : Nat) + (1 : Int)) ≤ (140737488351232 : Int)) ∧ True) ∧
      True) ∧ ((36 : Nat) = (36 : Nat) ∧ (C.i false IntKind.i64 k = C.i false IntKind.i64 k ∧ C.i false IntKind.i64 a = C.i false IntKind.i64 a ∧ C.str false d = C.str false d ∧
      True) ∧ (5 : Nat) = (5 : Nat) ∧ (flat [Sp.r IntKind.u8 (0 : Int) (255 : Int)] = true ∧ Row [Sp.r IntKind.u8 (0 : Int) (255 : Int)] (y.l (1 : Nat))) ∧ ([] : SW) = []) ∧ RH
      E m k a d (y.n (91006 : Nat)) (y.l (1 : Nat)) (IntKind.i64.wrap (y.n (91008 : Nat) + (1 : Int))) ∧ ((↑m.size : Int) - IntKind.i64.wrap (y.n (91008 : Nat) + (1 :
      Int))).toNat < ((↑m.size : Int) - y.n (91008 : Nat)).toNat ∧ True)) ∧ (decide (y.n (91008 : Nat) ≥ a) = false → t21_td E = t21_td E ∧ (91 : Nat) = (91 : Nat) ∧ ((renC
      (posN [(0 : Nat), (1 : Nat)]) (C.str false m) = C.str false m ∧ True) ∧ True ∧ True ∧ (renC (posN [(0 : Nat), (1 : Nat)]) (C.rs (1 : Nat) (1 : Nat) m.size) = C.rs (1 :
      Nat) (1 : Nat) m.size ∧ True) ∧ (((0 : Int) ≤ IntKind.i64.wrap (y.n (91008 : Nat) + (1 : Int)) ∧ IntKind.i64.wrap (y.n (91008 : Nat) + (1 : Int)) ≤ (140737488351232 :
      Int)) ∧ True) ∧ True) ∧ ((36 : Nat) = (36 : Nat) ∧ (C.i false IntKind.i64 k = C.i false IntKind.i64 k ∧ C.i false IntKind.i64 a = C.i false IntKind.i64 a ∧ C.str false d =
      C.str false d ∧ True) ∧ (5 : Nat) = (5 : Nat) ∧ (flat [Sp.r IntKind.u8 (0 : Int) (255 : Int)] = true ∧ Row [Sp.r IntKind.u8 (0 : Int) (255 : Int)] (y.l (1 : Nat))) ∧ ([] :
      SW) = []) ∧ RH E m k a d (y.n (91006 : Nat)) (y.l (1 : Nat)) (IntKind.i64.wrap (y.n (91008 : Nat) + (1 : Int))) ∧ ((↑m.size : Int) - IntKind.i64.wrap (y.n (91008 : Nat) +
      (1 : Int))).toNat < ((↑m.size : Int) - y.n (91008 : Nat)).toNat ∧ True)) ∧ ((k == (1 : Int)) = false → t21_td E = t21_td E ∧ (91 : Nat) = (91 : Nat) ∧ ((renC (posN [(0 :
      Nat), (1 : Nat)]) (C.str false m) = C.str false m ∧ True) ∧ True ∧ True ∧ (renC (posN [(0 : Nat), (1 : Nat)]) (C.rs (1 : Nat) (1 : Nat) m.size) = C.rs (1 : Nat) (1 : Nat)
      m.size ∧ True) ∧ (((0 : Int) ≤ IntKind.i64.wrap (y.n (91008 : Nat) + (1 : Int)) ∧ IntKind.i64.wrap (y.n (91008 : Nat) + (1 : Int)) ≤ (140737488351232 : Int)) ∧ True) ∧
      True) ∧ ((36 : Nat) = (36 : Nat) ∧ (C.i false IntKind.i64 k = C.i false IntKind.i64 k ∧ C.i false IntKind.i64 a = C.i false IntKind.i64 a ∧ C.str false d = C.str false d ∧
      True) ∧ (5 : Nat) = (5 : Nat) ∧ (flat [Sp.r IntKind.u8 (0 : Int) (255 : Int)] = true ∧ Row [Sp.r IntKind.u8 (0 : Int) (255 : Int)] (y.l (1 : Nat))) ∧ ([] : SW) = []) ∧ RH
      E m k a d (y.n (91006 : Nat)) (y.l (1 : Nat)) (IntKind.i64.wrap (y.n (91008 : Nat) + (1 : Int))) ∧ ((↑m.size : Int) - IntKind.i64.wrap (y.n (91008 : Nat) + (1 :
      Int))).toNat < ((↑m.size : Int) - y.n (91008 : Nat)).toNat ∧ True))) ∧ (decide (y.n (91008 : Nat) ≥ a) = false → ((k == (1 : Int)) = true → (decide (y.n (91008 : Nat) ≥ a)
      = true → (decide (y.n (91008 : Nat) < IntKind.i64.wrap (a + y.n (91006 : Nat))) = true → inB (IntKind.i64.wrap (y.n (91008 : Nat) - a)) d.size = true ∧ inB (y.n (91008 :
      Nat)) m.size = true ∧ decide ((y.n (91008 : Nat)).toNat + (1 : Nat) ≤ (y.l (1 : Nat)).length) = true ∧ t21_td E = t21_td E ∧ (91 : Nat) = (91 : Nat) ∧ ((renC (posN [(0 :
      Nat), (1 : Nat)]) (C.str false m) = C.str false m ∧ True) ∧ True ∧ True ∧ (renC (posN [(0 : Nat), (1 : Nat)]) (C.rs (1 : Nat) (1 : Nat) m.size) = C.rs (1 : Nat) (1 : Nat)
      m.size ∧ True) ∧ (((0 : Int) ≤ IntKind.i64.wrap (y.n (91008 : Nat) + (1 : Int)) ∧ IntKind.i64.wrap (y.n (91008 : Nat) + (1 : Int)) ≤ (140737488351232 : Int)) ∧ True) ∧
      True) ∧ ((36 : Nat) = (36 : Nat) ∧ (C.i false IntKind.i64 k = C.i false IntKind.i64 k ∧ C.i false IntKind.i64 a = C.i false IntKind.i64 a ∧ C.str false d = C.str false d ∧
      True) ∧ (5 : Nat) = (5 : Nat) ∧ (flat [Sp.r IntKind.u8 (0 : Int) (255 : Int)] = true ∧ Row [Sp.r IntKind.u8 (0 : Int) (255 : Int)] (rSet (y.l (1 : Nat)) (y.n (91008 :
      Nat)).toNat [C.i false IntKind.u8 (strB d (IntKind.i64.wrap (y.n (91008 : Nat) - a)))])) ∧ ([] : SW) = []) ∧ RH E m k a d (y.n (91006 : Nat)) (rSet (y.l (1 : Nat)) (y.n
      (91008 : Nat)).toNat [C.i false IntKind.u8 (strB d (IntKind.i64.wrap (y.n (91008 : Nat) - a)))]) (IntKind.i64.wrap (y.n (91008 : Nat) + (1 : Int))) ∧ ((↑m.size : Int) -
      IntKind.i64.wrap (y.n (91008 : Nat) + (1 : Int))).toNat < ((↑m.size : Int) - y.n (91008 : Nat)).toNat ∧ True) ∧ (decide (y.n (91008 : Nat) < IntKind.i64.wrap (a + y.n
      (91006 : Nat))) = false → t21_td E = t21_td E ∧ (91 : Nat) = (91 : Nat) ∧ ((renC (posN [(0 : Nat), (1 : Nat)]) (C.str false m) = C.str false m ∧ True) ∧ True ∧ True ∧
      (renC (posN [(0 : Nat), (1 : Nat)]) (C.rs (1 : Nat) (1 : Nat) m.size) = C.rs (1 : Nat) (1 : Nat) m.size ∧ True) ∧ (((0 : Int) ≤ IntKind.i64.wrap (y.n (91008 : Nat) + (1 :
      Int)) ∧ IntKind.i64.wrap (y.n (91008 : Nat) + (1 : Int)) ≤ (140737488351232 : Int)) ∧ True) ∧ True) ∧ ((36 : Nat) = (36 : Nat) ∧ (C.i false IntKind.i64 k = C.i false
      IntKind.i64 k ∧ C.i false IntKind.i64 a = C.i false IntKind.i64 a ∧ C.str false d = C.str false d ∧ True) ∧ (5 : Nat) = (5 : Nat) ∧ (flat [Sp.r IntKind.u8 (0 : Int) (255 :
      Int)] = true ∧ Row [Sp.r IntKind.u8 (0 : Int) (255 : Int)] (y.l (1 : Nat))) ∧ ([] : SW) = []) ∧ RH E m k a d (y.n (91006 : Nat)) (y.l (1 : Nat)) (IntKind.i64.wrap (y.n
      (91008 : Nat) + (1 : Int))) ∧ ((↑m.size : Int) - IntKind.i64.wrap (y.n (91008 : Nat) + (1 : Int))).toNat < ((↑m.size : Int) - y.n (91008 : Nat)).toNat ∧ True)) ∧ (decide
      (y.n (91008 : Nat) ≥ a) = false → t21_td E = t21_td E ∧ (91 : Nat) = (91 : Nat) ∧ ((renC (posN [(0 : Nat), (1 : Nat)]) (C.str false m) = C.str false m ∧ True) ∧ True ∧
      True ∧ (renC (posN [(0 : Nat), (1 : Nat)]) (C.rs (1 : Nat) (1 : Nat) m.size) = C.rs (1 : Nat) (1 : Nat) m.size ∧ True) ∧ (((0 : Int) ≤ IntKind.i64.wrap (y.n (91008 : Nat)
      + (1 : Int)) ∧ IntKind.i64.wrap (y.n (91008 : Nat) + (1 : Int)) ≤ (140737488351232 : Int)) ∧ True) ∧ True) ∧ ((36 : Nat) = (36 : Nat) ∧ (C.i false IntKind.i64 k = C.i
      false IntKind.i64 k ∧ C.i false IntKind.i64 a = C.i false IntKind.i64 a ∧ C.str false d = C.str false d ∧ True) ∧ (5 : Nat) = (5 : Nat) ∧ (flat [Sp.r IntKind.u8 (0 : Int)
      (255 : Int)] = true ∧ Row [Sp.r IntKind.u8 (0 : Int) (255 : Int)] (y.l (1 : Nat))) ∧ ([] : SW) = []) ∧ RH E m k a d (y.n (91006 : Nat)) (y.l (1 : Nat)) (IntKind.i64.wrap
      (y.n (91008 : Nat) + (1 : Int))) ∧ ((↑m.size : Int) - IntKind.i64.wrap (y.n (91008 : Nat) + (1 : Int))).toNat < ((↑m.size : Int) - y.n (91008 : Nat)).toNat ∧ True)) ∧ ((k
      == (1 : Int)) = false → t21_td E = t21_td E ∧ (91 : Nat) = (91 : Nat) ∧ ((renC (posN [(0 : Nat), (1 : Nat)]) (C.str false m) = C.str false m ∧ True) ∧ True ∧ True ∧ (renC
      (posN [(0 : Nat), (1 : Nat)]) (C.rs (1 : Nat) (1 : Nat) m.size) = C.rs (1 : Nat) (1 : Nat) m.size ∧ True) ∧ (((0 : Int) ≤ IntKind.i64.wrap (y.n (91008 : Nat) + (1 : Int))
      ∧ IntKind.i64.wrap (y.n (91008 : Nat) + (1 : Int)) ≤ (140737488351232 : Int)) ∧ True) ∧ True) ∧ ((36 : Nat) = (36 : Nat) ∧ (C.i false IntKind.i64 k = C.i false IntKind.i64
      k ∧ C.i false IntKind.i64 a = C.i false IntKind.i64 a ∧ C.str false d = C.str false d ∧ True) ∧ (5 : Nat) = (5 : Nat) ∧ (flat [Sp.r IntKind.u8 (0 : Int) (255 : Int)] =
      true ∧ Row [Sp.r IntKind.u8 (0 : Int) (255 : Int)] (y.l (1 : Nat))) ∧ ([] : SW) = []) ∧ RH E m k a d (y.n (91006 : Nat)) (y.l (1 : Nat)) (IntKind.i64.wrap (y.n (91008 :
      Nat) + (1 : Int))) ∧ ((↑m.size : Int) - IntKind.i64.wrap (y.n (91008 : Nat) + (1 : Int))).toNat < ((↑m.size : Int) - y.n (91008 : Nat)).toNat ∧ True))) ∧ ((k == (2 : Int))
      = false → ((k == (1 : Int)) = true → (decide (y.n (91008 : Nat) ≥ a) = true → (decide (y.n (91008 : Nat) < IntKind.i64.wrap (a + y.n (91006 : Nat))) = true → inB
      (IntKind.i64.wrap (y.n (91008 : Nat) - a)) d.size = true ∧ inB (y.n (91008 : Nat)) m.size = true ∧ decide ((y.n (91008 : Nat)).toNat + (1 : Nat) ≤ (y.l (1 : Nat)).length)
      = true ∧ t21_td E = t21_td E ∧ (91 : Nat) = (91 : Nat) ∧ ((renC (posN [(0 : Nat), (1 : Nat)]) (C.str false m) = C.str false m ∧ True) ∧ True ∧ True ∧ (renC (posN [(0 :
      Nat), (1 : Nat)]) (C.rs (1 : Nat) (1 : Nat) m.size) = C.rs (1 : Nat) (1 : Nat) m.size ∧ True) ∧ (((0 : Int) ≤ IntKind.i64.wrap (y.n (91008 : Nat) + (1 : Int)) ∧
      IntKind.i64.wrap (y.n (91008 : Nat) + (1 : Int)) ≤ (140737488351232 : Int)) ∧ True) ∧ True) ∧ ((36 : Nat) = (36 : Nat) ∧ (C.i false IntKind.i64 k = C.i false IntKind.i64 k
      ∧ C.i false IntKind.i64 a = C.i false IntKind.i64 a ∧ C.str false d = C.str false d ∧ True) ∧ (5 : Nat) = (5 : Nat) ∧ (flat [Sp.r IntKind.u8 (0 : Int) (255 : Int)] = true
      ∧ Row [Sp.r IntKind.u8 (0 : Int) (255 : Int)] (rSet (y.l (1 : Nat)) (y.n (91008 : Nat)).toNat [C.i false IntKind.u8 (strB d (IntKind.i64.wrap (y.n (91008 : Nat) - a)))]))
      ∧ ([] : SW) = []) ∧ RH E m k a d (y.n (91006 : Nat)) (rSet (y.l (1 : Nat)) (y.n (91008 : Nat)).toNat [C.i false IntKind.u8 (strB d (IntKind.i64.wrap (y.n (91008 : Nat) -
      a)))]) (IntKind.i64.wrap (y.n (91008 : Nat) + (1 : Int))) ∧ ((↑m.size : Int) - IntKind.i64.wrap (y.n (91008 : Nat) + (1 : Int))).toNat < ((↑m.size : Int) - y.n (91008 :
      Nat)).toNat ∧ True) ∧ (decide (y.n (91008 : Nat) < IntKind.i64.wrap (a + y.n (91006 : Nat))) = false → t21_td E = t21_td E ∧ (91 : Nat) = (91 : Nat) ∧ ((renC (posN [(0 :
      Nat), (1 : Nat)]) (C.str false m) = C.str false m ∧ True) ∧ True ∧ True ∧ (renC (posN [(0 : Nat), (1 : Nat)]) (C.rs (1 : Nat) (1 : Nat) m.size) = C.rs (1 : Nat) (1 : Nat)
      m.size ∧ True) ∧ (((0 : Int) ≤ IntKind.i64.wrap (y.n (91008 : Nat) + (1 : Int)) ∧ IntKind.i64.wrap (y.n (91008 : Nat) + (1 : Int)) ≤ (140737488351232 : Int)) ∧ True) ∧
      True) ∧ ((36 : Nat) = (36 : Nat) ∧ (C.i false IntKind.i64 k = C.i false IntKind.i64 k ∧ C.i false IntKind.i64 a = C.i false IntKind.i64 a ∧ C.str false d = C.str false d ∧
      True) ∧ (5 : Nat) = (5 : Nat) ∧ (flat [Sp.r IntKind.u8 (0 : Int) (255 : Int)] = true ∧ Row [Sp.r IntKind.u8 (0 : Int) (255 : Int)] (y.l (1 : Nat))) ∧ ([] : SW) = []) ∧ RH
      E m k a d (y.n (91006 : Nat)) (y.l (1 : Nat)) (IntKind.i64.wrap (y.n (91008 : Nat) + (1 : Int))) ∧ ((↑m.size : Int) - IntKind.i64.wrap (y.n (91008 : Nat) + (1 :
      Int))).toNat < ((↑m.size : Int) - y.n (91008 : Nat)).toNat ∧ True)) ∧ (decide (y.n (91008 : Nat) ≥ a) = false → t21_td E = t21_td E ∧ (91 : Nat) = (91 : Nat) ∧ ((renC
      (posN [(0 : Nat), (1 : Nat)]) (C.str false m) = C.str false m ∧ True) ∧ True ∧ True ∧ (renC (posN [(0 : Nat), (1 : Nat)]) (C.rs (1 : Nat) (1 : Nat) m.size) = C.rs (1 :
      Nat) (1 : Nat) m.size ∧ True) ∧ (((0 : Int) ≤ IntKind.i64.wrap (y.n (91008 : Nat) + (1 : Int)) ∧ IntKind.i64.wrap (y.n (91008 : Nat) + (1 : Int)) ≤ (140737488351232 :
      Int)) ∧ True) ∧ True) ∧ ((36 : Nat) = (36 : Nat) ∧ (C.i false IntKind.i64 k = C.i false IntKind.i64 k ∧ C.i false IntKind.i64 a = C.i false IntKind.i64 a ∧ C.str false d =
      C.str false d ∧ True) ∧ (5 : Nat) = (5 : Nat) ∧ (flat [Sp.r IntKind.u8 (0 : Int) (255 : Int)] = true ∧ Row [Sp.r IntKind.u8 (0 : Int) (255 : Int)] (y.l (1 : Nat))) ∧ ([] :
      SW) = []) ∧ RH E m k a d (y.n (91006 : Nat)) (y.l (1 : Nat)) (IntKind.i64.wrap (y.n (91008 : Nat) + (1 : Int))) ∧ ((↑m.size : Int) - IntKind.i64.wrap (y.n (91008 : Nat) +
      (1 : Int))).toNat < ((↑m.size : Int) - y.n (91008 : Nat)).toNat ∧ True)) ∧ ((k == (1 : Int)) = false → t21_td E = t21_td E ∧ (91 : Nat) = (91 : Nat) ∧ ((renC (posN [(0 :
      Nat), (1 : Nat)]) (C.str false m) = C.str false m ∧ True) ∧ True ∧ True ∧ (renC (posN [(0 : Nat), (1 : Nat)]) (C.rs (1 : Nat) (1 : Nat) m.size) = C.rs (1 : Nat) (1 : Nat)
      m.size ∧ True) ∧ (((0 : Int) ≤ IntKind.i64.wrap (y.n (91008 : Nat) + (1 : Int)) ∧ IntKind.i64.wrap (y.n (91008 : Nat) + (1 : Int)) ≤ (140737488351232 : Int)) ∧ True) ∧
      True) ∧ ((36 : Nat) = (36 : Nat) ∧ (C.i false IntKind.i64 k = C.i false IntKind.i64 k ∧ C.i false IntKind.i64 a = C.i false IntKind.i64 a ∧ C.str false d = C.str false d ∧
      True) ∧ (5 : Nat) = (5 : Nat) ∧ (flat [Sp.r IntKind.u8 (0 : Int) (255 : Int)] = true ∧ Row [Sp.r IntKind.u8 (0 : Int) (255 : Int)] (y.l (1 : Nat))) ∧ ([] : SW) = []) ∧ RH
      E m k a d (y.n (91006 : Nat)) (y.l (1 : Nat)) (IntKind.i64.wrap (y.n (91008 : Nat) + (1 : Int))) ∧ ((↑m.size : Int) - IntKind.i64.wrap (y.n (91008 : Nat) + (1 :
      Int))).toNat < ((↑m.size : Int) - y.n (91008 : Nat)).toNat ∧ True)))) ∧ (decide (y.n (91008 : Nat) < (↑m.size : Int)) = false → rowU8 (y.l (1 : Nat)) m.size = true ∧ ([] :
      SW) = [] ∧ True ∧ ApQ E m k a d (rowT (y.l (1 : Nat)) m.size) (0 : Int))) := by kernel_rfl
set_option maxHeartbeats 8000000 in
theorem rap_q0 (E : World) (m : ByteArray) (k a : Int) (d : ByteArray) (z : PX) (hp : (fun _ => m.size ≤ 140737488351232) z) (y : PX) (hy1 : rgM y [xC k a d, rowB] 0) (hy2 : rgF y [(0, .q (.str false m)), (3, .c (.p 0 0)), (6, .i .i64), (7, .q (.rs 1 1 m.size)), (8, .r .i64 (0) (140737488351232))]) (hy3 : (fun y => RH E m k a d (y.n 91006) (y.l 1) (y.n 91008)) y) : Holds ((run (pe E) (orcC E) (tabL fns) 20000 (2 ^ 200 - 1) (t21_td E) (mkL Tryd.f21.ntmps (slC y [(0, .q (.str false m)), (3, .c (.p 0 0)), (6, .i .i64), (7, .q (.rs 1 1 m.size)), (8, .r .i64 (0) (140737488351232))])) (mkM y [] [xC k a d, rowB] 0)).OK (lfP (pe E) Tryd.f21 (endR ([] : List MB).length [] (.t [.s, .i .i64]) (fun z y => ApQ E m k a d (y.s 90000) (y.n 90001)) z) (headR ([] : List MB).length Tryd.f21.ntmps (some ((fun y => ((m.size : Int) - y.n 91008).toNat) y)) (rap_hs E m k a d z)))) := by
  refine loopP_lfH ⟨?_⟩
  rw [rap_r0]
  have hf : True ∧ True ∧ True ∧ True ∧ (((0) ≤ y.n 91008 ∧ y.n 91008 ≤ (140737488351232)) ∧ True) ∧ True := hy2
  obtain ⟨_, _, _, _, ⟨g8, _⟩, _⟩ := hf
  have hm : m.size ≤ 140737488351232 := hp
  have hR : RH E m k a d (y.n 91006) (y.l 1) (y.n 91008) := hy3
  obtain ⟨ha, hk, hd⟩ := vl_rg hR.v
  have hf := hR.f
  have hn := hR.n
  have hU := hR.u
  have hz := hU.z
  have F3 : k = 2 → ((dat E k d).size : Int) = 4096 ∧ (a ≤ y.n 91008 → y.n 91008 < a + 4096 → strB (dat E k d) (y.n 91008 - a) = 255) := fun h2 => by
    have e : dat E k d = repV E ff 4096 := by unfold dat; rw [if_pos h2]
    rw [e]
    exact ⟨ff_size E 4096 (by omega), fun _ _ => ff_b E 4096 _ (by omega) (by omega)⟩
  have F4 : k = 1 → dat E k d = d := fun h1 => by unfold dat; rw [if_neg (by omega)]
  have hn2 : (k = 2 → y.n 91006 = 4096) ∧ (k ≠ 2 → y.n 91006 = d.size) := by
    rw [hn]; exact ⟨fun h => by rw [if_pos h], fun h => by rw [if_neg h]⟩
  refine ⟨fun h => ?_, fun h => ?_⟩
  · have hlt := of_decide_eq_true h
    have F1 : k = 3 → strB (apT E m k a d) (y.n 91008) = 255 := fun h3 => by
      rw [apT_eq, if_pos h3]; exact ff_b E m.size _ (by omega) (by omega)
    have F2 : k ≠ 3 → (y.n 91008 < a → strB (apT E m k a d) (y.n 91008) = strB m (y.n 91008)) ∧ (a ≤ y.n 91008 → y.n 91008 < a + (dat E k d).size → strB (apT E m k a d) (y.n 91008) = strB (dat E k d) (y.n 91008 - a)) ∧ (a + (dat E k d).size ≤ y.n 91008 → strB (apT E m k a d) (y.n 91008) = strB m (y.n 91008)) := fun h3 =>
      ap_b ha.1 h3 (by rcases hf with h | h; contradiction; exact h) _ (by omega) hlt
    have F5 : (k = 2 → (a ≤ y.n 91008 → y.n 91008 < a + 4096 → strB (apT E m k a d) (y.n 91008) = 255) ∧ (y.n 91008 < a ∨ a + 4096 ≤ y.n 91008 → strB (apT E m k a d) (y.n 91008) = strB m (y.n 91008))) := fun h2 => by
      obtain ⟨f1, f2⟩ := F3 h2
      obtain ⟨g1, g2, g3⟩ := F2 (by omega)
      refine ⟨fun h h' => by rw [g2 h (by omega)]; exact f2 h h', fun h => ?_⟩
      rcases h with h | h
      · exact g1 h
      · exact g3 (by omega)
    have F6 : (k = 1 → (a ≤ y.n 91008 → y.n 91008 < a + d.size → strB (apT E m k a d) (y.n 91008) = strB d (y.n 91008 - a)) ∧ (y.n 91008 < a ∨ a + d.size ≤ y.n 91008 → strB (apT E m k a d) (y.n 91008) = strB m (y.n 91008))) := fun h1 => by
      have f := F4 h1
      have G := F2 (by omega)
      rw [f] at G
      obtain ⟨g1, g2, g3⟩ := G
      refine ⟨fun h h' => g2 h h', fun h => ?_⟩
      rcases h with h | h
      · exact g1 h
      · exact g3 h
    have db := strB_bd d (y.n 91008 - a)
    have j1 : IntKind.i64.wrap (y.n 91008 + 1) = y.n 91008 + 1 := by rw [wi64]; omega
    have j2 : IntKind.i64.wrap (y.n 91008 - a) = y.n 91008 - a := by rw [wi64]; omega
    have j3 : IntKind.i64.wrap (a + 4096) = a + 4096 := by rw [wi64]; omega
    have j4 : IntKind.i64.wrap (a + y.n 91006) = a + y.n 91006 := by rw [wi64]; omega
    simp only [j1, j2, j3, j4]
    have s1 := hU.set (i := (y.n 91008).toNat) (by omega) (lt := true) (v := 255) (by omega) (by omega)
    have s2 := hU.set (i := (y.n 91008).toNat) (by omega) (lt := false) (v := strB d (y.n 91008 - a)) (by omega) (by omega)
    have hi := hR.hi (y.n 91008).toNat (by omega) (by omega)
    rw [show (((y.n 91008).toNat : Nat) : Int) = y.n 91008 by omega] at hi
    have R0 : strB m (y.n 91008) = strB (apT E m k a d) (y.n 91008) → RH E m k a d (y.n 91006) (y.l 1) (y.n 91008 + 1) := fun h => hR.step (by omega) hlt hU (fun _ _ => rfl) (hi.trans h)
    have R1 : 255 = strB (apT E m k a d) (y.n 91008) → RH E m k a d (y.n 91006) (rSet (y.l 1) (y.n 91008).toNat [ofCell (Value.int IntKind.u8 255)]) (y.n 91008 + 1) := fun h => hR.step (by omega) hlt s1.1 s1.2.2 (s1.2.1.trans h)
    have R2 : strB d (y.n 91008 - a) = strB (apT E m k a d) (y.n 91008) → RH E m k a d (y.n 91006) (rSet (y.l 1) (y.n 91008).toNat [C.i false IntKind.u8 (strB d (y.n 91008 - a))]) (y.n 91008 + 1) := fun h => hR.step (by omega) hlt s2.1 s2.2.2 (s2.2.1.trans h)
    have Q0 := hU.row
    have Q1 : Row [Sp.r IntKind.u8 0 255] (rSet (y.l 1) (y.n 91008).toNat [ofCell (Value.int IntKind.u8 255)]) := s1.1.row
    have Q2 := s2.1.row
    clear s1 s2 hi F2 F3 F4 hR hf hy1 hy2 hy3 hU
    simp only [inB_iff, decide_eq_true_eq, decide_eq_false_iff_not, bne_iff_ne, ne_eq, bne_eq_false_iff_eq, beq_iff_eq, beq_eq_false_iff_ne, Bool.not_eq_true', Bool.not_eq_false', Bool.false_eq_true]
    (repeat' (first | exact trivial | exact Q0 | exact Q1 | exact Q2 | with_reducible exact (rfl : _ = _) | apply And.intro | intro _)) <;> first | omega | exact R0 (by omega) | exact R1 (by omega) | exact R2 (by omega) | exact rfl | (exfalso; omega)
  · exact ⟨hU.u8, by trivial, trivial, ⟨fun h' => (by rcases h' with h' | h'; (· rw [hR.v] at h'; cases h'); (· exact absurd hf (by omega))), fun _ _ => ⟨hR.fin (of_decide_eq_false h), rfl⟩⟩⟩
set_option maxHeartbeats 8000000 in
theorem rap_c (E : World) (m : ByteArray) (k a : Int) (d : ByteArray) (z : PX) (hz : rgM z [] 0) (hp : (fun _ => m.size ≤ 140737488351232) z) : HD (pe E) 21 [.c (.str false m), .a [.i false .i64 k, .i false .i64 a, .str false d]] [] [] (.t [.s, .i .i64]) (fun z y => ApQ E m k a d (y.s 90000) (y.n 90001)) z := by
  refine HD.loop (P := pe E) orcC_ok tab_ok tab_sz mixed Tryd.func21 (c := Tryd.f21.body.getD .skip) rfl (by decide) (Nat.le_of_ble_eq_true rfl) (by rfl) 20000 (2 ^ 200 - 1) (rap_hs E m k a d z) (by rfl) (loopP_lfH ⟨?_⟩) ?_
  · rw [rap_pro]
    have hm : m.size ≤ 140737488351232 := hp
    obtain ⟨U, hU⟩ := U8R.of m
    refine ⟨⟨rfl, trivial⟩, fun y hy => ?_⟩
    rw [hy.2.2]
    refine ⟨fun h => ⟨rfl, trivial, ⟨fun _ => ⟨rfl, rfl⟩, fun h' => by rw [nv_t h] at h'; cases h'⟩⟩, fun h => ?_⟩
    have hv := nv_f h
    obtain ⟨ha, hk, hd⟩ := vl_rg hv
    have F3 : k = 2 → ((dat E k d).size : Int) = 4096 := fun h2 => by
      have e : dat E k d = repV E ff 4096 := by unfold dat; rw [if_pos h2]
      rw [e]; exact ff_size E 4096 (by omega)
    have F4 : k ≠ 2 → ((dat E k d).size : Int) = d.size := fun h1 => by unfold dat; rw [if_neg h1]
    have IN : ∀ n : Int, (n = if k = 2 then 4096 else (d.size : Int)) → (k = 3 ∨ a + (dat E k d).size ≤ m.size) → RH E m k a d n (rOf m) 0 := fun n hn hf => ⟨U, fun p hp => absurd hp (by omega), fun p _ hp => hU p hp, hv, hf, hn, by omega⟩
    have NO : (k ≠ 3 ∧ (m.size : Int) < a + (dat E k d).size) → ApQ E m k a d (ByteArray.mk #[]) 1 := fun hn => ⟨fun _ => ⟨rfl, rfl⟩, fun _ h' => absurd h' (by omega)⟩
    have RW := U.row
    have i1 : IntKind.i64.wrap ((m.size : Int) - 4096) = m.size - 4096 := by rw [wi64]; omega
    have i2 : IntKind.i64.wrap ((m.size : Int) - (d.size : Int)) = m.size - d.size := by rw [wi64]; omega
    rw [i1, i2]
    simp only [decide_eq_true_eq, decide_eq_false_iff_not, bne_iff_ne, ne_eq, bne_eq_false_iff_eq, beq_iff_eq, beq_eq_false_iff_ne]
    refine ⟨fun h2 => ?_, fun h2 => ?_⟩
    · have F3 := F3 h2
      have I1 : ¬ a > m.size - 4096 → RH E m k a d 4096 (rOf m) 0 := fun h => IN 4096 (by rw [if_pos h2]) (.inr (by omega))
      refine ⟨fun h3 => ⟨fun h4 => ⟨by trivial, trivial, NO ⟨h3, by omega⟩⟩, fun h4 => ?_⟩, fun h3 => absurd h3 (by omega)⟩
      have I1 := I1 h4
      (repeat' (first | exact trivial | exact I1 | exact RW | exact (rfl : renC _ _ = _) | exact rfl | apply And.intro)) <;> omega
    · have F4 := F4 h2
      have I1 : (k = 3 ∨ ¬ a > (m.size : Int) - d.size) → RH E m k a d (d.size : Int) (rOf m) 0 := fun h => IN _ (by rw [if_neg h2]) (by omega)
      refine ⟨fun h3 => ⟨fun h4 => ⟨by trivial, trivial, NO ⟨h3, by omega⟩⟩, fun h4 => ?_⟩, fun h3 => ?_⟩
      · have I1 := I1 (.inr h4)
        (repeat' (first | exact trivial | exact I1 | exact RW | exact (rfl : renC _ _ = _) | exact rfl | apply And.intro)) <;> omega
      · have I1 := I1 (.inl h3)
        (repeat' (first | exact trivial | exact I1 | exact RW | exact (rfl : renC _ _ = _) | exact rfl | apply And.intro)) <;> omega
  · intro h hmem y hy1 hy2 hy3
    simp only [rap_hs, List.mem_cons, List.not_mem_nil, or_false] at hmem
    rcases hmem with rfl
    · exact rap_q0 E m k a d z hp y hy1 hy2 hy3
end Go.Proofs.YtnfmkfmgaohpfaaDoor

