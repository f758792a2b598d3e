import Derived.Test.YthgcieloijmgdaaWA
set_option linter.unusedVariables false
set_option linter.unusedSimpArgs false
namespace Go.Proofs.Ythgcieloijmgdaa
open Go Go.Proofs Go.Proofs.Ythgcieloijmgdaa.Ev Go.Proofs.Ythgcieloijmgdaa.Ev.Ho
set_option maxRecDepth 100000
set_option maxHeartbeats 8000000
noncomputable def sWb_h0 (E : World) (t : ByteArray) (z : PX) : Hd := ⟨4, anyH, (sWb_td E), [(0, .c (.p 0 0)), (1, .q (.strn 73 t)), (4, .c (.p 1 0)), (6, .c (.p 2 0)), (7, .b), (10, .c (.i true .i64 73)), (11, .r .i64 (0) (73))], [mW 6, xB, xB], fun y => HI (SI false 6 t (z.s 0) (y.s 0) (y.n 91011) (y.n 2) (y.b 3) (y.n 4) (y.n 5)) (PW 6 512 t (z.s 0) (y.s 0) (y.n 2) (y.b 91007) (y.n 200000) (y.n 200001) (y.s 200002)) (y.n 91011) 73, fun y => (73 - y.n 91011).toNat⟩
noncomputable def sWb_hs (E : World) (t : ByteArray) (z : PX) : List Hd := [sWb_h0 E t z]
theorem sWb_pro (E : World) (t : ByteArray) (z : PX) :
    (loopP (pe E) Try.f17 (endR ([mW 6] : List MB).length [mW 6] (.u [some 3, none] [.i .i64, .i .i64, .s, .b]) (fun z y => PW 6 512 t (z.s 0) (y.s 0) (y.n 2) (y.b 90003) (y.n 90000) (y.n 90001) (y.s 90002)) z) (headR ([mW 6] : List MB).length Try.f17.ntmps none (sWb_hs E t z)) (run (pe E) (orcV E) (tabL fns) 20000 (2 ^ 200 - 1) [.code (Try.f17.body.getD .skip)] ⟨Try.f17.ntmps, mkFrGo (Tr.mk 12) 0 [.c (.p 0 0), .c (.strn 73 t)]⟩ (mkM z [] [mW 6] 0))) =
    (decide (t.size = (73 : Nat)) = true ∧ sWb_td E = sWb_td E ∧ 26 = 26 ∧ (True ∧ (renC (posN [(0 : Nat), (1 : Nat), (2 : Nat)]) (C.strn (73 : Nat) t) = C.strn (73 : Nat) t ∧ 
      True) ∧ True ∧ True ∧ True ∧ True ∧ (((0 : Int) ≤ (0 : Int) ∧ (0 : Int) ≤ 73) ∧ True) ∧ True) ∧ (63 = 63 ∧ ((0 ≤ z.n 2 ∧ z.n 2 ≤ 80) ∧ (0 ≤ z.n 7 ∧ z.n 7 ≤ 68) ∧ 
      True) ∧ 36 = 36 ∧ True ∧ 36 = 36 ∧ True ∧ ([] : SW) = []) ∧ HI (SI false (6 : Nat) t (z.s 0) (z.s 0) 0 (z.n 2) (z.b 3) (z.n 4) (z.n 5)) (PW (6 : Nat) (512 : Nat) t 
      (z.s 0) (z.s 0) (z.n 2) false 0 0 (ByteArray.mk #[])) 0 73 ∧ True) := by kernel_rfl
theorem sWb_r0 (E : World) (t : ByteArray) (z : PX) (y : PX) :
    (loopP (pe E) Try.f17 (endR ([mW 6] : List MB).length [mW 6] (.u [some 3, none] [.i .i64, .i .i64, .s, .b]) (fun z y => PW 6 512 t (z.s 0) (y.s 0) (y.n 2) (y.b 90003) (y.n 90000) (y.n 90001) (y.s 90002)) z) (headR ([mW 6] : List MB).length Try.f17.ntmps (some ((fun y => (73 - y.n 91011).toNat) y)) (sWb_hs E t z))  (run (pe E) (orcV E) (tabL fns) 20000 (2 ^ 200 - 1) (sWb_td E) (mkL Try.f17.ntmps (slC y [(0, .c (.p 0 0)), (1, .q (.strn 73 t)), (4, .c (.p 1 0)), (6, .c (.p 2 0)), (7, .b), (10, .c (.i true .i64 73)), (11, .r .i64 (0) (73))])) (mkM y [] [mW 6, xB, xB] 0))) =
    ((decide (y.n 91011 < 73) = true → decide (t.size = (73 : Nat)) = true ∧ inB (y.n 91011) (73 : Nat) = true ∧ ((false ^^ y.s 0 == ByteArray.mk #[]) = true → lnb 73 E t y 
      ((63 = 63 ∧ ((0 ≤ y.n 2 ∧ y.n 2 ≤ 80) ∧ (0 ≤ y.n 7 ∧ y.n 7 ≤ 68) ∧ True) ∧ 36 = 36 ∧ True ∧ 36 = 36 ∧ True ∧ ([] : SW) = []) ∧ HI (SI false (6 : Nat) t (z.s 0) (y.s 
      0) (IntKind.i64.wrap (y.n 91011 + 1)) (y.n 2) (y.b 3) (y.n 4) (y.n 5)) (PW (6 : Nat) (512 : Nat) t (z.s 0) (y.s 0) (y.n 2) false 0 0 (ByteArray.mk #[])) 
      (IntKind.i64.wrap (y.n 91011 + 1)) 73 ∧ (73 - IntKind.i64.wrap (y.n 91011 + 1)).toNat < (73 - y.n 91011).toNat ∧ True)) ∧ ((false ^^ y.s 0 == ByteArray.mk #[]) = 
      false → ((y.n 2 == 0) = true → ((bits BinOp.and .u8 (IntKind.u8.wrap (strB t (y.n 91011) - 48)) (1 : Int) == 0) = true → lnb 73 E t y ((63 = 63 ∧ ((0 ≤ y.n 2 ∧ y.n 
      2 ≤ 80) ∧ (0 ≤ y.n 7 ∧ y.n 7 ≤ 68) ∧ True) ∧ 36 = 36 ∧ True ∧ 36 = 36 ∧ True ∧ ([] : SW) = []) ∧ HI (SI false (6 : Nat) t (z.s 0) (y.s 0) (IntKind.i64.wrap (y.n 
      91011 + 1)) (y.n 2) (y.b 3) (y.n 4) (y.n 5)) (PW (6 : Nat) (512 : Nat) t (z.s 0) (y.s 0) (y.n 2) false 0 0 (ByteArray.mk #[])) (IntKind.i64.wrap (y.n 91011 + 1)) 73 
      ∧ (73 - IntKind.i64.wrap (y.n 91011 + 1)).toNat < (73 - y.n 91011).toNat ∧ True)) ∧ ((bits BinOp.and .u8 (IntKind.u8.wrap (strB t (y.n 91011) - 48)) (1 : Int) == 0) 
      = false → ((!y.b 3) = true → (decide (y.n 2 > 1) = true → decide (y.s 0 = y.s 0) = true ∧ decide (y.n 2 = y.n 2) = true ∧ decide (y.b 3 = y.b 3) = true ∧ decide 
      (y.n 4 = y.n 4) = true ∧ decide (y.n 5 = y.n 5) = true ∧ decide (y.n 6 = y.n 6) = true ∧ decide (y.n 7 = y.n 7) = true ∧ ((y.n 2 == 72) = true → (!decide ((↑(y.s 
      0).size : Int) = 0)) = true ∧ (y.b 3 = true → inB (IntKind.i64.wrap (ad y + 0)) (y.s 0).size = true ∧ inB (IntKind.i64.wrap (ad y + 1)) (y.s 0).size = true ∧ inB 
      (IntKind.i64.wrap (ad y + 2)) (y.s 0).size = true ∧ inB (IntKind.i64.wrap (ad y + 3)) (y.s 0).size = true ∧ inB (IntKind.i64.wrap (ad y + 4)) (y.s 0).size = true ∧ 
      inB (IntKind.i64.wrap (ad y + 5)) (y.s 0).size = true ∧ inB (IntKind.i64.wrap (ad y + 6)) (y.s 0).size = true ∧ inB (IntKind.i64.wrap (ad y + 7)) (y.s 0).size = 
      true ∧ lnb 73 E t y ((63 = 63 ∧ (((0 : Int) ≤ (0 : Int) ∧ (0 : Int) ≤ 80) ∧ ((0 : Int) ≤ (68 : Int) ∧ (68 : Int) ≤ 68) ∧ True) ∧ 36 = 36 ∧ True ∧ 36 = 36 ∧ True ∧ 
      ([] : SW) = []) ∧ HI (SI false (6 : Nat) t (z.s 0) (y.s 0) (IntKind.i64.wrap (y.n 91011 + 1)) 0 (y.b 3) (y.n 4) (y.n 5)) (PW (6 : Nat) (512 : Nat) t (z.s 0) (y.s 0) 
      0 false 0 0 (ByteArray.mk #[])) (IntKind.i64.wrap (y.n 91011 + 1)) 73 ∧ (73 - IntKind.i64.wrap (y.n 91011 + 1)).toNat < (73 - y.n 91011).toNat ∧ True)) ∧ (y.b 3 = 
      false → (decide (ad y < 0) = true → lnb 73 E t y ((63 = 63 ∧ (((0 : Int) ≤ (0 : Int) ∧ (0 : Int) ≤ 80) ∧ ((0 : Int) ≤ (0 : Int) ∧ (0 : Int) ≤ 68) ∧ True) ∧ 36 = 36 
      ∧ True ∧ 36 = 36 ∧ True ∧ ([] : SW) = []) ∧ HI (SI false (6 : Nat) t (z.s 0) (y.s 0) (IntKind.i64.wrap (y.n 91011 + 1)) 0 (y.b 3) (y.n 4) (y.n 5)) (PW (6 : Nat) 
      (512 : Nat) t (z.s 0) (y.s 0) 0 true 1 (ad y) (byT (y.n 5))) (IntKind.i64.wrap (y.n 91011 + 1)) 73 ∧ (73 - IntKind.i64.wrap (y.n 91011 + 1)).toNat < (73 - y.n 
      91011).toNat ∧ True)) ∧ (decide (ad y < 0) = false → (decide (ad y > 131071) = true → lnb 73 E t y ((63 = 63 ∧ (((0 : Int) ≤ (0 : Int) ∧ (0 : Int) ≤ 80) ∧ ((0 : 
      Int) ≤ (0 : Int) ∧ (0 : Int) ≤ 68) ∧ True) ∧ 36 = 36 ∧ True ∧ 36 = 36 ∧ True ∧ ([] : SW) = []) ∧ HI (SI false (6 : Nat) t (z.s 0) (y.s 0) (IntKind.i64.wrap (y.n 
      91011 + 1)) 0 (y.b 3) (y.n 4) (y.n 5)) (PW (6 : Nat) (512 : Nat) t (z.s 0) (y.s 0) 0 true 1 (ad y) (byT (y.n 5))) (IntKind.i64.wrap (y.n 91011 + 1)) 73 ∧ (73 - 
      IntKind.i64.wrap (y.n 91011 + 1)).toNat < (73 - y.n 91011).toNat ∧ True)) ∧ (decide (ad y > 131071) = false → decide ((byT (y.n 5)).size = (8 : Nat)) = true ∧ 
      decide ((byT (y.n 5)).size = (8 : Nat)) = true ∧ decide ((byT (y.n 5)).size = (8 : Nat)) = true ∧ (decide (IntKind.i64.wrap (ad y + 8) > (↑(y.s 0).size : Int)) = 
      true → lnb 73 E t y ((63 = 63 ∧ (((0 : Int) ≤ (0 : Int) ∧ (0 : Int) ≤ 80) ∧ ((0 : Int) ≤ (0 : Int) ∧ (0 : Int) ≤ 68) ∧ True) ∧ 36 = 36 ∧ True ∧ 36 = 36 ∧ True ∧ ([] 
      : SW) = []) ∧ HI (SI false (6 : Nat) t (z.s 0) (y.s 0) (IntKind.i64.wrap (y.n 91011 + 1)) 0 (y.b 3) (y.n 4) (y.n 5)) (PW (6 : Nat) (512 : Nat) t (z.s 0) (y.s 0) 0 
      true 1 (ad y) (byT (y.n 5))) (IntKind.i64.wrap (y.n 91011 + 1)) 73 ∧ (73 - IntKind.i64.wrap (y.n 91011 + 1)).toNat < (73 - y.n 91011).toNat ∧ True)) ∧ (decide 
      (IntKind.i64.wrap (ad y + 8) > (↑(y.s 0).size : Int)) = false → decide ((byT (y.n 5)).size = (8 : Nat)) = true ∧ decide (0 ≤ ad y) = true ∧ decide (ad y ≤ (↑(y.s 
      0).size : Int)) = true ∧ decide (0 ≤ IntKind.i64.wrap (ad y + 8)) = true ∧ decide (IntKind.i64.wrap (ad y + 8) ≤ (↑(y.s 0).size : Int)) = true ∧ (room (catL [strSl 
      (y.s 0) 0 (ad y), byT (y.n 5), strSl (y.s 0) (IntKind.i64.wrap (ad y + 8)) (↑(y.s 0).size : Int)]).length && [strSl (y.s 0) 0 (ad y), byT (y.n 5), strSl (y.s 0) 
      (IntKind.i64.wrap (ad y + 8)) (↑(y.s 0).size : Int)].length.ble (1000000 : Nat)) = true ∧ lnb 73 E t y ((63 = 63 ∧ (((0 : Int) ≤ (0 : Int) ∧ (0 : Int) ≤ 80) ∧ ((0 : 
      Int) ≤ (0 : Int) ∧ (0 : Int) ≤ 68) ∧ True) ∧ 36 = 36 ∧ True ∧ 36 = 36 ∧ True ∧ ([] : SW) = []) ∧ HI (SI false (6 : Nat) t (z.s 0) (catB [strSl (y.s 0) 0 (ad y), byT 
      (y.n 5), strSl (y.s 0) (IntKind.i64.wrap (ad y + 8)) (↑(y.s 0).size : Int)]) (IntKind.i64.wrap (y.n 91011 + 1)) 0 (y.b 3) (y.n 4) (y.n 5)) (PW (6 : Nat) (512 : Nat) 
      t (z.s 0) (catB [strSl (y.s 0) 0 (ad y), byT (y.n 5), strSl (y.s 0) (IntKind.i64.wrap (ad y + 8)) (↑(y.s 0).size : Int)]) 0 true 1 (ad y) (byT (y.n 5))) 
      (IntKind.i64.wrap (y.n 91011 + 1)) 73 ∧ (73 - IntKind.i64.wrap (y.n 91011 + 1)).toNat < (73 - y.n 91011).toNat ∧ True)))))) ∧ ((y.n 2 == 72) = false → ((y.n 2 == 0) 
      = true → lnb 73 E t y ((63 = 63 ∧ ((0 ≤ IntKind.i64.wrap (y.n 2 + 1) ∧ IntKind.i64.wrap (y.n 2 + 1) ≤ 80) ∧ (0 ≤ y.n 7 ∧ y.n 7 ≤ 68) ∧ True) ∧ 36 = 36 ∧ True ∧ 36 = 
      36 ∧ True ∧ ([] : SW) = []) ∧ HI (SI false (6 : Nat) t (z.s 0) (y.s 0) (IntKind.i64.wrap (y.n 91011 + 1)) (IntKind.i64.wrap (y.n 2 + 1)) (y.b 3) 0 0) (PW (6 : Nat) 
      (512 : Nat) t (z.s 0) (y.s 0) (IntKind.i64.wrap (y.n 2 + 1)) false 0 0 (ByteArray.mk #[])) (IntKind.i64.wrap (y.n 91011 + 1)) 73 ∧ (73 - IntKind.i64.wrap (y.n 91011 
      + 1)).toNat < (73 - y.n 91011).toNat ∧ True)) ∧ ((y.n 2 == 0) = false → ((y.n 2 == 1) = true → ((bits BinOp.and .u8 (IntKind.u8.wrap (strB t (y.n 91011) - 48)) (1 : 
      Int) == 1) = true → lnb 73 E t y ((63 = 63 ∧ ((0 ≤ IntKind.i64.wrap (y.n 2 + 1) ∧ IntKind.i64.wrap (y.n 2 + 1) ≤ 80) ∧ (0 ≤ y.n 7 ∧ y.n 7 ≤ 68) ∧ True) ∧ 36 = 36 ∧ 
      True ∧ 36 = 36 ∧ True ∧ ([] : SW) = []) ∧ HI (SI false (6 : Nat) t (z.s 0) (y.s 0) (IntKind.i64.wrap (y.n 91011 + 1)) (IntKind.i64.wrap (y.n 2 + 1)) true (y.n 4) 
      (y.n 5)) (PW (6 : Nat) (512 : Nat) t (z.s 0) (y.s 0) (IntKind.i64.wrap (y.n 2 + 1)) false 0 0 (ByteArray.mk #[])) (IntKind.i64.wrap (y.n 91011 + 1)) 73 ∧ (73 - 
      IntKind.i64.wrap (y.n 91011 + 1)).toNat < (73 - y.n 91011).toNat ∧ True)) ∧ ((bits BinOp.and .u8 (IntKind.u8.wrap (strB t (y.n 91011) - 48)) (1 : Int) == 1) = false 
      → lnb 73 E t y ((63 = 63 ∧ ((0 ≤ IntKind.i64.wrap (y.n 2 + 1) ∧ IntKind.i64.wrap (y.n 2 + 1) ≤ 80) ∧ (0 ≤ y.n 7 ∧ y.n 7 ≤ 68) ∧ True) ∧ 36 = 36 ∧ True ∧ 36 = 36 ∧ 
      True ∧ ([] : SW) = []) ∧ HI (SI false (6 : Nat) t (z.s 0) (y.s 0) (IntKind.i64.wrap (y.n 91011 + 1)) (IntKind.i64.wrap (y.n 2 + 1)) false (y.n 4) (y.n 5)) (PW (6 : 
      Nat) (512 : Nat) t (z.s 0) (y.s 0) (IntKind.i64.wrap (y.n 2 + 1)) false 0 0 (ByteArray.mk #[])) (IntKind.i64.wrap (y.n 91011 + 1)) 73 ∧ (73 - IntKind.i64.wrap (y.n 
      91011 + 1)).toNat < (73 - y.n 91011).toNat ∧ True))) ∧ ((y.n 2 == 1) = false → (decide (y.n 2 < 8) = true → lnb 73 E t y ((63 = 63 ∧ ((0 ≤ IntKind.i64.wrap (y.n 2 + 
      1) ∧ IntKind.i64.wrap (y.n 2 + 1) ≤ 80) ∧ (0 ≤ y.n 7 ∧ y.n 7 ≤ 68) ∧ True) ∧ 36 = 36 ∧ True ∧ 36 = 36 ∧ True ∧ ([] : SW) = []) ∧ HI (SI false (6 : Nat) t (z.s 0) 
      (y.s 0) (IntKind.i64.wrap (y.n 91011 + 1)) (IntKind.i64.wrap (y.n 2 + 1)) (y.b 3) (bits BinOp.or .i64 (IntKind.i64.wrap (y.n 4 * 2)) (IntKind.i64.wrap (bits 
      BinOp.and .u8 (IntKind.u8.wrap (strB t (y.n 91011) - 48)) 1))) (y.n 5)) (PW (6 : Nat) (512 : Nat) t (z.s 0) (y.s 0) (IntKind.i64.wrap (y.n 2 + 1)) false 0 0 
      (ByteArray.mk #[])) (IntKind.i64.wrap (y.n 91011 + 1)) 73 ∧ (73 - IntKind.i64.wrap (y.n 91011 + 1)).toNat < (73 - y.n 91011).toNat ∧ True)) ∧ (decide (y.n 2 < 8) = 
      false → lnb 73 E t y ((63 = 63 ∧ ((0 ≤ IntKind.i64.wrap (y.n 2 + 1) ∧ IntKind.i64.wrap (y.n 2 + 1) ≤ 80) ∧ (0 ≤ y.n 7 ∧ y.n 7 ≤ 68) ∧ True) ∧ 36 = 36 ∧ True ∧ 36 = 
      36 ∧ True ∧ ([] : SW) = []) ∧ HI (SI false (6 : Nat) t (z.s 0) (y.s 0) (IntKind.i64.wrap (y.n 91011 + 1)) (IntKind.i64.wrap (y.n 2 + 1)) (y.b 3) (y.n 4) (bits 
      BinOp.or .u64 (IntKind.u64.wrap (y.n 5 * 2)) (IntKind.u64.wrap (bits BinOp.and .u8 (IntKind.u8.wrap (strB t (y.n 91011) - 48)) 1)))) (PW (6 : Nat) (512 : Nat) t 
      (z.s 0) (y.s 0) (IntKind.i64.wrap (y.n 2 + 1)) false 0 0 (ByteArray.mk #[])) (IntKind.i64.wrap (y.n 91011 + 1)) 73 ∧ (73 - IntKind.i64.wrap (y.n 91011 + 1)).toNat < 
      (73 - y.n 91011).toNat ∧ True)))))) ∧ (decide (y.n 2 > 1) = false → decide (y.s 0 = y.s 0) = true ∧ decide (y.n 2 = y.n 2) = true ∧ decide (y.b 3 = y.b 3) = true ∧ 
      decide (y.n 4 = y.n 4) = true ∧ decide (y.n 5 = y.n 5) = true ∧ decide (y.n 6 = y.n 6) = true ∧ decide (y.n 7 = y.n 7) = true ∧ ((y.n 2 == 8) = true → (!decide 
      ((↑(y.s 0).size : Int) = 0)) = true ∧ (y.b 3 = true → inB (IntKind.i64.wrap (ad y + 0)) (y.s 0).size = true ∧ inB (IntKind.i64.wrap (ad y + 1)) (y.s 0).size = true 
      ∧ inB (IntKind.i64.wrap (ad y + 2)) (y.s 0).size = true ∧ inB (IntKind.i64.wrap (ad y + 3)) (y.s 0).size = true ∧ inB (IntKind.i64.wrap (ad y + 4)) (y.s 0).size = 
      true ∧ inB (IntKind.i64.wrap (ad y + 5)) (y.s 0).size = true ∧ inB (IntKind.i64.wrap (ad y + 6)) (y.s 0).size = true ∧ inB (IntKind.i64.wrap (ad y + 7)) (y.s 
      0).size = true ∧ lnb 73 E t y ((63 = 63 ∧ (((0 : Int) ≤ (0 : Int) ∧ (0 : Int) ≤ 80) ∧ ((0 : Int) ≤ (68 : Int) ∧ (68 : Int) ≤ 68) ∧ True) ∧ 36 = 36 ∧ True ∧ 36 = 36 
      ∧ True ∧ ([] : SW) = []) ∧ HI (SI false (6 : Nat) t (z.s 0) (y.s 0) (IntKind.i64.wrap (y.n 91011 + 1)) 0 (y.b 3) (y.n 4) (y.n 5)) (PW (6 : Nat) (512 : Nat) t (z.s 
      0) (y.s 0) 0 false 0 0 (ByteArray.mk #[])) (IntKind.i64.wrap (y.n 91011 + 1)) 73 ∧ (73 - IntKind.i64.wrap (y.n 91011 + 1)).toNat < (73 - y.n 91011).toNat ∧ True)) ∧ 
      (y.b 3 = false → (decide (ad y < 0) = true → lnb 73 E t y ((63 = 63 ∧ (((0 : Int) ≤ (0 : Int) ∧ (0 : Int) ≤ 80) ∧ ((0 : Int) ≤ (0 : Int) ∧ (0 : Int) ≤ 68) ∧ True) ∧ 
      36 = 36 ∧ True ∧ 36 = 36 ∧ True ∧ ([] : SW) = []) ∧ HI (SI false (6 : Nat) t (z.s 0) (y.s 0) (IntKind.i64.wrap (y.n 91011 + 1)) 0 (y.b 3) (y.n 4) (y.n 5)) (PW (6 : 
      Nat) (512 : Nat) t (z.s 0) (y.s 0) 0 true 1 (ad y) (byT (y.n 5))) (IntKind.i64.wrap (y.n 91011 + 1)) 73 ∧ (73 - IntKind.i64.wrap (y.n 91011 + 1)).toNat < (73 - y.n 
      91011).toNat ∧ True)) ∧ (decide (ad y < 0) = false → (decide (ad y > 131071) = true → lnb 73 E t y ((63 = 63 ∧ (((0 : Int) ≤ (0 : Int) ∧ (0 : Int) ≤ 80) ∧ ((0 : 
      Int) ≤ (0 : Int) ∧ (0 : Int) ≤ 68) ∧ True) ∧ 36 = 36 ∧ True ∧ 36 = 36 ∧ True ∧ ([] : SW) = []) ∧ HI (SI false (6 : Nat) t (z.s 0) (y.s 0) (IntKind.i64.wrap (y.n 
      91011 + 1)) 0 (y.b 3) (y.n 4) (y.n 5)) (PW (6 : Nat) (512 : Nat) t (z.s 0) (y.s 0) 0 true 1 (ad y) (byT (y.n 5))) (IntKind.i64.wrap (y.n 91011 + 1)) 73 ∧ (73 - 
      IntKind.i64.wrap (y.n 91011 + 1)).toNat < (73 - y.n 91011).toNat ∧ True)) ∧ (decide (ad y > 131071) = false → decide ((byT (y.n 5)).size = (8 : Nat)) = true ∧ 
      decide ((byT (y.n 5)).size = (8 : Nat)) = true ∧ decide ((byT (y.n 5)).size = (8 : Nat)) = true ∧ (decide (IntKind.i64.wrap (ad y + 8) > (↑(y.s 0).size : Int)) = 
      true → lnb 73 E t y ((63 = 63 ∧ (((0 : Int) ≤ (0 : Int) ∧ (0 : Int) ≤ 80) ∧ ((0 : Int) ≤ (0 : Int) ∧ (0 : Int) ≤ 68) ∧ True) ∧ 36 = 36 ∧ True ∧ 36 = 36 ∧ True ∧ ([] 
      : SW) = []) ∧ HI (SI false (6 : Nat) t (z.s 0) (y.s 0) (IntKind.i64.wrap (y.n 91011 + 1)) 0 (y.b 3) (y.n 4) (y.n 5)) (PW (6 : Nat) (512 : Nat) t (z.s 0) (y.s 0) 0 
      true 1 (ad y) (byT (y.n 5))) (IntKind.i64.wrap (y.n 91011 + 1)) 73 ∧ (73 - IntKind.i64.wrap (y.n 91011 + 1)).toNat < (73 - y.n 91011).toNat ∧ True)) ∧ (decide 
      (IntKind.i64.wrap (ad y + 8) > (↑(y.s 0).size : Int)) = false → decide ((byT (y.n 5)).size = (8 : Nat)) = true ∧ decide (0 ≤ ad y) = true ∧ decide (ad y ≤ (↑(y.s 
      0).size : Int)) = true ∧ decide (0 ≤ IntKind.i64.wrap (ad y + 8)) = true ∧ decide (IntKind.i64.wrap (ad y + 8) ≤ (↑(y.s 0).size : Int)) = true ∧ (room (catL [strSl 
      (y.s 0) 0 (ad y), byT (y.n 5), strSl (y.s 0) (IntKind.i64.wrap (ad y + 8)) (↑(y.s 0).size : Int)]).length && [strSl (y.s 0) 0 (ad y), byT (y.n 5), strSl (y.s 0) 
      (IntKind.i64.wrap (ad y + 8)) (↑(y.s 0).size : Int)].length.ble (1000000 : Nat)) = true ∧ lnb 73 E t y ((63 = 63 ∧ (((0 : Int) ≤ (0 : Int) ∧ (0 : Int) ≤ 80) ∧ ((0 : 
      Int) ≤ (0 : Int) ∧ (0 : Int) ≤ 68) ∧ True) ∧ 36 = 36 ∧ True ∧ 36 = 36 ∧ True ∧ ([] : SW) = []) ∧ HI (SI false (6 : Nat) t (z.s 0) (catB [strSl (y.s 0) 0 (ad y), byT 
      (y.n 5), strSl (y.s 0) (IntKind.i64.wrap (ad y + 8)) (↑(y.s 0).size : Int)]) (IntKind.i64.wrap (y.n 91011 + 1)) 0 (y.b 3) (y.n 4) (y.n 5)) (PW (6 : Nat) (512 : Nat) 
      t (z.s 0) (catB [strSl (y.s 0) 0 (ad y), byT (y.n 5), strSl (y.s 0) (IntKind.i64.wrap (ad y + 8)) (↑(y.s 0).size : Int)]) 0 true 1 (ad y) (byT (y.n 5))) 
      (IntKind.i64.wrap (y.n 91011 + 1)) 73 ∧ (73 - IntKind.i64.wrap (y.n 91011 + 1)).toNat < (73 - y.n 91011).toNat ∧ True)))))) ∧ ((y.n 2 == 8) = false → ((y.n 2 == 0) 
      = true → lnb 73 E t y ((63 = 63 ∧ ((0 ≤ IntKind.i64.wrap (y.n 2 + 1) ∧ IntKind.i64.wrap (y.n 2 + 1) ≤ 80) ∧ (0 ≤ y.n 7 ∧ y.n 7 ≤ 68) ∧ True) ∧ 36 = 36 ∧ True ∧ 36 = 
      36 ∧ True ∧ ([] : SW) = []) ∧ HI (SI false (6 : Nat) t (z.s 0) (y.s 0) (IntKind.i64.wrap (y.n 91011 + 1)) (IntKind.i64.wrap (y.n 2 + 1)) (y.b 3) 0 0) (PW (6 : Nat) 
      (512 : Nat) t (z.s 0) (y.s 0) (IntKind.i64.wrap (y.n 2 + 1)) false 0 0 (ByteArray.mk #[])) (IntKind.i64.wrap (y.n 91011 + 1)) 73 ∧ (73 - IntKind.i64.wrap (y.n 91011 
      + 1)).toNat < (73 - y.n 91011).toNat ∧ True)) ∧ ((y.n 2 == 0) = false → ((y.n 2 == 1) = true → ((bits BinOp.and .u8 (IntKind.u8.wrap (strB t (y.n 91011) - 48)) (1 : 
      Int) == 1) = true → lnb 73 E t y ((63 = 63 ∧ ((0 ≤ IntKind.i64.wrap (y.n 2 + 1) ∧ IntKind.i64.wrap (y.n 2 + 1) ≤ 80) ∧ (0 ≤ y.n 7 ∧ y.n 7 ≤ 68) ∧ True) ∧ 36 = 36 ∧ 
      True ∧ 36 = 36 ∧ True ∧ ([] : SW) = []) ∧ HI (SI false (6 : Nat) t (z.s 0) (y.s 0) (IntKind.i64.wrap (y.n 91011 + 1)) (IntKind.i64.wrap (y.n 2 + 1)) true (y.n 4) 
      (y.n 5)) (PW (6 : Nat) (512 : Nat) t (z.s 0) (y.s 0) (IntKind.i64.wrap (y.n 2 + 1)) false 0 0 (ByteArray.mk #[])) (IntKind.i64.wrap (y.n 91011 + 1)) 73 ∧ (73 - 
      IntKind.i64.wrap (y.n 91011 + 1)).toNat < (73 - y.n 91011).toNat ∧ True)) ∧ ((bits BinOp.and .u8 (IntKind.u8.wrap (strB t (y.n 91011) - 48)) (1 : Int) == 1) = false 
      → lnb 73 E t y ((63 = 63 ∧ ((0 ≤ IntKind.i64.wrap (y.n 2 + 1) ∧ IntKind.i64.wrap (y.n 2 + 1) ≤ 80) ∧ (0 ≤ y.n 7 ∧ y.n 7 ≤ 68) ∧ True) ∧ 36 = 36 ∧ True ∧ 36 = 36 ∧ 
      True ∧ ([] : SW) = []) ∧ HI (SI false (6 : Nat) t (z.s 0) (y.s 0) (IntKind.i64.wrap (y.n 91011 + 1)) (IntKind.i64.wrap (y.n 2 + 1)) false (y.n 4) (y.n 5)) (PW (6 : 
      Nat) (512 : Nat) t (z.s 0) (y.s 0) (IntKind.i64.wrap (y.n 2 + 1)) false 0 0 (ByteArray.mk #[])) (IntKind.i64.wrap (y.n 91011 + 1)) 73 ∧ (73 - IntKind.i64.wrap (y.n 
      91011 + 1)).toNat < (73 - y.n 91011).toNat ∧ True))) ∧ ((y.n 2 == 1) = false → (decide (y.n 2 < 8) = true → lnb 73 E t y ((63 = 63 ∧ ((0 ≤ IntKind.i64.wrap (y.n 2 + 
      1) ∧ IntKind.i64.wrap (y.n 2 + 1) ≤ 80) ∧ (0 ≤ y.n 7 ∧ y.n 7 ≤ 68) ∧ True) ∧ 36 = 36 ∧ True ∧ 36 = 36 ∧ True ∧ ([] : SW) = []) ∧ HI (SI false (6 : Nat) t (z.s 0) 
      (y.s 0) (IntKind.i64.wrap (y.n 91011 + 1)) (IntKind.i64.wrap (y.n 2 + 1)) (y.b 3) (bits BinOp.or .i64 (IntKind.i64.wrap (y.n 4 * 2)) (IntKind.i64.wrap (bits 
      BinOp.and .u8 (IntKind.u8.wrap (strB t (y.n 91011) - 48)) 1))) (y.n 5)) (PW (6 : Nat) (512 : Nat) t (z.s 0) (y.s 0) (IntKind.i64.wrap (y.n 2 + 1)) false 0 0 
      (ByteArray.mk #[])) (IntKind.i64.wrap (y.n 91011 + 1)) 73 ∧ (73 - IntKind.i64.wrap (y.n 91011 + 1)).toNat < (73 - y.n 91011).toNat ∧ True)) ∧ (decide (y.n 2 < 8) = 
      false → lnb 73 E t y ((63 = 63 ∧ ((0 ≤ IntKind.i64.wrap (y.n 2 + 1) ∧ IntKind.i64.wrap (y.n 2 + 1) ≤ 80) ∧ (0 ≤ y.n 7 ∧ y.n 7 ≤ 68) ∧ True) ∧ 36 = 36 ∧ True ∧ 36 = 
      36 ∧ True ∧ ([] : SW) = []) ∧ HI (SI false (6 : Nat) t (z.s 0) (y.s 0) (IntKind.i64.wrap (y.n 91011 + 1)) (IntKind.i64.wrap (y.n 2 + 1)) (y.b 3) (y.n 4) (bits 
      BinOp.or .u64 (IntKind.u64.wrap (y.n 5 * 2)) (IntKind.u64.wrap (bits BinOp.and .u8 (IntKind.u8.wrap (strB t (y.n 91011) - 48)) 1)))) (PW (6 : Nat) (512 : Nat) t 
      (z.s 0) (y.s 0) (IntKind.i64.wrap (y.n 2 + 1)) false 0 0 (ByteArray.mk #[])) (IntKind.i64.wrap (y.n 91011 + 1)) 73 ∧ (73 - IntKind.i64.wrap (y.n 91011 + 1)).toNat < 
      (73 - y.n 91011).toNat ∧ True))))))) ∧ ((!y.b 3) = false → decide (y.s 0 = y.s 0) = true ∧ decide (y.n 2 = y.n 2) = true ∧ decide (y.b 3 = y.b 3) = true ∧ decide 
      (y.n 4 = y.n 4) = true ∧ decide (y.n 5 = y.n 5) = true ∧ decide (y.n 6 = y.n 6) = true ∧ decide (y.n 7 = y.n 7) = true ∧ ((y.n 2 == 8) = true → (!decide ((↑(y.s 
      0).size : Int) = 0)) = true ∧ (y.b 3 = true → inB (IntKind.i64.wrap (ad y + 0)) (y.s 0).size = true ∧ inB (IntKind.i64.wrap (ad y + 1)) (y.s 0).size = true ∧ inB 
      (IntKind.i64.wrap (ad y + 2)) (y.s 0).size = true ∧ inB (IntKind.i64.wrap (ad y + 3)) (y.s 0).size = true ∧ inB (IntKind.i64.wrap (ad y + 4)) (y.s 0).size = true ∧ 
      inB (IntKind.i64.wrap (ad y + 5)) (y.s 0).size = true ∧ inB (IntKind.i64.wrap (ad y + 6)) (y.s 0).size = true ∧ inB (IntKind.i64.wrap (ad y + 7)) (y.s 0).size = 
      true ∧ lnb 73 E t y ((63 = 63 ∧ (((0 : Int) ≤ (0 : Int) ∧ (0 : Int) ≤ 80) ∧ ((0 : Int) ≤ (68 : Int) ∧ (68 : Int) ≤ 68) ∧ True) ∧ 36 = 36 ∧ True ∧ 36 = 36 ∧ True ∧ 
      ([] : SW) = []) ∧ HI (SI false (6 : Nat) t (z.s 0) (y.s 0) (IntKind.i64.wrap (y.n 91011 + 1)) 0 (y.b 3) (y.n 4) (y.n 5)) (PW (6 : Nat) (512 : Nat) t (z.s 0) (y.s 0) 
      0 false 0 0 (ByteArray.mk #[])) (IntKind.i64.wrap (y.n 91011 + 1)) 73 ∧ (73 - IntKind.i64.wrap (y.n 91011 + 1)).toNat < (73 - y.n 91011).toNat ∧ True)) ∧ (y.b 3 = 
      false → (decide (ad y < 0) = true → lnb 73 E t y ((63 = 63 ∧ (((0 : Int) ≤ (0 : Int) ∧ (0 : Int) ≤ 80) ∧ ((0 : Int) ≤ (0 : Int) ∧ (0 : Int) ≤ 68) ∧ True) ∧ 36 = 36 
      ∧ True ∧ 36 = 36 ∧ True ∧ ([] : SW) = []) ∧ HI (SI false (6 : Nat) t (z.s 0) (y.s 0) (IntKind.i64.wrap (y.n 91011 + 1)) 0 (y.b 3) (y.n 4) (y.n 5)) (PW (6 : Nat) 
      (512 : Nat) t (z.s 0) (y.s 0) 0 true 1 (ad y) (byT (y.n 5))) (IntKind.i64.wrap (y.n 91011 + 1)) 73 ∧ (73 - IntKind.i64.wrap (y.n 91011 + 1)).toNat < (73 - y.n 
      91011).toNat ∧ True)) ∧ (decide (ad y < 0) = false → (decide (ad y > 131071) = true → lnb 73 E t y ((63 = 63 ∧ (((0 : Int) ≤ (0 : Int) ∧ (0 : Int) ≤ 80) ∧ ((0 : 
      Int) ≤ (0 : Int) ∧ (0 : Int) ≤ 68) ∧ True) ∧ 36 = 36 ∧ True ∧ 36 = 36 ∧ True ∧ ([] : SW) = []) ∧ HI (SI false (6 : Nat) t (z.s 0) (y.s 0) (IntKind.i64.wrap (y.n 
      91011 + 1)) 0 (y.b 3) (y.n 4) (y.n 5)) (PW (6 : Nat) (512 : Nat) t (z.s 0) (y.s 0) 0 true 1 (ad y) (byT (y.n 5))) (IntKind.i64.wrap (y.n 91011 + 1)) 73 ∧ (73 - 
      IntKind.i64.wrap (y.n 91011 + 1)).toNat < (73 - y.n 91011).toNat ∧ True)) ∧ (decide (ad y > 131071) = false → decide ((byT (y.n 5)).size = (8 : Nat)) = true ∧ 
      decide ((byT (y.n 5)).size = (8 : Nat)) = true ∧ decide ((byT (y.n 5)).size = (8 : Nat)) = true ∧ (decide (IntKind.i64.wrap (ad y + 8) > (↑(y.s 0).size : Int)) = 
      true → lnb 73 E t y ((63 = 63 ∧ (((0 : Int) ≤ (0 : Int) ∧ (0 : Int) ≤ 80) ∧ ((0 : Int) ≤ (0 : Int) ∧ (0 : Int) ≤ 68) ∧ True) ∧ 36 = 36 ∧ True ∧ 36 = 36 ∧ True ∧ ([] 
      : SW) = []) ∧ HI (SI false (6 : Nat) t (z.s 0) (y.s 0) (IntKind.i64.wrap (y.n 91011 + 1)) 0 (y.b 3) (y.n 4) (y.n 5)) (PW (6 : Nat) (512 : Nat) t (z.s 0) (y.s 0) 0 
      true 1 (ad y) (byT (y.n 5))) (IntKind.i64.wrap (y.n 91011 + 1)) 73 ∧ (73 - IntKind.i64.wrap (y.n 91011 + 1)).toNat < (73 - y.n 91011).toNat ∧ True)) ∧ (decide 
      (IntKind.i64.wrap (ad y + 8) > (↑(y.s 0).size : Int)) = false → decide ((byT (y.n 5)).size = (8 : Nat)) = true ∧ decide (0 ≤ ad y) = true ∧ decide (ad y ≤ (↑(y.s 
      0).size : Int)) = true ∧ decide (0 ≤ IntKind.i64.wrap (ad y + 8)) = true ∧ decide (IntKind.i64.wrap (ad y + 8) ≤ (↑(y.s 0).size : Int)) = true ∧ (room (catL [strSl 
      (y.s 0) 0 (ad y), byT (y.n 5), strSl (y.s 0) (IntKind.i64.wrap (ad y + 8)) (↑(y.s 0).size : Int)]).length && [strSl (y.s 0) 0 (ad y), byT (y.n 5), strSl (y.s 0) 
      (IntKind.i64.wrap (ad y + 8)) (↑(y.s 0).size : Int)].length.ble (1000000 : Nat)) = true ∧ lnb 73 E t y ((63 = 63 ∧ (((0 : Int) ≤ (0 : Int) ∧ (0 : Int) ≤ 80) ∧ ((0 : 
      Int) ≤ (0 : Int) ∧ (0 : Int) ≤ 68) ∧ True) ∧ 36 = 36 ∧ True ∧ 36 = 36 ∧ True ∧ ([] : SW) = []) ∧ HI (SI false (6 : Nat) t (z.s 0) (catB [strSl (y.s 0) 0 (ad y), byT 
      (y.n 5), strSl (y.s 0) (IntKind.i64.wrap (ad y + 8)) (↑(y.s 0).size : Int)]) (IntKind.i64.wrap (y.n 91011 + 1)) 0 (y.b 3) (y.n 4) (y.n 5)) (PW (6 : Nat) (512 : Nat) 
      t (z.s 0) (catB [strSl (y.s 0) 0 (ad y), byT (y.n 5), strSl (y.s 0) (IntKind.i64.wrap (ad y + 8)) (↑(y.s 0).size : Int)]) 0 true 1 (ad y) (byT (y.n 5))) 
      (IntKind.i64.wrap (y.n 91011 + 1)) 73 ∧ (73 - IntKind.i64.wrap (y.n 91011 + 1)).toNat < (73 - y.n 91011).toNat ∧ True)))))) ∧ ((y.n 2 == 8) = false → ((y.n 2 == 0) 
      = true → lnb 73 E t y ((63 = 63 ∧ ((0 ≤ IntKind.i64.wrap (y.n 2 + 1) ∧ IntKind.i64.wrap (y.n 2 + 1) ≤ 80) ∧ (0 ≤ y.n 7 ∧ y.n 7 ≤ 68) ∧ True) ∧ 36 = 36 ∧ True ∧ 36 = 
      36 ∧ True ∧ ([] : SW) = []) ∧ HI (SI false (6 : Nat) t (z.s 0) (y.s 0) (IntKind.i64.wrap (y.n 91011 + 1)) (IntKind.i64.wrap (y.n 2 + 1)) (y.b 3) 0 0) (PW (6 : Nat) 
      (512 : Nat) t (z.s 0) (y.s 0) (IntKind.i64.wrap (y.n 2 + 1)) false 0 0 (ByteArray.mk #[])) (IntKind.i64.wrap (y.n 91011 + 1)) 73 ∧ (73 - IntKind.i64.wrap (y.n 91011 
      + 1)).toNat < (73 - y.n 91011).toNat ∧ True)) ∧ ((y.n 2 == 0) = false → ((y.n 2 == 1) = true → ((bits BinOp.and .u8 (IntKind.u8.wrap (strB t (y.n 91011) - 48)) (1 : 
      Int) == 1) = true → lnb 73 E t y ((63 = 63 ∧ ((0 ≤ IntKind.i64.wrap (y.n 2 + 1) ∧ IntKind.i64.wrap (y.n 2 + 1) ≤ 80) ∧ (0 ≤ y.n 7 ∧ y.n 7 ≤ 68) ∧ True) ∧ 36 = 36 ∧ 
      True ∧ 36 = 36 ∧ True ∧ ([] : SW) = []) ∧ HI (SI false (6 : Nat) t (z.s 0) (y.s 0) (IntKind.i64.wrap (y.n 91011 + 1)) (IntKind.i64.wrap (y.n 2 + 1)) true (y.n 4) 
      (y.n 5)) (PW (6 : Nat) (512 : Nat) t (z.s 0) (y.s 0) (IntKind.i64.wrap (y.n 2 + 1)) false 0 0 (ByteArray.mk #[])) (IntKind.i64.wrap (y.n 91011 + 1)) 73 ∧ (73 - 
      IntKind.i64.wrap (y.n 91011 + 1)).toNat < (73 - y.n 91011).toNat ∧ True)) ∧ ((bits BinOp.and .u8 (IntKind.u8.wrap (strB t (y.n 91011) - 48)) (1 : Int) == 1) = false 
      → lnb 73 E t y ((63 = 63 ∧ ((0 ≤ IntKind.i64.wrap (y.n 2 + 1) ∧ IntKind.i64.wrap (y.n 2 + 1) ≤ 80) ∧ (0 ≤ y.n 7 ∧ y.n 7 ≤ 68) ∧ True) ∧ 36 = 36 ∧ True ∧ 36 = 36 ∧ 
      True ∧ ([] : SW) = []) ∧ HI (SI false (6 : Nat) t (z.s 0) (y.s 0) (IntKind.i64.wrap (y.n 91011 + 1)) (IntKind.i64.wrap (y.n 2 + 1)) false (y.n 4) (y.n 5)) (PW (6 : 
      Nat) (512 : Nat) t (z.s 0) (y.s 0) (IntKind.i64.wrap (y.n 2 + 1)) false 0 0 (ByteArray.mk #[])) (IntKind.i64.wrap (y.n 91011 + 1)) 73 ∧ (73 - IntKind.i64.wrap (y.n 
      91011 + 1)).toNat < (73 - y.n 91011).toNat ∧ True))) ∧ ((y.n 2 == 1) = false → (decide (y.n 2 < 8) = true → lnb 73 E t y ((63 = 63 ∧ ((0 ≤ IntKind.i64.wrap (y.n 2 + 
      1) ∧ IntKind.i64.wrap (y.n 2 + 1) ≤ 80) ∧ (0 ≤ y.n 7 ∧ y.n 7 ≤ 68) ∧ True) ∧ 36 = 36 ∧ True ∧ 36 = 36 ∧ True ∧ ([] : SW) = []) ∧ HI (SI false (6 : Nat) t (z.s 0) 
      (y.s 0) (IntKind.i64.wrap (y.n 91011 + 1)) (IntKind.i64.wrap (y.n 2 + 1)) (y.b 3) (bits BinOp.or .i64 (IntKind.i64.wrap (y.n 4 * 2)) (IntKind.i64.wrap (bits 
      BinOp.and .u8 (IntKind.u8.wrap (strB t (y.n 91011) - 48)) 1))) (y.n 5)) (PW (6 : Nat) (512 : Nat) t (z.s 0) (y.s 0) (IntKind.i64.wrap (y.n 2 + 1)) false 0 0 
      (ByteArray.mk #[])) (IntKind.i64.wrap (y.n 91011 + 1)) 73 ∧ (73 - IntKind.i64.wrap (y.n 91011 + 1)).toNat < (73 - y.n 91011).toNat ∧ True)) ∧ (decide (y.n 2 < 8) = 
      false → lnb 73 E t y ((63 = 63 ∧ ((0 ≤ IntKind.i64.wrap (y.n 2 + 1) ∧ IntKind.i64.wrap (y.n 2 + 1) ≤ 80) ∧ (0 ≤ y.n 7 ∧ y.n 7 ≤ 68) ∧ True) ∧ 36 = 36 ∧ True ∧ 36 = 
      36 ∧ True ∧ ([] : SW) = []) ∧ HI (SI false (6 : Nat) t (z.s 0) (y.s 0) (IntKind.i64.wrap (y.n 91011 + 1)) (IntKind.i64.wrap (y.n 2 + 1)) (y.b 3) (y.n 4) (bits 
      BinOp.or .u64 (IntKind.u64.wrap (y.n 5 * 2)) (IntKind.u64.wrap (bits BinOp.and .u8 (IntKind.u8.wrap (strB t (y.n 91011) - 48)) 1)))) (PW (6 : Nat) (512 : Nat) t 
      (z.s 0) (y.s 0) (IntKind.i64.wrap (y.n 2 + 1)) false 0 0 (ByteArray.mk #[])) (IntKind.i64.wrap (y.n 91011 + 1)) 73 ∧ (73 - IntKind.i64.wrap (y.n 91011 + 1)).toNat < 
      (73 - y.n 91011).toNat ∧ True)))))))) ∧ ((y.n 2 == 0) = false → ((!y.b 3) = true → (decide (y.n 2 > 1) = true → decide (y.s 0 = y.s 0) = true ∧ decide (y.n 2 = y.n 
      2) = true ∧ decide (y.b 3 = y.b 3) = true ∧ decide (y.n 4 = y.n 4) = true ∧ decide (y.n 5 = y.n 5) = true ∧ decide (y.n 6 = y.n 6) = true ∧ decide (y.n 7 = y.n 7) = 
      true ∧ ((y.n 2 == 72) = true → (!decide ((↑(y.s 0).size : Int) = 0)) = true ∧ (y.b 3 = true → inB (IntKind.i64.wrap (ad y + 0)) (y.s 0).size = true ∧ inB 
      (IntKind.i64.wrap (ad y + 1)) (y.s 0).size = true ∧ inB (IntKind.i64.wrap (ad y + 2)) (y.s 0).size = true ∧ inB (IntKind.i64.wrap (ad y + 3)) (y.s 0).size = true ∧ 
      inB (IntKind.i64.wrap (ad y + 4)) (y.s 0).size = true ∧ inB (IntKind.i64.wrap (ad y + 5)) (y.s 0).size = true ∧ inB (IntKind.i64.wrap (ad y + 6)) (y.s 0).size = 
      true ∧ inB (IntKind.i64.wrap (ad y + 7)) (y.s 0).size = true ∧ lnb 73 E t y ((63 = 63 ∧ (((0 : Int) ≤ (0 : Int) ∧ (0 : Int) ≤ 80) ∧ ((0 : Int) ≤ (68 : Int) ∧ (68 : 
      Int) ≤ 68) ∧ True) ∧ 36 = 36 ∧ True ∧ 36 = 36 ∧ True ∧ ([] : SW) = []) ∧ HI (SI false (6 : Nat) t (z.s 0) (y.s 0) (IntKind.i64.wrap (y.n 91011 + 1)) 0 (y.b 3) (y.n 
      4) (y.n 5)) (PW (6 : Nat) (512 : Nat) t (z.s 0) (y.s 0) 0 false 0 0 (ByteArray.mk #[])) (IntKind.i64.wrap (y.n 91011 + 1)) 73 ∧ (73 - IntKind.i64.wrap (y.n 91011 + 
      1)).toNat < (73 - y.n 91011).toNat ∧ True)) ∧ (y.b 3 = false → (decide (ad y < 0) = true → lnb 73 E t y ((63 = 63 ∧ (((0 : Int) ≤ (0 : Int) ∧ (0 : Int) ≤ 80) ∧ ((0 
      : Int) ≤ (0 : Int) ∧ (0 : Int) ≤ 68) ∧ True) ∧ 36 = 36 ∧ True ∧ 36 = 36 ∧ True ∧ ([] : SW) = []) ∧ HI (SI false (6 : Nat) t (z.s 0) (y.s 0) (IntKind.i64.wrap (y.n 
      91011 + 1)) 0 (y.b 3) (y.n 4) (y.n 5)) (PW (6 : Nat) (512 : Nat) t (z.s 0) (y.s 0) 0 true 1 (ad y) (byT (y.n 5))) (IntKind.i64.wrap (y.n 91011 + 1)) 73 ∧ (73 - 
      IntKind.i64.wrap (y.n 91011 + 1)).toNat < (73 - y.n 91011).toNat ∧ True)) ∧ (decide (ad y < 0) = false → (decide (ad y > 131071) = true → lnb 73 E t y ((63 = 63 ∧ 
      (((0 : Int) ≤ (0 : Int) ∧ (0 : Int) ≤ 80) ∧ ((0 : Int) ≤ (0 : Int) ∧ (0 : Int) ≤ 68) ∧ True) ∧ 36 = 36 ∧ True ∧ 36 = 36 ∧ True ∧ ([] : SW) = []) ∧ HI (SI false (6 : 
      Nat) t (z.s 0) (y.s 0) (IntKind.i64.wrap (y.n 91011 + 1)) 0 (y.b 3) (y.n 4) (y.n 5)) (PW (6 : Nat) (512 : Nat) t (z.s 0) (y.s 0) 0 true 1 (ad y) (byT (y.n 5))) 
      (IntKind.i64.wrap (y.n 91011 + 1)) 73 ∧ (73 - IntKind.i64.wrap (y.n 91011 + 1)).toNat < (73 - y.n 91011).toNat ∧ True)) ∧ (decide (ad y > 131071) = false → decide 
      ((byT (y.n 5)).size = (8 : Nat)) = true ∧ decide ((byT (y.n 5)).size = (8 : Nat)) = true ∧ decide ((byT (y.n 5)).size = (8 : Nat)) = true ∧ (decide 
      (IntKind.i64.wrap (ad y + 8) > (↑(y.s 0).size : Int)) = true → lnb 73 E t y ((63 = 63 ∧ (((0 : Int) ≤ (0 : Int) ∧ (0 : Int) ≤ 80) ∧ ((0 : Int) ≤ (0 : Int) ∧ (0 : 
      Int) ≤ 68) ∧ True) ∧ 36 = 36 ∧ True ∧ 36 = 36 ∧ True ∧ ([] : SW) = []) ∧ HI (SI false (6 : Nat) t (z.s 0) (y.s 0) (IntKind.i64.wrap (y.n 91011 + 1)) 0 (y.b 3) (y.n 
      4) (y.n 5)) (PW (6 : Nat) (512 : Nat) t (z.s 0) (y.s 0) 0 true 1 (ad y) (byT (y.n 5))) (IntKind.i64.wrap (y.n 91011 + 1)) 73 ∧ (73 - IntKind.i64.wrap (y.n 91011 + 
      1)).toNat < (73 - y.n 91011).toNat ∧ True)) ∧ (decide (IntKind.i64.wrap (ad y + 8) > (↑(y.s 0).size : Int)) = false → decide ((byT (y.n 5)).size = (8 : Nat)) = true 
      ∧ decide (0 ≤ ad y) = true ∧ decide (ad y ≤ (↑(y.s 0).size : Int)) = true ∧ decide (0 ≤ IntKind.i64.wrap (ad y + 8)) = true ∧ decide (IntKind.i64.wrap (ad y + 8) ≤ 
      (↑(y.s 0).size : Int)) = true ∧ (room (catL [strSl (y.s 0) 0 (ad y), byT (y.n 5), strSl (y.s 0) (IntKind.i64.wrap (ad y + 8)) (↑(y.s 0).size : Int)]).length && 
      [strSl (y.s 0) 0 (ad y), byT (y.n 5), strSl (y.s 0) (IntKind.i64.wrap (ad y + 8)) (↑(y.s 0).size : Int)].length.ble (1000000 : Nat)) = true ∧ lnb 73 E t y ((63 = 63 
      ∧ (((0 : Int) ≤ (0 : Int) ∧ (0 : Int) ≤ 80) ∧ ((0 : Int) ≤ (0 : Int) ∧ (0 : Int) ≤ 68) ∧ True) ∧ 36 = 36 ∧ True ∧ 36 = 36 ∧ True ∧ ([] : SW) = []) ∧ HI (SI false (6 
      : Nat) t (z.s 0) (catB [strSl (y.s 0) 0 (ad y), byT (y.n 5), strSl (y.s 0) (IntKind.i64.wrap (ad y + 8)) (↑(y.s 0).size : Int)]) (IntKind.i64.wrap (y.n 91011 + 1)) 
      0 (y.b 3) (y.n 4) (y.n 5)) (PW (6 : Nat) (512 : Nat) t (z.s 0) (catB [strSl (y.s 0) 0 (ad y), byT (y.n 5), strSl (y.s 0) (IntKind.i64.wrap (ad y + 8)) (↑(y.s 
      0).size : Int)]) 0 true 1 (ad y) (byT (y.n 5))) (IntKind.i64.wrap (y.n 91011 + 1)) 73 ∧ (73 - IntKind.i64.wrap (y.n 91011 + 1)).toNat < (73 - y.n 91011).toNat ∧ 
      True)))))) ∧ ((y.n 2 == 72) = false → ((y.n 2 == 0) = true → lnb 73 E t y ((63 = 63 ∧ ((0 ≤ IntKind.i64.wrap (y.n 2 + 1) ∧ IntKind.i64.wrap (y.n 2 + 1) ≤ 80) ∧ (0 ≤ 
      y.n 7 ∧ y.n 7 ≤ 68) ∧ True) ∧ 36 = 36 ∧ True ∧ 36 = 36 ∧ True ∧ ([] : SW) = []) ∧ HI (SI false (6 : Nat) t (z.s 0) (y.s 0) (IntKind.i64.wrap (y.n 91011 + 1)) 
      (IntKind.i64.wrap (y.n 2 + 1)) (y.b 3) 0 0) (PW (6 : Nat) (512 : Nat) t (z.s 0) (y.s 0) (IntKind.i64.wrap (y.n 2 + 1)) false 0 0 (ByteArray.mk #[])) 
      (IntKind.i64.wrap (y.n 91011 + 1)) 73 ∧ (73 - IntKind.i64.wrap (y.n 91011 + 1)).toNat < (73 - y.n 91011).toNat ∧ True)) ∧ ((y.n 2 == 0) = false → ((y.n 2 == 1) = 
      true → ((bits BinOp.and .u8 (IntKind.u8.wrap (strB t (y.n 91011) - 48)) (1 : Int) == 1) = true → lnb 73 E t y ((63 = 63 ∧ ((0 ≤ IntKind.i64.wrap (y.n 2 + 1) ∧ 
      IntKind.i64.wrap (y.n 2 + 1) ≤ 80) ∧ (0 ≤ y.n 7 ∧ y.n 7 ≤ 68) ∧ True) ∧ 36 = 36 ∧ True ∧ 36 = 36 ∧ True ∧ ([] : SW) = []) ∧ HI (SI false (6 : Nat) t (z.s 0) (y.s 0) 
      (IntKind.i64.wrap (y.n 91011 + 1)) (IntKind.i64.wrap (y.n 2 + 1)) true (y.n 4) (y.n 5)) (PW (6 : Nat) (512 : Nat) t (z.s 0) (y.s 0) (IntKind.i64.wrap (y.n 2 + 1)) 
      false 0 0 (ByteArray.mk #[])) (IntKind.i64.wrap (y.n 91011 + 1)) 73 ∧ (73 - IntKind.i64.wrap (y.n 91011 + 1)).toNat < (73 - y.n 91011).toNat ∧ True)) ∧ ((bits 
      BinOp.and .u8 (IntKind.u8.wrap (strB t (y.n 91011) - 48)) (1 : Int) == 1) = false → lnb 73 E t y ((63 = 63 ∧ ((0 ≤ IntKind.i64.wrap (y.n 2 + 1) ∧ IntKind.i64.wrap 
      (y.n 2 + 1) ≤ 80) ∧ (0 ≤ y.n 7 ∧ y.n 7 ≤ 68) ∧ True) ∧ 36 = 36 ∧ True ∧ 36 = 36 ∧ True ∧ ([] : SW) = []) ∧ HI (SI false (6 : Nat) t (z.s 0) (y.s 0) 
      (IntKind.i64.wrap (y.n 91011 + 1)) (IntKind.i64.wrap (y.n 2 + 1)) false (y.n 4) (y.n 5)) (PW (6 : Nat) (512 : Nat) t (z.s 0) (y.s 0) (IntKind.i64.wrap (y.n 2 + 1)) 
      false 0 0 (ByteArray.mk #[])) (IntKind.i64.wrap (y.n 91011 + 1)) 73 ∧ (73 - IntKind.i64.wrap (y.n 91011 + 1)).toNat < (73 - y.n 91011).toNat ∧ True))) ∧ ((y.n 2 == 
      1) = false → (decide (y.n 2 < 8) = true → lnb 73 E t y ((63 = 63 ∧ ((0 ≤ IntKind.i64.wrap (y.n 2 + 1) ∧ IntKind.i64.wrap (y.n 2 + 1) ≤ 80) ∧ (0 ≤ y.n 7 ∧ y.n 7 ≤ 
      68) ∧ True) ∧ 36 = 36 ∧ True ∧ 36 = 36 ∧ True ∧ ([] : SW) = []) ∧ HI (SI false (6 : Nat) t (z.s 0) (y.s 0) (IntKind.i64.wrap (y.n 91011 + 1)) (IntKind.i64.wrap (y.n 
      2 + 1)) (y.b 3) (bits BinOp.or .i64 (IntKind.i64.wrap (y.n 4 * 2)) (IntKind.i64.wrap (bits BinOp.and .u8 (IntKind.u8.wrap (strB t (y.n 91011) - 48)) 1))) (y.n 5)) 
      (PW (6 : Nat) (512 : Nat) t (z.s 0) (y.s 0) (IntKind.i64.wrap (y.n 2 + 1)) false 0 0 (ByteArray.mk #[])) (IntKind.i64.wrap (y.n 91011 + 1)) 73 ∧ (73 - 
      IntKind.i64.wrap (y.n 91011 + 1)).toNat < (73 - y.n 91011).toNat ∧ True)) ∧ (decide (y.n 2 < 8) = false → lnb 73 E t y ((63 = 63 ∧ ((0 ≤ IntKind.i64.wrap (y.n 2 + 
      1) ∧ IntKind.i64.wrap (y.n 2 + 1) ≤ 80) ∧ (0 ≤ y.n 7 ∧ y.n 7 ≤ 68) ∧ True) ∧ 36 = 36 ∧ True ∧ 36 = 36 ∧ True ∧ ([] : SW) = []) ∧ HI (SI false (6 : Nat) t (z.s 0) 
      (y.s 0) (IntKind.i64.wrap (y.n 91011 + 1)) (IntKind.i64.wrap (y.n 2 + 1)) (y.b 3) (y.n 4) (bits BinOp.or .u64 (IntKind.u64.wrap (y.n 5 * 2)) (IntKind.u64.wrap (bits 
      BinOp.and .u8 (IntKind.u8.wrap (strB t (y.n 91011) - 48)) 1)))) (PW (6 : Nat) (512 : Nat) t (z.s 0) (y.s 0) (IntKind.i64.wrap (y.n 2 + 1)) false 0 0 (ByteArray.mk 
      #[])) (IntKind.i64.wrap (y.n 91011 + 1)) 73 ∧ (73 - IntKind.i64.wrap (y.n 91011 + 1)).toNat < (73 - y.n 91011).toNat ∧ True)))))) ∧ (decide (y.n 2 > 1) = false → 
      decide (y.s 0 = y.s 0) = true ∧ decide (y.n 2 = y.n 2) = true ∧ decide (y.b 3 = y.b 3) = true ∧ decide (y.n 4 = y.n 4) = true ∧ decide (y.n 5 = y.n 5) = true ∧ 
      decide (y.n 6 = y.n 6) = true ∧ decide (y.n 7 = y.n 7) = true ∧ ((y.n 2 == 8) = true → (!decide ((↑(y.s 0).size : Int) = 0)) = true ∧ (y.b 3 = true → inB 
      (IntKind.i64.wrap (ad y + 0)) (y.s 0).size = true ∧ inB (IntKind.i64.wrap (ad y + 1)) (y.s 0).size = true ∧ inB (IntKind.i64.wrap (ad y + 2)) (y.s 0).size = true ∧ 
      inB (IntKind.i64.wrap (ad y + 3)) (y.s 0).size = true ∧ inB (IntKind.i64.wrap (ad y + 4)) (y.s 0).size = true ∧ inB (IntKind.i64.wrap (ad y + 5)) (y.s 0).size = 
      true ∧ inB (IntKind.i64.wrap (ad y + 6)) (y.s 0).size = true ∧ inB (IntKind.i64.wrap (ad y + 7)) (y.s 0).size = true ∧ lnb 73 E t y ((63 = 63 ∧ (((0 : Int) ≤ (0 : 
      Int) ∧ (0 : Int) ≤ 80) ∧ ((0 : Int) ≤ (68 : Int) ∧ (68 : Int) ≤ 68) ∧ True) ∧ 36 = 36 ∧ True ∧ 36 = 36 ∧ True ∧ ([] : SW) = []) ∧ HI (SI false (6 : Nat) t (z.s 0) 
      (y.s 0) (IntKind.i64.wrap (y.n 91011 + 1)) 0 (y.b 3) (y.n 4) (y.n 5)) (PW (6 : Nat) (512 : Nat) t (z.s 0) (y.s 0) 0 false 0 0 (ByteArray.mk #[])) (IntKind.i64.wrap 
      (y.n 91011 + 1)) 73 ∧ (73 - IntKind.i64.wrap (y.n 91011 + 1)).toNat < (73 - y.n 91011).toNat ∧ True)) ∧ (y.b 3 = false → (decide (ad y < 0) = true → lnb 73 E t y 
      ((63 = 63 ∧ (((0 : Int) ≤ (0 : Int) ∧ (0 : Int) ≤ 80) ∧ ((0 : Int) ≤ (0 : Int) ∧ (0 : Int) ≤ 68) ∧ True) ∧ 36 = 36 ∧ True ∧ 36 = 36 ∧ True ∧ ([] : SW) = []) ∧ HI 
      (SI false (6 : Nat) t (z.s 0) (y.s 0) (IntKind.i64.wrap (y.n 91011 + 1)) 0 (y.b 3) (y.n 4) (y.n 5)) (PW (6 : Nat) (512 : Nat) t (z.s 0) (y.s 0) 0 true 1 (ad y) (byT 
      (y.n 5))) (IntKind.i64.wrap (y.n 91011 + 1)) 73 ∧ (73 - IntKind.i64.wrap (y.n 91011 + 1)).toNat < (73 - y.n 91011).toNat ∧ True)) ∧ (decide (ad y < 0) = false → 
      (decide (ad y > 131071) = true → lnb 73 E t y ((63 = 63 ∧ (((0 : Int) ≤ (0 : Int) ∧ (0 : Int) ≤ 80) ∧ ((0 : Int) ≤ (0 : Int) ∧ (0 : Int) ≤ 68) ∧ True) ∧ 36 = 36 ∧ 
      True ∧ 36 = 36 ∧ True ∧ ([] : SW) = []) ∧ HI (SI false (6 : Nat) t (z.s 0) (y.s 0) (IntKind.i64.wrap (y.n 91011 + 1)) 0 (y.b 3) (y.n 4) (y.n 5)) (PW (6 : Nat) (512 
      : Nat) t (z.s 0) (y.s 0) 0 true 1 (ad y) (byT (y.n 5))) (IntKind.i64.wrap (y.n 91011 + 1)) 73 ∧ (73 - IntKind.i64.wrap (y.n 91011 + 1)).toNat < (73 - y.n 
      91011).toNat ∧ True)) ∧ (decide (ad y > 131071) = false → decide ((byT (y.n 5)).size = (8 : Nat)) = true ∧ decide ((byT (y.n 5)).size = (8 : Nat)) = true ∧ decide 
      ((byT (y.n 5)).size = (8 : Nat)) = true ∧ (decide (IntKind.i64.wrap (ad y + 8) > (↑(y.s 0).size : Int)) = true → lnb 73 E t y ((63 = 63 ∧ (((0 : Int) ≤ (0 : Int) ∧ 
      (0 : Int) ≤ 80) ∧ ((0 : Int) ≤ (0 : Int) ∧ (0 : Int) ≤ 68) ∧ True) ∧ 36 = 36 ∧ True ∧ 36 = 36 ∧ True ∧ ([] : SW) = []) ∧ HI (SI false (6 : Nat) t (z.s 0) (y.s 0) 
      (IntKind.i64.wrap (y.n 91011 + 1)) 0 (y.b 3) (y.n 4) (y.n 5)) (PW (6 : Nat) (512 : Nat) t (z.s 0) (y.s 0) 0 true 1 (ad y) (byT (y.n 5))) (IntKind.i64.wrap (y.n 
      91011 + 1)) 73 ∧ (73 - IntKind.i64.wrap (y.n 91011 + 1)).toNat < (73 - y.n 91011).toNat ∧ True)) ∧ (decide (IntKind.i64.wrap (ad y + 8) > (↑(y.s 0).size : Int)) = 
      false → decide ((byT (y.n 5)).size = (8 : Nat)) = true ∧ decide (0 ≤ ad y) = true ∧ decide (ad y ≤ (↑(y.s 0).size : Int)) = true ∧ decide (0 ≤ IntKind.i64.wrap (ad 
      y + 8)) = true ∧ decide (IntKind.i64.wrap (ad y + 8) ≤ (↑(y.s 0).size : Int)) = true ∧ (room (catL [strSl (y.s 0) 0 (ad y), byT (y.n 5), strSl (y.s 0) 
      (IntKind.i64.wrap (ad y + 8)) (↑(y.s 0).size : Int)]).length && [strSl (y.s 0) 0 (ad y), byT (y.n 5), strSl (y.s 0) (IntKind.i64.wrap (ad y + 8)) (↑(y.s 0).size : 
      Int)].length.ble (1000000 : Nat)) = true ∧ lnb 73 E t y ((63 = 63 ∧ (((0 : Int) ≤ (0 : Int) ∧ (0 : Int) ≤ 80) ∧ ((0 : Int) ≤ (0 : Int) ∧ (0 : Int) ≤ 68) ∧ True) ∧ 
      36 = 36 ∧ True ∧ 36 = 36 ∧ True ∧ ([] : SW) = []) ∧ HI (SI false (6 : Nat) t (z.s 0) (catB [strSl (y.s 0) 0 (ad y), byT (y.n 5), strSl (y.s 0) (IntKind.i64.wrap (ad 
      y + 8)) (↑(y.s 0).size : Int)]) (IntKind.i64.wrap (y.n 91011 + 1)) 0 (y.b 3) (y.n 4) (y.n 5)) (PW (6 : Nat) (512 : Nat) t (z.s 0) (catB [strSl (y.s 0) 0 (ad y), byT 
      (y.n 5), strSl (y.s 0) (IntKind.i64.wrap (ad y + 8)) (↑(y.s 0).size : Int)]) 0 true 1 (ad y) (byT (y.n 5))) (IntKind.i64.wrap (y.n 91011 + 1)) 73 ∧ (73 - 
      IntKind.i64.wrap (y.n 91011 + 1)).toNat < (73 - y.n 91011).toNat ∧ True)))))) ∧ ((y.n 2 == 8) = false → ((y.n 2 == 0) = true → lnb 73 E t y ((63 = 63 ∧ ((0 ≤ 
      IntKind.i64.wrap (y.n 2 + 1) ∧ IntKind.i64.wrap (y.n 2 + 1) ≤ 80) ∧ (0 ≤ y.n 7 ∧ y.n 7 ≤ 68) ∧ True) ∧ 36 = 36 ∧ True ∧ 36 = 36 ∧ True ∧ ([] : SW) = []) ∧ HI (SI 
      false (6 : Nat) t (z.s 0) (y.s 0) (IntKind.i64.wrap (y.n 91011 + 1)) (IntKind.i64.wrap (y.n 2 + 1)) (y.b 3) 0 0) (PW (6 : Nat) (512 : Nat) t (z.s 0) (y.s 0) 
      (IntKind.i64.wrap (y.n 2 + 1)) false 0 0 (ByteArray.mk #[])) (IntKind.i64.wrap (y.n 91011 + 1)) 73 ∧ (73 - IntKind.i64.wrap (y.n 91011 + 1)).toNat < (73 - y.n 
      91011).toNat ∧ True)) ∧ ((y.n 2 == 0) = false → ((y.n 2 == 1) = true → ((bits BinOp.and .u8 (IntKind.u8.wrap (strB t (y.n 91011) - 48)) (1 : Int) == 1) = true → lnb 
      73 E t y ((63 = 63 ∧ ((0 ≤ IntKind.i64.wrap (y.n 2 + 1) ∧ IntKind.i64.wrap (y.n 2 + 1) ≤ 80) ∧ (0 ≤ y.n 7 ∧ y.n 7 ≤ 68) ∧ True) ∧ 36 = 36 ∧ True ∧ 36 = 36 ∧ True ∧ 
      ([] : SW) = []) ∧ HI (SI false (6 : Nat) t (z.s 0) (y.s 0) (IntKind.i64.wrap (y.n 91011 + 1)) (IntKind.i64.wrap (y.n 2 + 1)) true (y.n 4) (y.n 5)) (PW (6 : Nat) 
      (512 : Nat) t (z.s 0) (y.s 0) (IntKind.i64.wrap (y.n 2 + 1)) false 0 0 (ByteArray.mk #[])) (IntKind.i64.wrap (y.n 91011 + 1)) 73 ∧ (73 - IntKind.i64.wrap (y.n 91011 
      + 1)).toNat < (73 - y.n 91011).toNat ∧ True)) ∧ ((bits BinOp.and .u8 (IntKind.u8.wrap (strB t (y.n 91011) - 48)) (1 : Int) == 1) = false → lnb 73 E t y ((63 = 63 ∧ 
      ((0 ≤ IntKind.i64.wrap (y.n 2 + 1) ∧ IntKind.i64.wrap (y.n 2 + 1) ≤ 80) ∧ (0 ≤ y.n 7 ∧ y.n 7 ≤ 68) ∧ True) ∧ 36 = 36 ∧ True ∧ 36 = 36 ∧ True ∧ ([] : SW) = []) ∧ HI 
      (SI false (6 : Nat) t (z.s 0) (y.s 0) (IntKind.i64.wrap (y.n 91011 + 1)) (IntKind.i64.wrap (y.n 2 + 1)) false (y.n 4) (y.n 5)) (PW (6 : Nat) (512 : Nat) t (z.s 0) 
      (y.s 0) (IntKind.i64.wrap (y.n 2 + 1)) false 0 0 (ByteArray.mk #[])) (IntKind.i64.wrap (y.n 91011 + 1)) 73 ∧ (73 - IntKind.i64.wrap (y.n 91011 + 1)).toNat < (73 - 
      y.n 91011).toNat ∧ True))) ∧ ((y.n 2 == 1) = false → (decide (y.n 2 < 8) = true → lnb 73 E t y ((63 = 63 ∧ ((0 ≤ IntKind.i64.wrap (y.n 2 + 1) ∧ IntKind.i64.wrap 
      (y.n 2 + 1) ≤ 80) ∧ (0 ≤ y.n 7 ∧ y.n 7 ≤ 68) ∧ True) ∧ 36 = 36 ∧ True ∧ 36 = 36 ∧ True ∧ ([] : SW) = []) ∧ HI (SI false (6 : Nat) t (z.s 0) (y.s 0) 
      (IntKind.i64.wrap (y.n 91011 + 1)) (IntKind.i64.wrap (y.n 2 + 1)) (y.b 3) (bits BinOp.or .i64 (IntKind.i64.wrap (y.n 4 * 2)) (IntKind.i64.wrap (bits BinOp.and .u8 
      (IntKind.u8.wrap (strB t (y.n 91011) - 48)) 1))) (y.n 5)) (PW (6 : Nat) (512 : Nat) t (z.s 0) (y.s 0) (IntKind.i64.wrap (y.n 2 + 1)) false 0 0 (ByteArray.mk #[])) 
      (IntKind.i64.wrap (y.n 91011 + 1)) 73 ∧ (73 - IntKind.i64.wrap (y.n 91011 + 1)).toNat < (73 - y.n 91011).toNat ∧ True)) ∧ (decide (y.n 2 < 8) = false → lnb 73 E t y 
      ((63 = 63 ∧ ((0 ≤ IntKind.i64.wrap (y.n 2 + 1) ∧ IntKind.i64.wrap (y.n 2 + 1) ≤ 80) ∧ (0 ≤ y.n 7 ∧ y.n 7 ≤ 68) ∧ True) ∧ 36 = 36 ∧ True ∧ 36 = 36 ∧ True ∧ ([] : SW) 
      = []) ∧ HI (SI false (6 : Nat) t (z.s 0) (y.s 0) (IntKind.i64.wrap (y.n 91011 + 1)) (IntKind.i64.wrap (y.n 2 + 1)) (y.b 3) (y.n 4) (bits BinOp.or .u64 
      (IntKind.u64.wrap (y.n 5 * 2)) (IntKind.u64.wrap (bits BinOp.and .u8 (IntKind.u8.wrap (strB t (y.n 91011) - 48)) 1)))) (PW (6 : Nat) (512 : Nat) t (z.s 0) (y.s 0) 
      (IntKind.i64.wrap (y.n 2 + 1)) false 0 0 (ByteArray.mk #[])) (IntKind.i64.wrap (y.n 91011 + 1)) 73 ∧ (73 - IntKind.i64.wrap (y.n 91011 + 1)).toNat < (73 - y.n 
      91011).toNat ∧ True))))))) ∧ ((!y.b 3) = false → decide (y.s 0 = y.s 0) = true ∧ decide (y.n 2 = y.n 2) = true ∧ decide (y.b 3 = y.b 3) = true ∧ decide (y.n 4 = y.n 
      4) = true ∧ decide (y.n 5 = y.n 5) = true ∧ decide (y.n 6 = y.n 6) = true ∧ decide (y.n 7 = y.n 7) = true ∧ ((y.n 2 == 8) = true → (!decide ((↑(y.s 0).size : Int) = 
      0)) = true ∧ (y.b 3 = true → inB (IntKind.i64.wrap (ad y + 0)) (y.s 0).size = true ∧ inB (IntKind.i64.wrap (ad y + 1)) (y.s 0).size = true ∧ inB (IntKind.i64.wrap 
      (ad y + 2)) (y.s 0).size = true ∧ inB (IntKind.i64.wrap (ad y + 3)) (y.s 0).size = true ∧ inB (IntKind.i64.wrap (ad y + 4)) (y.s 0).size = true ∧ inB 
      (IntKind.i64.wrap (ad y + 5)) (y.s 0).size = true ∧ inB (IntKind.i64.wrap (ad y + 6)) (y.s 0).size = true ∧ inB (IntKind.i64.wrap (ad y + 7)) (y.s 0).size = true ∧ 
      lnb 73 E t y ((63 = 63 ∧ (((0 : Int) ≤ (0 : Int) ∧ (0 : Int) ≤ 80) ∧ ((0 : Int) ≤ (68 : Int) ∧ (68 : Int) ≤ 68) ∧ True) ∧ 36 = 36 ∧ True ∧ 36 = 36 ∧ True ∧ ([] : 
      SW) = []) ∧ HI (SI false (6 : Nat) t (z.s 0) (y.s 0) (IntKind.i64.wrap (y.n 91011 + 1)) 0 (y.b 3) (y.n 4) (y.n 5)) (PW (6 : Nat) (512 : Nat) t (z.s 0) (y.s 0) 0 
      false 0 0 (ByteArray.mk #[])) (IntKind.i64.wrap (y.n 91011 + 1)) 73 ∧ (73 - IntKind.i64.wrap (y.n 91011 + 1)).toNat < (73 - y.n 91011).toNat ∧ True)) ∧ (y.b 3 = 
      false → (decide (ad y < 0) = true → lnb 73 E t y ((63 = 63 ∧ (((0 : Int) ≤ (0 : Int) ∧ (0 : Int) ≤ 80) ∧ ((0 : Int) ≤ (0 : Int) ∧ (0 : Int) ≤ 68) ∧ True) ∧ 36 = 36 
      ∧ True ∧ 36 = 36 ∧ True ∧ ([] : SW) = []) ∧ HI (SI false (6 : Nat) t (z.s 0) (y.s 0) (IntKind.i64.wrap (y.n 91011 + 1)) 0 (y.b 3) (y.n 4) (y.n 5)) (PW (6 : Nat) 
      (512 : Nat) t (z.s 0) (y.s 0) 0 true 1 (ad y) (byT (y.n 5))) (IntKind.i64.wrap (y.n 91011 + 1)) 73 ∧ (73 - IntKind.i64.wrap (y.n 91011 + 1)).toNat < (73 - y.n 
      91011).toNat ∧ True)) ∧ (decide (ad y < 0) = false → (decide (ad y > 131071) = true → lnb 73 E t y ((63 = 63 ∧ (((0 : Int) ≤ (0 : Int) ∧ (0 : Int) ≤ 80) ∧ ((0 : 
      Int) ≤ (0 : Int) ∧ (0 : Int) ≤ 68) ∧ True) ∧ 36 = 36 ∧ True ∧ 36 = 36 ∧ True ∧ ([] : SW) = []) ∧ HI (SI false (6 : Nat) t (z.s 0) (y.s 0) (IntKind.i64.wrap (y.n 
      91011 + 1)) 0 (y.b 3) (y.n 4) (y.n 5)) (PW (6 : Nat) (512 : Nat) t (z.s 0) (y.s 0) 0 true 1 (ad y) (byT (y.n 5))) (IntKind.i64.wrap (y.n 91011 + 1)) 73 ∧ (73 - 
      IntKind.i64.wrap (y.n 91011 + 1)).toNat < (73 - y.n 91011).toNat ∧ True)) ∧ (decide (ad y > 131071) = false → decide ((byT (y.n 5)).size = (8 : Nat)) = true ∧ 
      decide ((byT (y.n 5)).size = (8 : Nat)) = true ∧ decide ((byT (y.n 5)).size = (8 : Nat)) = true ∧ (decide (IntKind.i64.wrap (ad y + 8) > (↑(y.s 0).size : Int)) = 
      true → lnb 73 E t y ((63 = 63 ∧ (((0 : Int) ≤ (0 : Int) ∧ (0 : Int) ≤ 80) ∧ ((0 : Int) ≤ (0 : Int) ∧ (0 : Int) ≤ 68) ∧ True) ∧ 36 = 36 ∧ True ∧ 36 = 36 ∧ True ∧ ([] 
      : SW) = []) ∧ HI (SI false (6 : Nat) t (z.s 0) (y.s 0) (IntKind.i64.wrap (y.n 91011 + 1)) 0 (y.b 3) (y.n 4) (y.n 5)) (PW (6 : Nat) (512 : Nat) t (z.s 0) (y.s 0) 0 
      true 1 (ad y) (byT (y.n 5))) (IntKind.i64.wrap (y.n 91011 + 1)) 73 ∧ (73 - IntKind.i64.wrap (y.n 91011 + 1)).toNat < (73 - y.n 91011).toNat ∧ True)) ∧ (decide 
      (IntKind.i64.wrap (ad y + 8) > (↑(y.s 0).size : Int)) = false → decide ((byT (y.n 5)).size = (8 : Nat)) = true ∧ decide (0 ≤ ad y) = true ∧ decide (ad y ≤ (↑(y.s 
      0).size : Int)) = true ∧ decide (0 ≤ IntKind.i64.wrap (ad y + 8)) = true ∧ decide (IntKind.i64.wrap (ad y + 8) ≤ (↑(y.s 0).size : Int)) = true ∧ (room (catL [strSl 
      (y.s 0) 0 (ad y), byT (y.n 5), strSl (y.s 0) (IntKind.i64.wrap (ad y + 8)) (↑(y.s 0).size : Int)]).length && [strSl (y.s 0) 0 (ad y), byT (y.n 5), strSl (y.s 0) 
      (IntKind.i64.wrap (ad y + 8)) (↑(y.s 0).size : Int)].length.ble (1000000 : Nat)) = true ∧ lnb 73 E t y ((63 = 63 ∧ (((0 : Int) ≤ (0 : Int) ∧ (0 : Int) ≤ 80) ∧ ((0 : 
      Int) ≤ (0 : Int) ∧ (0 : Int) ≤ 68) ∧ True) ∧ 36 = 36 ∧ True ∧ 36 = 36 ∧ True ∧ ([] : SW) = []) ∧ HI (SI false (6 : Nat) t (z.s 0) (catB [strSl (y.s 0) 0 (ad y), byT 
      (y.n 5), strSl (y.s 0) (IntKind.i64.wrap (ad y + 8)) (↑(y.s 0).size : Int)]) (IntKind.i64.wrap (y.n 91011 + 1)) 0 (y.b 3) (y.n 4) (y.n 5)) (PW (6 : Nat) (512 : Nat) 
      t (z.s 0) (catB [strSl (y.s 0) 0 (ad y), byT (y.n 5), strSl (y.s 0) (IntKind.i64.wrap (ad y + 8)) (↑(y.s 0).size : Int)]) 0 true 1 (ad y) (byT (y.n 5))) 
      (IntKind.i64.wrap (y.n 91011 + 1)) 73 ∧ (73 - IntKind.i64.wrap (y.n 91011 + 1)).toNat < (73 - y.n 91011).toNat ∧ True)))))) ∧ ((y.n 2 == 8) = false → ((y.n 2 == 0) 
      = true → lnb 73 E t y ((63 = 63 ∧ ((0 ≤ IntKind.i64.wrap (y.n 2 + 1) ∧ IntKind.i64.wrap (y.n 2 + 1) ≤ 80) ∧ (0 ≤ y.n 7 ∧ y.n 7 ≤ 68) ∧ True) ∧ 36 = 36 ∧ True ∧ 36 = 
      36 ∧ True ∧ ([] : SW) = []) ∧ HI (SI false (6 : Nat) t (z.s 0) (y.s 0) (IntKind.i64.wrap (y.n 91011 + 1)) (IntKind.i64.wrap (y.n 2 + 1)) (y.b 3) 0 0) (PW (6 : Nat) 
      (512 : Nat) t (z.s 0) (y.s 0) (IntKind.i64.wrap (y.n 2 + 1)) false 0 0 (ByteArray.mk #[])) (IntKind.i64.wrap (y.n 91011 + 1)) 73 ∧ (73 - IntKind.i64.wrap (y.n 91011 
      + 1)).toNat < (73 - y.n 91011).toNat ∧ True)) ∧ ((y.n 2 == 0) = false → ((y.n 2 == 1) = true → ((bits BinOp.and .u8 (IntKind.u8.wrap (strB t (y.n 91011) - 48)) (1 : 
      Int) == 1) = true → lnb 73 E t y ((63 = 63 ∧ ((0 ≤ IntKind.i64.wrap (y.n 2 + 1) ∧ IntKind.i64.wrap (y.n 2 + 1) ≤ 80) ∧ (0 ≤ y.n 7 ∧ y.n 7 ≤ 68) ∧ True) ∧ 36 = 36 ∧ 
      True ∧ 36 = 36 ∧ True ∧ ([] : SW) = []) ∧ HI (SI false (6 : Nat) t (z.s 0) (y.s 0) (IntKind.i64.wrap (y.n 91011 + 1)) (IntKind.i64.wrap (y.n 2 + 1)) true (y.n 4) 
      (y.n 5)) (PW (6 : Nat) (512 : Nat) t (z.s 0) (y.s 0) (IntKind.i64.wrap (y.n 2 + 1)) false 0 0 (ByteArray.mk #[])) (IntKind.i64.wrap (y.n 91011 + 1)) 73 ∧ (73 - 
      IntKind.i64.wrap (y.n 91011 + 1)).toNat < (73 - y.n 91011).toNat ∧ True)) ∧ ((bits BinOp.and .u8 (IntKind.u8.wrap (strB t (y.n 91011) - 48)) (1 : Int) == 1) = false 
      → lnb 73 E t y ((63 = 63 ∧ ((0 ≤ IntKind.i64.wrap (y.n 2 + 1) ∧ IntKind.i64.wrap (y.n 2 + 1) ≤ 80) ∧ (0 ≤ y.n 7 ∧ y.n 7 ≤ 68) ∧ True) ∧ 36 = 36 ∧ True ∧ 36 = 36 ∧ 
      True ∧ ([] : SW) = []) ∧ HI (SI false (6 : Nat) t (z.s 0) (y.s 0) (IntKind.i64.wrap (y.n 91011 + 1)) (IntKind.i64.wrap (y.n 2 + 1)) false (y.n 4) (y.n 5)) (PW (6 : 
      Nat) (512 : Nat) t (z.s 0) (y.s 0) (IntKind.i64.wrap (y.n 2 + 1)) false 0 0 (ByteArray.mk #[])) (IntKind.i64.wrap (y.n 91011 + 1)) 73 ∧ (73 - IntKind.i64.wrap (y.n 
      91011 + 1)).toNat < (73 - y.n 91011).toNat ∧ True))) ∧ ((y.n 2 == 1) = false → (decide (y.n 2 < 8) = true → lnb 73 E t y ((63 = 63 ∧ ((0 ≤ IntKind.i64.wrap (y.n 2 + 
      1) ∧ IntKind.i64.wrap (y.n 2 + 1) ≤ 80) ∧ (0 ≤ y.n 7 ∧ y.n 7 ≤ 68) ∧ True) ∧ 36 = 36 ∧ True ∧ 36 = 36 ∧ True ∧ ([] : SW) = []) ∧ HI (SI false (6 : Nat) t (z.s 0) 
      (y.s 0) (IntKind.i64.wrap (y.n 91011 + 1)) (IntKind.i64.wrap (y.n 2 + 1)) (y.b 3) (bits BinOp.or .i64 (IntKind.i64.wrap (y.n 4 * 2)) (IntKind.i64.wrap (bits 
      BinOp.and .u8 (IntKind.u8.wrap (strB t (y.n 91011) - 48)) 1))) (y.n 5)) (PW (6 : Nat) (512 : Nat) t (z.s 0) (y.s 0) (IntKind.i64.wrap (y.n 2 + 1)) false 0 0 
      (ByteArray.mk #[])) (IntKind.i64.wrap (y.n 91011 + 1)) 73 ∧ (73 - IntKind.i64.wrap (y.n 91011 + 1)).toNat < (73 - y.n 91011).toNat ∧ True)) ∧ (decide (y.n 2 < 8) = 
      false → lnb 73 E t y ((63 = 63 ∧ ((0 ≤ IntKind.i64.wrap (y.n 2 + 1) ∧ IntKind.i64.wrap (y.n 2 + 1) ≤ 80) ∧ (0 ≤ y.n 7 ∧ y.n 7 ≤ 68) ∧ True) ∧ 36 = 36 ∧ True ∧ 36 = 
      36 ∧ True ∧ ([] : SW) = []) ∧ HI (SI false (6 : Nat) t (z.s 0) (y.s 0) (IntKind.i64.wrap (y.n 91011 + 1)) (IntKind.i64.wrap (y.n 2 + 1)) (y.b 3) (y.n 4) (bits 
      BinOp.or .u64 (IntKind.u64.wrap (y.n 5 * 2)) (IntKind.u64.wrap (bits BinOp.and .u8 (IntKind.u8.wrap (strB t (y.n 91011) - 48)) 1)))) (PW (6 : Nat) (512 : Nat) t 
      (z.s 0) (y.s 0) (IntKind.i64.wrap (y.n 2 + 1)) false 0 0 (ByteArray.mk #[])) (IntKind.i64.wrap (y.n 91011 + 1)) 73 ∧ (73 - IntKind.i64.wrap (y.n 91011 + 1)).toNat < 
      (73 - y.n 91011).toNat ∧ True))))))))) ∧ (decide (y.n 91011 < 73) = false → (63 = 63 ∧ ((0 ≤ y.n 2 ∧ y.n 2 ≤ 80) ∧ (0 ≤ y.n 7 ∧ y.n 7 ≤ 68) ∧ True) ∧ ([] : SW) = 
      []) ∧ (True ∧ True) ∧ PW (6 : Nat) (512 : Nat) t (z.s 0) (y.s 0) (y.n 2) (y.b 91007) (y.n 200000) (y.n 200001) (y.s 200002))) := by kernel_rfl
end Go.Proofs.Ythgcieloijmgdaa

