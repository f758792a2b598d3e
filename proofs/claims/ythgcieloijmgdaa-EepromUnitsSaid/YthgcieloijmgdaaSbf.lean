import Derived.Test.YthgcieloijmgdaaUF
set_option linter.unusedVariables false
set_option linter.unusedSimpArgs false
namespace Go.Proofs.Ythgcieloijmgdaa
open Go Go.Proofs Go.Proofs.Ythgcieloijmgdaa.Ev Go.Proofs.Ythgcieloijmgdaa.Ev.Ho
set_option maxRecDepth 100000
set_option maxHeartbeats 8000000
theorem law_r5 (E : World) (g : Bool) (sd : Int) (z : PX) (y : PX) :
    (loopW (pe E) Try.f6 (endR ([] : List MB).length [] (.c .b) (fun z y => y.b 90000 = true) z) (headR ([] : List MB).length Try.f6.ntmps (some ((fun y => ((2000 - y.n 91011) * 100 + 90).toNat) y)) (law_hs E g sd z)) [none, some false, some false, some false, some true, some false, some false, some false, some false, some false, some false, some false, some false, some false, some false, some false] (run (pe E) (orcA E) (tabL fns) 20000 (2 ^ 2 + 2 ^ 6) (t2b_td E) (mkL Try.f6.ntmps (slC y [(5, .c (.i true .i64 6)), (6, .c (.i true .i64 512)), (7, .q (.rs 0 1 512)), (9, .c (.p 1 0)), (11, .r .i64 (0) (69))])) (mkM y [] [rowB, mC 6 false] 0))) =
((decide (y.n 91011 < 64) = true → decide ((bytesN [cb y 32]).size = (1 : Nat)) = true ∧ decide (0 = 0) = true ∧ decide ((bytesN [cb y 32]).size = (1 : Nat)) = true ∧ 
      decide ((ByteArray.mk #[] ++ bytesN [cb y 32]).size = (1 : Nat)) = true ∧ decide ((bytesN [cb y 16]).size = (1 : Nat)) = true ∧ decide ((ByteArray.mk #[] ++ bytesN 
      [cb y 32]).size = (1 : Nat)) = true ∧ decide ((bytesN [cb y 16]).size = (1 : Nat)) = true ∧ decide ((ByteArray.mk #[] ++ bytesN [cb y 32] ++ bytesN [cb y 16]).size 
      = (2 : Nat)) = true ∧ decide ((bytesN [cb y 8]).size = (1 : Nat)) = true ∧ decide ((ByteArray.mk #[] ++ bytesN [cb y 32] ++ bytesN [cb y 16]).size = (2 : Nat)) = 
      true ∧ decide ((bytesN [cb y 8]).size = (1 : Nat)) = true ∧ decide ((ByteArray.mk #[] ++ bytesN [cb y 32] ++ bytesN [cb y 16] ++ bytesN [cb y 8]).size = (3 : Nat)) 
      = true ∧ decide ((bytesN [cb y 4]).size = (1 : Nat)) = true ∧ decide ((ByteArray.mk #[] ++ bytesN [cb y 32] ++ bytesN [cb y 16] ++ bytesN [cb y 8]).size = (3 : 
      Nat)) = true ∧ decide ((bytesN [cb y 4]).size = (1 : Nat)) = true ∧ decide ((ByteArray.mk #[] ++ bytesN [cb y 32] ++ bytesN [cb y 16] ++ bytesN [cb y 8] ++ bytesN 
      [cb y 4]).size = (4 : Nat)) = true ∧ decide ((bytesN [cb y 2]).size = (1 : Nat)) = true ∧ decide ((ByteArray.mk #[] ++ bytesN [cb y 32] ++ bytesN [cb y 16] ++ 
      bytesN [cb y 8] ++ bytesN [cb y 4]).size = (4 : Nat)) = true ∧ decide ((bytesN [cb y 2]).size = (1 : Nat)) = true ∧ decide ((ByteArray.mk #[] ++ bytesN [cb y 32] ++ 
      bytesN [cb y 16] ++ bytesN [cb y 8] ++ bytesN [cb y 4] ++ bytesN [cb y 2]).size = (5 : Nat)) = true ∧ decide ((bytesN [cb y 1]).size = (1 : Nat)) = true ∧ decide 
      ((ByteArray.mk #[] ++ bytesN [cb y 32] ++ bytesN [cb y 16] ++ bytesN [cb y 8] ++ bytesN [cb y 4] ++ bytesN [cb y 2]).size = (5 : Nat)) = true ∧ decide ((bytesN [cb 
      y 1]).size = (1 : Nat)) = true ∧ decide ((ByteArray.mk #[] ++ bytesN [cb y 32] ++ bytesN [cb y 16] ++ bytesN [cb y 8] ++ bytesN [cb y 4] ++ bytesN [cb y 2] ++ 
      bytesN [cb y 1]).size = (6 : Nat)) = true ∧ decide (2 = 2) = true ∧ decide ((ByteArray.mk #[] ++ bytesN [cb y 32] ++ bytesN [cb y 16] ++ bytesN [cb y 8] ++ bytesN 
      [cb y 4] ++ bytesN [cb y 2] ++ bytesN [cb y 1]).size = (6 : Nat)) = true ∧ decide ((ByteArray.mk #[(49 : UInt8), (49 : UInt8)] ++ (ByteArray.mk #[] ++ bytesN [cb y 
      32] ++ bytesN [cb y 16] ++ bytesN [cb y 8] ++ bytesN [cb y 4] ++ bytesN [cb y 2] ++ bytesN [cb y 1])).size = (8 : Nat)) = true ∧ decide ((ByteArray.mk #[(49 : 
      UInt8), (49 : UInt8)] ++ (ByteArray.mk #[] ++ bytesN [cb y 32] ++ bytesN [cb y 16] ++ bytesN [cb y 8] ++ bytesN [cb y 4] ++ bytesN [cb y 2] ++ bytesN [cb y 
      1])).size = (8 : Nat)) = true ∧ decide (1 = 1) = true ∧ decide ((rqb y).size = (9 : Nat)) = true ∧ decide ((rqb y).size = (9 : Nat)) = true ∧ (false ^^ y.s 100000 
      == ByteArray.mk #[]) = false ∧ (bits BinOp.and .u8 (IntKind.u8.wrap (strB (rqb y) (0 : Int) - 48)) (1 : Int) == 0) = false ∧ sameB (Bl.mk (y.l 0) (5 : Nat)) (Bl.mk 
      (y.l 0) (5 : Nat)) = true ∧ decide (y.s 100000 = y.s 100000) = true ∧ decide (y.n 100004 = y.n 100004) = true ∧ decide (y.n 100005 = y.n 100005) = true ∧ decide 
      (y.n 100006 = y.n 100006) = true ∧ decide (y.n 100007 = y.n 100007) = true ∧ sameB (Bl.mk [C.i false .u8 (cb y 32)] (5 : Nat)) (Bl.mk [C.i false .u8 (cb y 32)] (5 : 
      Nat)) = true ∧ sameB (Bl.mk [C.i false .u8 (cb y 16)] (5 : Nat)) (Bl.mk [C.i false .u8 (cb y 16)] (5 : Nat)) = true ∧ sameB (Bl.mk [C.i false .u8 (cb y 8)] (5 : 
      Nat)) (Bl.mk [C.i false .u8 (cb y 8)] (5 : Nat)) = true ∧ sameB (Bl.mk [C.i false .u8 (cb y 4)] (5 : Nat)) (Bl.mk [C.i false .u8 (cb y 4)] (5 : Nat)) = true ∧ sameB 
      (Bl.mk [C.i false .u8 (cb y 2)] (5 : Nat)) (Bl.mk [C.i false .u8 (cb y 2)] (5 : Nat)) = true ∧ sameB (Bl.mk [C.i false .u8 (cb y 1)] (5 : Nat)) (Bl.mk [C.i false 
      .u8 (cb y 1)] (5 : Nat)) = true ∧ decide ((rqb y).size = (9 : Nat)) = true ∧ (false ^^ y.s 100000 == ByteArray.mk #[]) = false ∧ sameB (Bl.mk (y.l 0) (5 : Nat)) 
      (Bl.mk (y.l 0) (5 : Nat)) = true ∧ decide (y.s 100000 = y.s 100000) = true ∧ decide (y.n 100006 = y.n 100006) = true ∧ decide (y.n 100007 = y.n 100007) = true ∧ 
      sameB (Bl.mk [C.i false .u8 (cb y 32)] (5 : Nat)) (Bl.mk [C.i false .u8 (cb y 32)] (5 : Nat)) = true ∧ sameB (Bl.mk [C.i false .u8 (cb y 16)] (5 : Nat)) (Bl.mk [C.i 
      false .u8 (cb y 16)] (5 : Nat)) = true ∧ sameB (Bl.mk [C.i false .u8 (cb y 8)] (5 : Nat)) (Bl.mk [C.i false .u8 (cb y 8)] (5 : Nat)) = true ∧ sameB (Bl.mk [C.i 
      false .u8 (cb y 4)] (5 : Nat)) (Bl.mk [C.i false .u8 (cb y 4)] (5 : Nat)) = true ∧ sameB (Bl.mk [C.i false .u8 (cb y 2)] (5 : Nat)) (Bl.mk [C.i false .u8 (cb y 2)] 
      (5 : Nat)) = true ∧ sameB (Bl.mk [C.i false .u8 (cb y 1)] (5 : Nat)) (Bl.mk [C.i false .u8 (cb y 1)] (5 : Nat)) = true ∧ (bits BinOp.and .u8 (IntKind.u8.wrap (strB 
      (rqb y) (1 : Int) - 48)) (1 : Int) == 1) = true ∧ decide ((rqb y).size = (9 : Nat)) = true ∧ (false ^^ y.s 100000 == ByteArray.mk #[]) = false ∧ sameB (Bl.mk (y.l 
      0) (5 : Nat)) (Bl.mk (y.l 0) (5 : Nat)) = true ∧ decide (y.s 100000 = y.s 100000) = true ∧ decide (y.n 100006 = y.n 100006) = true ∧ decide (y.n 100007 = y.n 
      100007) = true ∧ sameB (Bl.mk [C.i false .u8 (cb y 32)] (5 : Nat)) (Bl.mk [C.i false .u8 (cb y 32)] (5 : Nat)) = true ∧ sameB (Bl.mk [C.i false .u8 (cb y 16)] (5 : 
      Nat)) (Bl.mk [C.i false .u8 (cb y 16)] (5 : Nat)) = true ∧ sameB (Bl.mk [C.i false .u8 (cb y 8)] (5 : Nat)) (Bl.mk [C.i false .u8 (cb y 8)] (5 : Nat)) = true ∧ 
      sameB (Bl.mk [C.i false .u8 (cb y 4)] (5 : Nat)) (Bl.mk [C.i false .u8 (cb y 4)] (5 : Nat)) = true ∧ sameB (Bl.mk [C.i false .u8 (cb y 2)] (5 : Nat)) (Bl.mk [C.i 
      false .u8 (cb y 2)] (5 : Nat)) = true ∧ sameB (Bl.mk [C.i false .u8 (cb y 1)] (5 : Nat)) (Bl.mk [C.i false .u8 (cb y 1)] (5 : Nat)) = true ∧ decide ((rqb y).size = 
      (9 : Nat)) = true ∧ (false ^^ y.s 100000 == ByteArray.mk #[]) = false ∧ sameB (Bl.mk (y.l 0) (5 : Nat)) (Bl.mk (y.l 0) (5 : Nat)) = true ∧ decide (y.s 100000 = y.s 
      100000) = true ∧ decide (bits BinOp.or .i64 0 (IntKind.i64.wrap (bits BinOp.and .u8 (IntKind.u8.wrap (strB (rqb y) (2 : Int) - 48)) 1)) = bits BinOp.or .i64 0 
      (IntKind.i64.wrap (bits BinOp.and .u8 (IntKind.u8.wrap (strB (rqb y) (2 : Int) - 48)) 1))) = true ∧ decide (y.n 100006 = y.n 100006) = true ∧ decide (y.n 100007 = 
      y.n 100007) = true ∧ sameB (Bl.mk [C.i false .u8 (cb y 32)] (5 : Nat)) (Bl.mk [C.i false .u8 (cb y 32)] (5 : Nat)) = true ∧ sameB (Bl.mk [C.i false .u8 (cb y 16)] 
      (5 : Nat)) (Bl.mk [C.i false .u8 (cb y 16)] (5 : Nat)) = true ∧ sameB (Bl.mk [C.i false .u8 (cb y 8)] (5 : Nat)) (Bl.mk [C.i false .u8 (cb y 8)] (5 : Nat)) = true ∧ 
      sameB (Bl.mk [C.i false .u8 (cb y 4)] (5 : Nat)) (Bl.mk [C.i false .u8 (cb y 4)] (5 : Nat)) = true ∧ sameB (Bl.mk [C.i false .u8 (cb y 2)] (5 : Nat)) (Bl.mk [C.i 
      false .u8 (cb y 2)] (5 : Nat)) = true ∧ sameB (Bl.mk [C.i false .u8 (cb y 1)] (5 : Nat)) (Bl.mk [C.i false .u8 (cb y 1)] (5 : Nat)) = true ∧ decide ((rqb y).size = 
      (9 : Nat)) = true ∧ (false ^^ y.s 100000 == ByteArray.mk #[]) = false ∧ sameB (Bl.mk (y.l 0) (5 : Nat)) (Bl.mk (y.l 0) (5 : Nat)) = true ∧ decide (y.s 100000 = y.s 
      100000) = true ∧ decide (bits BinOp.or .i64 (IntKind.i64.wrap (bits BinOp.or .i64 0 (IntKind.i64.wrap (bits BinOp.and .u8 (IntKind.u8.wrap (strB (rqb y) (2 : Int) - 
      48)) 1)) * 2)) (IntKind.i64.wrap (bits BinOp.and .u8 (IntKind.u8.wrap (strB (rqb y) (3 : Int) - 48)) 1)) = bits BinOp.or .i64 (IntKind.i64.wrap (bits BinOp.or .i64 
      0 (IntKind.i64.wrap (bits BinOp.and .u8 (IntKind.u8.wrap (strB (rqb y) (2 : Int) - 48)) 1)) * 2)) (IntKind.i64.wrap (bits BinOp.and .u8 (IntKind.u8.wrap (strB (rqb 
      y) (3 : Int) - 48)) 1))) = true ∧ decide (y.n 100006 = y.n 100006) = true ∧ decide (y.n 100007 = y.n 100007) = true ∧ sameB (Bl.mk [C.i false .u8 (cb y 32)] (5 : 
      Nat)) (Bl.mk [C.i false .u8 (cb y 32)] (5 : Nat)) = true ∧ sameB (Bl.mk [C.i false .u8 (cb y 16)] (5 : Nat)) (Bl.mk [C.i false .u8 (cb y 16)] (5 : Nat)) = true ∧ 
      sameB (Bl.mk [C.i false .u8 (cb y 8)] (5 : Nat)) (Bl.mk [C.i false .u8 (cb y 8)] (5 : Nat)) = true ∧ sameB (Bl.mk [C.i false .u8 (cb y 4)] (5 : Nat)) (Bl.mk [C.i 
      false .u8 (cb y 4)] (5 : Nat)) = true ∧ sameB (Bl.mk [C.i false .u8 (cb y 2)] (5 : Nat)) (Bl.mk [C.i false .u8 (cb y 2)] (5 : Nat)) = true ∧ sameB (Bl.mk [C.i false 
      .u8 (cb y 1)] (5 : Nat)) (Bl.mk [C.i false .u8 (cb y 1)] (5 : Nat)) = true ∧ decide ((rqb y).size = (9 : Nat)) = true ∧ (false ^^ y.s 100000 == ByteArray.mk #[]) = 
      false ∧ sameB (Bl.mk (y.l 0) (5 : Nat)) (Bl.mk (y.l 0) (5 : Nat)) = true ∧ decide (y.s 100000 = y.s 100000) = true ∧ decide (bits BinOp.or .i64 (IntKind.i64.wrap 
      (bits BinOp.or .i64 (IntKind.i64.wrap (bits BinOp.or .i64 0 (IntKind.i64.wrap (bits BinOp.and .u8 (IntKind.u8.wrap (strB (rqb y) (2 : Int) - 48)) 1)) * 2)) 
      (IntKind.i64.wrap (bits BinOp.and .u8 (IntKind.u8.wrap (strB (rqb y) (3 : Int) - 48)) 1)) * 2)) (IntKind.i64.wrap (bits BinOp.and .u8 (IntKind.u8.wrap (strB (rqb y) 
      (4 : Int) - 48)) 1)) = bits BinOp.or .i64 (IntKind.i64.wrap (bits BinOp.or .i64 (IntKind.i64.wrap (bits BinOp.or .i64 0 (IntKind.i64.wrap (bits BinOp.and .u8 
      (IntKind.u8.wrap (strB (rqb y) (2 : Int) - 48)) 1)) * 2)) (IntKind.i64.wrap (bits BinOp.and .u8 (IntKind.u8.wrap (strB (rqb y) (3 : Int) - 48)) 1)) * 2)) 
      (IntKind.i64.wrap (bits BinOp.and .u8 (IntKind.u8.wrap (strB (rqb y) (4 : Int) - 48)) 1))) = true ∧ decide (y.n 100006 = y.n 100006) = true ∧ decide (y.n 100007 = 
      y.n 100007) = true ∧ sameB (Bl.mk [C.i false .u8 (cb y 32)] (5 : Nat)) (Bl.mk [C.i false .u8 (cb y 32)] (5 : Nat)) = true ∧ sameB (Bl.mk [C.i false .u8 (cb y 16)] 
      (5 : Nat)) (Bl.mk [C.i false .u8 (cb y 16)] (5 : Nat)) = true ∧ sameB (Bl.mk [C.i false .u8 (cb y 8)] (5 : Nat)) (Bl.mk [C.i false .u8 (cb y 8)] (5 : Nat)) = true ∧ 
      sameB (Bl.mk [C.i false .u8 (cb y 4)] (5 : Nat)) (Bl.mk [C.i false .u8 (cb y 4)] (5 : Nat)) = true ∧ sameB (Bl.mk [C.i false .u8 (cb y 2)] (5 : Nat)) (Bl.mk [C.i 
      false .u8 (cb y 2)] (5 : Nat)) = true ∧ sameB (Bl.mk [C.i false .u8 (cb y 1)] (5 : Nat)) (Bl.mk [C.i false .u8 (cb y 1)] (5 : Nat)) = true ∧ decide ((rqb y).size = 
      (9 : Nat)) = true ∧ (false ^^ y.s 100000 == ByteArray.mk #[]) = false ∧ sameB (Bl.mk (y.l 0) (5 : Nat)) (Bl.mk (y.l 0) (5 : Nat)) = true ∧ decide (y.s 100000 = y.s 
      100000) = true ∧ decide (bits BinOp.or .i64 (IntKind.i64.wrap (bits BinOp.or .i64 (IntKind.i64.wrap (bits BinOp.or .i64 (IntKind.i64.wrap (bits BinOp.or .i64 0 
      (IntKind.i64.wrap (bits BinOp.and .u8 (IntKind.u8.wrap (strB (rqb y) (2 : Int) - 48)) 1)) * 2)) (IntKind.i64.wrap (bits BinOp.and .u8 (IntKind.u8.wrap (strB (rqb y) 
      (3 : Int) - 48)) 1)) * 2)) (IntKind.i64.wrap (bits BinOp.and .u8 (IntKind.u8.wrap (strB (rqb y) (4 : Int) - 48)) 1)) * 2)) (IntKind.i64.wrap (bits BinOp.and .u8 
      (IntKind.u8.wrap (strB (rqb y) (5 : Int) - 48)) 1)) = bits BinOp.or .i64 (IntKind.i64.wrap (bits BinOp.or .i64 (IntKind.i64.wrap (bits BinOp.or .i64 
      (IntKind.i64.wrap (bits BinOp.or .i64 0 (IntKind.i64.wrap (bits BinOp.and .u8 (IntKind.u8.wrap (strB (rqb y) (2 : Int) - 48)) 1)) * 2)) (IntKind.i64.wrap (bits 
      BinOp.and .u8 (IntKind.u8.wrap (strB (rqb y) (3 : Int) - 48)) 1)) * 2)) (IntKind.i64.wrap (bits BinOp.and .u8 (IntKind.u8.wrap (strB (rqb y) (4 : Int) - 48)) 1)) * 
      2)) (IntKind.i64.wrap (bits BinOp.and .u8 (IntKind.u8.wrap (strB (rqb y) (5 : Int) - 48)) 1))) = true ∧ decide (y.n 100006 = y.n 100006) = true ∧ decide (y.n 100007 
      = y.n 100007) = true ∧ sameB (Bl.mk [C.i false .u8 (cb y 32)] (5 : Nat)) (Bl.mk [C.i false .u8 (cb y 32)] (5 : Nat)) = true ∧ sameB (Bl.mk [C.i false .u8 (cb y 16)] 
      (5 : Nat)) (Bl.mk [C.i false .u8 (cb y 16)] (5 : Nat)) = true ∧ sameB (Bl.mk [C.i false .u8 (cb y 8)] (5 : Nat)) (Bl.mk [C.i false .u8 (cb y 8)] (5 : Nat)) = true ∧ 
      sameB (Bl.mk [C.i false .u8 (cb y 4)] (5 : Nat)) (Bl.mk [C.i false .u8 (cb y 4)] (5 : Nat)) = true ∧ sameB (Bl.mk [C.i false .u8 (cb y 2)] (5 : Nat)) (Bl.mk [C.i 
      false .u8 (cb y 2)] (5 : Nat)) = true ∧ sameB (Bl.mk [C.i false .u8 (cb y 1)] (5 : Nat)) (Bl.mk [C.i false .u8 (cb y 1)] (5 : Nat)) = true ∧ decide ((rqb y).size = 
      (9 : Nat)) = true ∧ (false ^^ y.s 100000 == ByteArray.mk #[]) = false ∧ sameB (Bl.mk (y.l 0) (5 : Nat)) (Bl.mk (y.l 0) (5 : Nat)) = true ∧ decide (y.s 100000 = y.s 
      100000) = true ∧ decide (bits BinOp.or .i64 (IntKind.i64.wrap (bits BinOp.or .i64 (IntKind.i64.wrap (bits BinOp.or .i64 (IntKind.i64.wrap (bits BinOp.or .i64 
      (IntKind.i64.wrap (bits BinOp.or .i64 0 (IntKind.i64.wrap (bits BinOp.and .u8 (IntKind.u8.wrap (strB (rqb y) (2 : Int) - 48)) 1)) * 2)) (IntKind.i64.wrap (bits 
      BinOp.and .u8 (IntKind.u8.wrap (strB (rqb y) (3 : Int) - 48)) 1)) * 2)) (IntKind.i64.wrap (bits BinOp.and .u8 (IntKind.u8.wrap (strB (rqb y) (4 : Int) - 48)) 1)) * 
      2)) (IntKind.i64.wrap (bits BinOp.and .u8 (IntKind.u8.wrap (strB (rqb y) (5 : Int) - 48)) 1)) * 2)) (IntKind.i64.wrap (bits BinOp.and .u8 (IntKind.u8.wrap (strB 
      (rqb y) (6 : Int) - 48)) 1)) = bits BinOp.or .i64 (IntKind.i64.wrap (bits BinOp.or .i64 (IntKind.i64.wrap (bits BinOp.or .i64 (IntKind.i64.wrap (bits BinOp.or .i64 
      (IntKind.i64.wrap (bits BinOp.or .i64 0 (IntKind.i64.wrap (bits BinOp.and .u8 (IntKind.u8.wrap (strB (rqb y) (2 : Int) - 48)) 1)) * 2)) (IntKind.i64.wrap (bits 
      BinOp.and .u8 (IntKind.u8.wrap (strB (rqb y) (3 : Int) - 48)) 1)) * 2)) (IntKind.i64.wrap (bits BinOp.and .u8 (IntKind.u8.wrap (strB (rqb y) (4 : Int) - 48)) 1)) * 
      2)) (IntKind.i64.wrap (bits BinOp.and .u8 (IntKind.u8.wrap (strB (rqb y) (5 : Int) - 48)) 1)) * 2)) (IntKind.i64.wrap (bits BinOp.and .u8 (IntKind.u8.wrap (strB 
      (rqb y) (6 : Int) - 48)) 1))) = true ∧ decide (y.n 100006 = y.n 100006) = true ∧ decide (y.n 100007 = y.n 100007) = true ∧ sameB (Bl.mk [C.i false .u8 (cb y 32)] (5 
      : Nat)) (Bl.mk [C.i false .u8 (cb y 32)] (5 : Nat)) = true ∧ sameB (Bl.mk [C.i false .u8 (cb y 16)] (5 : Nat)) (Bl.mk [C.i false .u8 (cb y 16)] (5 : Nat)) = true ∧ 
      sameB (Bl.mk [C.i false .u8 (cb y 8)] (5 : Nat)) (Bl.mk [C.i false .u8 (cb y 8)] (5 : Nat)) = true ∧ sameB (Bl.mk [C.i false .u8 (cb y 4)] (5 : Nat)) (Bl.mk [C.i 
      false .u8 (cb y 4)] (5 : Nat)) = true ∧ sameB (Bl.mk [C.i false .u8 (cb y 2)] (5 : Nat)) (Bl.mk [C.i false .u8 (cb y 2)] (5 : Nat)) = true ∧ sameB (Bl.mk [C.i false 
      .u8 (cb y 1)] (5 : Nat)) (Bl.mk [C.i false .u8 (cb y 1)] (5 : Nat)) = true ∧ decide ((rqb y).size = (9 : Nat)) = true ∧ (false ^^ y.s 100000 == ByteArray.mk #[]) = 
      false ∧ sameB (Bl.mk (y.l 0) (5 : Nat)) (Bl.mk (y.l 0) (5 : Nat)) = true ∧ decide (y.s 100000 = y.s 100000) = true ∧ decide (bits BinOp.or .i64 (IntKind.i64.wrap 
      (bits BinOp.or .i64 (IntKind.i64.wrap (bits BinOp.or .i64 (IntKind.i64.wrap (bits BinOp.or .i64 (IntKind.i64.wrap (bits BinOp.or .i64 (IntKind.i64.wrap (bits 
      BinOp.or .i64 0 (IntKind.i64.wrap (bits BinOp.and .u8 (IntKind.u8.wrap (strB (rqb y) (2 : Int) - 48)) 1)) * 2)) (IntKind.i64.wrap (bits BinOp.and .u8 
      (IntKind.u8.wrap (strB (rqb y) (3 : Int) - 48)) 1)) * 2)) (IntKind.i64.wrap (bits BinOp.and .u8 (IntKind.u8.wrap (strB (rqb y) (4 : Int) - 48)) 1)) * 2)) 
      (IntKind.i64.wrap (bits BinOp.and .u8 (IntKind.u8.wrap (strB (rqb y) (5 : Int) - 48)) 1)) * 2)) (IntKind.i64.wrap (bits BinOp.and .u8 (IntKind.u8.wrap (strB (rqb y) 
      (6 : Int) - 48)) 1)) * 2)) (IntKind.i64.wrap (bits BinOp.and .u8 (IntKind.u8.wrap (strB (rqb y) (7 : Int) - 48)) 1)) = bits BinOp.or .i64 (IntKind.i64.wrap (bits 
      BinOp.or .i64 (IntKind.i64.wrap (bits BinOp.or .i64 (IntKind.i64.wrap (bits BinOp.or .i64 (IntKind.i64.wrap (bits BinOp.or .i64 (IntKind.i64.wrap (bits BinOp.or 
      .i64 0 (IntKind.i64.wrap (bits BinOp.and .u8 (IntKind.u8.wrap (strB (rqb y) (2 : Int) - 48)) 1)) * 2)) (IntKind.i64.wrap (bits BinOp.and .u8 (IntKind.u8.wrap (strB 
      (rqb y) (3 : Int) - 48)) 1)) * 2)) (IntKind.i64.wrap (bits BinOp.and .u8 (IntKind.u8.wrap (strB (rqb y) (4 : Int) - 48)) 1)) * 2)) (IntKind.i64.wrap (bits BinOp.and 
      .u8 (IntKind.u8.wrap (strB (rqb y) (5 : Int) - 48)) 1)) * 2)) (IntKind.i64.wrap (bits BinOp.and .u8 (IntKind.u8.wrap (strB (rqb y) (6 : Int) - 48)) 1)) * 2)) 
      (IntKind.i64.wrap (bits BinOp.and .u8 (IntKind.u8.wrap (strB (rqb y) (7 : Int) - 48)) 1))) = true ∧ decide (y.n 100006 = y.n 100006) = true ∧ decide (y.n 100007 = 
      y.n 100007) = true ∧ sameB (Bl.mk [C.i false .u8 (cb y 32)] (5 : Nat)) (Bl.mk [C.i false .u8 (cb y 32)] (5 : Nat)) = true ∧ sameB (Bl.mk [C.i false .u8 (cb y 16)] 
      (5 : Nat)) (Bl.mk [C.i false .u8 (cb y 16)] (5 : Nat)) = true ∧ sameB (Bl.mk [C.i false .u8 (cb y 8)] (5 : Nat)) (Bl.mk [C.i false .u8 (cb y 8)] (5 : Nat)) = true ∧ 
      sameB (Bl.mk [C.i false .u8 (cb y 4)] (5 : Nat)) (Bl.mk [C.i false .u8 (cb y 4)] (5 : Nat)) = true ∧ sameB (Bl.mk [C.i false .u8 (cb y 2)] (5 : Nat)) (Bl.mk [C.i 
      false .u8 (cb y 2)] (5 : Nat)) = true ∧ sameB (Bl.mk [C.i false .u8 (cb y 1)] (5 : Nat)) (Bl.mk [C.i false .u8 (cb y 1)] (5 : Nat)) = true ∧ (!decide ((↑(y.s 
      100000).size : Int) = 0)) = true ∧ inB (IntKind.i64.wrap ((IntKind.i64.wrap (bits BinOp.or .i64 (IntKind.i64.wrap (bits BinOp.or .i64 (IntKind.i64.wrap (bits 
      BinOp.or .i64 (IntKind.i64.wrap (bits BinOp.or .i64 (IntKind.i64.wrap (bits BinOp.or .i64 (IntKind.i64.wrap (bits BinOp.or .i64 0 (IntKind.i64.wrap (bits BinOp.and 
      .u8 (IntKind.u8.wrap (strB (rqb y) (2 : Int) - 48)) 1)) * 2)) (IntKind.i64.wrap (bits BinOp.and .u8 (IntKind.u8.wrap (strB (rqb y) (3 : Int) - 48)) 1)) * 2)) 
      (IntKind.i64.wrap (bits BinOp.and .u8 (IntKind.u8.wrap (strB (rqb y) (4 : Int) - 48)) 1)) * 2)) (IntKind.i64.wrap (bits BinOp.and .u8 (IntKind.u8.wrap (strB (rqb y) 
      (5 : Int) - 48)) 1)) * 2)) (IntKind.i64.wrap (bits BinOp.and .u8 (IntKind.u8.wrap (strB (rqb y) (6 : Int) - 48)) 1)) * 2)) (IntKind.i64.wrap (bits BinOp.and .u8 
      (IntKind.u8.wrap (strB (rqb y) (7 : Int) - 48)) 1)) * 8)).tmod (↑(y.s 100000).size : Int) + 0)) (y.s 100000).size = true ∧ inB (IntKind.i64.wrap ((IntKind.i64.wrap 
      (bits BinOp.or .i64 (IntKind.i64.wrap (bits BinOp.or .i64 (IntKind.i64.wrap (bits BinOp.or .i64 (IntKind.i64.wrap (bits BinOp.or .i64 (IntKind.i64.wrap (bits 
      BinOp.or .i64 (IntKind.i64.wrap (bits BinOp.or .i64 0 (IntKind.i64.wrap (bits BinOp.and .u8 (IntKind.u8.wrap (strB (rqb y) (2 : Int) - 48)) 1)) * 2)) 
      (IntKind.i64.wrap (bits BinOp.and .u8 (IntKind.u8.wrap (strB (rqb y) (3 : Int) - 48)) 1)) * 2)) (IntKind.i64.wrap (bits BinOp.and .u8 (IntKind.u8.wrap (strB (rqb y) 
      (4 : Int) - 48)) 1)) * 2)) (IntKind.i64.wrap (bits BinOp.and .u8 (IntKind.u8.wrap (strB (rqb y) (5 : Int) - 48)) 1)) * 2)) (IntKind.i64.wrap (bits BinOp.and .u8 
      (IntKind.u8.wrap (strB (rqb y) (6 : Int) - 48)) 1)) * 2)) (IntKind.i64.wrap (bits BinOp.and .u8 (IntKind.u8.wrap (strB (rqb y) (7 : Int) - 48)) 1)) * 8)).tmod 
      (↑(y.s 100000).size : Int) + 1)) (y.s 100000).size = true ∧ inB (IntKind.i64.wrap ((IntKind.i64.wrap (bits BinOp.or .i64 (IntKind.i64.wrap (bits BinOp.or .i64 
      (IntKind.i64.wrap (bits BinOp.or .i64 (IntKind.i64.wrap (bits BinOp.or .i64 (IntKind.i64.wrap (bits BinOp.or .i64 (IntKind.i64.wrap (bits BinOp.or .i64 0 
      (IntKind.i64.wrap (bits BinOp.and .u8 (IntKind.u8.wrap (strB (rqb y) (2 : Int) - 48)) 1)) * 2)) (IntKind.i64.wrap (bits BinOp.and .u8 (IntKind.u8.wrap (strB (rqb y) 
      (3 : Int) - 48)) 1)) * 2)) (IntKind.i64.wrap (bits BinOp.and .u8 (IntKind.u8.wrap (strB (rqb y) (4 : Int) - 48)) 1)) * 2)) (IntKind.i64.wrap (bits BinOp.and .u8 
      (IntKind.u8.wrap (strB (rqb y) (5 : Int) - 48)) 1)) * 2)) (IntKind.i64.wrap (bits BinOp.and .u8 (IntKind.u8.wrap (strB (rqb y) (6 : Int) - 48)) 1)) * 2)) 
      (IntKind.i64.wrap (bits BinOp.and .u8 (IntKind.u8.wrap (strB (rqb y) (7 : Int) - 48)) 1)) * 8)).tmod (↑(y.s 100000).size : Int) + 2)) (y.s 100000).size = true ∧ inB 
      (IntKind.i64.wrap ((IntKind.i64.wrap (bits BinOp.or .i64 (IntKind.i64.wrap (bits BinOp.or .i64 (IntKind.i64.wrap (bits BinOp.or .i64 (IntKind.i64.wrap (bits 
      BinOp.or .i64 (IntKind.i64.wrap (bits BinOp.or .i64 (IntKind.i64.wrap (bits BinOp.or .i64 0 (IntKind.i64.wrap (bits BinOp.and .u8 (IntKind.u8.wrap (strB (rqb y) (2 
      : Int) - 48)) 1)) * 2)) (IntKind.i64.wrap (bits BinOp.and .u8 (IntKind.u8.wrap (strB (rqb y) (3 : Int) - 48)) 1)) * 2)) (IntKind.i64.wrap (bits BinOp.and .u8 
      (IntKind.u8.wrap (strB (rqb y) (4 : Int) - 48)) 1)) * 2)) (IntKind.i64.wrap (bits BinOp.and .u8 (IntKind.u8.wrap (strB (rqb y) (5 : Int) - 48)) 1)) * 2)) 
      (IntKind.i64.wrap (bits BinOp.and .u8 (IntKind.u8.wrap (strB (rqb y) (6 : Int) - 48)) 1)) * 2)) (IntKind.i64.wrap (bits BinOp.and .u8 (IntKind.u8.wrap (strB (rqb y) 
      (7 : Int) - 48)) 1)) * 8)).tmod (↑(y.s 100000).size : Int) + 3)) (y.s 100000).size = true ∧ inB (IntKind.i64.wrap ((IntKind.i64.wrap (bits BinOp.or .i64 
      (IntKind.i64.wrap (bits BinOp.or .i64 (IntKind.i64.wrap (bits BinOp.or .i64 (IntKind.i64.wrap (bits BinOp.or .i64 (IntKind.i64.wrap (bits BinOp.or .i64 
      (IntKind.i64.wrap (bits BinOp.or .i64 0 (IntKind.i64.wrap (bits BinOp.and .u8 (IntKind.u8.wrap (strB (rqb y) (2 : Int) - 48)) 1)) * 2)) (IntKind.i64.wrap (bits 
      BinOp.and .u8 (IntKind.u8.wrap (strB (rqb y) (3 : Int) - 48)) 1)) * 2)) (IntKind.i64.wrap (bits BinOp.and .u8 (IntKind.u8.wrap (strB (rqb y) (4 : Int) - 48)) 1)) * 
      2)) (IntKind.i64.wrap (bits BinOp.and .u8 (IntKind.u8.wrap (strB (rqb y) (5 : Int) - 48)) 1)) * 2)) (IntKind.i64.wrap (bits BinOp.and .u8 (IntKind.u8.wrap (strB 
      (rqb y) (6 : Int) - 48)) 1)) * 2)) (IntKind.i64.wrap (bits BinOp.and .u8 (IntKind.u8.wrap (strB (rqb y) (7 : Int) - 48)) 1)) * 8)).tmod (↑(y.s 100000).size : Int) + 
      4)) (y.s 100000).size = true ∧ inB (IntKind.i64.wrap ((IntKind.i64.wrap (bits BinOp.or .i64 (IntKind.i64.wrap (bits BinOp.or .i64 (IntKind.i64.wrap (bits BinOp.or 
      .i64 (IntKind.i64.wrap (bits BinOp.or .i64 (IntKind.i64.wrap (bits BinOp.or .i64 (IntKind.i64.wrap (bits BinOp.or .i64 0 (IntKind.i64.wrap (bits BinOp.and .u8 
      (IntKind.u8.wrap (strB (rqb y) (2 : Int) - 48)) 1)) * 2)) (IntKind.i64.wrap (bits BinOp.and .u8 (IntKind.u8.wrap (strB (rqb y) (3 : Int) - 48)) 1)) * 2)) 
      (IntKind.i64.wrap (bits BinOp.and .u8 (IntKind.u8.wrap (strB (rqb y) (4 : Int) - 48)) 1)) * 2)) (IntKind.i64.wrap (bits BinOp.and .u8 (IntKind.u8.wrap (strB (rqb y) 
      (5 : Int) - 48)) 1)) * 2)) (IntKind.i64.wrap (bits BinOp.and .u8 (IntKind.u8.wrap (strB (rqb y) (6 : Int) - 48)) 1)) * 2)) (IntKind.i64.wrap (bits BinOp.and .u8 
      (IntKind.u8.wrap (strB (rqb y) (7 : Int) - 48)) 1)) * 8)).tmod (↑(y.s 100000).size : Int) + 5)) (y.s 100000).size = true ∧ inB (IntKind.i64.wrap ((IntKind.i64.wrap 
      (bits BinOp.or .i64 (IntKind.i64.wrap (bits BinOp.or .i64 (IntKind.i64.wrap (bits BinOp.or .i64 (IntKind.i64.wrap (bits BinOp.or .i64 (IntKind.i64.wrap (bits 
      BinOp.or .i64 (IntKind.i64.wrap (bits BinOp.or .i64 0 (IntKind.i64.wrap (bits BinOp.and .u8 (IntKind.u8.wrap (strB (rqb y) (2 : Int) - 48)) 1)) * 2)) 
      (IntKind.i64.wrap (bits BinOp.and .u8 (IntKind.u8.wrap (strB (rqb y) (3 : Int) - 48)) 1)) * 2)) (IntKind.i64.wrap (bits BinOp.and .u8 (IntKind.u8.wrap (strB (rqb y) 
      (4 : Int) - 48)) 1)) * 2)) (IntKind.i64.wrap (bits BinOp.and .u8 (IntKind.u8.wrap (strB (rqb y) (5 : Int) - 48)) 1)) * 2)) (IntKind.i64.wrap (bits BinOp.and .u8 
      (IntKind.u8.wrap (strB (rqb y) (6 : Int) - 48)) 1)) * 2)) (IntKind.i64.wrap (bits BinOp.and .u8 (IntKind.u8.wrap (strB (rqb y) (7 : Int) - 48)) 1)) * 8)).tmod 
      (↑(y.s 100000).size : Int) + 6)) (y.s 100000).size = true ∧ inB (IntKind.i64.wrap ((IntKind.i64.wrap (bits BinOp.or .i64 (IntKind.i64.wrap (bits BinOp.or .i64 
      (IntKind.i64.wrap (bits BinOp.or .i64 (IntKind.i64.wrap (bits BinOp.or .i64 (IntKind.i64.wrap (bits BinOp.or .i64 (IntKind.i64.wrap (bits BinOp.or .i64 0 
      (IntKind.i64.wrap (bits BinOp.and .u8 (IntKind.u8.wrap (strB (rqb y) (2 : Int) - 48)) 1)) * 2)) (IntKind.i64.wrap (bits BinOp.and .u8 (IntKind.u8.wrap (strB (rqb y) 
      (3 : Int) - 48)) 1)) * 2)) (IntKind.i64.wrap (bits BinOp.and .u8 (IntKind.u8.wrap (strB (rqb y) (4 : Int) - 48)) 1)) * 2)) (IntKind.i64.wrap (bits BinOp.and .u8 
      (IntKind.u8.wrap (strB (rqb y) (5 : Int) - 48)) 1)) * 2)) (IntKind.i64.wrap (bits BinOp.and .u8 (IntKind.u8.wrap (strB (rqb y) (6 : Int) - 48)) 1)) * 2)) 
      (IntKind.i64.wrap (bits BinOp.and .u8 (IntKind.u8.wrap (strB (rqb y) (7 : Int) - 48)) 1)) * 8)).tmod (↑(y.s 100000).size : Int) + 7)) (y.s 100000).size = true ∧ 
      (false ^^ y.s 100000 == ByteArray.mk #[]) = false ∧ (false ^^ y.s 100000 == ByteArray.mk #[]) = false ∧ (false ^^ y.s 100000 == ByteArray.mk #[]) = false ∧ (false 
      ^^ y.s 100000 == ByteArray.mk #[]) = false ∧ t3b_td E = t3b_td E ∧ 98 = 98 ∧ (True ∧ True ∧ (renC (posN [(0 : Nat), (1 : Nat)]) (C.rs (0 : Nat) (1 : Nat) (512 : 
      Nat)) = C.rs (0 : Nat) (1 : Nat) (512 : Nat) ∧ True) ∧ True ∧ ((0 ≤ y.n 91011 ∧ y.n 91011 ≤ 63) ∧ True) ∧ (((0 : Int) ≤ (0 : Int) ∧ (0 : Int) ≤ 64) ∧ True) ∧ True) 
      ∧ (5 = 5 ∧ (flat [Sp.r .u8 0 255] = true ∧ Row [Sp.r .u8 0 255] (y.l 0)) ∧ 63 = 63 ∧ (((0 : Int) ≤ (64 : Int) ∧ (64 : Int) ≤ 68) ∧ True) ∧ ([] : SW) = []) ∧ ((Ln 
      (y.l 0) (512 : Nat) ∧ EqT (y.s 100000) (y.l 0) (512 : Nat)) ∧ O8 (bits BinOp.or .u64 (IntKind.u64.wrap (bits BinOp.or .u64 (IntKind.u64.wrap (bits BinOp.or .u64 
      (IntKind.u64.wrap (bits BinOp.or .u64 (IntKind.u64.wrap (bits BinOp.or .u64 (IntKind.u64.wrap (bits BinOp.or .u64 (IntKind.u64.wrap (bits BinOp.or .u64 
      (IntKind.u64.wrap (bits BinOp.or .u64 0 (IntKind.u64.wrap (strB (y.s 100000) (IntKind.i64.wrap ((IntKind.i64.wrap (bits BinOp.or .i64 (IntKind.i64.wrap (bits 
      BinOp.or .i64 (IntKind.i64.wrap (bits BinOp.or .i64 (IntKind.i64.wrap (bits BinOp.or .i64 (IntKind.i64.wrap (bits BinOp.or .i64 (IntKind.i64.wrap (bits BinOp.or 
      .i64 0 (IntKind.i64.wrap (bits BinOp.and .u8 (IntKind.u8.wrap (strB (rqb y) (2 : Int) - 48)) 1)) * 2)) (IntKind.i64.wrap (bits BinOp.and .u8 (IntKind.u8.wrap (strB 
      (rqb y) (3 : Int) - 48)) 1)) * 2)) (IntKind.i64.wrap (bits BinOp.and .u8 (IntKind.u8.wrap (strB (rqb y) (4 : Int) - 48)) 1)) * 2)) (IntKind.i64.wrap (bits BinOp.and 
      .u8 (IntKind.u8.wrap (strB (rqb y) (5 : Int) - 48)) 1)) * 2)) (IntKind.i64.wrap (bits BinOp.and .u8 (IntKind.u8.wrap (strB (rqb y) (6 : Int) - 48)) 1)) * 2)) 
      (IntKind.i64.wrap (bits BinOp.and .u8 (IntKind.u8.wrap (strB (rqb y) (7 : Int) - 48)) 1)) * 8)).tmod (↑(y.s 100000).size : Int) + 0)))) * 256)) (IntKind.u64.wrap 
      (strB (y.s 100000) (IntKind.i64.wrap ((IntKind.i64.wrap (bits BinOp.or .i64 (IntKind.i64.wrap (bits BinOp.or .i64 (IntKind.i64.wrap (bits BinOp.or .i64 
      (IntKind.i64.wrap (bits BinOp.or .i64 (IntKind.i64.wrap (bits BinOp.or .i64 (IntKind.i64.wrap (bits BinOp.or .i64 0 (IntKind.i64.wrap (bits BinOp.and .u8 
      (IntKind.u8.wrap (strB (rqb y) (2 : Int) - 48)) 1)) * 2)) (IntKind.i64.wrap (bits BinOp.and .u8 (IntKind.u8.wrap (strB (rqb y) (3 : Int) - 48)) 1)) * 2)) 
      (IntKind.i64.wrap (bits BinOp.and .u8 (IntKind.u8.wrap (strB (rqb y) (4 : Int) - 48)) 1)) * 2)) (IntKind.i64.wrap (bits BinOp.and .u8 (IntKind.u8.wrap (strB (rqb y) 
      (5 : Int) - 48)) 1)) * 2)) (IntKind.i64.wrap (bits BinOp.and .u8 (IntKind.u8.wrap (strB (rqb y) (6 : Int) - 48)) 1)) * 2)) (IntKind.i64.wrap (bits BinOp.and .u8 
      (IntKind.u8.wrap (strB (rqb y) (7 : Int) - 48)) 1)) * 8)).tmod (↑(y.s 100000).size : Int) + 1)))) * 256)) (IntKind.u64.wrap (strB (y.s 100000) (IntKind.i64.wrap 
      ((IntKind.i64.wrap (bits BinOp.or .i64 (IntKind.i64.wrap (bits BinOp.or .i64 (IntKind.i64.wrap (bits BinOp.or .i64 (IntKind.i64.wrap (bits BinOp.or .i64 
      (IntKind.i64.wrap (bits BinOp.or .i64 (IntKind.i64.wrap (bits BinOp.or .i64 0 (IntKind.i64.wrap (bits BinOp.and .u8 (IntKind.u8.wrap (strB (rqb y) (2 : Int) - 48)) 
      1)) * 2)) (IntKind.i64.wrap (bits BinOp.and .u8 (IntKind.u8.wrap (strB (rqb y) (3 : Int) - 48)) 1)) * 2)) (IntKind.i64.wrap (bits BinOp.and .u8 (IntKind.u8.wrap 
      (strB (rqb y) (4 : Int) - 48)) 1)) * 2)) (IntKind.i64.wrap (bits BinOp.and .u8 (IntKind.u8.wrap (strB (rqb y) (5 : Int) - 48)) 1)) * 2)) (IntKind.i64.wrap (bits 
      BinOp.and .u8 (IntKind.u8.wrap (strB (rqb y) (6 : Int) - 48)) 1)) * 2)) (IntKind.i64.wrap (bits BinOp.and .u8 (IntKind.u8.wrap (strB (rqb y) (7 : Int) - 48)) 1)) * 
      8)).tmod (↑(y.s 100000).size : Int) + 2)))) * 256)) (IntKind.u64.wrap (strB (y.s 100000) (IntKind.i64.wrap ((IntKind.i64.wrap (bits BinOp.or .i64 (IntKind.i64.wrap 
      (bits BinOp.or .i64 (IntKind.i64.wrap (bits BinOp.or .i64 (IntKind.i64.wrap (bits BinOp.or .i64 (IntKind.i64.wrap (bits BinOp.or .i64 (IntKind.i64.wrap (bits 
      BinOp.or .i64 0 (IntKind.i64.wrap (bits BinOp.and .u8 (IntKind.u8.wrap (strB (rqb y) (2 : Int) - 48)) 1)) * 2)) (IntKind.i64.wrap (bits BinOp.and .u8 
      (IntKind.u8.wrap (strB (rqb y) (3 : Int) - 48)) 1)) * 2)) (IntKind.i64.wrap (bits BinOp.and .u8 (IntKind.u8.wrap (strB (rqb y) (4 : Int) - 48)) 1)) * 2)) 
      (IntKind.i64.wrap (bits BinOp.and .u8 (IntKind.u8.wrap (strB (rqb y) (5 : Int) - 48)) 1)) * 2)) (IntKind.i64.wrap (bits BinOp.and .u8 (IntKind.u8.wrap (strB (rqb y) 
      (6 : Int) - 48)) 1)) * 2)) (IntKind.i64.wrap (bits BinOp.and .u8 (IntKind.u8.wrap (strB (rqb y) (7 : Int) - 48)) 1)) * 8)).tmod (↑(y.s 100000).size : Int) + 3)))) * 
      256)) (IntKind.u64.wrap (strB (y.s 100000) (IntKind.i64.wrap ((IntKind.i64.wrap (bits BinOp.or .i64 (IntKind.i64.wrap (bits BinOp.or .i64 (IntKind.i64.wrap (bits 
      BinOp.or .i64 (IntKind.i64.wrap (bits BinOp.or .i64 (IntKind.i64.wrap (bits BinOp.or .i64 (IntKind.i64.wrap (bits BinOp.or .i64 0 (IntKind.i64.wrap (bits BinOp.and 
      .u8 (IntKind.u8.wrap (strB (rqb y) (2 : Int) - 48)) 1)) * 2)) (IntKind.i64.wrap (bits BinOp.and .u8 (IntKind.u8.wrap (strB (rqb y) (3 : Int) - 48)) 1)) * 2)) 
      (IntKind.i64.wrap (bits BinOp.and .u8 (IntKind.u8.wrap (strB (rqb y) (4 : Int) - 48)) 1)) * 2)) (IntKind.i64.wrap (bits BinOp.and .u8 (IntKind.u8.wrap (strB (rqb y) 
      (5 : Int) - 48)) 1)) * 2)) (IntKind.i64.wrap (bits BinOp.and .u8 (IntKind.u8.wrap (strB (rqb y) (6 : Int) - 48)) 1)) * 2)) (IntKind.i64.wrap (bits BinOp.and .u8 
      (IntKind.u8.wrap (strB (rqb y) (7 : Int) - 48)) 1)) * 8)).tmod (↑(y.s 100000).size : Int) + 4)))) * 256)) (IntKind.u64.wrap (strB (y.s 100000) (IntKind.i64.wrap 
      ((IntKind.i64.wrap (bits BinOp.or .i64 (IntKind.i64.wrap (bits BinOp.or .i64 (IntKind.i64.wrap (bits BinOp.or .i64 (IntKind.i64.wrap (bits BinOp.or .i64 
      (IntKind.i64.wrap (bits BinOp.or .i64 (IntKind.i64.wrap (bits BinOp.or .i64 0 (IntKind.i64.wrap (bits BinOp.and .u8 (IntKind.u8.wrap (strB (rqb y) (2 : Int) - 48)) 
      1)) * 2)) (IntKind.i64.wrap (bits BinOp.and .u8 (IntKind.u8.wrap (strB (rqb y) (3 : Int) - 48)) 1)) * 2)) (IntKind.i64.wrap (bits BinOp.and .u8 (IntKind.u8.wrap 
      (strB (rqb y) (4 : Int) - 48)) 1)) * 2)) (IntKind.i64.wrap (bits BinOp.and .u8 (IntKind.u8.wrap (strB (rqb y) (5 : Int) - 48)) 1)) * 2)) (IntKind.i64.wrap (bits 
      BinOp.and .u8 (IntKind.u8.wrap (strB (rqb y) (6 : Int) - 48)) 1)) * 2)) (IntKind.i64.wrap (bits BinOp.and .u8 (IntKind.u8.wrap (strB (rqb y) (7 : Int) - 48)) 1)) * 
      8)).tmod (↑(y.s 100000).size : Int) + 5)))) * 256)) (IntKind.u64.wrap (strB (y.s 100000) (IntKind.i64.wrap ((IntKind.i64.wrap (bits BinOp.or .i64 (IntKind.i64.wrap 
      (bits BinOp.or .i64 (IntKind.i64.wrap (bits BinOp.or .i64 (IntKind.i64.wrap (bits BinOp.or .i64 (IntKind.i64.wrap (bits BinOp.or .i64 (IntKind.i64.wrap (bits 
      BinOp.or .i64 0 (IntKind.i64.wrap (bits BinOp.and .u8 (IntKind.u8.wrap (strB (rqb y) (2 : Int) - 48)) 1)) * 2)) (IntKind.i64.wrap (bits BinOp.and .u8 
      (IntKind.u8.wrap (strB (rqb y) (3 : Int) - 48)) 1)) * 2)) (IntKind.i64.wrap (bits BinOp.and .u8 (IntKind.u8.wrap (strB (rqb y) (4 : Int) - 48)) 1)) * 2)) 
      (IntKind.i64.wrap (bits BinOp.and .u8 (IntKind.u8.wrap (strB (rqb y) (5 : Int) - 48)) 1)) * 2)) (IntKind.i64.wrap (bits BinOp.and .u8 (IntKind.u8.wrap (strB (rqb y) 
      (6 : Int) - 48)) 1)) * 2)) (IntKind.i64.wrap (bits BinOp.and .u8 (IntKind.u8.wrap (strB (rqb y) (7 : Int) - 48)) 1)) * 8)).tmod (↑(y.s 100000).size : Int) + 6)))) * 
      256)) (IntKind.u64.wrap (strB (y.s 100000) (IntKind.i64.wrap ((IntKind.i64.wrap (bits BinOp.or .i64 (IntKind.i64.wrap (bits BinOp.or .i64 (IntKind.i64.wrap (bits 
      BinOp.or .i64 (IntKind.i64.wrap (bits BinOp.or .i64 (IntKind.i64.wrap (bits BinOp.or .i64 (IntKind.i64.wrap (bits BinOp.or .i64 0 (IntKind.i64.wrap (bits BinOp.and 
      .u8 (IntKind.u8.wrap (strB (rqb y) (2 : Int) - 48)) 1)) * 2)) (IntKind.i64.wrap (bits BinOp.and .u8 (IntKind.u8.wrap (strB (rqb y) (3 : Int) - 48)) 1)) * 2)) 
      (IntKind.i64.wrap (bits BinOp.and .u8 (IntKind.u8.wrap (strB (rqb y) (4 : Int) - 48)) 1)) * 2)) (IntKind.i64.wrap (bits BinOp.and .u8 (IntKind.u8.wrap (strB (rqb y) 
      (5 : Int) - 48)) 1)) * 2)) (IntKind.i64.wrap (bits BinOp.and .u8 (IntKind.u8.wrap (strB (rqb y) (6 : Int) - 48)) 1)) * 2)) (IntKind.i64.wrap (bits BinOp.and .u8 
      (IntKind.u8.wrap (strB (rqb y) (7 : Int) - 48)) 1)) * 8)).tmod (↑(y.s 100000).size : Int) + 7))))) (y.l 0) (y.n 91011) ∧ (64 : Int) = (64 : Int) - 0) ∧ ((2000 - y.n 
      91011) * 100 + ((64 : Int) - 0)).toNat < ((2000 - y.n 91011) * (100 : Int) + 90).toNat ∧ True) ∧ (decide (y.n 91011 < 64) = false → sameB (Bl.mk (y.l 0) (5 : Nat)) 
      (Bl.mk (y.l 0) (5 : Nat)) = true ∧ decide (y.s 100000 = y.s 100000) = true ∧ decide (y.n 100004 = y.n 100004) = true ∧ decide (y.n 100005 = y.n 100005) = true ∧ 
      decide (y.n 100006 = y.n 100006) = true ∧ decide (y.n 100007 = y.n 100007) = true ∧ rowU8 (y.l 0) (512 : Nat) = true ∧ ([] : SW) = [] ∧ True ∧ (false ^^ y.s 100000 
      == rowT (y.l 0) (512 : Nat)) = true)) := by kernel_rfl
end Go.Proofs.Ythgcieloijmgdaa

