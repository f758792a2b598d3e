import Derived.Test.YthgcieloijmgdaaXB
set_option linter.unusedVariables false
set_option linter.unusedSimpArgs false
namespace Go.Proofs.Ythgcieloijmgdaa
open Go Go.Proofs Go.Proofs.Ythgcieloijmgdaa.Ev Go.Proofs.Ythgcieloijmgdaa.Ev.Ho
set_option maxRecDepth 100000
noncomputable def bk_h0 (E : World) (g : Bool) (u d : Int) (z : PX) : Hd := ⟨4, (litN 8 8192), (ba_td E), [(1, .r .i64 (0) (1023)), (2, .r .u64 (0) (18446744073709551615)), (7, .c (.i true .i64 14)), (8, .c (.i true .i64 8192)), (10, .c (.p 0 0)), (12, .s), (18, .s), (129, .r .i64 (0) (68))], [mW 14], fun y => ((SO (y.s 91018) (y.s 91012) (y.n 91129) ∧ OO (y.n 6) (y.s 91012)) ∧ Im (y.s 0) 8192) ∧ y.n 7 = 68 - y.n 91129, fun y => (68 - y.n 91129).toNat⟩
noncomputable def bk_h1 (E : World) (g : Bool) (u d : Int) (z : PX) : Hd := ⟨4, (litN 8 512), (bb_td E), [(1, .r .i64 (0) (63)), (2, .r .u64 (0) (18446744073709551615)), (7, .c (.i true .i64 6)), (8, .c (.i true .i64 512)), (10, .c (.p 0 0)), (12, .s), (18, .s), (129, .r .i64 (0) (68))], [mW 6], fun y => ((SO (y.s 91018) (y.s 91012) (y.n 91129) ∧ OO (y.n 6) (y.s 91012)) ∧ Im (y.s 0) 512) ∧ y.n 7 = 68 - y.n 91129, fun y => (68 - y.n 91129).toNat⟩
noncomputable def bk_hs (E : World) (g : Bool) (u d : Int) (z : PX) : List Hd := [bk_h0 E g u d z, bk_h1 E g u d z]
end Go.Proofs.Ythgcieloijmgdaa

