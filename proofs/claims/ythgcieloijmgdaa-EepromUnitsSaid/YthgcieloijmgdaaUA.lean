import Derived.Test.YthgcieloijmgdaaA
set_option linter.unusedVariables false
set_option linter.unusedSimpArgs false
namespace Go.Proofs.Ythgcieloijmgdaa
open Go Go.Proofs Go.Proofs.Ythgcieloijmgdaa.Ev Go.Proofs.Ythgcieloijmgdaa.Ev.Ho
set_option maxRecDepth 100000
noncomputable def rowB : MB := .row [.r .u8 0 255] 5
noncomputable def mC (w : Int) (rd : Bool) : MB := .o [.s, .c (.i true .i64 w), .c (.i true .i64 0), .c (.b true rd), .i .i64, .i .u64, .i .u64, .r .i64 0 68] 63
structure Ln (l : List C) (n : Nat) : Prop where
  e : l.length = n
structure EqT (t : ByteArray) (l : List C) (n : Nat) : Prop where
  e : t = rowT l n
noncomputable def isR (rd : Bool) : Tr → SW → Bool := fun _ s => match s with | _ :: b :: _ => (match b.cs[3]? with | some (C.b true r) => r == rd | _ => false) | _ => false
noncomputable def noS (t : Nat) : Tr → SW → Bool := fun tr _ => match tr.get t with | .t [] => true | .any => true | _ => false
noncomputable def litN (t : Nat) (n : Int) : Tr → SW → Bool := fun tr _ => match tr.get t with | .c (.i _ _ m) => decide (m = n) | _ => false
noncomputable def headP : List Bool → Tree Lf → List Item
  | _, .leaf lf => cond lf.ended [] lf.todo
  | [], .node _ _ _ => []
  | b :: p, .node _ t f => cond b (headP p t) (headP p f)
  | p, .need _ t => headP p t
  | p, .pin _ _ _ k => headP p (k default)
  | _, .fail => []
structure O8 (out : Int) (l : List C) (u : Int) : Prop where
  e : out = rI l (8 * u).toNat * 72057594037927936 + rI l (8 * u + 1).toNat * 281474976710656 + rI l (8 * u + 2).toNat * 1099511627776 + rI l (8 * u + 3).toNat * 4294967296 + rI l (8 * u + 4).toNat * 16777216 + rI l (8 * u + 5).toNat * 65536 + rI l (8 * u + 6).toNat * 256 + rI l (8 * u + 7).toNat
noncomputable def t1a_td (E : World) : List Item := headP [] (run (pe E) (orcA E) (tabL fns) 20000 (2 ^ 200 - 1) [.code (Try.f6.body.getD .skip)] ⟨Try.f6.ntmps, mkFrGo (Tr.mk 12) 0 [.c (.b true true), .c (.i false .u32 7)]⟩ [])
noncomputable def t2a_td (E : World) : List Item := headP [false, false, true] (run (pe E) (orcA E) (tabL fns) 20000 (2 ^ 200 - 1) (t1a_td E) (mkL Try.f6.ntmps (slC default ([(1, .r .u32 (0) (4294967295)), (5, .c (.i true .i64 14)), (6, .c (.i true .i64 8192)), (7, .q (.rs 0 1 8192)), (25, .q (.i false .i64 8192)), (26, .r .i64 (0) (8192))]))) (mkM default [] [rowB] 0))
noncomputable def t1b_td (E : World) : List Item := headP [] (run (pe E) (orcA E) (tabL fns) 20000 (2 ^ 200 - 1) [.code (Try.f6.body.getD .skip)] ⟨Try.f6.ntmps, mkFrGo (Tr.mk 12) 0 [.c (.b true false), .c (.i false .u32 7)]⟩ [])
noncomputable def t2b_td (E : World) : List Item := headP [false, true] (run (pe E) (orcA E) (tabL fns) 20000 (2 ^ 200 - 1) (t1b_td E) (mkL Try.f6.ntmps (slC default ([(1, .r .u32 (0) (4294967295)), (5, .c (.i true .i64 6)), (6, .c (.i true .i64 512)), (7, .q (.rs 0 1 512)), (25, .q (.i false .i64 512)), (26, .r .i64 (0) (512))]))) (mkM default [] [rowB] 0))
noncomputable def t3a_td (E : World) : List Item := headP [true, false, false, false, true, false, false, false, false, false, false, false, false, false, false, false, false, false, false, false, false, false, false, false] (run (pe E) (orcA E) (tabL fns) 20000 (2 ^ 2 + 2 ^ 6) (t2a_td E) (mkL Try.f6.ntmps (slC default ([(5, .c (.i true .i64 14)), (6, .c (.i true .i64 8192)), (7, .q (.rs 0 1 8192)), (9, .c (.p 1 0)), (11, .r .i64 (0) (1029))]))) (mkM default [] [rowB, mC 14 false] 0))
noncomputable def t3b_td (E : World) : List Item := headP [true, false, false, false, true, false, false, false, false, false, false, false, false, false, false, false] (run (pe E) (orcA E) (tabL fns) 20000 (2 ^ 2 + 2 ^ 6) (t2b_td E) (mkL Try.f6.ntmps (slC default ([(5, .c (.i true .i64 6)), (6, .c (.i true .i64 512)), (7, .q (.rs 0 1 512)), (9, .c (.p 1 0)), (11, .r .i64 (0) (69))]))) (mkM default [] [rowB, mC 6 false] 0))
end Go.Proofs.Ythgcieloijmgdaa

