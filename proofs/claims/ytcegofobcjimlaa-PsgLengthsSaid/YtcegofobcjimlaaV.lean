import Derived.Test.YtcegofobcjimlaaQ
set_option linter.unusedVariables false
set_option linter.unusedSimpArgs false
namespace Go.Proofs.Ytcegofobcjimlaa
open Go Go.Proofs Go.Proofs.Ytcegofobcjimlaa.Ev Go.Proofs.Ytcegofobcjimlaa.Ev.Ho
set_option maxRecDepth 100000

theorem orA (x : Int) (h0 : 0 ≤ x) (h1 : x ≤ 63) : bits .or .u16 x 61440 = x + 61440 := by
  obtain ⟨m, rfl⟩ : ∃ m : Nat, x = m := ⟨x.toNat, by omega⟩
  have hm : m < 64 := by omega
  clear h0 h1
  revert m
  decide +kernel
theorem orB (x : Int) (h0 : 0 ≤ x) (h1 : x ≤ 2047) : bits .or .u16 x 49152 = x + 49152 := by
  obtain ⟨m, rfl⟩ : ∃ m : Nat, x = m := ⟨x.toNat, by omega⟩
  have hm : m < 2048 := by omega
  clear h0 h1
  revert m
  decide +kernel
theorem orC (x : Int) (h0 : 0 ≤ x) (h1 : x ≤ 2047) : bits .or .u16 x 32768 = x + 32768 := by
  obtain ⟨m, rfl⟩ : ∃ m : Nat, x = m := ⟨x.toNat, by omega⟩
  have hm : m < 2048 := by omega
  clear h0 h1
  revert m
  decide +kernel
theorem and15 (x : Int) (h0 : 0 ≤ x) (h1 : x < 65536) : bits .and .u16 x 32768 = x / 32768 % 2 * 32768 := and_sh .u16 rfl x h0 h1 15 1 (by decide)
theorem and14 (x : Int) (h0 : 0 ≤ x) (h1 : x < 65536) : bits .and .u16 x 16384 = x / 16384 % 2 * 16384 := and_sh .u16 rfl x h0 h1 14 1 (by decide)
noncomputable def orcS (E : World) : Orc := fun g vs s => match g, vs, s with
  | 12, [.c (.p 1 0), .c (.i false .i64 k)], M :: B :: S => some (hoT (pre := fun z => RP k (KS.mk (z.n 100000) (z.n 100002) (z.n 100014) (z.n 100008) (z.n 100020) (z.n 100051) (z.b 100001) (z.b 100013) (z.b 100025) (z.b 100037) (z.b 100003) (z.b 100015))) (fun z => run_c E M S k z) (by rfl) (M :: B :: S))
  | g, vs, s => (orcP E) g vs s
theorem orcS_ok {E : World} : OrcOK (pe E) (orcS E) := by
  intro g vs s t h
  unfold orcS at h
  split at h
  · cases h; refine CallTree.args ?_ (hoT_ok _ _ _ (by first | rfl | (simp only [List.length_cons, List.length_nil, uM]; omega))); simp [simL, SV.sim, C.sim]
  · exact orcP_ok _ _ _ _ h
theorem law0_p (E : World)  (z : PX) (ch n fq : Int) :
    (hoW true [true, false, false, false, false, false, false, false, true] [] [] (.c .b) (fun _ y => y.b 90000 = true) z (fnTree (pe E) (orcS E) (tabL fns) 20000 Try.f5 [.c (.i false .i64 ch), .c (.i false .u16 n), .c (.i false .u16 fq)] (mkM z [] [] 0))) =
    ((bits BinOp.and IntKind.i64 ch (1 : Int) == (0 : Int)) = true ∧ (!bif IntKind.i64.wrap ((bits BinOp.or IntKind.u16 (bits BinOp.and IntKind.u16 n (63 : Int)) (61440 :
      Int)).fdiv (4096 : Int)) != (0 : Int) then true else bits BinOp.and IntKind.u16 ((bits BinOp.or IntKind.u16 (bits BinOp.and IntKind.u16 n (63 : Int)) (61440 : Int)).fdiv
      (2048 : Int)) (1 : Int) != (0 : Int)) = false ∧ (bits BinOp.and IntKind.u16 (bits BinOp.or IntKind.u16 (bits BinOp.and IntKind.u16 fq (2047 : Int)) (49152 : Int)) (32768 :
      Int) == (0 : Int)) = false ∧ (IntKind.i64.wrap ((64 : Int) - IntKind.i64.wrap (bits BinOp.and IntKind.u16 (bits BinOp.or IntKind.u16 (bits BinOp.and IntKind.u16 n (63 :
      Int)) (61440 : Int)) (63 : Int))) == (0 : Int)) = false ∧ ((Bl.mk [] (nat_lit
      741991204937588471353107210173517385893522847741378461052633880361214601735917472982278721692919759636892846595991201096475255940853038949688016010326287086087990634635853823
      + (1 : Nat)) = Bl.mk [] (nat_lit
      741991204937588471353107210173517385893522847741378461052633880361214601735917472982278721692919759636892846595991201096475255940853038949688016010326287086087990634635853823
      + (1 : Nat)) ∧ (50 : Nat) = (50 : Nat) ∧ (((0 : Int) ≤ (0 : Int) ∧ (0 : Int) ≤ (2199023255552 : Int)) ∧ ((0 : Int) ≤ IntKind.i64.wrap (bits BinOp.and IntKind.u16 (bits
      BinOp.or IntKind.u16 (bits BinOp.and IntKind.u16 fq (2047 : Int)) (49152 : Int)) (2047 : Int)) ∧ IntKind.i64.wrap (bits BinOp.and IntKind.u16 (bits BinOp.or IntKind.u16
      (bits BinOp.and IntKind.u16 fq (2047 : Int)) (49152 : Int)) (2047 : Int)) ≤ (2047 : Int)) ∧ ((0 : Int) ≤ (0 : Int) ∧ (0 : Int) ≤ (63 : Int)) ∧ ((0 : Int) ≤
      IntKind.i64.wrap (bits BinOp.and IntKind.u16 ((bits BinOp.or IntKind.u16 (bits BinOp.and IntKind.u16 n (63 : Int)) (61440 : Int)).fdiv (64 : Int)) (3 : Int)) ∧
      IntKind.i64.wrap (bits BinOp.and IntKind.u16 ((bits BinOp.or IntKind.u16 (bits BinOp.and IntKind.u16 n (63 : Int)) (61440 : Int)).fdiv (64 : Int)) (3 : Int)) ≤ (3 : Int))
      ∧ ((0 : Int) ≤ IntKind.i64.wrap ((bits BinOp.or IntKind.u16 (bits BinOp.and IntKind.u16 n (63 : Int)) (61440 : Int)).fdiv (4096 : Int)) ∧ IntKind.i64.wrap ((bits BinOp.or
      IntKind.u16 (bits BinOp.and IntKind.u16 n (63 : Int)) (61440 : Int)).fdiv (4096 : Int)) ≤ (15 : Int)) ∧ ((0 : Int) ≤ IntKind.i64.wrap ((bits BinOp.or IntKind.u16 (bits
      BinOp.and IntKind.u16 n (63 : Int)) (61440 : Int)).fdiv (4096 : Int)) ∧ IntKind.i64.wrap ((bits BinOp.or IntKind.u16 (bits BinOp.and IntKind.u16 n (63 : Int)) (61440 :
      Int)).fdiv (4096 : Int)) ≤ (15 : Int)) ∧ ((0 : Int) ≤ (0 : Int) ∧ (0 : Int) ≤ (2047 : Int)) ∧ ((0 : Int) ≤ (0 : Int) ∧ (0 : Int) ≤ (63 : Int)) ∧ ((0 : Int) ≤ (0 : Int) ∧
      (0 : Int) ≤ (3 : Int)) ∧ ((0 : Int) ≤ (0 : Int) ∧ (0 : Int) ≤ (15 : Int)) ∧ ((0 : Int) ≤ (0 : Int) ∧ (0 : Int) ≤ (15 : Int)) ∧ ((0 : Int) ≤ (0 : Int) ∧ (0 : Int) ≤ (2047 :
      Int)) ∧ ((0 : Int) ≤ (0 : Int) ∧ (0 : Int) ≤ (63 : Int)) ∧ ((0 : Int) ≤ (0 : Int) ∧ (0 : Int) ≤ (3 : Int)) ∧ ((0 : Int) ≤ (0 : Int) ∧ (0 : Int) ≤ (15 : Int)) ∧ ((0 : Int)
      ≤ (0 : Int) ∧ (0 : Int) ≤ (15 : Int)) ∧ ((0 : Int) ≤ (0 : Int) ∧ (0 : Int) ≤ (2047 : Int)) ∧ ((0 : Int) ≤ (0 : Int) ∧ (0 : Int) ≤ (63 : Int)) ∧ ((0 : Int) ≤ (0 : Int) ∧ (0
      : Int) ≤ (3 : Int)) ∧ ((0 : Int) ≤ (0 : Int) ∧ (0 : Int) ≤ (15 : Int)) ∧ ((0 : Int) ≤ (0 : Int) ∧ (0 : Int) ≤ (15 : Int)) ∧ ((0 : Int) ≤ (0 : Int) ∧ (0 : Int) ≤ (7 : Int))
      ∧ ((0 : Int) ≤ (0 : Int) ∧ (0 : Int) ≤ (1 : Int)) ∧ ((0 : Int) ≤ (0 : Int) ∧ (0 : Int) ≤ (4 : Int)) ∧ ((0 : Int) ≤ (0 : Int) ∧ (0 : Int) ≤ (15 : Int)) ∧ ((0 : Int) ≤ (0 :
      Int) ∧ (0 : Int) ≤ (7 : Int)) ∧ True) ∧ ([] : SW) = []) ∧ True) ∧ ∀ (y : PX), (((1 : Int) ≤ y.n (90000 : Nat) ∧ y.n (90000 : Nat) ≤ (16777216 : Int)) ∧ True) ∧ True →
      ((Bl.mk [] (nat_lit
      741991204937588471353107210173517385893522847741378461052633880361214601735917472982278721692919759636892846595991201096475255940853038949688016010326287086087990634635853823
      + (1 : Nat)) = Bl.mk [] (nat_lit
      741991204937588471353107210173517385893522847741378461052633880361214601735917472982278721692919759636892846595991201096475255940853038949688016010326287086087990634635853823
      + (1 : Nat)) ∧ (50 : Nat) = (50 : Nat) ∧ (((0 : Int) ≤ (0 : Int) ∧ (0 : Int) ≤ (2199023255552 : Int)) ∧ ((0 : Int) ≤ IntKind.i64.wrap (bits BinOp.and IntKind.u16 (bits
      BinOp.or IntKind.u16 (bits BinOp.and IntKind.u16 fq (2047 : Int)) (49152 : Int)) (2047 : Int)) ∧ IntKind.i64.wrap (bits BinOp.and IntKind.u16 (bits BinOp.or IntKind.u16
      (bits BinOp.and IntKind.u16 fq (2047 : Int)) (49152 : Int)) (2047 : Int)) ≤ (2047 : Int)) ∧ ((0 : Int) ≤ (0 : Int) ∧ (0 : Int) ≤ (63 : Int)) ∧ ((0 : Int) ≤ y.n (90000 :
      Nat) ∧ y.n (90000 : Nat) ≤ (16777216 : Int)) ∧ ((0 : Int) ≤ IntKind.i64.wrap (bits BinOp.and IntKind.u16 ((bits BinOp.or IntKind.u16 (bits BinOp.and IntKind.u16 n (63 :
      Int)) (61440 : Int)).fdiv (64 : Int)) (3 : Int)) ∧ IntKind.i64.wrap (bits BinOp.and IntKind.u16 ((bits BinOp.or IntKind.u16 (bits BinOp.and IntKind.u16 n (63 : Int))
      (61440 : Int)).fdiv (64 : Int)) (3 : Int)) ≤ (3 : Int)) ∧ ((0 : Int) ≤ IntKind.i64.wrap ((bits BinOp.or IntKind.u16 (bits BinOp.and IntKind.u16 n (63 : Int)) (61440 :
      Int)).fdiv (4096 : Int)) ∧ IntKind.i64.wrap ((bits BinOp.or IntKind.u16 (bits BinOp.and IntKind.u16 n (63 : Int)) (61440 : Int)).fdiv (4096 : Int)) ≤ (15 : Int)) ∧ ((0 :
      Int) ≤ IntKind.i64.wrap ((bits BinOp.or IntKind.u16 (bits BinOp.and IntKind.u16 n (63 : Int)) (61440 : Int)).fdiv (4096 : Int)) ∧ IntKind.i64.wrap ((bits BinOp.or
      IntKind.u16 (bits BinOp.and IntKind.u16 n (63 : Int)) (61440 : Int)).fdiv (4096 : Int)) ≤ (15 : Int)) ∧ ((0 : Int) ≤ (0 : Int) ∧ (0 : Int) ≤ (2047 : Int)) ∧ ((0 : Int) ≤
      (0 : Int) ∧ (0 : Int) ≤ (63 : Int)) ∧ ((0 : Int) ≤ (0 : Int) ∧ (0 : Int) ≤ (16777216 : Int)) ∧ ((0 : Int) ≤ (0 : Int) ∧ (0 : Int) ≤ (3 : Int)) ∧ ((0 : Int) ≤ (0 : Int) ∧
      (0 : Int) ≤ (15 : Int)) ∧ ((0 : Int) ≤ (0 : Int) ∧ (0 : Int) ≤ (15 : Int)) ∧ ((0 : Int) ≤ (0 : Int) ∧ (0 : Int) ≤ (2047 : Int)) ∧ ((0 : Int) ≤ (0 : Int) ∧ (0 : Int) ≤ (63
      : Int)) ∧ ((0 : Int) ≤ (0 : Int) ∧ (0 : Int) ≤ (16777216 : Int)) ∧ ((0 : Int) ≤ (0 : Int) ∧ (0 : Int) ≤ (3 : Int)) ∧ ((0 : Int) ≤ (0 : Int) ∧ (0 : Int) ≤ (15 : Int)) ∧ ((0
      : Int) ≤ (0 : Int) ∧ (0 : Int) ≤ (15 : Int)) ∧ ((0 : Int) ≤ (0 : Int) ∧ (0 : Int) ≤ (2047 : Int)) ∧ ((0 : Int) ≤ (0 : Int) ∧ (0 : Int) ≤ (63 : Int)) ∧ ((0 : Int) ≤ (0 :
      Int) ∧ (0 : Int) ≤ (16777216 : Int)) ∧ ((0 : Int) ≤ (0 : Int) ∧ (0 : Int) ≤ (3 : Int)) ∧ ((0 : Int) ≤ (0 : Int) ∧ (0 : Int) ≤ (15 : Int)) ∧ ((0 : Int) ≤ (0 : Int) ∧ (0 :
      Int) ≤ (15 : Int)) ∧ ((0 : Int) ≤ (0 : Int) ∧ (0 : Int) ≤ (7 : Int)) ∧ ((0 : Int) ≤ (0 : Int) ∧ (0 : Int) ≤ (1 : Int)) ∧ ((0 : Int) ≤ (0 : Int) ∧ (0 : Int) ≤ (4 : Int)) ∧
      ((0 : Int) ≤ (0 : Int) ∧ (0 : Int) ≤ (15 : Int)) ∧ ((0 : Int) ≤ (0 : Int) ∧ (0 : Int) ≤ (7 : Int)) ∧ True) ∧ ([] : SW) = []) ∧ RP (IntKind.i64.wrap (IntKind.i64.wrap
      ((65536 : Int) * IntKind.i64.wrap ((64 : Int) - IntKind.i64.wrap (bits BinOp.and IntKind.u16 n (63 : Int)))) - (1 : Int))) (KS.mk (0 : Int) (IntKind.i64.wrap ((64 : Int) -
      IntKind.i64.wrap (bits BinOp.and IntKind.u16 (bits BinOp.or IntKind.u16 (bits BinOp.and IntKind.u16 n (63 : Int)) (61440 : Int)) (63 : Int)))) (0 : Int) (IntKind.i64.wrap
      ((bits BinOp.or IntKind.u16 (bits BinOp.and IntKind.u16 n (63 : Int)) (61440 : Int)).fdiv (4096 : Int))) (0 : Int) (0 : Int) (bif IntKind.i64.wrap ((bits BinOp.or
      IntKind.u16 (bits BinOp.and IntKind.u16 n (63 : Int)) (61440 : Int)).fdiv (4096 : Int)) != (0 : Int) then true else bits BinOp.and IntKind.u16 ((bits BinOp.or IntKind.u16
      (bits BinOp.and IntKind.u16 n (63 : Int)) (61440 : Int)).fdiv (2048 : Int)) (1 : Int) != (0 : Int)) false false false (bits BinOp.and IntKind.u16 (bits BinOp.or
      IntKind.u16 (bits BinOp.and IntKind.u16 fq (2047 : Int)) (49152 : Int)) (16384 : Int) != (0 : Int)) false)) ∧ ∀ (y : PX), ((RG y) ∧ True) ∧ True ∧ RQ (IntKind.i64.wrap
      (IntKind.i64.wrap ((65536 : Int) * IntKind.i64.wrap ((64 : Int) - IntKind.i64.wrap (bits BinOp.and IntKind.u16 n (63 : Int)))) - (1 : Int))) (KS.mk (0 : Int)
      (IntKind.i64.wrap ((64 : Int) - IntKind.i64.wrap (bits BinOp.and IntKind.u16 (bits BinOp.or IntKind.u16 (bits BinOp.and IntKind.u16 n (63 : Int)) (61440 : Int)) (63 :
      Int)))) (0 : Int) (IntKind.i64.wrap ((bits BinOp.or IntKind.u16 (bits BinOp.and IntKind.u16 n (63 : Int)) (61440 : Int)).fdiv (4096 : Int))) (0 : Int) (0 : Int) (bif
      IntKind.i64.wrap ((bits BinOp.or IntKind.u16 (bits BinOp.and IntKind.u16 n (63 : Int)) (61440 : Int)).fdiv (4096 : Int)) != (0 : Int) then true else bits BinOp.and
      IntKind.u16 ((bits BinOp.or IntKind.u16 (bits BinOp.and IntKind.u16 n (63 : Int)) (61440 : Int)).fdiv (2048 : Int)) (1 : Int) != (0 : Int)) false false false (bits
      BinOp.and IntKind.u16 (bits BinOp.or IntKind.u16 (bits BinOp.and IntKind.u16 fq (2047 : Int)) (49152 : Int)) (16384 : Int) != (0 : Int)) false) (KS.mk (y.n (100000 : Nat))
      (y.n (100002 : Nat)) (y.n (100014 : Nat)) (y.n (100008 : Nat)) (y.n (100020 : Nat)) (y.n (100051 : Nat)) (y.b (100001 : Nat)) (y.b (100013 : Nat)) (y.b (100025 : Nat))
      (y.b (100037 : Nat)) (y.b (100003 : Nat)) (y.b (100015 : Nat))) → ((Bl.mk [] (nat_lit
      741991204937588471353107210173517385893522847741378461052633880361214601735917472982278721692919759636892846595991201096475255940853038949688016010326287086087990634635853823
      + (1 : Nat)) = Bl.mk [] (nat_lit
      741991204937588471353107210173517385893522847741378461052633880361214601735917472982278721692919759636892846595991201096475255940853038949688016010326287086087990634635853823
      + (1 : Nat)) ∧ (50 : Nat) = (50 : Nat) ∧ (RG y) ∧ ([] : SW) = []) ∧ True) ∧ ∀ (y_1 : PX), ((((0 : Int) ≤ y_1.n (90000 : Nat) ∧ y_1.n (90000 : Nat) ≤ (15 : Int)) ∧ True) ∧
      y_1.n (90000 : Nat) = (((bif y.b (100001 : Nat) then (1 : Int) else (0 : Int)) + bif y.b (100013 : Nat) then (2 : Int) else (0 : Int)) + bif y.b (100025 : Nat) then (4 :
      Int) else (0 : Int)) + bif y.b (100037 : Nat) then (8 : Int) else (0 : Int)) → (y_1.n (90000 : Nat) != (1 : Int)) = false ∧ ((Bl.mk [] (nat_lit
      741991204937588471353107210173517385893522847741378461052633880361214601735917472982278721692919759636892846595991201096475255940853038949688016010326287086087990634635853823
      + (1 : Nat)) = Bl.mk [] (nat_lit
      741991204937588471353107210173517385893522847741378461052633880361214601735917472982278721692919759636892846595991201096475255940853038949688016010326287086087990634635853823
      + (1 : Nat)) ∧ (50 : Nat) = (50 : Nat) ∧ (RG y) ∧ ([] : SW) = []) ∧ RP (IntKind.i64.wrap ((65536 : Int) * IntKind.i64.wrap ((64 : Int) - IntKind.i64.wrap (bits BinOp.and
      IntKind.u16 n (63 : Int))))) (KS.mk (y.n (100000 : Nat)) (y.n (100002 : Nat)) (y.n (100014 : Nat)) (y.n (100008 : Nat)) (y.n (100020 : Nat)) (y.n (100051 : Nat)) (y.b
      (100001 : Nat)) (y.b (100013 : Nat)) (y.b (100025 : Nat)) (y.b (100037 : Nat)) (y.b (100003 : Nat)) (y.b (100015 : Nat)))) ∧ ∀ (y_2 : PX), ((RG y_2) ∧ True) ∧ True ∧ RQ
      (IntKind.i64.wrap ((65536 : Int) * IntKind.i64.wrap ((64 : Int) - IntKind.i64.wrap (bits BinOp.and IntKind.u16 n (63 : Int))))) (KS.mk (y.n (100000 : Nat)) (y.n (100002 :
      Nat)) (y.n (100014 : Nat)) (y.n (100008 : Nat)) (y.n (100020 : Nat)) (y.n (100051 : Nat)) (y.b (100001 : Nat)) (y.b (100013 : Nat)) (y.b (100025 : Nat)) (y.b (100037 :
      Nat)) (y.b (100003 : Nat)) (y.b (100015 : Nat))) (KS.mk (y_2.n (100000 : Nat)) (y_2.n (100002 : Nat)) (y_2.n (100014 : Nat)) (y_2.n (100008 : Nat)) (y_2.n (100020 : Nat))
      (y_2.n (100051 : Nat)) (y_2.b (100001 : Nat)) (y_2.b (100013 : Nat)) (y_2.b (100025 : Nat)) (y_2.b (100037 : Nat)) (y_2.b (100003 : Nat)) (y_2.b (100015 : Nat))) → ((Bl.mk
      [] (nat_lit
      741991204937588471353107210173517385893522847741378461052633880361214601735917472982278721692919759636892846595991201096475255940853038949688016010326287086087990634635853823
      + (1 : Nat)) = Bl.mk [] (nat_lit
      741991204937588471353107210173517385893522847741378461052633880361214601735917472982278721692919759636892846595991201096475255940853038949688016010326287086087990634635853823
      + (1 : Nat)) ∧ (50 : Nat) = (50 : Nat) ∧ (RG y_2) ∧ ([] : SW) = []) ∧ True) ∧ ∀ (y : PX), ((((0 : Int) ≤ y.n (90000 : Nat) ∧ y.n (90000 : Nat) ≤ (15 : Int)) ∧ True) ∧ y.n
      (90000 : Nat) = (((bif y_2.b (100001 : Nat) then (1 : Int) else (0 : Int)) + bif y_2.b (100013 : Nat) then (2 : Int) else (0 : Int)) + bif y_2.b (100025 : Nat) then (4 :
      Int) else (0 : Int)) + bif y_2.b (100037 : Nat) then (8 : Int) else (0 : Int)) → (y.n (90000 : Nat) != (0 : Int)) = false ∧ ((mpB = mpB ∧ (50 : Nat) = (50 : Nat) ∧ (RG
      y_2) ∧ ([] : SW) = []) ∧ y_2.b (100001 : Nat) = false ∧ y_2.b (100013 : Nat) = false ∧ y_2.b (100025 : Nat) = false ∧ y_2.b (100037 : Nat) = false) ∧ ∀ (y : PX), (((0 :
      Int) ≤ y.n (90000 : Nat) ∧ y.n (90000 : Nat) ≤ (15 : Int)) ∧ ((0 : Int) ≤ y.n (90001 : Nat) ∧ y.n (90001 : Nat) ≤ (15 : Int)) ∧ ((0 : Int) ≤ y.n (90002 : Nat) ∧ y.n (90002
      : Nat) ≤ (15 : Int)) ∧ ((0 : Int) ≤ y.n (90003 : Nat) ∧ y.n (90003 : Nat) ≤ (15 : Int)) ∧ True) ∧ y.n (90000 : Nat) = (0 : Int) ∧ y.n (90001 : Nat) = (0 : Int) ∧ y.n
      (90002 : Nat) = (0 : Int) ∧ y.n (90003 : Nat) = (0 : Int) → (true ^^ y.n (90000 : Nat) == (0 : Int) && (y.n (90001 : Nat) == (0 : Int) && (y.n (90002 : Nat) == (0 : Int)
      && (y.n (90003 : Nat) == (0 : Int) && true)))) = false ∧ ((Bl.mk [] (nat_lit
      741991204937588471353107210173517385893522847741378461052633880361214601735917472982278721692919759636892846595991201096475255940853038949688016010326287086087990634635853823
      + (1 : Nat)) = Bl.mk [] (nat_lit
      741991204937588471353107210173517385893522847741378461052633880361214601735917472982278721692919759636892846595991201096475255940853038949688016010326287086087990634635853823
      + (1 : Nat)) ∧ (50 : Nat) = (50 : Nat) ∧ (RG y_2) ∧ ([] : SW) = []) ∧ RP (IntKind.i64.wrap ((65536 : Int) * IntKind.i64.wrap ((64 : Int) - IntKind.i64.wrap (bits BinOp.and
      IntKind.u16 n (63 : Int))))) (KS.mk (y_2.n (100000 : Nat)) (y_2.n (100002 : Nat)) (y_2.n (100014 : Nat)) (y_2.n (100008 : Nat)) (y_2.n (100020 : Nat)) (y_2.n (100051 :
      Nat)) (y_2.b (100001 : Nat)) (y_2.b (100013 : Nat)) (y_2.b (100025 : Nat)) (y_2.b (100037 : Nat)) (y_2.b (100003 : Nat)) (y_2.b (100015 : Nat)))) ∧ ∀ (y : PX), ((RG y) ∧
      True) ∧ True ∧ RQ (IntKind.i64.wrap ((65536 : Int) * IntKind.i64.wrap ((64 : Int) - IntKind.i64.wrap (bits BinOp.and IntKind.u16 n (63 : Int))))) (KS.mk (y_2.n (100000 :
      Nat)) (y_2.n (100002 : Nat)) (y_2.n (100014 : Nat)) (y_2.n (100008 : Nat)) (y_2.n (100020 : Nat)) (y_2.n (100051 : Nat)) (y_2.b (100001 : Nat)) (y_2.b (100013 : Nat))
      (y_2.b (100025 : Nat)) (y_2.b (100037 : Nat)) (y_2.b (100003 : Nat)) (y_2.b (100015 : Nat))) (KS.mk (y.n (100000 : Nat)) (y.n (100002 : Nat)) (y.n (100014 : Nat)) (y.n
      (100008 : Nat)) (y.n (100020 : Nat)) (y.n (100051 : Nat)) (y.b (100001 : Nat)) (y.b (100013 : Nat)) (y.b (100025 : Nat)) (y.b (100037 : Nat)) (y.b (100003 : Nat)) (y.b
      (100015 : Nat))) → (bits BinOp.and IntKind.u16 (bits BinOp.or IntKind.u16 (bits BinOp.and IntKind.u16 fq (2047 : Int)) (32768 : Int)) (32768 : Int) == (0 : Int)) = false ∧
      (y.n (100002 : Nat) == (0 : Int)) = true ∧ ((Bl.mk [] (nat_lit
      741991204937588471353107210173517385893522847741378461052633880361214601735917472982278721692919759636892846595991201096475255940853038949688016010326287086087990634635853823
      + (1 : Nat)) = Bl.mk [] (nat_lit
      741991204937588471353107210173517385893522847741378461052633880361214601735917472982278721692919759636892846595991201096475255940853038949688016010326287086087990634635853823
      + (1 : Nat)) ∧ (50 : Nat) = (50 : Nat) ∧ (((0 : Int) ≤ y.n (100000 : Nat) ∧ y.n (100000 : Nat) ≤ (2199023255552 : Int)) ∧ ((0 : Int) ≤ IntKind.i64.wrap (bits BinOp.and
      IntKind.u16 (bits BinOp.or IntKind.u16 (bits BinOp.and IntKind.u16 fq (2047 : Int)) (32768 : Int)) (2047 : Int)) ∧ IntKind.i64.wrap (bits BinOp.and IntKind.u16 (bits
      BinOp.or IntKind.u16 (bits BinOp.and IntKind.u16 fq (2047 : Int)) (32768 : Int)) (2047 : Int)) ≤ (2047 : Int)) ∧ ((0 : Int) ≤ (0 : Int) ∧ (0 : Int) ≤ (63 : Int)) ∧ ((0 :
      Int) ≤ y.n (100007 : Nat) ∧ y.n (100007 : Nat) ≤ (3 : Int)) ∧ ((0 : Int) ≤ y.n (100008 : Nat) ∧ y.n (100008 : Nat) ≤ (15 : Int)) ∧ ((0 : Int) ≤ y.n (100008 : Nat) ∧ y.n
      (100008 : Nat) ≤ (15 : Int)) ∧ ((0 : Int) ≤ y.n (100016 : Nat) ∧ y.n (100016 : Nat) ≤ (2047 : Int)) ∧ ((0 : Int) ≤ y.n (100017 : Nat) ∧ y.n (100017 : Nat) ≤ (63 : Int)) ∧
      ((0 : Int) ≤ y.n (100019 : Nat) ∧ y.n (100019 : Nat) ≤ (3 : Int)) ∧ ((0 : Int) ≤ y.n (100020 : Nat) ∧ y.n (100020 : Nat) ≤ (15 : Int)) ∧ ((0 : Int) ≤ y.n (100023 : Nat) ∧
      y.n (100023 : Nat) ≤ (15 : Int)) ∧ ((0 : Int) ≤ y.n (100028 : Nat) ∧ y.n (100028 : Nat) ≤ (2047 : Int)) ∧ ((0 : Int) ≤ y.n (100029 : Nat) ∧ y.n (100029 : Nat) ≤ (63 :
      Int)) ∧ ((0 : Int) ≤ y.n (100031 : Nat) ∧ y.n (100031 : Nat) ≤ (3 : Int)) ∧ ((0 : Int) ≤ y.n (100032 : Nat) ∧ y.n (100032 : Nat) ≤ (15 : Int)) ∧ ((0 : Int) ≤ y.n (100035 :
      Nat) ∧ y.n (100035 : Nat) ≤ (15 : Int)) ∧ ((0 : Int) ≤ y.n (100040 : Nat) ∧ y.n (100040 : Nat) ≤ (2047 : Int)) ∧ ((0 : Int) ≤ y.n (100041 : Nat) ∧ y.n (100041 : Nat) ≤ (63
      : Int)) ∧ ((0 : Int) ≤ y.n (100043 : Nat) ∧ y.n (100043 : Nat) ≤ (3 : Int)) ∧ ((0 : Int) ≤ y.n (100044 : Nat) ∧ y.n (100044 : Nat) ≤ (15 : Int)) ∧ ((0 : Int) ≤ y.n (100047
      : Nat) ∧ y.n (100047 : Nat) ≤ (15 : Int)) ∧ ((0 : Int) ≤ y.n (100050 : Nat) ∧ y.n (100050 : Nat) ≤ (7 : Int)) ∧ ((0 : Int) ≤ y.n (100086 : Nat) ∧ y.n (100086 : Nat) ≤ (1 :
      Int)) ∧ ((0 : Int) ≤ y.n (100088 : Nat) ∧ y.n (100088 : Nat) ≤ (4 : Int)) ∧ ((0 : Int) ≤ y.n (100092 : Nat) ∧ y.n (100092 : Nat) ≤ (15 : Int)) ∧ ((0 : Int) ≤ y.n (100093 :
      Nat) ∧ y.n (100093 : Nat) ≤ (7 : Int)) ∧ True) ∧ ([] : SW) = []) ∧ True) ∧ ∀ (y_3 : PX), (((1 : Int) ≤ y_3.n (90000 : Nat) ∧ y_3.n (90000 : Nat) ≤ (16777216 : Int)) ∧
      True) ∧ True → ((Bl.mk [] (nat_lit
      741991204937588471353107210173517385893522847741378461052633880361214601735917472982278721692919759636892846595991201096475255940853038949688016010326287086087990634635853823
      + (1 : Nat)) = Bl.mk [] (nat_lit
      741991204937588471353107210173517385893522847741378461052633880361214601735917472982278721692919759636892846595991201096475255940853038949688016010326287086087990634635853823
      + (1 : Nat)) ∧ (50 : Nat) = (50 : Nat) ∧ (((0 : Int) ≤ y.n (100000 : Nat) ∧ y.n (100000 : Nat) ≤ (2199023255552 : Int)) ∧ ((0 : Int) ≤ IntKind.i64.wrap (bits BinOp.and
      IntKind.u16 (bits BinOp.or IntKind.u16 (bits BinOp.and IntKind.u16 fq (2047 : Int)) (32768 : Int)) (2047 : Int)) ∧ IntKind.i64.wrap (bits BinOp.and IntKind.u16 (bits
      BinOp.or IntKind.u16 (bits BinOp.and IntKind.u16 fq (2047 : Int)) (32768 : Int)) (2047 : Int)) ≤ (2047 : Int)) ∧ ((0 : Int) ≤ (0 : Int) ∧ (0 : Int) ≤ (63 : Int)) ∧ ((0 :
      Int) ≤ y_3.n (90000 : Nat) ∧ y_3.n (90000 : Nat) ≤ (16777216 : Int)) ∧ ((0 : Int) ≤ y.n (100007 : Nat) ∧ y.n (100007 : Nat) ≤ (3 : Int)) ∧ ((0 : Int) ≤ y.n (100008 : Nat)
      ∧ y.n (100008 : Nat) ≤ (15 : Int)) ∧ ((0 : Int) ≤ y.n (100008 : Nat) ∧ y.n (100008 : Nat) ≤ (15 : Int)) ∧ ((0 : Int) ≤ y.n (100016 : Nat) ∧ y.n (100016 : Nat) ≤ (2047 :
      Int)) ∧ ((0 : Int) ≤ y.n (100017 : Nat) ∧ y.n (100017 : Nat) ≤ (63 : Int)) ∧ ((0 : Int) ≤ y.n (100018 : Nat) ∧ y.n (100018 : Nat) ≤ (16777216 : Int)) ∧ ((0 : Int) ≤ y.n
      (100019 : Nat) ∧ y.n (100019 : Nat) ≤ (3 : Int)) ∧ ((0 : Int) ≤ y.n (100020 : Nat) ∧ y.n (100020 : Nat) ≤ (15 : Int)) ∧ ((0 : Int) ≤ y.n (100023 : Nat) ∧ y.n (100023 :
      Nat) ≤ (15 : Int)) ∧ ((0 : Int) ≤ y.n (100028 : Nat) ∧ y.n (100028 : Nat) ≤ (2047 : Int)) ∧ ((0 : Int) ≤ y.n (100029 : Nat) ∧ y.n (100029 : Nat) ≤ (63 : Int)) ∧ ((0 : Int)
      ≤ y.n (100030 : Nat) ∧ y.n (100030 : Nat) ≤ (16777216 : Int)) ∧ ((0 : Int) ≤ y.n (100031 : Nat) ∧ y.n (100031 : Nat) ≤ (3 : Int)) ∧ ((0 : Int) ≤ y.n (100032 : Nat) ∧ y.n
      (100032 : Nat) ≤ (15 : Int)) ∧ ((0 : Int) ≤ y.n (100035 : Nat) ∧ y.n (100035 : Nat) ≤ (15 : Int)) ∧ ((0 : Int) ≤ y.n (100040 : Nat) ∧ y.n (100040 : Nat) ≤ (2047 : Int)) ∧
      ((0 : Int) ≤ y.n (100041 : Nat) ∧ y.n (100041 : Nat) ≤ (63 : Int)) ∧ ((0 : Int) ≤ y.n (100042 : Nat) ∧ y.n (100042 : Nat) ≤ (16777216 : Int)) ∧ ((0 : Int) ≤ y.n (100043 :
      Nat) ∧ y.n (100043 : Nat) ≤ (3 : Int)) ∧ ((0 : Int) ≤ y.n (100044 : Nat) ∧ y.n (100044 : Nat) ≤ (15 : Int)) ∧ ((0 : Int) ≤ y.n (100047 : Nat) ∧ y.n (100047 : Nat) ≤ (15 :
      Int)) ∧ ((0 : Int) ≤ y.n (100050 : Nat) ∧ y.n (100050 : Nat) ≤ (7 : Int)) ∧ ((0 : Int) ≤ y.n (100086 : Nat) ∧ y.n (100086 : Nat) ≤ (1 : Int)) ∧ ((0 : Int) ≤ y.n (100088 :
      Nat) ∧ y.n (100088 : Nat) ≤ (4 : Int)) ∧ ((0 : Int) ≤ y.n (100092 : Nat) ∧ y.n (100092 : Nat) ≤ (15 : Int)) ∧ ((0 : Int) ≤ y.n (100093 : Nat) ∧ y.n (100093 : Nat) ≤ (7 :
      Int)) ∧ True) ∧ ([] : SW) = []) ∧ RP (IntKind.i64.wrap (IntKind.i64.wrap ((65536 : Int) * IntKind.i64.wrap ((64 : Int) - IntKind.i64.wrap (bits BinOp.and IntKind.u16 n (63
      : Int)))) + (10000000 : Int))) (KS.mk (y.n (100000 : Nat)) (64 : Int) (y.n (100014 : Nat)) (y.n (100008 : Nat)) (y.n (100020 : Nat)) (y.n (100051 : Nat)) (bif y.n (100008
      : Nat) != (0 : Int) then true else y.b (100009 : Nat)) (y.b (100013 : Nat)) (y.b (100025 : Nat)) (y.b (100037 : Nat)) (bits BinOp.and IntKind.u16 (bits BinOp.or
      IntKind.u16 (bits BinOp.and IntKind.u16 fq (2047 : Int)) (32768 : Int)) (16384 : Int) != (0 : Int)) (y.b (100015 : Nat)))) ∧ ∀ (y_4 : PX), ((RG y_4) ∧ True) ∧ True ∧ RQ
      (IntKind.i64.wrap (IntKind.i64.wrap ((65536 : Int) * IntKind.i64.wrap ((64 : Int) - IntKind.i64.wrap (bits BinOp.and IntKind.u16 n (63 : Int)))) + (10000000 : Int)))
      (KS.mk (y.n (100000 : Nat)) (64 : Int) (y.n (100014 : Nat)) (y.n (100008 : Nat)) (y.n (100020 : Nat)) (y.n (100051 : Nat)) (bif y.n (100008 : Nat) != (0 : Int) then true
      else y.b (100009 : Nat)) (y.b (100013 : Nat)) (y.b (100025 : Nat)) (y.b (100037 : Nat)) (bits BinOp.and IntKind.u16 (bits BinOp.or IntKind.u16 (bits BinOp.and IntKind.u16
      fq (2047 : Int)) (32768 : Int)) (16384 : Int) != (0 : Int)) (y.b (100015 : Nat))) (KS.mk (y_4.n (100000 : Nat)) (y_4.n (100002 : Nat)) (y_4.n (100014 : Nat)) (y_4.n
      (100008 : Nat)) (y_4.n (100020 : Nat)) (y_4.n (100051 : Nat)) (y_4.b (100001 : Nat)) (y_4.b (100013 : Nat)) (y_4.b (100025 : Nat)) (y_4.b (100037 : Nat)) (y_4.b (100003 :
      Nat)) (y_4.b (100015 : Nat))) → ((Bl.mk [] (nat_lit
      741991204937588471353107210173517385893522847741378461052633880361214601735917472982278721692919759636892846595991201096475255940853038949688016010326287086087990634635853823
      + (1 : Nat)) = Bl.mk [] (nat_lit
      741991204937588471353107210173517385893522847741378461052633880361214601735917472982278721692919759636892846595991201096475255940853038949688016010326287086087990634635853823
      + (1 : Nat)) ∧ (50 : Nat) = (50 : Nat) ∧ (RG y_4) ∧ ([] : SW) = []) ∧ True) ∧ ∀ (y : PX), ((((0 : Int) ≤ y.n (90000 : Nat) ∧ y.n (90000 : Nat) ≤ (15 : Int)) ∧ True) ∧ y.n
      (90000 : Nat) = (((bif y_4.b (100001 : Nat) then (1 : Int) else (0 : Int)) + bif y_4.b (100013 : Nat) then (2 : Int) else (0 : Int)) + bif y_4.b (100025 : Nat) then (4 :
      Int) else (0 : Int)) + bif y_4.b (100037 : Nat) then (8 : Int) else (0 : Int)) → True ∧ True ∧ (y.n (90000 : Nat) == (1 : Int)) = true) := by kernel_rfl
set_option maxHeartbeats 2000000 in
theorem law0_c (E : World)  (ch n fq : Int) (z : PX) (hz : rgM z [] 0) (hp : (fun _ => bits .and .i64 ch 1 = 0 ∧ 0 ≤ n ∧ n ≤ 65535 ∧ 0 ≤ fq ∧ fq ≤ 65535) z) : HC (pe E) 5 [.c (.i false .i64 ch), .c (.i false .u16 n), .c (.i false .u16 fq)] [] [] (.c .b) (fun _ y => y.b 90000 = true) z := by
  refine HC.mkW true [true, false, false, false, false, false, false, false, true] (by rfl) (by rfl) (by rfl) (by rfl) (fnTree_sound (P := pe E) orcS_ok tab_ok tab_sz mixed 20000 Try.func5 (by decide) [.c (.i false .i64 ch), .c (.i false .u16 n), .c (.i false .u16 fq)] _) ⟨?_⟩
  rw [law0_p]
  obtain _ := id hz
  obtain ⟨hc, n0, n1, f0, f1⟩ := hp
  rw [hc]
  refine ⟨rfl, ?_⟩
  have eL : bits .and .u16 n 63 = n % 64 := and_mask .u16 n 6 (.inl (by decide))
  have ef : bits .and .u16 fq 2047 = fq % 2048 := and_mask .u16 fq 11 (.inl (by decide))
  have l0 : 0 ≤ n % 64 ∧ n % 64 ≤ 63 := by omega
  have q0 : 0 ≤ fq % 2048 ∧ fq % 2048 ≤ 2047 := by omega
  rw [eL, ef]
  generalize n % 64 = L at l0
  generalize fq % 2048 = f at q0
  clear eL ef n0 n1 f0 f1
  have eX := orA L l0.1 l0.2
  have eY := orB f q0.1 q0.2
  have eZ := orC f q0.1 q0.2
  have e15 : (L + 61440).fdiv 4096 = 15 := by rw [fdiv_lit _ _ (by decide)]; omega
  have e63 : bits .and .u16 (L + 61440) 63 = L := by
    have : bits .and .u16 (L + 61440) 63 = (L + 61440) % 64 := and_mask .u16 _ 6 (.inl (by decide))
    rw [this]; omega
  have eD : 0 ≤ IntKind.i64.wrap (bits .and .u16 ((L + 61440).fdiv 64) 3) ∧ IntKind.i64.wrap (bits .and .u16 ((L + 61440).fdiv 64) 3) ≤ 3 := by
    have : bits .and .u16 ((L + 61440).fdiv 64) 3 = ((L + 61440).fdiv 64) % 4 := and_mask .u16 _ 2 (.inl (by decide))
    rw [this, wi64]; omega
  have y1 : bits .and .u16 (f + 49152) 32768 = 32768 := by rw [and15 _ (by omega) (by omega)]; omega
  have y2 : bits .and .u16 (f + 49152) 16384 = 16384 := by rw [and14 _ (by omega) (by omega)]; omega
  have y3 : bits .and .u16 (f + 49152) 2047 = f := by
    have : bits .and .u16 (f + 49152) 2047 = (f + 49152) % 2048 := and_mask .u16 _ 11 (.inl (by decide))
    rw [this]; omega
  have z1 : bits .and .u16 (f + 32768) 32768 = 32768 := by rw [and15 _ (by omega) (by omega)]; omega
  have z2 : bits .and .u16 (f + 32768) 16384 = 0 := by rw [and14 _ (by omega) (by omega)]; omega
  have z3 : bits .and .u16 (f + 32768) 2047 = f := by
    have : bits .and .u16 (f + 32768) 2047 = (f + 32768) % 2048 := and_mask .u16 _ 11 (.inl (by decide))
    rw [this]; omega
  have w1 : IntKind.i64.wrap L = L := by rw [wi64]; omega
  have w2 : IntKind.i64.wrap (64 - L) = 64 - L := by rw [wi64]; omega
  have w3 : IntKind.i64.wrap (65536 * (64 - L)) = 65536 * (64 - L) := by rw [wi64]; omega
  have w4 : IntKind.i64.wrap (65536 * (64 - L) - 1) = 65536 * (64 - L) - 1 := by rw [wi64]; omega
  have w5 : IntKind.i64.wrap (65536 * (64 - L) + 10000000) = 65536 * (64 - L) + 10000000 := by rw [wi64]; omega
  have w6 : IntKind.i64.wrap f = f := by rw [wi64]; omega
  have w7 : IntKind.i64.wrap 15 = 15 := by decide
  have c1 : ((15 : Int) != 0) = true := by decide
  have c2 : ((32768 : Int) == 0) = false := by decide
  have c3 : ((16384 : Int) != 0) = true := by decide
  have c4 : ((0 : Int) != 0) = false := by decide
  have c5 : (64 - L == 0) = false := by simp; omega
  simp only [eX, eY, eZ, e15, e63, y1, y2, y3, z1, z2, z3, w1, w2, w3, w4, w5, w6, w7, c1, c2, c3, c4, c5, cond_true, Bool.not_true]
  clear eX eY eZ e15 e63 y1 y2 y3 z1 z2 z3 w1 w2 w3 w4 w5 w6 w7
  obtain ⟨eD0, eD1⟩ := eD
  generalize IntKind.i64.wrap (bits .and .u16 ((L + 61440).fdiv 64) 3) = D at eD0 eD1 ⊢
  have G : G0 (64 - L) (KS.mk 0 (64 - L) 0 15 0 0 true false false false true false) := ⟨rfl, rfl, rfl, rfl, rfl, rfl, by show (0 : Int) ≤ 0; omega, by show (0 : Int) ≤ 65536 * (64 - L); omega, fun _ => rfl, fun e => by replace e : (0 : Int) = 65536 * (64 - L) := e; omega, by show 64 - L = 64 - L - 0 / 65536; omega⟩
  have P1 : RP (65536 * (64 - L) - 1) (KS.mk 0 (64 - L) 0 15 0 0 true false false false true false) := ⟨by omega, .inl ⟨64 - L, by omega, G, by omega⟩⟩
  refine ⟨by first | rfl | trivial, by first | rfl | trivial, by first | rfl | trivial, by ((repeat' (first | exact trivial | exact rfl | assumption | apply And.intro)) <;> omega), ?_⟩
  rintro y0 ⟨⟨⟨s0, s1⟩, _⟩, _⟩
  refine ⟨by ((repeat' (first | exact trivial | exact rfl | assumption | apply And.intro)) <;> omega), ?_⟩
  rintro y1 ⟨⟨hR1, _⟩, _, hq1⟩
  have G1 := hq1.1.g0 _ (by omega) G (by omega)
  have n1 := hq1.2 (by show (0 : Int) ≤ 65536 * (64 - L) - 1; omega)
  have n1' : y1.n 100000 = 65536 * (64 - L) - 1 := n1
  have o1 := G1.a (by rw [n1]; omega)
  have ox := G1.x
  have o2 := G1.x2
  have o3 := G1.x3
  replace o1 : y1.b 100001 = true := o1
  replace ox : y1.b 100013 = false := ox
  replace o2 : y1.b 100025 = false := o2
  replace o3 : y1.b 100037 = false := o3
  have P2 : RP (65536 * (64 - L)) (KS.mk (y1.n 100000) (y1.n 100002) (y1.n 100014) (y1.n 100008) (y1.n 100020) (y1.n 100051) (y1.b 100001) (y1.b 100013) (y1.b 100025) (y1.b 100037) (y1.b 100003) (y1.b 100015)) := ⟨by omega, .inl ⟨64 - L, by omega, G1, by omega⟩⟩
  refine ⟨by ((repeat' (first | exact trivial | exact rfl | assumption | apply And.intro)) <;> omega), ?_⟩
  rintro p1 ⟨_, hp1⟩
  rw [o1, ox, o2, o3] at hp1
  refine ⟨by rw [hp1]; decide, by ((repeat' (first | exact trivial | exact rfl | assumption | apply And.intro)) <;> omega), ?_⟩
  clear hp1
  rintro y2 ⟨⟨hR2, _⟩, _, hq2⟩
  have G2 := hq2.1.g0 _ (by omega) G1 (by omega)
  have n2 := hq2.2 (by show y1.n 100000 ≤ _; omega)
  have n2' : y2.n 100000 = 65536 * (64 - L) := n2
  have e1 : y2.b 100001 = false := G2.e n2
  have ex : y2.b 100013 = false := G2.x
  have e2 : y2.b 100025 = false := G2.x2
  have e3 : y2.b 100037 = false := G2.x3
  have P3 : RP (65536 * (64 - L)) (KS.mk (y2.n 100000) (y2.n 100002) (y2.n 100014) (y2.n 100008) (y2.n 100020) (y2.n 100051) (y2.b 100001) (y2.b 100013) (y2.b 100025) (y2.b 100037) (y2.b 100003) (y2.b 100015)) := ⟨by omega, .inl ⟨64 - L, by omega, G2, by omega⟩⟩
  refine ⟨by ((repeat' (first | exact trivial | exact rfl | assumption | apply And.intro)) <;> omega), ?_⟩
  rintro p2 ⟨_, hp2⟩
  rw [e1, ex, e2, e3] at hp2
  refine ⟨by rw [hp2]; decide, by ((repeat' (first | exact trivial | exact rfl | assumption | apply And.intro)) <;> omega), ?_⟩
  clear hp2
  rintro p3 ⟨_, t0, t1, t2, t3⟩
  refine ⟨by rw [t0, t1, t2, t3]; decide, by ((repeat' (first | exact trivial | exact rfl | assumption | apply And.intro)) <;> omega), ?_⟩
  rintro y3 ⟨⟨hR3, _⟩, _, hq3⟩
  have G3 := hq3.1.g0 _ (by omega) G2 (by omega)
  have n3 := hq3.2 (by show y2.n 100000 ≤ _; omega)
  have n3' : y3.n 100000 = 65536 * (64 - L) := n3
  have hl : y3.n 100002 = 0 := by have := G3.l; rw [n3] at this; replace this : y3.n 100002 = 64 - L - 65536 * (64 - L) / 65536 := this; omega
  have hs : y3.n 100008 = 15 := G3.st
  obtain ⟨h0, h4, h5, h6, h7, h8, h11, h16, h17, h18, h19, h20, h23, h28, h29, h30, h31, h32, h35, h40, h41, h42, h43, h44, h47, h50, h86, h88, h92, h93, _⟩ := id hR3
  refine ⟨by first | rfl | trivial, by rw [hl]; decide, by ((repeat' (first | exact trivial | exact rfl | assumption | apply And.intro)) <;> omega), ?_⟩
  rintro y4 ⟨⟨⟨s2, s3⟩, _⟩, _⟩
  simp only [hs, c1, cond_true]
  have F : F0 (KS.mk (y3.n 100000) 64 (y3.n 100014) 15 (y3.n 100020) (y3.n 100051) true (y3.b 100013) (y3.b 100025) (y3.b 100037) false (y3.b 100015)) := ⟨rfl, G3.x, G3.x2, G3.x3, G3.w, by show 0 ≤ y3.n 100000; omega, rfl⟩
  have P4 : RP (65536 * (64 - L) + 10000000) _ := ⟨by omega, .inr (.inr (.inl F))⟩
  refine ⟨by ((repeat' (first | exact trivial | exact rfl | assumption | apply And.intro)) <;> omega), ?_⟩
  rintro y5 ⟨⟨hR5, _⟩, _, hq5⟩
  have F5 := hq5.1.f0 F
  have u1 : y5.b 100001 = true := F5.a
  have ux : y5.b 100013 = false := F5.x
  have u2 : y5.b 100025 = false := F5.x2
  have u3 : y5.b 100037 = false := F5.x3
  refine ⟨by ((repeat' (first | exact trivial | exact rfl | assumption | apply And.intro)) <;> omega), ?_⟩
  rintro p5 ⟨_, hp5⟩
  rw [u1, ux, u2, u3] at hp5
  rw [hp5]
  exact ⟨trivial, trivial, by decide⟩
theorem law1_p (E : World)  (z : PX) (ch n fq : Int) :
    (hoW true [false, true, false, false, false, false, false, false, false, true] [] [] (.c .b) (fun _ y => y.b 90000 = true) z (fnTree (pe E) (orcS E) (tabL fns) 20000 Try.f5 [.c (.i false .i64 ch), .c (.i false .u16 n), .c (.i false .u16 fq)] (mkM z [] [] 0))) =
    ((bits BinOp.and IntKind.i64 ch (1 : Int) == (0 : Int)) = false ∧ (bits BinOp.and IntKind.i64 ch (1 : Int) == (1 : Int)) = true ∧ (!bif IntKind.i64.wrap ((bits BinOp.or
      IntKind.u16 (bits BinOp.and IntKind.u16 n (63 : Int)) (61440 : Int)).fdiv (4096 : Int)) != (0 : Int) then true else bits BinOp.and IntKind.u16 ((bits BinOp.or IntKind.u16
      (bits BinOp.and IntKind.u16 n (63 : Int)) (61440 : Int)).fdiv (2048 : Int)) (1 : Int) != (0 : Int)) = false ∧ (bits BinOp.and IntKind.u16 (bits BinOp.or IntKind.u16 (bits
      BinOp.and IntKind.u16 fq (2047 : Int)) (49152 : Int)) (32768 : Int) == (0 : Int)) = false ∧ (IntKind.i64.wrap ((64 : Int) - IntKind.i64.wrap (bits BinOp.and IntKind.u16
      (bits BinOp.or IntKind.u16 (bits BinOp.and IntKind.u16 n (63 : Int)) (61440 : Int)) (63 : Int))) == (0 : Int)) = false ∧ ((Bl.mk [] (nat_lit
      741991204937588471353107210173517385893522847741378461052633880361214601735917472982278721692919759636892846595991201096475255940853038949688016010326287086087990634635853823
      + (1 : Nat)) = Bl.mk [] (nat_lit
      741991204937588471353107210173517385893522847741378461052633880361214601735917472982278721692919759636892846595991201096475255940853038949688016010326287086087990634635853823
      + (1 : Nat)) ∧ (50 : Nat) = (50 : Nat) ∧ (((0 : Int) ≤ (0 : Int) ∧ (0 : Int) ≤ (2199023255552 : Int)) ∧ ((0 : Int) ≤ (0 : Int) ∧ (0 : Int) ≤ (2047 : Int)) ∧ ((0 : Int) ≤
      (0 : Int) ∧ (0 : Int) ≤ (63 : Int)) ∧ ((0 : Int) ≤ (0 : Int) ∧ (0 : Int) ≤ (3 : Int)) ∧ ((0 : Int) ≤ (0 : Int) ∧ (0 : Int) ≤ (15 : Int)) ∧ ((0 : Int) ≤ (0 : Int) ∧ (0 :
      Int) ≤ (15 : Int)) ∧ ((0 : Int) ≤ IntKind.i64.wrap (bits BinOp.and IntKind.u16 (bits BinOp.or IntKind.u16 (bits BinOp.and IntKind.u16 fq (2047 : Int)) (49152 : Int)) (2047
      : Int)) ∧ IntKind.i64.wrap (bits BinOp.and IntKind.u16 (bits BinOp.or IntKind.u16 (bits BinOp.and IntKind.u16 fq (2047 : Int)) (49152 : Int)) (2047 : Int)) ≤ (2047 : Int))
      ∧ ((0 : Int) ≤ (0 : Int) ∧ (0 : Int) ≤ (63 : Int)) ∧ ((0 : Int) ≤ IntKind.i64.wrap (bits BinOp.and IntKind.u16 ((bits BinOp.or IntKind.u16 (bits BinOp.and IntKind.u16 n
      (63 : Int)) (61440 : Int)).fdiv (64 : Int)) (3 : Int)) ∧ IntKind.i64.wrap (bits BinOp.and IntKind.u16 ((bits BinOp.or IntKind.u16 (bits BinOp.and IntKind.u16 n (63 : Int))
      (61440 : Int)).fdiv (64 : Int)) (3 : Int)) ≤ (3 : Int)) ∧ ((0 : Int) ≤ IntKind.i64.wrap ((bits BinOp.or IntKind.u16 (bits BinOp.and IntKind.u16 n (63 : Int)) (61440 :
      Int)).fdiv (4096 : Int)) ∧ IntKind.i64.wrap ((bits BinOp.or IntKind.u16 (bits BinOp.and IntKind.u16 n (63 : Int)) (61440 : Int)).fdiv (4096 : Int)) ≤ (15 : Int)) ∧ ((0 :
      Int) ≤ IntKind.i64.wrap ((bits BinOp.or IntKind.u16 (bits BinOp.and IntKind.u16 n (63 : Int)) (61440 : Int)).fdiv (4096 : Int)) ∧ IntKind.i64.wrap ((bits BinOp.or
      IntKind.u16 (bits BinOp.and IntKind.u16 n (63 : Int)) (61440 : Int)).fdiv (4096 : Int)) ≤ (15 : Int)) ∧ ((0 : Int) ≤ (0 : Int) ∧ (0 : Int) ≤ (2047 : Int)) ∧ ((0 : Int) ≤
      (0 : Int) ∧ (0 : Int) ≤ (63 : Int)) ∧ ((0 : Int) ≤ (0 : Int) ∧ (0 : Int) ≤ (3 : Int)) ∧ ((0 : Int) ≤ (0 : Int) ∧ (0 : Int) ≤ (15 : Int)) ∧ ((0 : Int) ≤ (0 : Int) ∧ (0 :
      Int) ≤ (15 : Int)) ∧ ((0 : Int) ≤ (0 : Int) ∧ (0 : Int) ≤ (2047 : Int)) ∧ ((0 : Int) ≤ (0 : Int) ∧ (0 : Int) ≤ (63 : Int)) ∧ ((0 : Int) ≤ (0 : Int) ∧ (0 : Int) ≤ (3 :
      Int)) ∧ ((0 : Int) ≤ (0 : Int) ∧ (0 : Int) ≤ (15 : Int)) ∧ ((0 : Int) ≤ (0 : Int) ∧ (0 : Int) ≤ (15 : Int)) ∧ ((0 : Int) ≤ (0 : Int) ∧ (0 : Int) ≤ (7 : Int)) ∧ ((0 : Int)
      ≤ (0 : Int) ∧ (0 : Int) ≤ (1 : Int)) ∧ ((0 : Int) ≤ (0 : Int) ∧ (0 : Int) ≤ (4 : Int)) ∧ ((0 : Int) ≤ (0 : Int) ∧ (0 : Int) ≤ (15 : Int)) ∧ ((0 : Int) ≤ (0 : Int) ∧ (0 :
      Int) ≤ (7 : Int)) ∧ True) ∧ ([] : SW) = []) ∧ True) ∧ ∀ (y : PX), (((1 : Int) ≤ y.n (90000 : Nat) ∧ y.n (90000 : Nat) ≤ (16777216 : Int)) ∧ True) ∧ True → ((Bl.mk []
      (nat_lit
      741991204937588471353107210173517385893522847741378461052633880361214601735917472982278721692919759636892846595991201096475255940853038949688016010326287086087990634635853823
      + (1 : Nat)) = Bl.mk [] (nat_lit
      741991204937588471353107210173517385893522847741378461052633880361214601735917472982278721692919759636892846595991201096475255940853038949688016010326287086087990634635853823
      + (1 : Nat)) ∧ (50 : Nat) = (50 : Nat) ∧ (((0 : Int) ≤ (0 : Int) ∧ (0 : Int) ≤ (2199023255552 : Int)) ∧ ((0 : Int) ≤ (0 : Int) ∧ (0 : Int) ≤ (2047 : Int)) ∧ ((0 : Int) ≤
      (0 : Int) ∧ (0 : Int) ≤ (63 : Int)) ∧ ((0 : Int) ≤ (0 : Int) ∧ (0 : Int) ≤ (16777216 : Int)) ∧ ((0 : Int) ≤ (0 : Int) ∧ (0 : Int) ≤ (3 : Int)) ∧ ((0 : Int) ≤ (0 : Int) ∧
      (0 : Int) ≤ (15 : Int)) ∧ ((0 : Int) ≤ (0 : Int) ∧ (0 : Int) ≤ (15 : Int)) ∧ ((0 : Int) ≤ IntKind.i64.wrap (bits BinOp.and IntKind.u16 (bits BinOp.or IntKind.u16 (bits
      BinOp.and IntKind.u16 fq (2047 : Int)) (49152 : Int)) (2047 : Int)) ∧ IntKind.i64.wrap (bits BinOp.and IntKind.u16 (bits BinOp.or IntKind.u16 (bits BinOp.and IntKind.u16
      fq (2047 : Int)) (49152 : Int)) (2047 : Int)) ≤ (2047 : Int)) ∧ ((0 : Int) ≤ (0 : Int) ∧ (0 : Int) ≤ (63 : Int)) ∧ ((0 : Int) ≤ y.n (90000 : Nat) ∧ y.n (90000 : Nat) ≤
      (16777216 : Int)) ∧ ((0 : Int) ≤ IntKind.i64.wrap (bits BinOp.and IntKind.u16 ((bits BinOp.or IntKind.u16 (bits BinOp.and IntKind.u16 n (63 : Int)) (61440 : Int)).fdiv (64
      : Int)) (3 : Int)) ∧ IntKind.i64.wrap (bits BinOp.and IntKind.u16 ((bits BinOp.or IntKind.u16 (bits BinOp.and IntKind.u16 n (63 : Int)) (61440 : Int)).fdiv (64 : Int)) (3
      : Int)) ≤ (3 : Int)) ∧ ((0 : Int) ≤ IntKind.i64.wrap ((bits BinOp.or IntKind.u16 (bits BinOp.and IntKind.u16 n (63 : Int)) (61440 : Int)).fdiv (4096 : Int)) ∧
      IntKind.i64.wrap ((bits BinOp.or IntKind.u16 (bits BinOp.and IntKind.u16 n (63 : Int)) (61440 : Int)).fdiv (4096 : Int)) ≤ (15 : Int)) ∧ ((0 : Int) ≤ IntKind.i64.wrap
      ((bits BinOp.or IntKind.u16 (bits BinOp.and IntKind.u16 n (63 : Int)) (61440 : Int)).fdiv (4096 : Int)) ∧ IntKind.i64.wrap ((bits BinOp.or IntKind.u16 (bits BinOp.and
      IntKind.u16 n (63 : Int)) (61440 : Int)).fdiv (4096 : Int)) ≤ (15 : Int)) ∧ ((0 : Int) ≤ (0 : Int) ∧ (0 : Int) ≤ (2047 : Int)) ∧ ((0 : Int) ≤ (0 : Int) ∧ (0 : Int) ≤ (63 :
      Int)) ∧ ((0 : Int) ≤ (0 : Int) ∧ (0 : Int) ≤ (16777216 : Int)) ∧ ((0 : Int) ≤ (0 : Int) ∧ (0 : Int) ≤ (3 : Int)) ∧ ((0 : Int) ≤ (0 : Int) ∧ (0 : Int) ≤ (15 : Int)) ∧ ((0 :
      Int) ≤ (0 : Int) ∧ (0 : Int) ≤ (15 : Int)) ∧ ((0 : Int) ≤ (0 : Int) ∧ (0 : Int) ≤ (2047 : Int)) ∧ ((0 : Int) ≤ (0 : Int) ∧ (0 : Int) ≤ (63 : Int)) ∧ ((0 : Int) ≤ (0 : Int)
      ∧ (0 : Int) ≤ (16777216 : Int)) ∧ ((0 : Int) ≤ (0 : Int) ∧ (0 : Int) ≤ (3 : Int)) ∧ ((0 : Int) ≤ (0 : Int) ∧ (0 : Int) ≤ (15 : Int)) ∧ ((0 : Int) ≤ (0 : Int) ∧ (0 : Int) ≤
      (15 : Int)) ∧ ((0 : Int) ≤ (0 : Int) ∧ (0 : Int) ≤ (7 : Int)) ∧ ((0 : Int) ≤ (0 : Int) ∧ (0 : Int) ≤ (1 : Int)) ∧ ((0 : Int) ≤ (0 : Int) ∧ (0 : Int) ≤ (4 : Int)) ∧ ((0 :
      Int) ≤ (0 : Int) ∧ (0 : Int) ≤ (15 : Int)) ∧ ((0 : Int) ≤ (0 : Int) ∧ (0 : Int) ≤ (7 : Int)) ∧ True) ∧ ([] : SW) = []) ∧ RP (IntKind.i64.wrap (IntKind.i64.wrap ((65536 :
      Int) * IntKind.i64.wrap ((64 : Int) - IntKind.i64.wrap (bits BinOp.and IntKind.u16 n (63 : Int)))) - (1 : Int))) (KS.mk (0 : Int) (0 : Int) (IntKind.i64.wrap ((64 : Int) -
      IntKind.i64.wrap (bits BinOp.and IntKind.u16 (bits BinOp.or IntKind.u16 (bits BinOp.and IntKind.u16 n (63 : Int)) (61440 : Int)) (63 : Int)))) (0 : Int) (IntKind.i64.wrap
      ((bits BinOp.or IntKind.u16 (bits BinOp.and IntKind.u16 n (63 : Int)) (61440 : Int)).fdiv (4096 : Int))) (0 : Int) false (bif IntKind.i64.wrap ((bits BinOp.or IntKind.u16
      (bits BinOp.and IntKind.u16 n (63 : Int)) (61440 : Int)).fdiv (4096 : Int)) != (0 : Int) then true else bits BinOp.and IntKind.u16 ((bits BinOp.or IntKind.u16 (bits
      BinOp.and IntKind.u16 n (63 : Int)) (61440 : Int)).fdiv (2048 : Int)) (1 : Int) != (0 : Int)) false false false (bits BinOp.and IntKind.u16 (bits BinOp.or IntKind.u16
      (bits BinOp.and IntKind.u16 fq (2047 : Int)) (49152 : Int)) (16384 : Int) != (0 : Int)))) ∧ ∀ (y : PX), ((RG y) ∧ True) ∧ True ∧ RQ (IntKind.i64.wrap (IntKind.i64.wrap
      ((65536 : Int) * IntKind.i64.wrap ((64 : Int) - IntKind.i64.wrap (bits BinOp.and IntKind.u16 n (63 : Int)))) - (1 : Int))) (KS.mk (0 : Int) (0 : Int) (IntKind.i64.wrap
      ((64 : Int) - IntKind.i64.wrap (bits BinOp.and IntKind.u16 (bits BinOp.or IntKind.u16 (bits BinOp.and IntKind.u16 n (63 : Int)) (61440 : Int)) (63 : Int)))) (0 : Int)
      (IntKind.i64.wrap ((bits BinOp.or IntKind.u16 (bits BinOp.and IntKind.u16 n (63 : Int)) (61440 : Int)).fdiv (4096 : Int))) (0 : Int) false (bif IntKind.i64.wrap ((bits
      BinOp.or IntKind.u16 (bits BinOp.and IntKind.u16 n (63 : Int)) (61440 : Int)).fdiv (4096 : Int)) != (0 : Int) then true else bits BinOp.and IntKind.u16 ((bits BinOp.or
      IntKind.u16 (bits BinOp.and IntKind.u16 n (63 : Int)) (61440 : Int)).fdiv (2048 : Int)) (1 : Int) != (0 : Int)) false false false (bits BinOp.and IntKind.u16 (bits
      BinOp.or IntKind.u16 (bits BinOp.and IntKind.u16 fq (2047 : Int)) (49152 : Int)) (16384 : Int) != (0 : Int))) (KS.mk (y.n (100000 : Nat)) (y.n (100002 : Nat)) (y.n (100014
      : Nat)) (y.n (100008 : Nat)) (y.n (100020 : Nat)) (y.n (100051 : Nat)) (y.b (100001 : Nat)) (y.b (100013 : Nat)) (y.b (100025 : Nat)) (y.b (100037 : Nat)) (y.b (100003 :
      Nat)) (y.b (100015 : Nat))) → ((Bl.mk [] (nat_lit
      741991204937588471353107210173517385893522847741378461052633880361214601735917472982278721692919759636892846595991201096475255940853038949688016010326287086087990634635853823
      + (1 : Nat)) = Bl.mk [] (nat_lit
      741991204937588471353107210173517385893522847741378461052633880361214601735917472982278721692919759636892846595991201096475255940853038949688016010326287086087990634635853823
      + (1 : Nat)) ∧ (50 : Nat) = (50 : Nat) ∧ (RG y) ∧ ([] : SW) = []) ∧ True) ∧ ∀ (y_1 : PX), ((((0 : Int) ≤ y_1.n (90000 : Nat) ∧ y_1.n (90000 : Nat) ≤ (15 : Int)) ∧ True) ∧
      y_1.n (90000 : Nat) = (((bif y.b (100001 : Nat) then (1 : Int) else (0 : Int)) + bif y.b (100013 : Nat) then (2 : Int) else (0 : Int)) + bif y.b (100025 : Nat) then (4 :
      Int) else (0 : Int)) + bif y.b (100037 : Nat) then (8 : Int) else (0 : Int)) → (y_1.n (90000 : Nat) != (2 : Int)) = false ∧ ((Bl.mk [] (nat_lit
      741991204937588471353107210173517385893522847741378461052633880361214601735917472982278721692919759636892846595991201096475255940853038949688016010326287086087990634635853823
      + (1 : Nat)) = Bl.mk [] (nat_lit
      741991204937588471353107210173517385893522847741378461052633880361214601735917472982278721692919759636892846595991201096475255940853038949688016010326287086087990634635853823
      + (1 : Nat)) ∧ (50 : Nat) = (50 : Nat) ∧ (RG y) ∧ ([] : SW) = []) ∧ RP (IntKind.i64.wrap ((65536 : Int) * IntKind.i64.wrap ((64 : Int) - IntKind.i64.wrap (bits BinOp.and
      IntKind.u16 n (63 : Int))))) (KS.mk (y.n (100000 : Nat)) (y.n (100002 : Nat)) (y.n (100014 : Nat)) (y.n (100008 : Nat)) (y.n (100020 : Nat)) (y.n (100051 : Nat)) (y.b
      (100001 : Nat)) (y.b (100013 : Nat)) (y.b (100025 : Nat)) (y.b (100037 : Nat)) (y.b (100003 : Nat)) (y.b (100015 : Nat)))) ∧ ∀ (y_2 : PX), ((RG y_2) ∧ True) ∧ True ∧ RQ
      (IntKind.i64.wrap ((65536 : Int) * IntKind.i64.wrap ((64 : Int) - IntKind.i64.wrap (bits BinOp.and IntKind.u16 n (63 : Int))))) (KS.mk (y.n (100000 : Nat)) (y.n (100002 :
      Nat)) (y.n (100014 : Nat)) (y.n (100008 : Nat)) (y.n (100020 : Nat)) (y.n (100051 : Nat)) (y.b (100001 : Nat)) (y.b (100013 : Nat)) (y.b (100025 : Nat)) (y.b (100037 :
      Nat)) (y.b (100003 : Nat)) (y.b (100015 : Nat))) (KS.mk (y_2.n (100000 : Nat)) (y_2.n (100002 : Nat)) (y_2.n (100014 : Nat)) (y_2.n (100008 : Nat)) (y_2.n (100020 : Nat))
      (y_2.n (100051 : Nat)) (y_2.b (100001 : Nat)) (y_2.b (100013 : Nat)) (y_2.b (100025 : Nat)) (y_2.b (100037 : Nat)) (y_2.b (100003 : Nat)) (y_2.b (100015 : Nat))) → ((Bl.mk
      [] (nat_lit
      741991204937588471353107210173517385893522847741378461052633880361214601735917472982278721692919759636892846595991201096475255940853038949688016010326287086087990634635853823
      + (1 : Nat)) = Bl.mk [] (nat_lit
      741991204937588471353107210173517385893522847741378461052633880361214601735917472982278721692919759636892846595991201096475255940853038949688016010326287086087990634635853823
      + (1 : Nat)) ∧ (50 : Nat) = (50 : Nat) ∧ (RG y_2) ∧ ([] : SW) = []) ∧ True) ∧ ∀ (y : PX), ((((0 : Int) ≤ y.n (90000 : Nat) ∧ y.n (90000 : Nat) ≤ (15 : Int)) ∧ True) ∧ y.n
      (90000 : Nat) = (((bif y_2.b (100001 : Nat) then (1 : Int) else (0 : Int)) + bif y_2.b (100013 : Nat) then (2 : Int) else (0 : Int)) + bif y_2.b (100025 : Nat) then (4 :
      Int) else (0 : Int)) + bif y_2.b (100037 : Nat) then (8 : Int) else (0 : Int)) → (y.n (90000 : Nat) != (0 : Int)) = false ∧ ((mpB = mpB ∧ (50 : Nat) = (50 : Nat) ∧ (RG
      y_2) ∧ ([] : SW) = []) ∧ y_2.b (100001 : Nat) = false ∧ y_2.b (100013 : Nat) = false ∧ y_2.b (100025 : Nat) = false ∧ y_2.b (100037 : Nat) = false) ∧ ∀ (y : PX), (((0 :
      Int) ≤ y.n (90000 : Nat) ∧ y.n (90000 : Nat) ≤ (15 : Int)) ∧ ((0 : Int) ≤ y.n (90001 : Nat) ∧ y.n (90001 : Nat) ≤ (15 : Int)) ∧ ((0 : Int) ≤ y.n (90002 : Nat) ∧ y.n (90002
      : Nat) ≤ (15 : Int)) ∧ ((0 : Int) ≤ y.n (90003 : Nat) ∧ y.n (90003 : Nat) ≤ (15 : Int)) ∧ True) ∧ y.n (90000 : Nat) = (0 : Int) ∧ y.n (90001 : Nat) = (0 : Int) ∧ y.n
      (90002 : Nat) = (0 : Int) ∧ y.n (90003 : Nat) = (0 : Int) → (true ^^ y.n (90000 : Nat) == (0 : Int) && (y.n (90001 : Nat) == (0 : Int) && (y.n (90002 : Nat) == (0 : Int)
      && (y.n (90003 : Nat) == (0 : Int) && true)))) = false ∧ ((Bl.mk [] (nat_lit
      741991204937588471353107210173517385893522847741378461052633880361214601735917472982278721692919759636892846595991201096475255940853038949688016010326287086087990634635853823
      + (1 : Nat)) = Bl.mk [] (nat_lit
      741991204937588471353107210173517385893522847741378461052633880361214601735917472982278721692919759636892846595991201096475255940853038949688016010326287086087990634635853823
      + (1 : Nat)) ∧ (50 : Nat) = (50 : Nat) ∧ (RG y_2) ∧ ([] : SW) = []) ∧ RP (IntKind.i64.wrap ((65536 : Int) * IntKind.i64.wrap ((64 : Int) - IntKind.i64.wrap (bits BinOp.and
      IntKind.u16 n (63 : Int))))) (KS.mk (y_2.n (100000 : Nat)) (y_2.n (100002 : Nat)) (y_2.n (100014 : Nat)) (y_2.n (100008 : Nat)) (y_2.n (100020 : Nat)) (y_2.n (100051 :
      Nat)) (y_2.b (100001 : Nat)) (y_2.b (100013 : Nat)) (y_2.b (100025 : Nat)) (y_2.b (100037 : Nat)) (y_2.b (100003 : Nat)) (y_2.b (100015 : Nat)))) ∧ ∀ (y : PX), ((RG y) ∧
      True) ∧ True ∧ RQ (IntKind.i64.wrap ((65536 : Int) * IntKind.i64.wrap ((64 : Int) - IntKind.i64.wrap (bits BinOp.and IntKind.u16 n (63 : Int))))) (KS.mk (y_2.n (100000 :
      Nat)) (y_2.n (100002 : Nat)) (y_2.n (100014 : Nat)) (y_2.n (100008 : Nat)) (y_2.n (100020 : Nat)) (y_2.n (100051 : Nat)) (y_2.b (100001 : Nat)) (y_2.b (100013 : Nat))
      (y_2.b (100025 : Nat)) (y_2.b (100037 : Nat)) (y_2.b (100003 : Nat)) (y_2.b (100015 : Nat))) (KS.mk (y.n (100000 : Nat)) (y.n (100002 : Nat)) (y.n (100014 : Nat)) (y.n
      (100008 : Nat)) (y.n (100020 : Nat)) (y.n (100051 : Nat)) (y.b (100001 : Nat)) (y.b (100013 : Nat)) (y.b (100025 : Nat)) (y.b (100037 : Nat)) (y.b (100003 : Nat)) (y.b
      (100015 : Nat))) → (bits BinOp.and IntKind.u16 (bits BinOp.or IntKind.u16 (bits BinOp.and IntKind.u16 fq (2047 : Int)) (32768 : Int)) (32768 : Int) == (0 : Int)) = false ∧
      (y.n (100014 : Nat) == (0 : Int)) = true ∧ ((Bl.mk [] (nat_lit
      741991204937588471353107210173517385893522847741378461052633880361214601735917472982278721692919759636892846595991201096475255940853038949688016010326287086087990634635853823
      + (1 : Nat)) = Bl.mk [] (nat_lit
      741991204937588471353107210173517385893522847741378461052633880361214601735917472982278721692919759636892846595991201096475255940853038949688016010326287086087990634635853823
      + (1 : Nat)) ∧ (50 : Nat) = (50 : Nat) ∧ (((0 : Int) ≤ y.n (100000 : Nat) ∧ y.n (100000 : Nat) ≤ (2199023255552 : Int)) ∧ ((0 : Int) ≤ y.n (100004 : Nat) ∧ y.n (100004 :
      Nat) ≤ (2047 : Int)) ∧ ((0 : Int) ≤ y.n (100005 : Nat) ∧ y.n (100005 : Nat) ≤ (63 : Int)) ∧ ((0 : Int) ≤ y.n (100007 : Nat) ∧ y.n (100007 : Nat) ≤ (3 : Int)) ∧ ((0 : Int)
      ≤ y.n (100008 : Nat) ∧ y.n (100008 : Nat) ≤ (15 : Int)) ∧ ((0 : Int) ≤ y.n (100011 : Nat) ∧ y.n (100011 : Nat) ≤ (15 : Int)) ∧ ((0 : Int) ≤ IntKind.i64.wrap (bits
      BinOp.and IntKind.u16 (bits BinOp.or IntKind.u16 (bits BinOp.and IntKind.u16 fq (2047 : Int)) (32768 : Int)) (2047 : Int)) ∧ IntKind.i64.wrap (bits BinOp.and IntKind.u16
      (bits BinOp.or IntKind.u16 (bits BinOp.and IntKind.u16 fq (2047 : Int)) (32768 : Int)) (2047 : Int)) ≤ (2047 : Int)) ∧ ((0 : Int) ≤ (0 : Int) ∧ (0 : Int) ≤ (63 : Int)) ∧
      ((0 : Int) ≤ y.n (100019 : Nat) ∧ y.n (100019 : Nat) ≤ (3 : Int)) ∧ ((0 : Int) ≤ y.n (100020 : Nat) ∧ y.n (100020 : Nat) ≤ (15 : Int)) ∧ ((0 : Int) ≤ y.n (100020 : Nat) ∧
      y.n (100020 : Nat) ≤ (15 : Int)) ∧ ((0 : Int) ≤ y.n (100028 : Nat) ∧ y.n (100028 : Nat) ≤ (2047 : Int)) ∧ ((0 : Int) ≤ y.n (100029 : Nat) ∧ y.n (100029 : Nat) ≤ (63 :
      Int)) ∧ ((0 : Int) ≤ y.n (100031 : Nat) ∧ y.n (100031 : Nat) ≤ (3 : Int)) ∧ ((0 : Int) ≤ y.n (100032 : Nat) ∧ y.n (100032 : Nat) ≤ (15 : Int)) ∧ ((0 : Int) ≤ y.n (100035 :
      Nat) ∧ y.n (100035 : Nat) ≤ (15 : Int)) ∧ ((0 : Int) ≤ y.n (100040 : Nat) ∧ y.n (100040 : Nat) ≤ (2047 : Int)) ∧ ((0 : Int) ≤ y.n (100041 : Nat) ∧ y.n (100041 : Nat) ≤ (63
      : Int)) ∧ ((0 : Int) ≤ y.n (100043 : Nat) ∧ y.n (100043 : Nat) ≤ (3 : Int)) ∧ ((0 : Int) ≤ y.n (100044 : Nat) ∧ y.n (100044 : Nat) ≤ (15 : Int)) ∧ ((0 : Int) ≤ y.n (100047
      : Nat) ∧ y.n (100047 : Nat) ≤ (15 : Int)) ∧ ((0 : Int) ≤ y.n (100050 : Nat) ∧ y.n (100050 : Nat) ≤ (7 : Int)) ∧ ((0 : Int) ≤ y.n (100086 : Nat) ∧ y.n (100086 : Nat) ≤ (1 :
      Int)) ∧ ((0 : Int) ≤ y.n (100088 : Nat) ∧ y.n (100088 : Nat) ≤ (4 : Int)) ∧ ((0 : Int) ≤ y.n (100092 : Nat) ∧ y.n (100092 : Nat) ≤ (15 : Int)) ∧ ((0 : Int) ≤ y.n (100093 :
      Nat) ∧ y.n (100093 : Nat) ≤ (7 : Int)) ∧ True) ∧ ([] : SW) = []) ∧ True) ∧ ∀ (y_3 : PX), (((1 : Int) ≤ y_3.n (90000 : Nat) ∧ y_3.n (90000 : Nat) ≤ (16777216 : Int)) ∧
      True) ∧ True → ((Bl.mk [] (nat_lit
      741991204937588471353107210173517385893522847741378461052633880361214601735917472982278721692919759636892846595991201096475255940853038949688016010326287086087990634635853823
      + (1 : Nat)) = Bl.mk [] (nat_lit
      741991204937588471353107210173517385893522847741378461052633880361214601735917472982278721692919759636892846595991201096475255940853038949688016010326287086087990634635853823
      + (1 : Nat)) ∧ (50 : Nat) = (50 : Nat) ∧ (((0 : Int) ≤ y.n (100000 : Nat) ∧ y.n (100000 : Nat) ≤ (2199023255552 : Int)) ∧ ((0 : Int) ≤ y.n (100004 : Nat) ∧ y.n (100004 :
      Nat) ≤ (2047 : Int)) ∧ ((0 : Int) ≤ y.n (100005 : Nat) ∧ y.n (100005 : Nat) ≤ (63 : Int)) ∧ ((0 : Int) ≤ y.n (100006 : Nat) ∧ y.n (100006 : Nat) ≤ (16777216 : Int)) ∧ ((0
      : Int) ≤ y.n (100007 : Nat) ∧ y.n (100007 : Nat) ≤ (3 : Int)) ∧ ((0 : Int) ≤ y.n (100008 : Nat) ∧ y.n (100008 : Nat) ≤ (15 : Int)) ∧ ((0 : Int) ≤ y.n (100011 : Nat) ∧ y.n
      (100011 : Nat) ≤ (15 : Int)) ∧ ((0 : Int) ≤ IntKind.i64.wrap (bits BinOp.and IntKind.u16 (bits BinOp.or IntKind.u16 (bits BinOp.and IntKind.u16 fq (2047 : Int)) (32768 :
      Int)) (2047 : Int)) ∧ IntKind.i64.wrap (bits BinOp.and IntKind.u16 (bits BinOp.or IntKind.u16 (bits BinOp.and IntKind.u16 fq (2047 : Int)) (32768 : Int)) (2047 : Int)) ≤
      (2047 : Int)) ∧ ((0 : Int) ≤ (0 : Int) ∧ (0 : Int) ≤ (63 : Int)) ∧ ((0 : Int) ≤ y_3.n (90000 : Nat) ∧ y_3.n (90000 : Nat) ≤ (16777216 : Int)) ∧ ((0 : Int) ≤ y.n (100019 :
      Nat) ∧ y.n (100019 : Nat) ≤ (3 : Int)) ∧ ((0 : Int) ≤ y.n (100020 : Nat) ∧ y.n (100020 : Nat) ≤ (15 : Int)) ∧ ((0 : Int) ≤ y.n (100020 : Nat) ∧ y.n (100020 : Nat) ≤ (15 :
      Int)) ∧ ((0 : Int) ≤ y.n (100028 : Nat) ∧ y.n (100028 : Nat) ≤ (2047 : Int)) ∧ ((0 : Int) ≤ y.n (100029 : Nat) ∧ y.n (100029 : Nat) ≤ (63 : Int)) ∧ ((0 : Int) ≤ y.n
      (100030 : Nat) ∧ y.n (100030 : Nat) ≤ (16777216 : Int)) ∧ ((0 : Int) ≤ y.n (100031 : Nat) ∧ y.n (100031 : Nat) ≤ (3 : Int)) ∧ ((0 : Int) ≤ y.n (100032 : Nat) ∧ y.n (100032
      : Nat) ≤ (15 : Int)) ∧ ((0 : Int) ≤ y.n (100035 : Nat) ∧ y.n (100035 : Nat) ≤ (15 : Int)) ∧ ((0 : Int) ≤ y.n (100040 : Nat) ∧ y.n (100040 : Nat) ≤ (2047 : Int)) ∧ ((0 :
      Int) ≤ y.n (100041 : Nat) ∧ y.n (100041 : Nat) ≤ (63 : Int)) ∧ ((0 : Int) ≤ y.n (100042 : Nat) ∧ y.n (100042 : Nat) ≤ (16777216 : Int)) ∧ ((0 : Int) ≤ y.n (100043 : Nat) ∧
      y.n (100043 : Nat) ≤ (3 : Int)) ∧ ((0 : Int) ≤ y.n (100044 : Nat) ∧ y.n (100044 : Nat) ≤ (15 : Int)) ∧ ((0 : Int) ≤ y.n (100047 : Nat) ∧ y.n (100047 : Nat) ≤ (15 : Int)) ∧
      ((0 : Int) ≤ y.n (100050 : Nat) ∧ y.n (100050 : Nat) ≤ (7 : Int)) ∧ ((0 : Int) ≤ y.n (100086 : Nat) ∧ y.n (100086 : Nat) ≤ (1 : Int)) ∧ ((0 : Int) ≤ y.n (100088 : Nat) ∧
      y.n (100088 : Nat) ≤ (4 : Int)) ∧ ((0 : Int) ≤ y.n (100092 : Nat) ∧ y.n (100092 : Nat) ≤ (15 : Int)) ∧ ((0 : Int) ≤ y.n (100093 : Nat) ∧ y.n (100093 : Nat) ≤ (7 : Int)) ∧
      True) ∧ ([] : SW) = []) ∧ RP (IntKind.i64.wrap (IntKind.i64.wrap ((65536 : Int) * IntKind.i64.wrap ((64 : Int) - IntKind.i64.wrap (bits BinOp.and IntKind.u16 n (63 :
      Int)))) + (10000000 : Int))) (KS.mk (y.n (100000 : Nat)) (y.n (100002 : Nat)) (64 : Int) (y.n (100008 : Nat)) (y.n (100020 : Nat)) (y.n (100051 : Nat)) (y.b (100001 :
      Nat)) (bif y.n (100020 : Nat) != (0 : Int) then true else y.b (100021 : Nat)) (y.b (100025 : Nat)) (y.b (100037 : Nat)) (y.b (100003 : Nat)) (bits BinOp.and IntKind.u16
      (bits BinOp.or IntKind.u16 (bits BinOp.and IntKind.u16 fq (2047 : Int)) (32768 : Int)) (16384 : Int) != (0 : Int)))) ∧ ∀ (y_4 : PX), ((RG y_4) ∧ True) ∧ True ∧ RQ
      (IntKind.i64.wrap (IntKind.i64.wrap ((65536 : Int) * IntKind.i64.wrap ((64 : Int) - IntKind.i64.wrap (bits BinOp.and IntKind.u16 n (63 : Int)))) + (10000000 : Int)))
      (KS.mk (y.n (100000 : Nat)) (y.n (100002 : Nat)) (64 : Int) (y.n (100008 : Nat)) (y.n (100020 : Nat)) (y.n (100051 : Nat)) (y.b (100001 : Nat)) (bif y.n (100020 : Nat) !=
      (0 : Int) then true else y.b (100021 : Nat)) (y.b (100025 : Nat)) (y.b (100037 : Nat)) (y.b (100003 : Nat)) (bits BinOp.and IntKind.u16 (bits BinOp.or IntKind.u16 (bits
      BinOp.and IntKind.u16 fq (2047 : Int)) (32768 : Int)) (16384 : Int) != (0 : Int))) (KS.mk (y_4.n (100000 : Nat)) (y_4.n (100002 : Nat)) (y_4.n (100014 : Nat)) (y_4.n
      (100008 : Nat)) (y_4.n (100020 : Nat)) (y_4.n (100051 : Nat)) (y_4.b (100001 : Nat)) (y_4.b (100013 : Nat)) (y_4.b (100025 : Nat)) (y_4.b (100037 : Nat)) (y_4.b (100003 :
      Nat)) (y_4.b (100015 : Nat))) → ((Bl.mk [] (nat_lit
      741991204937588471353107210173517385893522847741378461052633880361214601735917472982278721692919759636892846595991201096475255940853038949688016010326287086087990634635853823
      + (1 : Nat)) = Bl.mk [] (nat_lit
      741991204937588471353107210173517385893522847741378461052633880361214601735917472982278721692919759636892846595991201096475255940853038949688016010326287086087990634635853823
      + (1 : Nat)) ∧ (50 : Nat) = (50 : Nat) ∧ (RG y_4) ∧ ([] : SW) = []) ∧ True) ∧ ∀ (y : PX), ((((0 : Int) ≤ y.n (90000 : Nat) ∧ y.n (90000 : Nat) ≤ (15 : Int)) ∧ True) ∧ y.n
      (90000 : Nat) = (((bif y_4.b (100001 : Nat) then (1 : Int) else (0 : Int)) + bif y_4.b (100013 : Nat) then (2 : Int) else (0 : Int)) + bif y_4.b (100025 : Nat) then (4 :
      Int) else (0 : Int)) + bif y_4.b (100037 : Nat) then (8 : Int) else (0 : Int)) → True ∧ True ∧ (y.n (90000 : Nat) == (2 : Int)) = true) := by kernel_rfl
set_option maxHeartbeats 2000000 in
theorem law1_c (E : World)  (ch n fq : Int) (z : PX) (hz : rgM z [] 0) (hp : (fun _ => bits .and .i64 ch 1 = 1 ∧ 0 ≤ n ∧ n ≤ 65535 ∧ 0 ≤ fq ∧ fq ≤ 65535) z) : HC (pe E) 5 [.c (.i false .i64 ch), .c (.i false .u16 n), .c (.i false .u16 fq)] [] [] (.c .b) (fun _ y => y.b 90000 = true) z := by
  refine HC.mkW true [false, true, false, false, false, false, false, false, false, true] (by rfl) (by rfl) (by rfl) (by rfl) (fnTree_sound (P := pe E) orcS_ok tab_ok tab_sz mixed 20000 Try.func5 (by decide) [.c (.i false .i64 ch), .c (.i false .u16 n), .c (.i false .u16 fq)] _) ⟨?_⟩
  rw [law1_p]
  obtain _ := id hz
  obtain ⟨hc, n0, n1, f0, f1⟩ := hp
  rw [hc]
  refine ⟨rfl, rfl, ?_⟩
  have eL : bits .and .u16 n 63 = n % 64 := and_mask .u16 n 6 (.inl (by decide))
  have ef : bits .and .u16 fq 2047 = fq % 2048 := and_mask .u16 fq 11 (.inl (by decide))
  have l0 : 0 ≤ n % 64 ∧ n % 64 ≤ 63 := by omega
  have q0 : 0 ≤ fq % 2048 ∧ fq % 2048 ≤ 2047 := by omega
  rw [eL, ef]
  generalize n % 64 = L at l0
  generalize fq % 2048 = f at q0
  clear eL ef n0 n1 f0 f1
  have eX := orA L l0.1 l0.2
  have eY := orB f q0.1 q0.2
  have eZ := orC f q0.1 q0.2
  have e15 : (L + 61440).fdiv 4096 = 15 := by rw [fdiv_lit _ _ (by decide)]; omega
  have e63 : bits .and .u16 (L + 61440) 63 = L := by
    have : bits .and .u16 (L + 61440) 63 = (L + 61440) % 64 := and_mask .u16 _ 6 (.inl (by decide))
    rw [this]; omega
  have eD : 0 ≤ IntKind.i64.wrap (bits .and .u16 ((L + 61440).fdiv 64) 3) ∧ IntKind.i64.wrap (bits .and .u16 ((L + 61440).fdiv 64) 3) ≤ 3 := by
    have : bits .and .u16 ((L + 61440).fdiv 64) 3 = ((L + 61440).fdiv 64) % 4 := and_mask .u16 _ 2 (.inl (by decide))
    rw [this, wi64]; omega
  have y1 : bits .and .u16 (f + 49152) 32768 = 32768 := by rw [and15 _ (by omega) (by omega)]; omega
  have y2 : bits .and .u16 (f + 49152) 16384 = 16384 := by rw [and14 _ (by omega) (by omega)]; omega
  have y3 : bits .and .u16 (f + 49152) 2047 = f := by
    have : bits .and .u16 (f + 49152) 2047 = (f + 49152) % 2048 := and_mask .u16 _ 11 (.inl (by decide))
    rw [this]; omega
  have z1 : bits .and .u16 (f + 32768) 32768 = 32768 := by rw [and15 _ (by omega) (by omega)]; omega
  have z2 : bits .and .u16 (f + 32768) 16384 = 0 := by rw [and14 _ (by omega) (by omega)]; omega
  have z3 : bits .and .u16 (f + 32768) 2047 = f := by
    have : bits .and .u16 (f + 32768) 2047 = (f + 32768) % 2048 := and_mask .u16 _ 11 (.inl (by decide))
    rw [this]; omega
  have w1 : IntKind.i64.wrap L = L := by rw [wi64]; omega
  have w2 : IntKind.i64.wrap (64 - L) = 64 - L := by rw [wi64]; omega
  have w3 : IntKind.i64.wrap (65536 * (64 - L)) = 65536 * (64 - L) := by rw [wi64]; omega
  have w4 : IntKind.i64.wrap (65536 * (64 - L) - 1) = 65536 * (64 - L) - 1 := by rw [wi64]; omega
  have w5 : IntKind.i64.wrap (65536 * (64 - L) + 10000000) = 65536 * (64 - L) + 10000000 := by rw [wi64]; omega
  have w6 : IntKind.i64.wrap f = f := by rw [wi64]; omega
  have w7 : IntKind.i64.wrap 15 = 15 := by decide
  have c1 : ((15 : Int) != 0) = true := by decide
  have c2 : ((32768 : Int) == 0) = false := by decide
  have c3 : ((16384 : Int) != 0) = true := by decide
  have c4 : ((0 : Int) != 0) = false := by decide
  have c5 : (64 - L == 0) = false := by simp; omega
  simp only [eX, eY, eZ, e15, e63, y1, y2, y3, z1, z2, z3, w1, w2, w3, w4, w5, w6, w7, c1, c2, c3, c4, c5, cond_true, Bool.not_true]
  clear eX eY eZ e15 e63 y1 y2 y3 z1 z2 z3 w1 w2 w3 w4 w5 w6 w7
  obtain ⟨eD0, eD1⟩ := eD
  generalize IntKind.i64.wrap (bits .and .u16 ((L + 61440).fdiv 64) 3) = D at eD0 eD1 ⊢
  have G : G1 (64 - L) (KS.mk 0 0 (64 - L) 0 15 0 false true false false false true) := ⟨rfl, rfl, rfl, rfl, rfl, rfl, by show (0 : Int) ≤ 0; omega, by show (0 : Int) ≤ 65536 * (64 - L); omega, fun _ => rfl, fun e => by replace e : (0 : Int) = 65536 * (64 - L) := e; omega, by show 64 - L = 64 - L - 0 / 65536; omega⟩
  have P1 : RP (65536 * (64 - L) - 1) (KS.mk 0 0 (64 - L) 0 15 0 false true false false false true) := ⟨by omega, .inr (.inl ⟨64 - L, by omega, G, by omega⟩)⟩
  refine ⟨by first | rfl | trivial, by first | rfl | trivial, by first | rfl | trivial, by ((repeat' (first | exact trivial | exact rfl | assumption | apply And.intro)) <;> omega), ?_⟩
  rintro y0 ⟨⟨⟨s0, s1⟩, _⟩, _⟩
  refine ⟨by ((repeat' (first | exact trivial | exact rfl | assumption | apply And.intro)) <;> omega), ?_⟩
  rintro y1 ⟨⟨hR1, _⟩, _, hq1⟩
  have G1 := hq1.1.g1 _ (by omega) G (by omega)
  have n1 := hq1.2 (by show (0 : Int) ≤ 65536 * (64 - L) - 1; omega)
  have n1' : y1.n 100000 = 65536 * (64 - L) - 1 := n1
  have o1 := G1.a (by rw [n1]; omega)
  have ox := G1.x
  have o2 := G1.x2
  have o3 := G1.x3
  replace o1 : y1.b 100013 = true := o1
  replace ox : y1.b 100001 = false := ox
  replace o2 : y1.b 100025 = false := o2
  replace o3 : y1.b 100037 = false := o3
  have P2 : RP (65536 * (64 - L)) (KS.mk (y1.n 100000) (y1.n 100002) (y1.n 100014) (y1.n 100008) (y1.n 100020) (y1.n 100051) (y1.b 100001) (y1.b 100013) (y1.b 100025) (y1.b 100037) (y1.b 100003) (y1.b 100015)) := ⟨by omega, .inr (.inl ⟨64 - L, by omega, G1, by omega⟩)⟩
  refine ⟨by ((repeat' (first | exact trivial | exact rfl | assumption | apply And.intro)) <;> omega), ?_⟩
  rintro p1 ⟨_, hp1⟩
  rw [o1, ox, o2, o3] at hp1
  refine ⟨by rw [hp1]; decide, by ((repeat' (first | exact trivial | exact rfl | assumption | apply And.intro)) <;> omega), ?_⟩
  clear hp1
  rintro y2 ⟨⟨hR2, _⟩, _, hq2⟩
  have G2 := hq2.1.g1 _ (by omega) G1 (by omega)
  have n2 := hq2.2 (by show y1.n 100000 ≤ _; omega)
  have n2' : y2.n 100000 = 65536 * (64 - L) := n2
  have e1 : y2.b 100013 = false := G2.e n2
  have ex : y2.b 100001 = false := G2.x
  have e2 : y2.b 100025 = false := G2.x2
  have e3 : y2.b 100037 = false := G2.x3
  have P3 : RP (65536 * (64 - L)) (KS.mk (y2.n 100000) (y2.n 100002) (y2.n 100014) (y2.n 100008) (y2.n 100020) (y2.n 100051) (y2.b 100001) (y2.b 100013) (y2.b 100025) (y2.b 100037) (y2.b 100003) (y2.b 100015)) := ⟨by omega, .inr (.inl ⟨64 - L, by omega, G2, by omega⟩)⟩
  refine ⟨by ((repeat' (first | exact trivial | exact rfl | assumption | apply And.intro)) <;> omega), ?_⟩
  rintro p2 ⟨_, hp2⟩
  rw [e1, ex, e2, e3] at hp2
  refine ⟨by rw [hp2]; decide, by ((repeat' (first | exact trivial | exact rfl | assumption | apply And.intro)) <;> omega), ?_⟩
  clear hp2
  rintro p3 ⟨_, t0, t1, t2, t3⟩
  refine ⟨by rw [t0, t1, t2, t3]; decide, by ((repeat' (first | exact trivial | exact rfl | assumption | apply And.intro)) <;> omega), ?_⟩
  rintro y3 ⟨⟨hR3, _⟩, _, hq3⟩
  have G3 := hq3.1.g1 _ (by omega) G2 (by omega)
  have n3 := hq3.2 (by show y2.n 100000 ≤ _; omega)
  have n3' : y3.n 100000 = 65536 * (64 - L) := n3
  have hl : y3.n 100014 = 0 := by have := G3.l; rw [n3] at this; replace this : y3.n 100014 = 64 - L - 65536 * (64 - L) / 65536 := this; omega
  have hs : y3.n 100020 = 15 := G3.st
  obtain ⟨h0, h4, h5, h6, h7, h8, h11, h16, h17, h18, h19, h20, h23, h28, h29, h30, h31, h32, h35, h40, h41, h42, h43, h44, h47, h50, h86, h88, h92, h93, _⟩ := id hR3
  refine ⟨by first | rfl | trivial, by rw [hl]; decide, by ((repeat' (first | exact trivial | exact rfl | assumption | apply And.intro)) <;> omega), ?_⟩
  rintro y4 ⟨⟨⟨s2, s3⟩, _⟩, _⟩
  simp only [hs, c1, cond_true]
  have F : F1 (KS.mk (y3.n 100000) (y3.n 100002) 64 (y3.n 100008) 15 (y3.n 100051) (y3.b 100001) true (y3.b 100025) (y3.b 100037) (y3.b 100003) false) := ⟨rfl, G3.x, G3.x2, G3.x3, G3.w, by show 0 ≤ y3.n 100000; omega, rfl⟩
  have P4 : RP (65536 * (64 - L) + 10000000) _ := ⟨by omega, .inr (.inr (.inr F))⟩
  refine ⟨by ((repeat' (first | exact trivial | exact rfl | assumption | apply And.intro)) <;> omega), ?_⟩
  rintro y5 ⟨⟨hR5, _⟩, _, hq5⟩
  have F5 := hq5.1.f1 F
  have u1 : y5.b 100013 = true := F5.a
  have ux : y5.b 100001 = false := F5.x
  have u2 : y5.b 100025 = false := F5.x2
  have u3 : y5.b 100037 = false := F5.x3
  refine ⟨by ((repeat' (first | exact trivial | exact rfl | assumption | apply And.intro)) <;> omega), ?_⟩
  rintro p5 ⟨_, hp5⟩
  rw [u1, ux, u2, u3] at hp5
  rw [hp5]
  exact ⟨trivial, trivial, by decide⟩
theorem law_c (E : World) (ch n fq : Int) (z : PX) (hp : 0 ≤ n ∧ n ≤ 65535 ∧ 0 ≤ fq ∧ fq ≤ 65535) : HC (pe E) 5 [.c (.i false .i64 ch), .c (.i false .u16 n), .c (.i false .u16 fq)] [] [] (.c .b) (fun _ y => y.b 90000 = true) z := by
  have e : bits .and .i64 ch 1 = ch % 2 := and_mask .i64 ch 1 (.inl (by decide))
  have : ch % 2 = 0 ∨ ch % 2 = 1 := by omega
  rcases this with h | h
  · exact law0_c E ch n fq z trivial ⟨e.trans h, hp⟩
  · exact law1_c E ch n fq z trivial ⟨e.trans h, hp⟩
end Go.Proofs.Ytcegofobcjimlaa

